import Derived.Test.YtdbjpbjocmcpkaaGreatDoorMj47
import Derived.Test.YtdbjpbjocmcpkaaGreatDoorMj46
import Derived.Test.YtdbjpbjocmcpkaaGreatDoorMj22
import Derived.Lib.SlBytesConst
set_option maxHeartbeats 4000000
set_option maxRecDepth 100000
namespace Go.Proofs.YtdbjpbjocmcpkaaGreatDoor
section
open Go.Proofs.Tryz
open Go.RowKit
def acA (R:Except Nat (Ce.Cert×Nat)) (n:Nat) (w:World) (e:Ending) (w':World):Prop:=
 Below w.heap.size w w'/\((∃c j v,R= .ok (c,j)/\¬j<n/\e= .returned (.tuple #[v,.int .i64 0,.bool true])/\yM c w' w.heap.size v)\/∃q:Nat,(R= .error q\/∃c,R= .ok (c,q)/\q<n)/\e= .returned (.tuple #[.nilIface,.int .i64 (q:Int),.bool false]))
theorem lJ (tmps:Array Value) (W:World) (A:Nat) (v:Value) (x:Int) (t:Bool) (h2:tmps.getD 2 undef= .pointer (some ⟨A,0,none⟩)) (h3:tmps.getD 3 undef= .pointer (some ⟨A+1,0,none⟩)) (h4:tmps.getD 4 undef= .pointer (some ⟨A+2,0,none⟩)) (hr:rE W A v x t):
 (results Tryz.f36 tmps).run prog W= .ok (.tuple #[v,.int .i64 x,.bool t]) W:=by
 have c0:=cell_of_one hr.prf;have c1:=cell_of_one hr.place;have c2:=cell_of_one hr.is;have k2:tmps[2]?.getD undef= .pointer (some ⟨A,0,none⟩):=by simpa using h2
 have k3:tmps[3]?.getD undef= .pointer (some ⟨A+1,0,none⟩):=by simpa using h3
 have k4:tmps[4]?.getD undef= .pointer (some ⟨A+2,0,none⟩):=by simpa using h4
 simp[results,results36,go_sem,k2,k3,k4,c0,c1,c2]
theorem yM.same {c:Ce.Cert} {w w':World} {B:Nat} {v:Value} (h:yM c w B v) (hb:∀g,B<=g->g<w.heap.size->w'.heap[g]? =w.heap[g]?):yM c w' B v:=by
 rcases h with ⟨h1,h2,va,vs,h3,h4⟩|⟨h1,h2,ve,h3,h4⟩
 .exact .inl ⟨h1,h2,va,vs,h3,h4.same hb⟩
 .exact .inr ⟨h1,h2,ve,h3,cO h4 fun g _ h5 h6=>hb g h5 h6⟩
theorem yM.lower {c:Ce.Cert} {w:World} {B A:Nat} {v:Value} (h:yM c w B v) (hA:A<=B):yM c w A v:=by
 rcases h with ⟨h1,h2,va,vs,h3,h4⟩|⟨h1,h2,ve,h3,h4⟩
 .exact .inl ⟨h1,h2,va,vs,h3,h4.lower hA⟩
 .exact .inr ⟨h1,h2,ve,h3,h4.lower hA⟩
theorem Ru (w:World) (ao:Option Addr) (n cap:Nat):
 rE ((((w.alloc (.cells #[.nilIface] 92)).alloc (.cells #[.int .i64 0] 3)).alloc (.cells #[.bool false] 4)).alloc (.cells #[.slice ao n cap,.int .i64 0] 137)) w.heap.size .nilIface 0 false:=by
 have e1:=heap_alloc_new w (.cells #[.nilIface] 92);have e2:=heap_alloc_new (w.alloc (.cells #[.nilIface] 92)) (.cells #[.int .i64 0] 3);have e3:=heap_alloc_new ((w.alloc (.cells #[.nilIface] 92)).alloc (.cells #[.int .i64 0] 3)) (.cells #[.bool false] 4);rw[aa7] at e2;rw[aa7,aa7] at e3;refine⟨?_,?_,?_⟩
 .rw[aa0 _ _ _ (by simp;omega),aa0 _ _ _ (by simp;omega),aa0 _ _ _ (by simp)]
  exact e1
 .rw[aa0 _ _ _ (by simp),aa0 _ _ _ (by simp)]
  exact e2
 .rw[aa0 _ _ _ (by simp)]
  exact e3
theorem Kw {ao:Option Addr} {n cap:Nat} {g:Nat->Int} {w:World} (ht:aJ w ao n g) (ha:∀x,ao=some x->x.block<w.heap.size/\x.spot=none) (hn:n<=33554432) (hcap:n<=cap):
 Calls prog 36 #[.slice ao n cap] w (acA (Ce.prf (Ce.bD n g) n) n w):=by
 have Yg:∀(fn:Fn) (first cap:Array Value) (w:World),(Instr.makeFunc fn first cap).run prog w= .ok (.func fn first cap) w:=fun _ _ _ _=>rfl
 have hb0:Below w.heap.size w ((((w.alloc (.cells #[.nilIface] 92)).alloc (.cells #[.int .i64 0] 3)).alloc (.cells #[.bool false] 4)).alloc (.cells #[.slice ao n cap,.int .i64 0] 137)):=
  ((((aaG _ _).alloc (aaF _) _).alloc (by simp) _).alloc (by simp;omega) _).alloc (by simp;omega) _
 have hrd:=heap_alloc_new (((w.alloc (.cells #[.nilIface] 92)).alloc (.cells #[.int .i64 0] 3)).alloc (.cells #[.bool false] 4)) (.cells #[.slice ao n cap,.int .i64 0] 137);rw[aa7,aa7,aa7] at hrd;have HX:=ζ (show cU _ (w.heap.size+1+1+1) ao n cap 0 g from⟨hrd,ht.later hb0,fun x hx=>⟨by have:=(ha x hx).1;omega,(ha x hx).2⟩,hn,hcap,aaR _⟩);have aI:=ζ hb0;have WD:=ζ (Ru w ao n cap);obtain⟨R,hR⟩:∃R,Ce.prf (Ce.bD n g) n=R:=⟨_,rfl⟩;rw[hR];have HP:=ζ (IE HX.out);rw[hR] at HP;clear ht hb0 hrd hR
 go_enter_defers func36,ntmps36
 go_wp2_with fail;refine HP.out.mono ?_;rintro e w1 ⟨hg1,⟨c,j,v,hR,rfl,hv,h1,hj⟩|⟨q,hR,he⟩⟩
 .obtain⟨tv,xv,rfl⟩:∃tv xv,v= .iface tv xv:=by
   rcases hv with ⟨-,-,va,-,rfl,-⟩|⟨-,-,ve,rfl,-⟩
   .exact⟨_,_,rfl⟩
   .exact⟨_,_,rfl⟩
  have hr1:=WD.out.below hg1 (by omega);have hb1:Below w.heap.size w w1:=aI.out.grown hg1 (by simp;omega) (fun b hb=>by cases hb;omega);have c0:=cell_of_one hr1.prf;have f0:=free_of_one hr1.prf;have HV:=ζ hv;have tG:=ζ hR;clear hR;have jF:=ζ hr1;have aD:=ζ hb1;have c1:(w1.setCell ⟨w.heap.size,0,none⟩ (.iface tv xv)).cell? ⟨w.heap.size+1+1+1,1,none⟩=some (.int .i64 (j:Int)):=by
   rw[abF (w:=w1) (heap_setCell_other _ ⟨w.heap.size,0,none⟩ _ _ (by dsimp only;omega))];exact h1.place
  by_cases hjn:j<n
  .have hji:(j:Int)<(n:Int):=by omega
   clear hg1 hv hr1 hb1 h1;go_wp2_with fail;refine leaves_cons (f:=74) (args:= #[.pointer (some ⟨w.heap.size,0,none⟩),.pointer (some ⟨w.heap.size+1,0,none⟩),.pointer (some ⟨w.heap.size+1+1,0,none⟩)]) (by simp) (by simp[go_sem]) ?_;have hr2:rE (w1.setCell ⟨w.heap.size,0,none⟩ (.iface tv xv)) w.heap.size (.iface tv xv) 0 false:=by
    refine⟨one_setCell jF.out.prf,?_,?_⟩
    .rw[heap_setCell_other _ ⟨w.heap.size,0,none⟩ _ _ (by simp)];exact jF.out.place
    .rw[heap_setCell_other _ ⟨w.heap.size,0,none⟩ _ _ (by simp)];exact jF.out.is
   refine(sY w.heap.size j (.iface tv xv) 0 false w _ hr2 (aD.out.setCell (p:=⟨w.heap.size,0,none⟩) (aaF _) (.iface tv xv)) (aaF _)).mono ?_;rintro e u' w3 ⟨rfl,rfl,wk,hb3⟩;exact⟨_,lJ _ _ w.heap.size _ _ _ rfl rfl rfl wk,hb3,.inr ⟨j,.inr ⟨c,tG.out,hjn⟩,rfl⟩⟩
  .have hji:¬((j:Int)<(n:Int)):=by omega
   have c0':(w1.setCell ⟨w.heap.size,0,none⟩ (.iface tv xv)).cell? ⟨w.heap.size,0,none⟩=some (.iface tv xv):=World.cell?_setCell_same _ _ _ c0;have c2:=cell_of_one hr1.place;have c3:=cell_of_one hr1.is;have f1:=free_of_one hr1.place;have f2:=free_of_one hr1.is;clear hg1 hv hr1 hb1 h1;go_wp2_with fail;refine leaves_cons (f:=74) (args:= #[.pointer (some ⟨w.heap.size,0,none⟩),.pointer (some ⟨w.heap.size+1,0,none⟩),.pointer (some ⟨w.heap.size+1+1,0,none⟩)]) (by simp) (by simp[go_sem]) ?_;refine(FV _ _ _ _).mono ?_;rintro e u' w3 ⟨rfl,rfl,rfl⟩;have hr2:rE (w1.setCell ⟨w.heap.size,0,none⟩ (.iface tv xv)) w.heap.size (.iface tv xv) 0 false:=by
    refine⟨one_setCell jF.out.prf,?_,?_⟩
    .rw[heap_setCell_other _ ⟨w.heap.size,0,none⟩ _ _ (by simp)];exact jF.out.place
    .rw[heap_setCell_other _ ⟨w.heap.size,0,none⟩ _ _ (by simp)];exact jF.out.is
   have hB:((((w.alloc (.cells #[.nilIface] 92)).alloc (.cells #[.int .i64 0] 3)).alloc (.cells #[.bool false] 4)).alloc (.cells #[.slice ao n cap,.int .i64 0] 137)).heap.size=w.heap.size+1+1+1+1:=by simp
   have hv2:=HV.out;rw[hB] at hv2;refine⟨_,lJ _ _ w.heap.size (.iface tv xv) 0 true rfl rfl rfl hr2.lX,Bk (aD.out.setCell (p:=⟨w.heap.size,0,none⟩) (aaF _) _) (aaF _) _ _ _,.inl ⟨c,j,_,tG.out,hjn,rfl,?_⟩⟩;refine(hv2.same fun k h1 _=> ?_).lower (by omega);rw[heap_setCell_other _ ⟨w.heap.size+2,0,none⟩ k _ (by dsimp only;omega),heap_setCell_other _ ⟨w.heap.size+1,0,none⟩ k _ (by dsimp only;omega),heap_setCell_other _ ⟨w.heap.size,0,none⟩ k _ (by dsimp only;omega),heap_setCell_other _ ⟨w.heap.size,0,none⟩ k _ (by dsimp only;omega)]
 .rw[b8] at he
  subst he;have hr1:=WD.out.below hg1 (by omega);have hb1:Below w.heap.size w w1:=aI.out.grown hg1 (by simp;omega) (fun b hb=>by cases hb;omega);refine leaves_cons (f:=74) (args:= #[.pointer (some ⟨w.heap.size,0,none⟩),.pointer (some ⟨w.heap.size+1,0,none⟩),.pointer (some ⟨w.heap.size+1+1,0,none⟩)]) (by simp) (by simp[go_sem]) ?_;refine(sY w.heap.size q _ _ _ w w1 hr1 hb1 (aaF _)).mono ?_;rintro e u' w3 ⟨rfl,rfl,wk,hb3⟩;exact⟨_,lJ _ _ w.heap.size _ _ _ rfl rfl rfl wk,hb3,.inr ⟨q,.inl hR,rfl⟩⟩
end
section
open Go.Proofs.Tryz
open Go.RowKit
def Ce.fin (n:Nat):Except Nat (Ce.Cert×Nat)->Ce.Cert×Int×Int
 | .error e=>(Ce.zero,(e:Int),170)
 | .ok (c,j)=>if j<n then (Ce.zero,(j:Int),170) else (c,0,0)
theorem Ce.N8 {B:Nat->Int} {n:Nat} (hT:Ce.qg B n):Ce.parse B n=if 33554432<n then ((Ce.zero,33554432,10):Ce.Cert×Int×Int) else Ce.fin n (Ce.prf B n):=by
 unfold Ce.parse;by_cases c0:33554432<n
 .rw[if_pos c0,if_pos c0]
 .rw[if_neg c0,if_neg c0]
  unfold Ce.prf;by_cases h1:B 0=112
  .rw[if_neg (by omega),if_pos h1]
   unfold Ce.RF Ce.cnt;by_cases c2:B 1≠32
   .rw[if_pos c2,if_pos c2];rfl
   .rw[if_neg c2,if_neg c2]
    cases hm:Ce.num B n 2 with
    |none=>rfl
    |some q=>
     obtain⟨k,i⟩:=q;rw[decide_eq_true h1];dsimp only;by_cases c3:Ce.most true<k
     .rw[if_pos c3,if_pos (show(1048576:Int)<k from c3)];rfl
     .rw[if_neg c3,if_neg (show ¬(1048576:Int)<k from c3)]
      by_cases c4:B i≠10
      .rw[if_pos c4,if_pos c4];rfl
      .rw[if_neg c4,if_neg c4]
       unfold Ce.MV;dsimp only;rw[if_pos rfl];cases Ce.lists B n k.toNat [] (i+1) with
       |error e=>rfl
       |ok q=>rfl
  .rw[if_neg h1]
   by_cases h2:B 0=110
   .rw[if_neg (by omega),if_pos h2]
    unfold Ce.prt Ce.cnt;by_cases c2:B 1≠32
    .rw[if_pos c2,if_pos c2];rfl
    .rw[if_neg c2,if_neg c2]
     have hn1:=Ce.gw hT (aa2 c2:B 1=32) (by decide);cases hm:Ce.num B n 2 with
     |none=>rfl
     |some q=>
      obtain⟨k,i⟩:=q;rw[decide_eq_false h1];dsimp only;by_cases c3:Ce.most false<k
      .rw[if_pos c3,if_pos (show(4194304:Int)<k from c3)];rfl
      .rw[if_neg c3,if_neg (show ¬(4194304:Int)<k from c3)]
       by_cases c4:B i≠10
       .rw[if_pos c4,if_pos c4];rfl
       .rw[if_neg c4,if_neg c4]
        have hni:=Ce.gw hT (aa2 c4:B i=10) (by decide);unfold Ce.MV;dsimp only;rw[if_neg (by simp),Ce.MA k.toNat (i+1) (by omega) hT];cases Ce.gC B n k.toNat [] (-1,0) (i+1) with
        |error e=>rfl
        |ok q=>rfl
   .rw[if_pos ⟨h1,h2⟩,if_neg h2]
    rfl
theorem FU {c:Ce.Cert} {w:World} {B:Nat} {v:Value} (h:yM c w B v):
 Calls prog 37 #[v] w fun e w'=>Below w.heap.size w w'/\∃u,e= .returned u/\ze w' B u c:=by
 have Zn:∀(v:Value) (w:World),(Instr.typeAssert (.iface 139 v) 92 139 true).run prog w= .ok (.tuple #[v,.bool true]) w:=fun _ _=>by kernel_rfl
 have Zm:∀(v:Value) (w:World),(Instr.typeAssert (.iface 140 v) 92 139 true).run prog w= .ok (.tuple #[.slice none 0 0,.bool false]) w:=fun _ _=>by kernel_rfl
 have Zl:∀(v:Value) (w:World),(Instr.typeAssert (.iface 140 v) 92 140 true).run prog w= .ok (.tuple #[v,.bool true]) w:=fun _ _=>by kernel_rfl
 obtain⟨pl,ar,es⟩:=c;rcases h with ⟨h1,h2,va,vs,rfl,hr⟩|⟨h1,h2,ve,rfl,ho⟩
 .dsimp only at h1 h2 hr
  subst h1 h2;obtain⟨ao,ca,rfl⟩:=bG hr;have HR:=ζ hr;clear hr Zm Zl;go_enter func37,ntmps37;go_wp2;have k0:((w.alloc (.cells #[.bool true,.slice ao ar.length ca,.slice none 0 0] 27)).alloc (.cells #[.bool true,.slice ao ar.length ca,.slice none 0 0] 27)).heap[w.heap.size]? =some (.cells #[.bool true,.slice ao ar.length ca,.slice none 0 0] 27 (0,0)):=by
   rw[aa0 _ _ _ (by simp)];exact heap_alloc_new w _
  have hb:Below w.heap.size w ((w.alloc (.cells #[.bool true,.slice ao ar.length ca,.slice none 0 0] 27)).alloc (.cells #[.bool true,.slice ao ar.length ca,.slice none 0 0] 27)):=((aaG _ _).alloc (aaF _) _).alloc (by simp) _;refine bodyPost_ret (v:= .agg #[.bool true,.slice ao ar.length ca,.slice none 0 0]) (results_cell_row (p:=2) (ty:=27) results37 _ _ w.heap.size 27 _ (0,0) _ rfl k0 Tryz.underlying27 rfl (by kernel_rfl)) rfl ?_;exact⟨hb,_,rfl,_,_,vs,rfl,HR.out.later hb,aW.nil _ _⟩
 .dsimp only at h1 h2 ho
  subst h1 h2;obtain⟨ao,ca,rfl,-⟩:=ho.form;have HO:=ζ ho;clear ho Zn;go_enter func37,ntmps37;go_wp2;have k0:((w.alloc (.cells #[.bool false,.slice none 0 0,.slice ao es.length ca] 27)).alloc (.cells #[.bool false,.slice none 0 0,.slice ao es.length ca] 27)).heap[w.heap.size]? =some (.cells #[.bool false,.slice none 0 0,.slice ao es.length ca] 27 (0,0)):=by
   rw[aa0 _ _ _ (by simp)];exact heap_alloc_new w _
  have hb:Below w.heap.size w ((w.alloc (.cells #[.bool false,.slice none 0 0,.slice ao es.length ca] 27)).alloc (.cells #[.bool false,.slice none 0 0,.slice ao es.length ca] 27)):=((aaG _ _).alloc (aaF _) _).alloc (by simp) _;refine bodyPost_ret (v:= .agg #[.bool false,.slice none 0 0,.slice ao es.length ca]) (results_cell_row (p:=2) (ty:=27) results37 _ _ w.heap.size 27 _ (0,0) _ rfl k0 Tryz.underlying27 rfl (by kernel_rfl)) rfl ?_;exact⟨hb,_,rfl,_,_,[],rfl,ay.nil _ _,HO.out.below hb (aaF _)⟩
theorem xE {ao:Option Addr} {n cap:Nat} {g:Nat->Int} {w:World} (ht:aJ w ao n g) (ha:∀x,ao=some x->x.block<w.heap.size/\x.spot=none) (hn:n<=4611686018427387904) (hcap:n<=cap):
 Calls prog 17 #[.slice ao n cap] w (V7 (Ce.parse (Ce.bD n g) n) w):=by
 rw[Ce.N8 ht.txt];by_cases c0:33554432<n
 .have c0i:(33554432:Int)<(n:Int):=by omega
  rw[if_pos c0];go_enter func17,ntmps17;go_wp2;refine bodyPost_ret (v:= .tuple #[.agg #[.bool false,.slice none 0 0,.slice none 0 0],.int .i64 33554432,.int .i64 10]) (by simp[results,results17,go_sem]) rfl ⟨?_,_,rfl,yG _ _⟩;exact(aaG _ _).alloc (aaF _) _
 .have c0i:¬((33554432:Int)<(n:Int)):=by omega
  rw[if_neg c0];have hb0:Below w.heap.size w (w.alloc (.cells #[.bool false,.slice none 0 0,.slice none 0 0] 27)):=(aaG _ _).alloc (aaF _) _;have hz:=heap_alloc_new w (.cells #[.bool false,.slice none 0 0,.slice none 0 0] 27);have HC:=ζ (Kw (cap:=cap) (ht.later hb0) (fun x hx=>⟨by have:=(ha x hx).1;simp;omega,(ha x hx).2⟩) (by omega) hcap);obtain⟨R,hR⟩:∃R,Ce.prf (Ce.bD n g) n=R:=⟨_,rfl⟩;rw[hR] at HC ⊢;obtain⟨X,hX⟩:∃X:Ce.Cert×Int×Int,Ce.fin n R=X:=⟨_,rfl⟩;rw[hX];have HX:=ζ hX;have HZ:=ζ hz;have aI:=ζ hb0;clear ht hz hb0 hR hX;go_enter func17,ntmps17;go_wp2_with (go_at_call 36;refine HC.out.mono ?_;refine aaI ?_);refine ζ ?_;rintro e w1 ⟨hb1,⟨c,j,v,hR,hj,rfl,hv⟩|⟨q,hR,rfl⟩⟩
  .subst hR
   have hx:=HX.out;rw[Ce.fin,if_neg hj] at hx;subst hx;have hz1:=(hb1.block _ (lt_of_block HZ.out)).trans HZ.out;have aD:=ζ (aI.out.trans (hb1.mono aI.out.size));rw[aa7] at hv;have HV:=ζ hv;have HZ1:=ζ hz1;clear hb1 hv hz1;go_wp2_with (go_at_call 37;refine(FU HV.out).mono ?_;rintro e w2 ⟨hb2,u,rfl,va,ve,vs,rfl,hrows,hown⟩;obtain⟨va1,va2,rfl⟩:=bG hrows;obtain⟨ve1,ve2,rfl,-⟩:=hown.form;have hz2:=(hb2.block _ (lt_of_block HZ1.out)).trans HZ1.out;have z0:=(bF hz2).1;have z1:=(bF hz2).2.1;have z2:=(bF hz2).2.2.1;have zf:=(bF hz2).2.2.2);have k0:=wY hz2 (.bool c.pl) (.slice va1 c.ar.length va2) (.slice ve1 c.es.length ve2);obtain⟨r0,r1,r2,-⟩:=bF k0;have ho:∀b,b≠w.heap.size->(((w2.setCell ⟨w.heap.size,0,none⟩ (.bool c.pl)).setCell ⟨w.heap.size,1,none⟩ (.slice va1 c.ar.length va2)).setCell ⟨w.heap.size,2,none⟩ (.slice ve1 c.es.length ve2)).heap[b]? =w2.heap[b]? :=fun b hb=>by
    rw[heap_setCell_other _ ⟨w.heap.size,2,none⟩ b _ hb,heap_setCell_other _ ⟨w.heap.size,1,none⟩ b _ hb,heap_setCell_other _ ⟨w.heap.size,0,none⟩ b _ hb]
   refine bodyPost_ret (v:= .tuple #[.agg #[.bool c.pl,.slice va1 c.ar.length va2,.slice ve1 c.es.length ve2],.int .i64 0,.int .i64 0]) (by simp[results,results17,go_sem,r0,r1,r2]) rfl ⟨?_,_,rfl,_,_,vs,rfl,?_,?_⟩
   .have hb3:Below w.heap.size w w2:=aD.out.trans (hb2.mono aD.out.size)
    exact((hb3.setCell (p:=⟨w.heap.size,0,none⟩) (aaF _) _).setCell (p:=⟨w.heap.size,1,none⟩) (aaF _) _).setCell (p:=⟨w.heap.size,2,none⟩) (aaF _) _
   .exact(hrows.same fun k h1 _=>ho k (by omega)).lower (by omega)
   .exact aW.lower (cO hown fun k _ h1 _=>ho k (by omega)) (by omega)
  .have hx:((Ce.zero,(q:Int),(170:Int)):Ce.Cert×Int×Int)=X:=by
    rw[<-HX.out];rcases hR with rfl|⟨c,rfl,hq⟩
    .rfl
    .rw[Ce.fin,if_pos hq]
   subst hx;have hz1:=(hb1.block _ (lt_of_block HZ.out)).trans HZ.out;have aD:=ζ (aI.out.trans (hb1.mono aI.out.size));obtain⟨z0,z1,z2,zf⟩:=bF hz1;have k0:=wY hz1 (.bool false) (.slice none 0 0) (.slice none 0 0);obtain⟨r0,r1,r2,-⟩:=bF k0;clear hb1 hR HC;go_wp2;refine bodyPost_ret (v:= .tuple #[.agg #[.bool false,.slice none 0 0,.slice none 0 0],.int .i64 (q:Int),.int .i64 170]) (by simp[results,results17,go_sem,r0,r1,r2]) rfl (N9 rfl ?_);exact((aD.out.setCell (p:=⟨w.heap.size,0,none⟩) (aaF _) _).setCell (p:=⟨w.heap.size,1,none⟩) (aaF _) _).setCell (p:=⟨w.heap.size,2,none⟩) (aaF _) _
end
section
open Go.RowKit Go.Sort
theorem Ce.Small.YF {c:Ce.Cert} (h:Ce.Small c):Ce.wT c:=⟨aa1 h.ar (by omega),aa1 h.es (by omega),fun l hl=>aa1 (h.row l hl) (by omega)⟩
theorem bH.lists {w:World} {xo:Option Addr} {ls:List (List Int)} (h:bH w xo ls):Ce.iy w xo ls:=fun v l hl=>by
 obtain⟨b,o,A,C,e,hc,hL,-⟩:=h v l hl;exact⟨b,o,A,C,e,hc,hL.2⟩
theorem ze.TY {w:World} {B:Nat} {v:Value} {c:Ce.Cert} (h:ze w B v c) (hs:∀l∈c.ar,l.length<=17592186043904):∃ao eo ca ce,Ce.jZ w v c ao eo ca ce/\bH w ao c.ar:=by
 obtain⟨va,ve,vs,rfl,hr,ho⟩:=h;obtain⟨yo,yc,rfl,hrw,-⟩:=hr.rws hs;obtain⟨eo,ec,rfl,-,-,he,-⟩:=ho.form;exact⟨yo,eo,yc,ec,⟨rfl,hrw.lists,he⟩,hrw⟩
end
section
open Go.RowKit Go.Sort
namespace Ck
noncomputable def bytes (g:Nat->Int) (n:Nat) (h:Nat->Int) (m:Nat):Int:=
 match Pa.raw g n with
 | .error _=>180
 | .ok s=>if (Ce.parse (Ce.bD m h) m).2.2≠0 then 181 else code s.n (Si.made [] s.pairs) (Ce.parse (Ce.bD m h) m).1
theorem Ey {g:Nat->Int} {n:Nat} {h:Nat->Int} {m:Nat} {x:Int×Int} (hr:Pa.raw g n= .error x):bytes g n h m=180:=by unfold bytes;rw[hr]
theorem Bi {g:Nat->Int} {n:Nat} {h:Nat->Int} {m:Nat} {s:Pa.St} (hr:Pa.raw g n= .ok s) (hp:(Ce.parse (Ce.bD m h) m).2.2≠0):bytes g n h m=181:=by unfold bytes;rw[hr];exact if_pos hp
theorem Ex {g:Nat->Int} {n:Nat} {h:Nat->Int} {m:Nat} {s:Pa.St} (hr:Pa.raw g n= .ok s) (hp:(Ce.parse (Ce.bD m h) m).2.2=0):bytes g n h m=code s.n (Si.made [] s.pairs) (Ce.parse (Ce.bD m h) m).1:=by unfold bytes;rw[hr];exact if_neg (fun h=>h hp)
end Ck
theorem yJ {ao bo:Option Addr} {n m ca cb:Nat} {g h:Nat->Int} {w:World} (hg:aJ w ao n g) (ha:∀x,ao=some x->x.block<w.heap.size/\x.spot=none) (hn:n<=maxLen) (hca:n<=ca)
 (hh:aJ w bo m h) (hb:∀x,bo=some x->x.block<w.heap.size/\x.spot=none) (hm:m<=4611686018427387904) (hcb:m<=cb) (ht:lC w):
 Calls Tryz.prog 14 #[.slice ao n ca,.slice bo m cb] w fun e w'=>e= .returned (.int .i64 (Ck.bytes g n h m))/\Below w.heap.size w w':=by
 have qh:=ζ (rB ao n ca g w hg (fun x hx=>(ha x hx).1) hn hca);have Tw:Hid (∀V,Below w.heap.size w V->_):=fun V hV=>xE (w:=V) (cap:=cb) (hh.later hV) (fun x hx=>⟨abd (hb x hx).1 hV.size,(hb x hx).2⟩) hm hcb
 have oW:=ζ (eY ht);have rP:=ζ (Ce.xD hh.txt);clear hg ha hh hb ht;obtain⟨rc,rp,rk,hR⟩:∃rc rp rk,Ce.parse (Ce.bD m h) m=(rc,rp,rk):=⟨_,_,_,rfl⟩;have HR:=ζ hR;rw[hR] at Tw rP;clear hR;go_enter Tryz.func14,Tryz.ntmps14;go_wp2_with (go_at_call 16;refine qh.out.mono ?_;refine aaI ?_);refine ζ ?_;rintro e w1 ⟨hb1,⟨x,hr,rfl⟩|⟨s,v,hr,rfl,hown⟩⟩
 .have cH:=ζ (Ck.Ey (h:=h) (m:=m) hr)
  have hx0:(x.1 != 0)=true:=by simpa using Pa.pF hr
  have aD:=ζ hb1;have hs1:=hb1.size;clear hb1 hr;go_wp2;go_ret;exact⟨by rw[cH.out];rfl,(aD.out.alloc hs1 _).alloc (by simp;omega) _⟩
 .obtain⟨eo,ec,rfl,nR,hl2,LR,-⟩:=hown.form
  obtain⟨N,hN⟩:∃N,s.n=N:=⟨_,rfl⟩;obtain⟨es,hes⟩:∃es,Si.made [] s.pairs=es:=⟨_,rfl⟩;have hlen:es.length<=4611686018427387904:=by rw[<-hes];have:=(Pa.zv hr).VT;omega
  rw[hN];rw[hes] at LR ⊢;have tG:=ζ hr;have nU:=ζ (And.intro hN hes);have HED:=ζ LR;have aD:=ζ hb1;have hs1:=hb1.size;obtain⟨W,hW⟩:∃W,W=(w1.alloc (.cells #[.int .i64 N,.slice eo es.length ec] 24)).alloc (.cells #[.int .i64 0,.int .i64 0] 39):=⟨_,rfl⟩;have hbW:Below w1.heap.size w1 W:=by rw[hW];exact((aaG _ _).alloc (aaF _) _).alloc (by simp) _
  have VJ:W.heap[w1.heap.size]? =some (.cells #[.int .i64 N,.slice eo es.length ec] 24 (0,0)):=by
   rw[hW,aa0 _ _ _ (by simp)];exact heap_alloc_new w1 _
  have OY:W.heap[w1.heap.size+1]? =some (.cells #[.int .i64 0,.int .i64 0] 39 (0,0)):=by
   rw[hW];have:=heap_alloc_new (w1.alloc (.cells #[.int .i64 N,.slice eo es.length ec] 24)) (.cells #[.int .i64 0,.int .i64 0] 39);rwa[aa7] at this
  have HW:=ζ hW;have W7:=ζ VJ;have cN:=ζ (hb1.trans (hbW.mono hb1.size));have TG:=ζ (LR.later hbW);obtain⟨r0,r1,-⟩:=af OY;have hrl:=lt_of_block OY;clear hb1 hr hN hes LR hown nR hl2 hbW VJ OY hW
  go_upto_region 2 with fail
  rw[<-HW.out];go_wp2_with (go_at_call 17;refine(Tw.out _ cN.out).mono ?_;refine aaI ?_);refine ζ ?_;rintro e w2 ⟨hb2,v,rfl,hct⟩;dsimp only at hct ⊢;have aA:=ζ (cN.out.trans (hb2.mono cN.out.size));have cA:=ζ ((hb2.block _ (lt_of_block W7.out)).trans W7.out);have hs2:=aA.out.size;obtain⟨yo,zo,yc,zc,oM,hrw⟩:=hct.TY (fun l hl=>aa1 (rP.out.row l hl) (by omega));have hval:=oM.val;subst hval;have BW:=ζ oM;have kP:=ζ hrw;have HE2:=ζ (TG.out.later hb2);clear hb2 hct oM hrw r0 r1;by_cases hk0:rk=0
  .have kK:(rk != 0)=false:=by simp[hk0]
   have cH:=ζ (Ck.Ex tG.out (by rw[HR.out];exact hk0));clear hk0;have b7:=(aaG w2.heap.size w2).alloc (aaF _) (.cells #[.bool rc.pl,.slice yo rc.ar.length yc,.slice zo rc.es.length zc] 27);obtain⟨c0,c1,c2,-⟩:=bF (heap_alloc_new w2 (.cells #[.bool rc.pl,.slice yo rc.ar.length yc,.slice zo rc.es.length zc] 27));have aK:=ζ (aA.out.trans (b7.mono hs2));obtain⟨g0,g1,-⟩:=af ((b7.block _ (lt_of_block cA.out)).trans cA.out);have Ji:=lt_of_block cA.out;have jQ:=ζ (qM N eo ec es rc _ yo zo yc zc _ (HE2.out.later b7) hlen (BW.out.later b7) rP.out.YF (kP.out.later b7) (oW.out _ aK.out));clear b7;go_wp2_with (go_at_call 10;refine jQ.out.mono ?_;rintro e w4 ⟨rfl,hb4⟩;have cZ:=ζ (aK.out.trans (hb4.mono aK.out.size));clear hb4 g0 g1 c0 c1 c2;refine aaI ?_);refine ζ ?_;go_wp2;go_ret;refine⟨?_,cZ.out⟩;rw[cH.out,nU.out.1,nU.out.2,HR.out];rfl
  .have kK:(rk != 0)=true:=by simp[hk0]
   have cH:=ζ (Ck.Bi tG.out (by rw[HR.out];exact hk0));clear hk0;go_wp2;go_ret;exact⟨by rw[cH.out];rfl,aA.out.alloc hs2 _⟩
end
section
open Go.Proofs.Tryz
open Go.RowKit Go.Sort
namespace Ck
def ra:List (List Int):=[[1,2,3],[0,3,2],[0,1,3],[0,2,1]]
def rb:List (List Int):=[[1,2,3],[0,2,3],[0,1,3],[0,1,2]]
def ec:List (Int×Int):=[(0,1),(0,4)]
def gd:Nat->Int:=fun i=>[49,32,49,10,48,32,49,10].getD i 0
theorem aaN:∃x,Pa.raw gd 8= .error x:=⟨_,rfl⟩
theorem adI:Si.Val (4:Nat) e4:=by
 refine⟨by decide,by decide,by decide,fun j p hj=> ?_,fun j p q hp hq=> ?_⟩
 .match j,hj with
  |0,hj=>cases hj;unfold Si.ok;decide
  |1,hj=>cases hj;unfold Si.ok;decide
  |2,hj=>cases hj;unfold Si.ok;decide
  |3,hj=>cases hj;unfold Si.ok;decide
  |4,hj=>cases hj;unfold Si.ok;decide
  |5,hj=>cases hj;unfold Si.ok;decide
 .match j,hp,hq with
  |0,hp,hq=>cases hp;cases hq;unfold Si.lt;decide
  |1,hp,hq=>cases hp;cases hq;unfold Si.lt;decide
  |2,hp,hq=>cases hp;cases hq;unfold Si.lt;decide
  |3,hp,hq=>cases hp;cases hq;unfold Si.lt;decide
  |4,hp,hq=>cases hp;cases hq;unfold Si.lt;decide
theorem B7:Si.valid (4:Int) e4=true:=Si.aL.2 adI
theorem Mh {ar:List (List Int)} (h:∀l∈ar,∀x∈l,(0<=x/\x<=999999999)/\l.headD 0<=x) (hl:ar.length<=1048576):Ce.good ⟨true,ar,[]⟩:=by
 unfold Ce.good;rw[if_pos rfl];exact⟨rfl,fun l h1 x h2=>h l h1 x h2,hl⟩
theorem aaU:may ⟨true,ra,[]⟩=true:=sw ⟨Mh (by decide) (by decide),by decide +kernel⟩
theorem aaT:may ⟨true,rb,[]⟩=true:=sw ⟨Mh (by decide) (by decide),by decide +kernel⟩
theorem aaS:may ⟨false,[],ec⟩=true:=sw ⟨by
 unfold Ce.good;rw[if_neg (fun h=>by cases h)];refine⟨rfl,⟨by unfold ec Ce.dR;decide,fun i p q hp hq=> ?_⟩,by decide⟩
 match i,hp,hq with
 |0,hp,hq=>cases hp;cases hq;decide,by decide +kernel⟩
theorem uz {hs:List (List Int)} (h:hs.length=4):Ro.check (4:Int) e4 hs=Ro.ig e4 0 hs:=by
 unfold Ro.check;rw[if_pos B7,if_neg (by rw[h];decide)]
theorem YL:code 4 e4 ⟨true,ra,[]⟩=0:=by
 rw[sU B7 aaU rfl,uz (by decide),if_neg (by decide),if_pos (by decide)]
theorem YK:code 4 e4 ⟨true,rb,[]⟩=183:=by
 rw[sU B7 aaT rfl,uz (by decide),if_neg (by decide),if_neg (by decide)]
theorem YJ:code 4 e4 ⟨false,[],ec⟩=184:=by
 rw[yB B7 aaS rfl,if_pos (fun h=>absurd (h (0,4) (by decide)) (by decide))]
theorem VQ (ar:List (List Int)) (h:∀l∈ar,l.length<=3) (hl:ar.length<=4):Ce.wT ⟨true,ar,[]⟩:=⟨by show ar.length<=_;omega,by show 0<=_;omega,fun l h1=>aa1 (h l h1) (by omega)⟩
end Ck
theorem K4 (w:World) (k:Nat) (hk:w.heap.size=k) (zs:List Int) (f:Nat×Nat) (hz:∀z∈zs,0<=z/\z<=255):
 aJ (w.alloc (.cells (zs.map (Value.int .u8)).toArray 5 f)) (some ⟨k,0,none⟩) zs.length (fun i=>zs.getD i 0):=fun i hi=>by
 subst hk;refine⟨?_,_,_,rfl,?_⟩
 .refine hz _ ?_
  show zs.getD i 0∈zs;rw[aaL,aaE hi];simp
 .rw[abK,cell_of_row _ _ i _ _ _ (heap_alloc_new w _)]
  simp[hi]
theorem K5 (w:World) (a b c d:List Int) (ha:a.length=3) (hb:b.length=3) (hc:c.length=3) (hd:d.length=3):
 ∀W,W=((((w.alloc (.cells (a.map (Value.int .i64)).toArray 3)).alloc (.cells (b.map (Value.int .i64)).toArray 3)).alloc (.cells (c.map (Value.int .i64)).toArray 3)).alloc (.cells (d.map (Value.int .i64)).toArray 3)).alloc (.cells #[.slice (some ⟨w.heap.size,0,none⟩) 3 3,.slice (some ⟨w.heap.size+1,0,none⟩) 3 3,.slice (some ⟨w.heap.size+1+1,0,none⟩) 3 3,.slice (some ⟨w.heap.size+1+1+1,0,none⟩) 3 3] 55)->
  bH W (some ⟨w.heap.size+1+1+1+1,0,none⟩) [a,b,c,d]/\Below w.heap.size w W:=by
 rintro W rfl;obtain⟨w1,e1⟩:∃w1,w1=w.alloc (.cells (a.map (Value.int .i64)).toArray 3):=⟨_,rfl⟩;obtain⟨w2,e2⟩:∃w2,w2=w1.alloc (.cells (b.map (Value.int .i64)).toArray 3):=⟨_,rfl⟩;obtain⟨w3,e3⟩:∃w3,w3=w2.alloc (.cells (c.map (Value.int .i64)).toArray 3):=⟨_,rfl⟩;obtain⟨w4,e4⟩:∃w4,w4=w3.alloc (.cells (d.map (Value.int .i64)).toArray 3):=⟨_,rfl⟩;rw[<-e1,<-e2,<-e3,<-e4];have s1:w1.heap.size=w.heap.size+1:=by rw[e1];simp
 have s2:w2.heap.size=w.heap.size+1+1:=by rw[e2,aa7,s1]
 have s3:w3.heap.size=w.heap.size+1+1+1:=by rw[e3,aa7,s2]
 have s4:w4.heap.size=w.heap.size+1+1+1+1:=by rw[e4,aa7,s3]
 have b1:Below w.heap.size w w1:=by rw[e1];exact(aaG _ _).alloc (aaF _) _
 have b2:Below w1.heap.size w1 w2:=by rw[e2];exact(aaG _ _).alloc (aaF _) _
 have b3:Below w2.heap.size w2 w3:=by rw[e3];exact(aaG _ _).alloc (aaF _) _
 have b4:Below w3.heap.size w3 w4:=by rw[e4];exact(aaG _ _).alloc (aaF _) _
 have h0:aq w1 w.heap.size a:=by rw[e1];exact heap_alloc_new w _
 have h1:aq w2 (w.heap.size+1) b:=by rw[e2,<-s1];exact heap_alloc_new w1 _
 have h2:aq w3 (w.heap.size+1+1) c:=by rw[e3,<-s2];exact heap_alloc_new w2 _
 have h3:aq w4 (w.heap.size+1+1+1) d:=by rw[e4,<-s3];exact heap_alloc_new w3 _
 obtain⟨W,hW⟩:∃W,W=w4.alloc (.cells #[.slice (some ⟨w.heap.size,0,none⟩) 3 3,.slice (some ⟨w.heap.size+1,0,none⟩) 3 3,.slice (some ⟨w.heap.size+1+1,0,none⟩) 3 3,.slice (some ⟨w.heap.size+1+1+1,0,none⟩) 3 3] 55):=⟨_,rfl⟩;rw[<-hW];have b5:Below w4.heap.size w4 W:=by rw[hW];exact(aaG _ _).alloc (aaF _) _
 have h4:W.heap[w.heap.size+1+1+1+1]? =some (.cells #[.slice (some ⟨w.heap.size,0,none⟩) 3 3,.slice (some ⟨w.heap.size+1,0,none⟩) 3 3,.slice (some ⟨w.heap.size+1+1,0,none⟩) 3 3,.slice (some ⟨w.heap.size+1+1+1,0,none⟩) 3 3] 55 (0,0)):=by rw[hW,<-s4];exact heap_alloc_new w4 _
 have g3:aq W (w.heap.size+1+1+1) d:=(b5.block _ (by omega)).trans h3;have b45:=b4.trans (b5.mono b4.size);have g2:aq W (w.heap.size+1+1) c:=(b45.block _ (by omega)).trans h2;have Z2:=b3.trans (b45.mono b3.size);have g1:aq W (w.heap.size+1) b:=(Z2.block _ (by omega)).trans h1;have b25:=b2.trans (Z2.mono b2.size);have g0:aq W w.heap.size a:=(b25.block _ (by omega)).trans h0;refine⟨?_,b1.trans (b25.mono b1.size)⟩;intro v l hl
 match v,hl with
 |0,hl=>cases hl;rw[ha];exact⟨_,0,_,_,rfl,by simp[World.cell?,h4],ha▸g0.iU rfl,by omega,aaF _,by omega⟩
 |1,hl=>cases hl;rw[hb];exact⟨_,0,_,_,rfl,by simp[World.cell?,h4],hb▸g1.iU rfl,by omega,aaF _,by omega⟩
 |2,hl=>cases hl;rw[hc];exact⟨_,0,_,_,rfl,by simp[World.cell?,h4],hc▸g2.iU rfl,by omega,aaF _,by omega⟩
 |3,hl=>cases hl;rw[hd];exact⟨_,0,_,_,rfl,by simp[World.cell?,h4],hd▸g3.iU rfl,by omega,aaF _,by omega⟩
theorem H9 (w:World) (ht:lC w):Calls prog 9 #[] w fun e w'=>e= .returned (.bool true)/\Below w.heap.size w w':=by
 have kc:=fun (w:World) (C:Array Value) (n c:Nat)=>Lib.run_convert_bytes_const (P:=prog) w 35 5 C n c Tryz.underlying35 Tryz.underlying5
 have oW:=ζ (eY ht)
 have HGP:Hid (∀(ar:List (List Int)) (k:Int) (X V:World) (b p:Nat) (pc:Nat),Below w.heap.size w X->Below X.heap.size X V->ah X (some ⟨b,0,none⟩) Ck.e4->bH V (some ⟨p,0,none⟩) ar->(∀l∈ar,l.length<=3)->ar.length=4->Ck.code 4 Ck.e4 ⟨true,ar,[]⟩=k->
  Calls prog 10 #[.agg #[.int .i64 4,.slice (some ⟨b,0,none⟩) 6 6],.agg #[.bool true,.slice (some ⟨p,0,none⟩) 4 pc,.slice none 0 0]] V fun e w'=>e= .returned (.int .i64 k)/\Below V.heap.size V w'):=fun ar k X V b p pc hX hV he hr h3 h4 hk=>by
  subst hk;have hs:Ce.jZ V (.agg #[.bool true,.slice (some ⟨p,0,none⟩) 4 pc,.slice none 0 0]) ⟨true,ar,[]⟩ (some ⟨p,0,none⟩) none pc 0:=⟨by rw[h4];rfl,hr.lists,fun j p hj=>by simp at hj⟩;exact qM 4 (some ⟨b,0,none⟩) 6 Ck.e4 ⟨true,ar,[]⟩ _ _ _ _ _ V (he.later hV) (by decide) hs (Ck.VQ ar h3 (by omega)) hr (oW.out _ (hX.trans (hV.mono hX.size)))
 clear ht;go_enter func9,ntmps9;go_wp2_with (go_at_call 28;refine(sO w).mono ?_;rintro e w1 ⟨b1,rfl,jI,hb1⟩;refine aaI ?_);refine ζ ?_;have Aj:=ζ jI;have aD:=ζ hb1;clear jI hb1;have nR:=K5 w1 [1,2,3] [0,3,2] [0,1,3] [0,2,1] rfl rfl rfl rfl _ rfl;have lG:=ζ nR;clear nR;go_wp2_with (go_at_call 10;refine(HGP.out Ck.ra 0 w1 _ b1 _ 4 aD.out lG.out.2 Aj.out lG.out.1 (by decide) rfl Ck.YL).mono ?_;rintro e w2 ⟨rfl,hb2⟩;have aA:=ζ (aD.out.trans ((lG.out.2.trans (hb2.mono lG.out.2.size)).mono aD.out.size));clear hb2;refine aaI ?_);refine ζ ?_;clear lG Aj aD;go_wp2_with (go_at_call 28;refine(sO w2).mono ?_;rintro e w3 ⟨b3,rfl,SB,hb3⟩;refine aaI ?_);refine ζ ?_;have Za:=ζ SB;have aK:=ζ (aA.out.trans (hb3.mono aA.out.size));clear SB hb3;have hl3:=K5 w3 [1,2,3] [0,2,3] [0,1,3] [0,1,2] rfl rfl rfl rfl _ rfl;have oZ:=ζ hl3;clear hl3;go_wp2_with (go_at_call 10;refine(HGP.out Ck.rb 183 w3 _ b3 _ 4 aK.out oZ.out.2 Za.out oZ.out.1 (by decide) rfl Ck.YK).mono ?_;rintro e w4 ⟨rfl,hb4⟩;have cZ:=ζ (aK.out.trans ((oZ.out.2.trans (hb4.mono oZ.out.2.size)).mono aK.out.size));clear hb4;refine aaI ?_);refine ζ ?_;clear oZ Za aK HGP;go_wp2_with (go_at_call 28;refine(sO w4).mono ?_;rintro e w5 ⟨b5,rfl,OV,hb5⟩;refine aaI ?_);refine ζ ?_;have Y9:=ζ OV;have fM:=ζ (cZ.out.trans (hb5.mono cZ.out.size));clear OV hb5;have hbl:Below w5.heap.size w5 (w5.alloc (.cells #[.int .i64 0,.int .i64 1,.int .i64 0,.int .i64 4] 66)):=(aaG _ _).alloc (aaF _) _;have Sy:ah (w5.alloc (.cells #[.int .i64 0,.int .i64 1,.int .i64 0,.int .i64 4] 66)) (some ⟨w5.heap.size,0,none⟩) Ck.ec:=rz.at (heap_alloc_new w5 (.cells (gB Ck.ec).toArray 66));have hG5:=qM 4 (some ⟨b5,0,none⟩) 6 Ck.e4 ⟨false,[],Ck.ec⟩ (.agg #[.bool false,.slice none 0 0,.slice (some ⟨w5.heap.size,0,none⟩) 2 2]) none (some ⟨w5.heap.size,0,none⟩) 0 2 _ (Y9.out.later hbl) (by decide) ⟨rfl,fun k l hl=>by simp at hl,Sy⟩ ⟨by show 0<=_;omega,by show 2<=_;omega,fun l hl=>by simp at hl⟩ (fun v l hl=>by simp at hl) (oW.out _ (fM.out.trans (hbl.mono fM.out.size)));rw[Ck.YJ] at hG5;have Ga:=ζ hG5;have Gc:=ζ hbl;clear hbl Sy hG5;go_wp2_with (go_at_call 10;refine Ga.out.mono ?_;rintro e w6 ⟨rfl,kL⟩;have mE:=ζ (fM.out.trans ((Gc.out.trans (kL.mono Gc.out.size)).mono fM.out.size));clear kL;refine aaI ?_);refine ζ ?_;clear Ga Gc Y9 fM;obtain⟨x,hx⟩:=Ck.aaN;have hbl:Below w6.heap.size w6 (w6.alloc (.cells #[.int .u8 49,.int .u8 32,.int .u8 49,.int .u8 10,.int .u8 48,.int .u8 32,.int .u8 49,.int .u8 10] 5 (8,9))):=(aaG _ _).alloc (aaF _) _;have hG6:=Jy (ca:=8) (bo:=none) (m:=0) (cb:=0) (K4 w6 _ rfl [49,32,49,10,48,32,49,10] (8,9) (by decide)) (by intro x hx;cases hx;simp) (by decide) (by decide) hx;have TD:=ζ hG6;have Gc:=ζ hbl;clear hbl hG6 hx;go_wp2_with (go_at_call 14;refine TD.out.mono ?_;rintro e w7 ⟨rfl,wo⟩;have za:=ζ (mE.out.trans ((Gc.out.trans (wo.mono Gc.out.size)).mono mE.out.size));clear wo;refine aaI ?_);refine ζ ?_;go_wp2;go_ret;exact⟨rfl,za.out⟩
end
end Go.Proofs.YtdbjpbjocmcpkaaGreatDoor
