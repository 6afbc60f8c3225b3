import Derived.Test.YtdbjpbjocmcpkaaGreatDoorMj33
set_option maxHeartbeats 4000000
set_option maxRecDepth 100000
namespace Go.Proofs.YtdbjpbjocmcpkaaGreatDoor
section
open Go.RowKit
namespace Ce
theorem Hg {α:Type} (f:α->List UInt8):∀{ls:List α} {l:α},l∈ls->(f l).length<=(ls.flatMap f).length
 |x::r,l,h=>by
  rw[acH,aaZ];rcases aa4.1 h with rfl|h
  .omega
  .have:=Hg f h
   omega
theorem Kc (c:Cert):(qT c).length<=(dI c).length:=by
 unfold dI;simp;omega
structure Small (c:Cert):Prop where
 ar:c.ar.length<=1048576
 es:c.es.length<=4194304
 row:∀l∈c.ar,l.length<=33554432
 txt:(dI c).length<=33554432
theorem Kh:Small zero:=⟨by decide,by decide,fun l hl=>(by cases hl),by decide +kernel⟩
theorem Rk {c:Cert} (hg:good c) (hl:(dI c).length<=33554432):Small c:=by
 obtain⟨pl,ar,es⟩:=c;unfold good at hg;cases pl with
 |true=>
  rw[if_pos rfl] at hg;obtain⟨h1,h2,h3⟩:=hg;dsimp only at h1 h2 h3;subst h1;refine⟨h3,by simp,fun l hl'=> ?_,hl⟩;have e:qT ⟨true,ar,[]⟩=ar.flatMap bJ:=rfl;have h4:(bJ l).length<=(ar.flatMap bJ).length:=Hg bJ hl';have h5:=Kc ⟨true,ar,[]⟩;have h6:=K6 l;rw[e] at h5;omega
 |false=>
  rw[if_neg (by simp)] at hg;obtain⟨h1,h2,h3⟩:=hg;dsimp only at h1 h2 h3;subst h1;exact⟨by simp,h3,fun l hl'=>(by cases hl'),hl⟩
theorem xD {B:Nat->Int} {n:Nat} (hT:qg B n):Small (parse B n).1:=by
 obtain⟨c,p,k,hp⟩:∃c p k,parse B n=(c,p,k):=⟨_,_,_,rfl⟩;rw[hp];rcases IL hT with h|⟨h,-⟩
 .rw[hp] at h
  obtain rfl:k=0:=h;obtain⟨h1,-,h3,h4,-⟩:=RM hT hp;exact Rk h1 (by rw[h3];exact h4)
 .rw[hp] at h
  obtain rfl:c=zero:=h;exact Kh
theorem Small.fits {c:Cert} (h:Small c):Fits c:=⟨aa1 h.ar (by omega),aa1 h.es (by omega),fun l hl=>aa1 (h.row l hl) (by omega),fun _=>aa1 h.txt (by omega)⟩
end Ce
end
section
open Go.Proofs.Tryz
open Go.RowKit
def Ce.tl (B:Nat->Int) (n f:Nat) (l:List Int) (j:Nat):Except Nat (List Int×Nat):=
 if B j=10 then .ok (l,j+1) else if B j=32 then Ce.rC B n f l (j+1) else .error j
theorem Ce.KZ {B:Nat->Int} {n f:Nat} {l:List Int} {i:Nat} {v:Int} {k:Nat} (h:Ce.num B n i=some (v,k)) (hl:¬(l≠[]/\v<l.headD 0)):Ce.rC B n (f+1) l i=Ce.tl B n f (l++[v]) k:=by
 rw[Ce.rC,h];dsimp only;rw[if_neg hl];rfl
theorem Ce.RY {B:Nat->Int} {n f:Nat} {l:List Int} {i:Nat} (hl:l≠[]) (h:∀v k,Ce.num B n i=some (v,k)->v<l.headD 0):Ce.rC B n (f+1) l i= .error i:=by
 rw[Ce.rC];cases hm:Ce.num B n i with
 |none=>rfl
 |some q=>
  obtain⟨v,k⟩:=q;dsimp only;rw[if_pos ⟨hl,h v k hm⟩]
theorem ak.kept {w w':World} {B b:Nat} {v:Value} {l:List Int} (h:ak w B v l) (hg:w.grownBy w' (some b)) (hb:b<B):ak w' B v l:=
 h.same fun g hv hlt=>hg.block g hlt (fun e=>by
  have:=(aaO h g hv).1;cases e;omega)
theorem ak.headed {w:World} {B:Nat} {v:Value} {l:List Int} (h:ak w B v l) (hl:l≠[]):∃g c,v= .slice (some ⟨g,0,none⟩) l.length c/\w.cell? ⟨g,0,none⟩=some (.int .i64 (l.headD 0)):=by
 cases l with
 |nil=>exact absurd rfl hl
 |cons x r=>
  obtain⟨g,c,rfl⟩:=GF (k:=r.length) h;obtain⟨ao,cap,e,hat,-⟩:=h.form;cases e;obtain⟨b,o,e,hc⟩:=hat 0 x rfl;cases e;exact⟨g,c,rfl,hc⟩
theorem AW {b:Nat} {ao:Option Addr} {n cap p:Nat} {g:Nat->Int} {w:World} (h:cU w b ao n cap p g):
 Calls prog 169 #[.pointer (some ⟨b,0,none⟩)] w (Tk (Ce.iU (Ce.bD n g) n p) (fun l w' v=>ak w' w.heap.size v l) b ao n cap w):=by
 have dO:=h.ng.lt;have H:=ζ h;obtain⟨R,hR⟩:∃R,Ce.iU (Ce.bD n g) n p=R:=⟨_,rfl⟩;rw[hR];unfold Ce.iU at hR;have hlen:=h.len;by_cases h1:Ce.bD n g p=10
 .rw[if_pos h1] at hR
  clear h;go_enter func169,ntmps169;go_wp2_with (go_at_call 115;refine(H.out.CY (by decide) h1).mono ?_;refine aaI ?_);refine ζ ?_;rintro e w1 ⟨rfl,hg1,h1'⟩;go_wp2;go_ret;exact⟨hg1,.inl ⟨[],p+1,_,hR.symm,rfl,ak.nil _ _,h1'.ng,h1'.pos⟩⟩
 .rw[if_neg h1] at hR
  have HR:=ζ hR;clear h hR;go_enter func169,ntmps169;go_wp2_with (go_at_call 115;refine(H.out.IJ h1).mono ?_;refine aaI ?_);refine ζ ?_;rintro e w1 ⟨rfl,hg1,h1'⟩;have H1:=ζ h1';have dB:=ζ hg1;clear h1' hg1;go_wp2_with (go_at_call 226;refine(H1.out.num 0).mono ?_;refine aaI ?_);refine ζ ?_;rintro e w2 ⟨hg2,⟨v,k,dr,hv,rfl,h2,hok,hpk⟩|⟨hno,rfl⟩⟩
  .have hR:=HR.out
   rw[Ce.KZ dr (by simp)] at hR;have nT:=ζ hR;have H2:=ζ h2;have yh:=aj dB.out hg2;have cA:=ζ yh;have hsz:=yh.size;have hkn:=h2.pos;have hown:ak (w2.alloc (.cells #[.int .i64 v] 3)) w.heap.size (.slice (some ⟨w2.heap.size,0,none⟩) 1 1) [v]:=aq.own (l:=[v]) (heap_alloc_new w2 _) hsz rfl (by omega);have bK:=ζ hown;have H3:=ζ (h2.later ((aaG _ _).alloc (aaF _) (.cells #[.int .i64 v] 3)));have iC:=ζ (bO yh (.cells #[.int .i64 v] 3));clear hR hg2 h2 dr yh hown;go_wp2;go_loopw [3] (fun lv wr=>∃(j f:Nat) (l:List Int),l≠[]/\l.length<=j/\n-j<f/\ak wr w.heap.size lv l/\cU wr b ao n cap j g/\w.grownBy wr (some b)/\Ce.tl (Ce.bD n g) n f l j=R) (fun _ wr=>n-posOf wr b)
   case atStart=>exact⟨k,n,[v],by simp,by simp;omega,by omega,bK.out,H3.out,iC.out,nT.out⟩
   case round=>
    obtain⟨j,f,l,hl0,hlj,hf,hown,hrt,hgr,Mb⟩:=hrel;have HP:Hid (posOf wr b=j):=hrt.ng.pos;have hjn:=hrt.pos;have HO:=ζ hown;have BX:=ζ hrt;have jQ:=ζ hgr;have Qs:=hgr.size;unfold Ce.tl at Mb;by_cases gi:Ce.bD n g j=32
    .rw[if_neg (by omega),if_pos gi] at Mb
     have HRJ:=ζ Mb;clear Mb hown hrt hgr;go_wp2_with (go_at_call 115;refine(BX.out.CY (by decide) gi).mono ?_;refine aaI ?_);refine ζ ?_;rintro e w4 ⟨rfl,hg4,h4⟩;have gT:=HO.out.kept hg4 (by omega);have hj4:=h4.pos;obtain⟨gb,gc,hlv,hcl⟩:=gT.headed hl0;subst hlv;have abz:0<l.length:=by
      cases l with
      |nil=>exact absurd rfl hl0
      |cons _ _=>simp
     have H4:=ζ h4;have TE:=ζ (aj jQ.out hg4);have Zp:=TE.out.size;obtain⟨L,hL⟩:∃L,l.length=L:=⟨_,rfl⟩;obtain⟨x0,hx0⟩:∃x0,l.headD 0=x0:=⟨_,rfl⟩;rw[hx0] at hcl;have Nj:Hid (ak w4 w.heap.size (.slice (some ⟨gb,0,none⟩) L gc) l):=by rw[<-hL];exact gT
     have HL:=ζ hL;have HX:=ζ hx0;rw[hL] at abz hlj ⊢;have pS:(0:Int)<(L:Int):=by omega
     clear gT hg4 h4 HO hx0;go_wp2_with (go_at_call 226;refine(H4.out.num x0).mono ?_;refine aaI ?_);refine ζ ?_;rintro e w5 ⟨sG,⟨v',k',dr,hv',rfl,h5,aj8,aj6⟩|⟨hno,rfl⟩⟩
     .obtain⟨f,rfl⟩:∃f',f=f'+1:=⟨f-1,by omega⟩
      have hRn:=HRJ.out;rw[Ce.KZ dr (fun hh=>by have:=hh.2;rw[HX.out] at this;omega)] at hRn;have Dx:=Nj.out.kept sG (by omega);have Ga:=ζ (aj TE.out sG);have aep:=Ga.out.size;have H5:=ζ h5;have hk5:=h5.pos;have Y3:=ζ hRn;have hL':l.length<=17592186044000:=by rw[HL.out];omega
      clear sG dr hRn h5 hL;go_wp2_with (at_builtin;refine bu rfl _ _ rfl w5 w.heap.size _ l v' Dx aep hL' rfl rfl ?_;refine aaI ?_);refine ζ ?_;intro lv' w6 UZ LQ afn kL;have HO6:=ζ UZ;have ot:∀x,x<w.heap.size->some x≠(Value.slice (some ⟨gb,0,none⟩) L gc).ownBlock:=fun x hx e=>by
       have:=(aaO Dx x e.symm).1;omega
      have Me:=H5.out.later ((aaG _ _).alloc (aaF _) (.cells #[.int .i64 v'] 3));have DL:=bO Ga.out (.cells #[.int .i64 v'] 3);have Zu:cU w6 b ao n cap k' g:=by
       refine⟨Me.ng.kept LQ (ot b dO),fun i hi=> ?_,Me.FW,Me.len,Me.fit,Me.pos⟩;obtain⟨hb,tb,tq,e,hc⟩:=Me.txt i hi;exact⟨hb,tb,tq,e,LQ.cell hc (ot tb (by have:=(Me.FW _ e).1;dsimp only at this;omega))⟩
      have ZF:w.grownBy w6 (some b):=⟨LQ.os.trans DL.os,LQ.tape.trans DL.tape,LQ.output.trans DL.output,aa1 DL.size LQ.size,fun x hx hne=>(LQ.block x (abd hx DL.size) (ot x hx)).trans (DL.block x hx hne)⟩;have WC:=ζ Zu;have TD:=ζ ZF;clear UZ LQ afn kL Dx Me DL Zu ZF hcl;go_wp2;go_roundw
      case rel=>exact⟨k',f,l++[v'],by simp,by simp;have:=HL.out;omega,by omega,HO6.out,WC.out,TD.out,Y3.out⟩
      case measure=>
       have e1:posOf w6 b=k':=WC.out.ng.pos;have e2:posOf wr b=j:=HP.out;rw[e1,e2];omega
     .refine⟨rfl,aj TE.out sG,.inr ⟨j+1,?_,rfl⟩⟩
      rw[<-HRJ.out];obtain⟨f,rfl⟩:∃f',f=f'+1:=⟨f-1,by omega⟩;exact Ce.RY hl0 (fun v k hm=>by rw[HX.out];exact hno v k hm)
    .clear hown hrt hgr
     go_wp2_with (go_at_call 115;refine(BX.out.IJ gi).mono ?_;refine aaI ?_);refine ζ ?_;rintro e w4 ⟨rfl,hg4,h4⟩;have gT:=HO.out.kept hg4 (by omega);have Nj:=ζ gT;have H4:=ζ h4;have TE:=ζ (aj jQ.out hg4);clear gT h4 hg4;by_cases h10:Ce.bD n g j=10
     .rw[if_pos h10] at Mb
      go_wp2_with (go_at_call 117;refine(H4.out.yes (by decide) h10).mono ?_;refine aaI ?_);refine ζ ?_;rintro e w5 ⟨rfl,sG,h5⟩;have Dx:=Nj.out.kept sG (by omega);go_wp2;go_ret;exact⟨aj TE.out sG,.inl ⟨l,j+1,_,Mb.symm,rfl,Dx,h5.ng,h5.pos⟩⟩
     .rw[if_neg h10,if_neg gi] at Mb
      go_wp2_with (go_at_call 117;refine(H4.out.no h10).mono ?_;refine aaI ?_);refine ζ ?_;rintro e w5 ⟨rfl,sG⟩;exact⟨rfl,aj TE.out sG,.inr ⟨j,Mb.symm,rfl⟩⟩
  .have hR:=HR.out
   have hm:Ce.num (Ce.bD n g) n p=none:=by
    cases hm:Ce.num (Ce.bD n g) n p with
    |none=>rfl
    |some q=>
     have h1:=hno q.1 q.2 hm;have h2:=(Ce.fS (H1.out.pos) hm).1.1;omega
   rw[Ce.rC,hm] at hR;exact⟨rfl,aj dB.out hg2,.inr ⟨p,hR.symm,rfl⟩⟩
end
section
open Go.Proofs.Tryz
open Go.RowKit
section
variable {w:World} {b:Nat} {ao:Option Addr} {n cap p:Nat} {g:Nat->Int}
theorem cU.QT (h:cU w b ao n cap p g) {most k:Int} {j:Nat} (hm:Ce.cnt (Ce.bD n g) n most p= .ok (k,j)):
 Calls prog 168 #[.pointer (some ⟨b,0,none⟩),.int .i64 most] w fun e w'=>e= .returned (.int .i64 k)/\w.grownBy w' (some b)/\cU w' b ao n cap j g:=
 (yy h most).mono fun _ _ ⟨hg,hx⟩=>by
   rcases hx with ⟨a,q,v,h1,h2,⟨rfl,-⟩,h3,h4⟩|⟨q,h1,-⟩
   .rw[hm] at h1
    cases h1;exact⟨h2,hg,h.next hg h3 h4⟩
   .rw[hm] at h1
    cases h1
theorem cU.VX (h:cU w b ao n cap p g) {most:Int} {q:Nat} (hm:Ce.cnt (Ce.bD n g) n most p= .error q):
 Calls prog 168 #[.pointer (some ⟨b,0,none⟩),.int .i64 most] w fun e w'=>e=b8 q/\w.grownBy w' (some b):=
 (yy h most).mono fun _ _ ⟨hg,hx⟩=>by
   rcases hx with ⟨a,q,v,h1,-⟩|⟨q,h1,h2⟩
   .rw[hm] at h1
    cases h1
   .rw[hm] at h1
    cases h1;exact⟨h2,hg⟩
theorem cU.XV (h:cU w b ao n cap p g) {l:List Int} {j:Nat} (hm:Ce.iU (Ce.bD n g) n p= .ok (l,j)):
 Calls prog 169 #[.pointer (some ⟨b,0,none⟩)] w fun e w'=>∃xa xc,e= .returned (.slice xa l.length xc)/\w.grownBy w' (some b)/\ak w' w.heap.size (.slice xa l.length xc) l/\cU w' b ao n cap j g:=
 (AW h).mono fun _ _ ⟨hg,hx⟩=>by
   rcases hx with ⟨a,q,v,h1,h2,h3,h4,h5⟩|⟨q,h1,-⟩
   .rw[hm] at h1
    cases h1;obtain⟨xa,xc,rfl,-,-⟩:=h3.form;exact⟨xa,xc,h2,hg,h3,h.next hg h4 h5⟩
   .rw[hm] at h1
    cases h1
theorem cU.aaW (h:cU w b ao n cap p g) {q:Nat} (hm:Ce.iU (Ce.bD n g) n p= .error q):
 Calls prog 169 #[.pointer (some ⟨b,0,none⟩)] w fun e w'=>e=b8 q/\w.grownBy w' (some b):=
 (AW h).mono fun _ _ ⟨hg,hx⟩=>by
   rcases hx with ⟨a,q,v,h1,-⟩|⟨q,h1,h2⟩
   .rw[hm] at h1
    cases h1
   .rw[hm] at h1
    cases h1;exact⟨h2,hg⟩
theorem cU.YH (h:cU w b ao n cap p g) {la lb u v:Int} {j:Nat} (hm:Ce.oT (Ce.bD n g) n p (la,lb)= .ok ((u,v),j)):
 Calls prog 170 #[.pointer (some ⟨b,0,none⟩),.agg #[.int .i64 la,.int .i64 lb]] w fun e w'=>e= .returned (.agg #[.int .i64 u,.int .i64 v])/\w.grownBy w' (some b)/\cU w' b ao n cap j g:=
 (Bb h la lb).mono fun _ _ ⟨hg,hx⟩=>by
   rcases hx with ⟨a,q,v,h1,h2,rfl,h4,h5⟩|⟨q,h1,-⟩
   .rw[hm] at h1
    cases h1;exact⟨h2,hg,h.next hg h4 h5⟩
   .rw[hm] at h1
    cases h1
theorem cU.acu (h:cU w b ao n cap p g) {la lb:Int} {q:Nat} (hm:Ce.oT (Ce.bD n g) n p (la,lb)= .error q):
 Calls prog 170 #[.pointer (some ⟨b,0,none⟩),.agg #[.int .i64 la,.int .i64 lb]] w fun e w'=>e=b8 q/\w.grownBy w' (some b):=
 (Bb h la lb).mono fun _ _ ⟨hg,hx⟩=>by
   rcases hx with ⟨a,q,v,h1,-⟩|⟨q,h1,h2⟩
   .rw[hm] at h1
    cases h1
   .rw[hm] at h1
    cases h1;exact⟨h2,hg⟩
end
theorem BC {ops:Array Oper} {rest:List Oper} {o:Oper} {a:Act} {Q:Exit->Act->World->Prop} (hgd:o.guard=none) (s x:Operand)
 (ho:o.op= .call { callee:= .builtin .append,args:= #[s,x],argTypes:= #[139,139] }) (W:World) (B:Nat) (v:Value) (vs:List Value) (m:Nat) (xa:Option Addr) (xn xc:Nat) (hown:W.ownsRow B 55 1 v m vs)
 (hB:B<=W.heap.size) (hl:m<=4398046511000) (hs:a.eval s=v) (hx:a.eval x= .slice (some ⟨W.heap.size,0,none⟩) 1 1)
 (h:∀v' w',w'.ownsRow B 55 1 v' (m+1) (vs++[.slice xa xn xc])->(W.alloc (.cells #[.slice xa xn xc] 55)).grownBy w' v.ownBlock->(v'.ownBlock=v.ownBlock\/v'.ownBlock=some (W.heap.size+1))->wpList prog ops Q rest (a.put o.dst v') w'):
 wpList prog ops Q (o::rest) a (W.alloc (.cells #[.slice xa xn xc] 55)):=by
 obtain⟨i1,hi1,hy0,hy1,hy2⟩:=info_parts Tryz.nu;refine wpList_append_own_at _ hgd s x 139 ho B 55 i1 (.slice none 0 0) 1 24 Tryz.underlying139 hi1 hy0 hy1 hy2 rfl (by decide) _ _ _ hs (abv hown _) ⟨W.heap.size,0,none⟩ 1 1 [.slice xa xn xc] hx rfl (cell_one_new _ _ _) (by simp[Value.oneCell']) (by unfold maxLen;omega) (by omega) (by simp;omega) ?_;intro v' w' hown' hg _ h5;rw[aa7] at h5;exact h v' w' hown' hg h5
theorem BB {ops:Array Oper} {rest:List Oper} {o:Oper} {a:Act} {Q:Exit->Act->World->Prop} (hgd:o.guard=none) (s x:Operand)
 (ho:o.op= .call { callee:= .builtin .append,args:= #[s,x],argTypes:= #[140,140] }) (W:World) (B:Nat) (v:Value) (l:List (Int×Int)) (y z:Int) (hown:aW W B v l)
 (hB:B<=W.heap.size) (hl:l.length<=8796093022000) (hs:a.eval s=v) (hx:a.eval x= .slice (some ⟨W.heap.size,0,none⟩) 1 1)
 (h:∀v' w',aW w' B v' (l++[(y,z)])->(W.alloc (.cells #[.int .i64 y,.int .i64 z] 66)).grownBy w' v.ownBlock->wpList prog ops Q rest (a.put o.dst v') w'):
 wpList prog ops Q (o::rest) a (W.alloc (.cells #[.int .i64 y,.int .i64 z] 66)):=by
 obtain⟨i0,hi,hz0,hz1,hz2⟩:=info_parts Tryz.zP;refine wpList_append_own _ hgd s x 140 ho B 66 i0 (.agg #[.int .i64 0,.int .i64 0]) 2 16 Tryz.underlying140 hi hz0 hz1 hz2 rfl (by decide) _ _ _ hs (abv hown _) ⟨W.heap.size,0,none⟩ 1 1 [.int .i64 y,.int .i64 z] hx rfl (qx _ _ rfl _ _ _) (by simp[Value.oneCell']) (by unfold maxLen;omega) (by omega) (by simp;omega) ?_;intro v' w' hown' hg _;refine h v' w' ?_ hg;unfold aW;rw[oz,aaZ];exact hown'
theorem cU.appended {w w2:World} {b B:Nat} {ao:Option Addr} {n cap p:Nat} {g:Nat->Int} {o:Obj} {r:Option Nat} (h:cU w b ao n cap p g) (hg:(w.alloc o).grownBy w2 r) (hr:∀x,r=some x->B<=x) (hb:b<B):cU w2 b ao n cap p g:=by
 have ha:=h.later ((aaG _ _).alloc (aaF _) o);have ot:∀x,x<B->some x≠r:=fun x hx e=>by have:=hr x e.symm;omega
 refine⟨ha.ng.kept hg (ot b hb),fun i hi=> ?_,ha.FW,ha.len,ha.fit,ha.pos⟩;obtain⟨hb',tb,tq,e,hc⟩:=ha.txt i hi;exact⟨hb',tb,tq,e,hg.cell hc (ot tb (by have:=(ha.FW _ e).1;dsimp only at this;omega))⟩
theorem ox {w W w2:World} {o:Obj} {r:Option Nat} {b:Nat} (h:w.grownBy W (some b)) (hg:(W.alloc o).grownBy w2 r) (hr:∀x,r=some x->w.heap.size<=x):w.grownBy w2 (some b):=by
 have ha:=bO h o;refine⟨hg.os.trans ha.os,hg.tape.trans ha.tape,hg.output.trans ha.output,aa1 ha.size hg.size,fun k hk hne=> ?_⟩;rw[hg.block k (abd hk ha.size) (fun e=>by have:=hr k e.symm;omega)];exact ha.block k hk hne
theorem ay.Ov {w w':World} {B b:Nat} {v:Value} {vs:List Value} {ls:List (List Int)} (h:ay w B v vs ls) (hg:w.grownBy w' (some b)) (hb:b<B):ay w' B v vs ls:=
 h.same fun k h1 h2=>hg.block k h2 (by simp;omega)
theorem aW.Ov {w w':World} {B b:Nat} {v:Value} {es:List (Int×Int)} (h:aW w B v es) (hg:w.grownBy w' (Option.some b)) (hb:b<B):aW w' B v es:=
 cO h fun k _ h1 h2=>hg.block k h2 (by simp;omega)
def Ce.RF (B:Nat->Int) (n i:Nat):Except Nat (List (List Int)×Nat):=match Ce.cnt B n 1048576 i with| .error e=> .error e| .ok (k,j)=>Ce.lists B n k.toNat [] j
def Ce.prt (B:Nat->Int) (n i:Nat):Except Nat (List (Int×Int)×Nat):=match Ce.cnt B n 4194304 i with| .error e=> .error e| .ok (k,j)=>Ce.gC B n k.toNat [] (0,0) j
theorem Ce.yC {B:Nat->Int} {n i j:Nat} {most k:Int} (hi:i+1<=n) (h:Ce.cnt B n most i= .ok (k,j)):0<=k/\k<=most:=by
 unfold Ce.cnt at h
 split at h
 .cases h
 .cases hm:Ce.num B n (i+1) with
  |none=>rw[hm] at h;cases h
  |some q=>
   obtain⟨k',e⟩:=q;rw[hm] at h;dsimp only at h;have:=(Ce.fS hi hm).1.1
   split at h
   .cases h
   .split at h
    .cases h
    .cases h
     omega
theorem Ce.QO {B:Nat->Int} {n i j:Nat} {most k:Int} (hT:Ce.qg B n) (h:Ce.cnt B n most i= .ok (k,j)):i+1<=n:=by
 unfold Ce.cnt at h
 split at h
 .cases h
 .rename_i gi
  exact Ce.gw hT (aa2 gi:B i=32) (by decide)
theorem vp {b:Nat} {ao:Option Addr} {n cap p:Nat} {g:Nat->Int} {w:World} (h:cU w b ao n cap p g):
 Calls prog 116 #[.pointer (some ⟨b,0,none⟩)] w (Tk (Ce.RF (Ce.bD n g) n p) (fun ls w' v=>∃vs,ay w' w.heap.size v vs ls) b ao n cap w):=by
 have dO:=h.ng.lt;obtain⟨R,hR⟩:∃R,Ce.RF (Ce.bD n g) n p=R:=⟨_,rfl⟩;rw[hR];unfold Ce.RF at hR;have H:=ζ h;cases hm:Ce.cnt (Ce.bD n g) n 1048576 p with
 |error q=>
  rw[hm] at hR;clear h;go_enter func116,ntmps116;go_wp2_with (go_at_call 168;refine(H.out.VX hm).mono ?_;rintro e w1 ⟨he,hg1⟩;rw[b8] at he;subst he);exact⟨rfl,hg1,.inr ⟨q,hR.symm,rfl⟩⟩
 |ok q=>
  obtain⟨k,j⟩:=q;rw[hm] at hR;dsimp only at hR;obtain⟨k0,k1⟩:=Ce.yC (Ce.QO h.txt.txt hm) hm;obtain⟨K,rfl⟩:∃K:Nat,k=(K:Int):=⟨k.toNat,by omega⟩;rw[abu] at hR;have HR:=ζ hR;clear hR h k0;go_enter func116,ntmps116;go_wp2_with (go_at_call 168;refine(H.out.QT hm).mono ?_;rintro e w1 ⟨rfl,hg1,h1⟩;have dB:=ζ hg1;have H1:=ζ h1;clear hg1 h1);go_loopw [3,6] (fun va iv wr=>∃(i q:Nat) (vs:List Value) (ls:List (List Int)),i<=K/\iv= .int .i64 (i:Int)/\ls.length=i/\ay wr w.heap.size va vs ls/\cU wr b ao n cap q g/\w.grownBy wr (some b)/\Ce.lists (Ce.bD n g) n (K-i) ls q=R) (fun _ iv _=>K-(intOf iv).toNat)
  case atStart=>exact⟨0,j,[],[],aaR _,rfl,rfl,ay.nil _ _,H1.out,dB.out,HR.out⟩
  case round=>
   obtain⟨_,q,vs,ls,hi,rfl,rfl,hrows,hrt,hgr,nC⟩:=hrel;have kP:=ζ hrows;have BX:=ζ hrt;have jQ:=ζ hgr;have Qs:=hgr.size;obtain⟨Rf,Re,rfl⟩:=bG hrows;clear hrows hrt hgr;by_cases hlt:ls.length<K
   .have aP:(ls.length:Int)<(K:Int):=by omega
    obtain⟨d,hd⟩:∃d,K-ls.length=d+1:=⟨K-ls.length-1,by omega⟩;rw[hd] at nC;have nC:(match Ce.iU (Ce.bD n g) n q with| .error e=> .error e| .ok (l,j)=>Ce.lists (Ce.bD n g) n d (ls++[l]) j)=R:=nC;cases hm2:Ce.iU (Ce.bD n g) n q with
    |error x=>
     rw[hm2] at nC;go_wp2_with (go_at_call 169;refine(BX.out.aaW hm2).mono ?_;rintro e w2 ⟨he,hg2⟩;rw[b8] at he;subst he);exact⟨rfl,aj jQ.out hg2,.inr ⟨x,nC.symm,rfl⟩⟩
    |ok x=>
     obtain⟨l,q2⟩:=x;rw[hm2] at nC;dsimp only at nC;have HRI:=ζ nC;clear nC;go_wp2_with (first|(go_at_call 169;refine(BX.out.XV hm2).mono ?_;rintro e w2 ⟨xa,xc,rfl,hg2,hx,h2⟩;have cA:=ζ hg2;have HX:=ζ hx;have H2:=ζ h2;have Wx:=ζ (kP.out.Ov hg2 dO);have hsz2:=hg2.size;clear hg2 hx h2)|(at_builtin;refine BC rfl _ _ rfl w2 w.heap.size _ vs ls.length xa l.length xc Wx.out.outer (by omega) (by omega) rfl rfl ?_;refine aaI ?_));refine ζ ?_;intro v' w3 pQ hg3 gU;have eT:∀x,(Value.slice Rf ls.length Re).ownBlock=some x->w.heap.size<=x:=fun x e=>(aaO Wx.out.outer x e).1
     have Qt:∀(u:Nat) (y:Value) (c:Nat),vs[u]? =some y->y.ownBlock=some c->c<wr.heap.size:=fun u y c hy hc=>by
      obtain⟨m,hm⟩:=kP.out.at hy;exact(aaO (kP.out.row u y m hy hm) c hc).2
     have Qw:∀c,(Value.slice Rf ls.length Re).ownBlock=some c->c<wr.heap.size:=fun c hc=>(aaO kP.out.outer c hc).2
     have UD:∀c,(Value.slice xa l.length xc).ownBlock=some c->wr.heap.size<=c:=fun c hc=>(aaO HX.out c hc).1
     have jl:=ζ (Wx.out.grow (HX.out.lower Qs) (fun u y c hy hc hxc=>by have:=Qt u y c hy hc;have:=UD c hxc;omega) (fun c hc hxc=>by have:=Qw c hc;have:=UD c hxc;omega) pQ hg3 gU);have H3:=ζ (H2.out.appended hg3 eT dO);have iC:=ζ (ox (aj jQ.out cA.out) hg3 eT);clear pQ hg3 gU eT Qt Qw UD;go_wp2;go_roundw
     case rel=>exact⟨ls.length+1,q2,vs++[.slice xa l.length xc],ls++[l],by omega,by go_num,by simp,jl.out,H3.out,iC.out,by rw[show K-(ls.length+1)=d by omega];exact HRI.out⟩
     case measure=>simp[intOf];omega
   .have aP:¬((ls.length:Int)<(K:Int)):=by omega
    rw[show K-ls.length=0 by omega] at nC;go_wp2;go_ret;exact⟨jQ.out,.inl ⟨ls,q,_,nC.symm,rfl,⟨vs,kP.out⟩,BX.out.ng,BX.out.pos⟩⟩
end
section
open Go.Proofs.Tryz
open Go.RowKit
theorem Wd.set {W:World} {B:Nat} {la lb:Int} (h:W.heap[B]? =some (.cells #[.int .i64 la,.int .i64 lb] 66 (0,0))) (x y:Int):((W.setCell ⟨B,0,none⟩ (.int .i64 x)).setCell ⟨B,1,none⟩ (.int .i64 y)).heap[B]? =some (.cells #[.int .i64 x,.int .i64 y] 66 (0,0)):=by
 rw[heap_setCell_same _ B 1 _ _ _ (heap_setCell_same W B 0 _ _ _ h)];simp
theorem AP {b:Nat} {ao:Option Addr} {n cap p:Nat} {g:Nat->Int} {w:World} (h:cU w b ao n cap p g):
 Calls prog 118 #[.pointer (some ⟨b,0,none⟩)] w (Tk (Ce.prt (Ce.bD n g) n p) (fun es w' v=>aW w' w.heap.size v es) b ao n cap w):=by
 have dO:=h.ng.lt;obtain⟨R,hR⟩:∃R,Ce.prt (Ce.bD n g) n p=R:=⟨_,rfl⟩;rw[hR];unfold Ce.prt at hR;have H:=ζ (h.later ((aaG _ _).alloc (aaF _) (.cells #[.int .i64 0,.int .i64 0] 66)));have HG:=ζ (ab4 w (.cells #[.int .i64 0,.int .i64 0] 66) (some b));have HL:=ζ (heap_alloc_new w (.cells #[.int .i64 0,.int .i64 0] 66));cases hm:Ce.cnt (Ce.bD n g) n 4194304 p with
 |error q=>
  rw[hm] at hR;clear h;go_enter func118,ntmps118;go_wp2_with (go_at_call 168;refine(H.out.VX hm).mono ?_;rintro e w1 ⟨he,hg1⟩;rw[b8] at he;subst he);exact⟨rfl,aj HG.out hg1,.inr ⟨q,hR.symm,rfl⟩⟩
 |ok q=>
  obtain⟨k,j⟩:=q;rw[hm] at hR;dsimp only at hR;obtain⟨k0,k1⟩:=Ce.yC (Ce.QO h.txt.txt hm) hm;obtain⟨K,rfl⟩:∃K:Nat,k=(K:Int):=⟨k.toNat,by omega⟩;rw[abu] at hR;have HR:=ζ hR;clear hR h k0;go_enter func118,ntmps118;go_wp2_with (go_at_call 168;refine(H.out.QT hm).mono ?_;rintro e w1 ⟨rfl,hg1,h1⟩;have dB:=ζ (aj HG.out hg1);have H1:=ζ h1;have lG:=ζ ((hg1.block w.heap.size (by simp) (by simp;omega)).trans HL.out);clear hg1 h1);go_loopw [3,7] (fun va iv wr=>∃(i q:Nat) (es:List (Int×Int)) (la lb:Int),i<=K/\iv= .int .i64 (i:Int)/\es.length=i/\aW wr (w.heap.size+1) va es/\wr.heap[w.heap.size]? =some (.cells #[.int .i64 la,.int .i64 lb] 66 (0,0))/\cU wr b ao n cap q g/\w.grownBy wr (some b)/\Ce.gC (Ce.bD n g) n (K-i) es (la,lb) q=R) (fun _ iv _=>K-(intOf iv).toNat)
  case atStart=>exact⟨0,j,[],0,0,aaR _,rfl,rfl,aW.nil _ _,lG.out,H1.out,dB.out,HR.out⟩
  case round=>
   obtain⟨_,q,es,la,lb,hi,rfl,rfl,hown,hla,hrt,hgr,nC⟩:=hrel;have HOW:=ζ hown;have Y6:=ζ hla;have BX:=ζ hrt;have jQ:=ζ hgr;have Qs:w.heap.size<wr.heap.size:=lt_of_block hla;obtain⟨Rf,Re,rfl,-⟩:=hown.form;obtain⟨c0,c1,-⟩:=aU hla;clear hown hla hrt hgr;by_cases hlt:es.length<K
   .have aP:(es.length:Int)<(K:Int):=by omega
    obtain⟨d,hd⟩:∃d,K-es.length=d+1:=⟨K-es.length-1,by omega⟩;rw[hd] at nC;have nC:(match Ce.oT (Ce.bD n g) n q (la,lb) with| .error e=> .error e| .ok (p,j)=>Ce.gC (Ce.bD n g) n d (es++[p]) p j)=R:=nC;cases hm2:Ce.oT (Ce.bD n g) n q (la,lb) with
    |error x=>
     rw[hm2] at nC;go_wp2_with (go_at_call 170;refine(BX.out.acu hm2).mono ?_;rintro e w2 ⟨he,hg2⟩;rw[b8] at he;subst he);exact⟨rfl,aj jQ.out hg2,.inr ⟨x,nC.symm,rfl⟩⟩
    |ok x=>
     obtain⟨⟨y,z⟩,q2⟩:=x;rw[hm2] at nC;dsimp only at nC;have HRI:=ζ nC;clear nC;go_wp2_with (go_at_call 170;refine(BX.out.YH hm2).mono ?_;rintro e w2 ⟨rfl,hg2,h2⟩;have hl2:=(hg2.block w.heap.size Qs (by simp;omega)).trans Y6.out;have d0:=(aU hl2).1;have d1:=(aU hl2).2.1;have df:=(aU hl2).2.2;refine aaI ?_);refine ζ ?_;have hown2:=HOW.out.Ov hg2 (by omega);have iC:=ζ (dX (dX (aj jQ.out hg2) (b:=w.heap.size) (aaF _) 0 (.int .i64 y)) (b:=w.heap.size) (aaF _) 1 (.int .i64 z));have H3:=ζ ((h2.set (B:=w.heap.size) dO 0 (.int .i64 y)).set (B:=w.heap.size) dO 1 (.int .i64 z));have oZ:=ζ (Wd.set hl2 y z)
     have qF:aW ((w2.setCell ⟨w.heap.size,0,none⟩ (.int .i64 y)).setCell ⟨w.heap.size,1,none⟩ (.int .i64 z)) (w.heap.size+1) (.slice Rf es.length Re) es:=
      cO hown2 fun c _ h1 _=>by
       rw[heap_setCell_other _ ⟨w.heap.size,1,none⟩ c _ (by dsimp only;omega),heap_setCell_other _ ⟨w.heap.size,0,none⟩ c _ (by dsimp only;omega)]
     have UL:w.heap.size+1<=((w2.setCell ⟨w.heap.size,0,none⟩ (.int .i64 y)).setCell ⟨w.heap.size,1,none⟩ (.int .i64 z)).heap.size:=by have:=hg2.size;simp;omega
     clear hg2 h2 hl2 hown2 c0 c1;have eB:es.length<=8796093022000:=by omega
     have Wq:Hid (w2.heap.size=((w2.setCell ⟨w.heap.size,0,none⟩ (.int .i64 y)).setCell ⟨w.heap.size,1,none⟩ (.int .i64 z)).heap.size):=ζ (by simp);go_wp2_with (at_builtin;refine BB rfl _ _ rfl _ (w.heap.size+1) (.slice Rf es.length Re) es y z qF UL eB rfl (by exact congrArg (fun k=>Value.slice (some ⟨k,0,none⟩) 1 1) Wq.out) ?_;refine aaI ?_);refine ζ ?_;intro v' w5 Sw sG;have hw2:w.heap.size<w2.heap.size:=by have:=Wq.out;omega
     have eT:∀x,(Value.slice Rf es.length Re).ownBlock=some x->w.heap.size+1<=x:=fun x e=>(aaO qF x e).1
     have H5:=ζ (H3.out.appended sG eT (by omega));have Ga:=ζ (ox iC.out sG (fun x e=>by have:=eT x e;omega));have WS:=ζ ((sG.block w.heap.size (by simp;omega) (fun e=>by have:=eT _ e.symm;omega)).trans ((aa0 _ _ _ (by simp;omega)).trans oZ.out));have PK:=ζ Sw;clear Sw sG eT qF UL Wq;go_wp2;go_roundw
     case rel=>exact⟨es.length+1,q2,es++[(y,z)],y,z,by omega,by go_num,by simp,PK.out,WS.out,H5.out,Ga.out,by rw[show K-(es.length+1)=d by omega];exact HRI.out⟩
     case measure=>simp[intOf];omega
   .have aP:¬((es.length:Int)<(K:Int)):=by omega
    rw[show K-es.length=0 by omega] at nC;go_wp2;go_ret;exact⟨jQ.out,.inl ⟨es,q,_,nC.symm,rfl,HOW.out.lower (by omega),BX.out.ng,BX.out.pos⟩⟩
end
section
open Go.Proofs.Tryz
open Go.RowKit
def Ce.prf (B:Nat->Int) (n:Nat):Except Nat (Ce.Cert×Nat):=
 if B 0=112 then (match Ce.RF B n 1 with| .error e=> .error e| .ok (ls,j)=> .ok (⟨true,ls,[]⟩,j))
 else if B 0=110 then (match Ce.prt B n 1 with| .error e=> .error e| .ok (es,j)=> .ok (⟨false,[],es⟩,j)) else .error 0
def yM (c:Ce.Cert) (w:World) (B:Nat) (v:Value):Prop:=
 (c.pl=true/\c.es=[]/\∃va vs,v= .iface 139 va/\ay w B va vs c.ar)\/(c.pl=false/\c.ar=[]/\∃ve,v= .iface 140 ve/\aW w B ve c.es)
theorem IE {b:Nat} {ao:Option Addr} {n cap:Nat} {g:Nat->Int} {w:World} (h:cU w b ao n cap 0 g):
 Calls prog 75 #[.pointer (some ⟨b,0,none⟩)] w (Tk (Ce.prf (Ce.bD n g) n) (fun c w' v=>yM c w' w.heap.size v) b ao n cap w):=by
 obtain⟨R,hR⟩:∃R,Ce.prf (Ce.bD n g) n=R:=⟨_,rfl⟩;rw[hR];unfold Ce.prf at hR;have H:=ζ h;clear h;by_cases h1:Ce.bD n g 0=112
 .rw[if_pos h1] at hR
  go_enter func75,ntmps75;go_wp2_with (go_at_call 115;refine(H.out.CY (by decide) h1).mono ?_;rintro e w1 ⟨rfl,hg1,h1'⟩;have dB:=ζ hg1;have H1:=ζ h1';clear hg1 h1';refine aaI ?_);refine ζ ?_;cases hm:Ce.RF (Ce.bD n g) n 1 with
  |error q=>
   rw[hm] at hR;go_wp2_with (go_at_call 116;refine(vp H1.out).mono ?_;rintro e w2 ⟨hg2,hx⟩;obtain⟨_,hx1,he⟩:=hx.resolve_left (by rintro⟨_,_,_,hx,-⟩;rw[hm] at hx;cases hx);rw[hm] at hx1;cases hx1;rw[b8] at he;subst he);exact⟨rfl,aj dB.out hg2,.inr ⟨q,hR.symm,rfl⟩⟩
  |ok q=>
   obtain⟨ls,j⟩:=q;rw[hm] at hR;go_wp2_with (go_at_call 116;refine(vp H1.out).mono ?_;rintro e w2 ⟨hg2,hx⟩;obtain⟨_,_,v,hx1,rfl,⟨vs,hrows⟩,h2,h3⟩:=hx.resolve_right (by rintro⟨_,hx,-⟩;rw[hm] at hx;cases hx);rw[hm] at hx1;cases hx1);go_ret;exact⟨aj dB.out hg2,.inl ⟨_,j,_,hR.symm,rfl,.inl ⟨rfl,rfl,_,vs,rfl,hrows.lower dB.out.size⟩,h2,h3⟩⟩
 .rw[if_neg h1] at hR
  go_enter func75,ntmps75;go_wp2_with (go_at_call 115;refine(H.out.IJ h1).mono ?_;rintro e w1 ⟨rfl,hg1,h1'⟩;have dB:=ζ hg1;have H1:=ζ h1';clear hg1 h1';refine aaI ?_);refine ζ ?_;by_cases h2:Ce.bD n g 0=110
  .rw[if_pos h2] at hR
   go_wp2_with (go_at_call 117;refine(H1.out.yes (by decide) h2).mono ?_;rintro e w2 ⟨rfl,hg2,h2'⟩;have cA:=ζ (aj dB.out hg2);have H2:=ζ h2';clear hg2 h2';refine aaI ?_);refine ζ ?_;cases hm:Ce.prt (Ce.bD n g) n 1 with
   |error q=>
    rw[hm] at hR;go_wp2_with (go_at_call 118;refine(AP H2.out).mono ?_;rintro e w3 ⟨hg3,hx⟩;obtain⟨_,hx1,he⟩:=hx.resolve_left (by rintro⟨_,_,_,hx,-⟩;rw[hm] at hx;cases hx);rw[hm] at hx1;cases hx1;rw[b8] at he;subst he);exact⟨rfl,aj cA.out hg3,.inr ⟨q,hR.symm,rfl⟩⟩
   |ok q=>
    obtain⟨es,j⟩:=q;rw[hm] at hR;go_wp2_with (go_at_call 118;refine(AP H2.out).mono ?_;rintro e w3 ⟨hg3,hx⟩;obtain⟨_,_,v,hx1,rfl,hown,h3,h4⟩:=hx.resolve_right (by rintro⟨_,hx,-⟩;rw[hm] at hx;cases hx);rw[hm] at hx1;cases hx1);go_ret;exact⟨aj cA.out hg3,.inl ⟨_,j,_,hR.symm,rfl,.inr ⟨rfl,rfl,_,rfl,hown.lower cA.out.size⟩,h3,h4⟩⟩
  .rw[if_neg h2] at hR
   go_wp2_with (go_at_call 117;refine(H1.out.no h2).mono ?_;rintro e w2 ⟨he,hg2⟩;rw[b8] at he;subst he);exact⟨rfl,aj dB.out hg2,.inr ⟨0,hR.symm,rfl⟩⟩
end
section
open Go.Proofs.Tryz
open Go.RowKit
theorem FV (p q r:Addr) (w:World):
 CallsD prog 74 #[.pointer (some p),.pointer (some q),.pointer (some r)] .returning w fun e u' w'=>e= .returned (.tuple #[])/\u'= .returning/\w'=w:=by
 refine callsD_of_wpS func74 rfl fun c₀ cs hu=> ?_
 apply wpS_seq;apply wpS_region;simp[wpOpsS,go_sem,recoverD,hu,ntmps74,Exit.thenS];refine wpS_of_wp ?_;go_wp2;cases c₀
 simp_all[bodyPostS,results,results74]
structure rE (w:World) (A:Nat) (v:Value) (x:Int) (t:Bool):Prop where
 prf:w.heap[A]? =some (.cells #[v] 92 (0,0))
 place:w.heap[A+1]? =some (.cells #[.int .i64 x] 3 (0,0))
 is:w.heap[A+2]? =some (.cells #[.bool t] 4 (0,0))
theorem rE.lX {w:World} {A:Nat} {v v':Value} {x x':Int} {t t':Bool} (h:rE w A v x t):rE (((w.setCell ⟨A,0,none⟩ v').setCell ⟨A+1,0,none⟩ (.int .i64 x')).setCell ⟨A+2,0,none⟩ (.bool t')) A v' x' t':=by
 refine⟨?_,?_,?_⟩
 .rw[heap_setCell_other _ ⟨A+2,0,none⟩ A _ (by simp),heap_setCell_other _ ⟨A+1,0,none⟩ A _ (by simp)]
  exact one_setCell h.prf
 .rw[heap_setCell_other _ ⟨A+2,0,none⟩ (A+1) _ (by simp)]
  refine one_setCell (v:= .int .i64 x) ?_;rw[heap_setCell_other _ ⟨A,0,none⟩ (A+1) _ (by simp)];exact h.place
 .refine one_setCell (v:= .bool t) ?_
  rw[heap_setCell_other _ ⟨A+1,0,none⟩ (A+2) _ (by simp),heap_setCell_other _ ⟨A,0,none⟩ (A+2) _ (by simp)];exact h.is
theorem rE.below {w w':World} {A B:Nat} {v:Value} {x:Int} {t:Bool} (h:rE w A v x t) (hb:w.grownBy w' (some B)) (hB:A+2<B):rE w' A v x t:=
 ⟨(hb.block A (lt_of_block h.prf) (by simp;omega)).trans h.prf,(hb.block (A+1) (lt_of_block h.place) (by simp;omega)).trans h.place,(hb.block (A+2) (lt_of_block h.is) (by simp;omega)).trans h.is⟩
theorem Bk {w W:World} {A:Nat} (h:Below w.heap.size w W) (hA:w.heap.size<=A) (a b c:Value):Below w.heap.size w (((W.setCell ⟨A,0,none⟩ a).setCell ⟨A+1,0,none⟩ b).setCell ⟨A+2,0,none⟩ c):=
 ((h.setCell (p:=⟨A,0,none⟩) hA a).setCell (p:=⟨A+1,0,none⟩) (by dsimp only;omega) b).setCell (p:=⟨A+2,0,none⟩) (by dsimp only;omega) c
theorem sY (A q:Nat) (v:Value) (x:Int) (t:Bool) (w0 w:World) (hr:rE w A v x t) (h0:Below w0.heap.size w0 w) (hA:w0.heap.size<=A):
 CallsD prog 74 #[.pointer (some ⟨A,0,none⟩),.pointer (some ⟨A+1,0,none⟩),.pointer (some ⟨A+2,0,none⟩)] (.panicking [{ v:= .iface 135 (.int .i64 (q:Int)),recovered:=false }]) w fun e u' w'=>
  e= .returned (.tuple #[])/\u'= .panicking [{ v:= .iface 135 (.int .i64 (q:Int)),recovered:=true }]/\rE w' A .nilIface q false/\Below w0.heap.size w0 w':=by
 have c0:=cell_of_one hr.prf;have c1:=cell_of_one hr.place;have c2:=cell_of_one hr.is;have f0:=free_of_one hr.prf;have f1:=free_of_one hr.place;have f2:=free_of_one hr.is;have zQ:∀(v:Value) (w:World),(Instr.typeAssert (.iface 135 v) 20 135 true).run prog w= .ok (.tuple #[v,.bool true]) w:=fun _ _=>by kernel_rfl
 refine callsD_of_wpS func74 rfl fun c₀ cs hu=> ?_
 apply wpS_seq;apply wpS_region;simp[wpOpsS,go_sem,recoverD,hu,ntmps74,Exit.thenS,Array.replicate];refine wpS_of_wp ?_;have HR:=ζ hr;have H0:=ζ h0;clear hr h0;go_wp2;exact⟨rfl,_,rfl,.tuple #[],by simp[results,results74],rfl,rfl,HR.out.lX,Bk H0.out hA _ _ _⟩
end
end Go.Proofs.YtdbjpbjocmcpkaaGreatDoor
