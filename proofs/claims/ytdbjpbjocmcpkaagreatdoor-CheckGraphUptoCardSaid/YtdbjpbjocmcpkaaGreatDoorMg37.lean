import Derived.Test.YtdbjpbjocmcpkaaGreatDoorMg10
import Derived.Test.YtdbjpbjocmcpkaaGreatDoorMg25
import Derived.Test.YtdbjpbjocmcpkaaGreatDoorMg26
import Derived.Test.YtdbjpbjocmcpkaaGreatDoorMg36
set_option maxHeartbeats 1000000
set_option maxRecDepth 100000
namespace Go.Proofs.YtdbjpbjocmcpkaaGreatDoor
section
open Go.Proofs.Tryz
open Go.RowKit Go.Sort
theorem cQ {w:World} {k:Nat} {t:TypeId} {a b c d e f g:Value} (h:w.heap[k]? =some (.cells #[a,b,c,d,e,f,g] t (0,0))):
 w.cell? ⟨k,0,none⟩=some a/\w.cell? ⟨k,1,none⟩=some b/\w.cell? ⟨k,2,none⟩=some c/\w.cell? ⟨k,3,none⟩=some d/\w.cell? ⟨k,4,none⟩=some e/\w.cell? ⟨k,5,none⟩=some f/\w.cell? ⟨k,6,none⟩=some g/\(∀i,w.frozen? ⟨k,i,none⟩=false):=by
 simp[World.cell?,World.frozen?,h]
section
variable {n:Int} {ao:Option Addr} {ca k:Nat} {es:List (Int×Int)} {q1 q2 q3 q4 q5 q6:Value} {w:World}
theorem A9 (hb:w.heap[k]? =some (.cells #[.int .i64 n,.slice ao es.length ca,q2,q3,q4,q5,q6] 68 (0,0))) (he:ah w ao es) (hl:es.length<=4611686018427387904):
 Calls prog 50 #[.pointer (some ⟨k,0,none⟩)] w fun e w'=>e= .returned (.bool (Si.valid n es))/\Below w.heap.size w w':=by
 obtain⟨c0,c1,-⟩:=cQ hb;have HV:=ζ (ow n ao ca es w he hl);unfold az at HV;have hk:=lt_of_block hb;clear hb he;go_enter func50,ntmps50;go_wp2_with (go_at_call 38;refine HV.out.mono ?_;rintro e w1 ⟨rfl,hb1⟩;have aI:=ζ hb1;clear hb1 c0 c1;refine aaj ?_);refine ζ ?_;go_wp2;go_ret;exact⟨rfl,aI.out⟩
theorem Pd {xo:Option Addr} {xc:Nat} {ls:List (List Int)} (hb:w.heap[k]? =some (.cells #[.int .i64 n,.slice ao es.length ca,q2,q3,q4,.slice xo ls.length xc,q6] 68 (0,0))) (he:ah w ao es) (hl:es.length<=4611686018427387904) (hx:bA w xo ls):
 Calls prog 53 #[.pointer (some ⟨k,0,none⟩)] w fun e w'=>e= .returned (.bool (decide ((Ro.check n es ls).2=0/\Fa.gz n.toNat es ls=0)))/\Below w.heap.size w w':=by
 have hk:=lt_of_block hb;have HV:Hid (∀W,Below w.heap.size w W->_):=fun W hW=>Mx n ao ca es xo xc ls W (he.later hW) hl (hx.later hW)
 generalize decide ((Ro.check n es ls).2=0/\Fa.gz n.toNat es ls=0)=t at HV ⊢;have HS:Hid (∀W,Below w.heap.size w W->(W.cell? ⟨k,0,none⟩=some (.int .i64 n)/\W.cell? ⟨k,1,none⟩=some (.slice ao es.length ca)/\W.cell? ⟨k,5,none⟩=some (.slice xo ls.length xc)/\Below w.heap.size w W)):=fun W hW=>by
  obtain⟨c0,c1,-,-,-,c5,-⟩:=cQ ((hW.block _ hk).trans hb);exact⟨c0,c1,c5,hW⟩
 unfold az at HV;obtain⟨c0,c1,-,-,-,c5,-⟩:=cQ hb;have hbr:Below w.heap.size w w.drew:=(aae _ _).drew;clear hb he hx;go_enter func53,ntmps53;go_wp2_with fail
 go_region_held3 (fun W=>W.cell? ⟨k,0,none⟩=some (.int .i64 n)/\W.cell? ⟨k,1,none⟩=some (.slice ao es.length ca)/\W.cell? ⟨k,5,none⟩=some (.slice xo ls.length xc)/\Below w.heap.size w W)
  (exact HS.out _ (by first|assumption|exact hbr))
  ((go_at_call 95;refine(HV.out _ (by first|assumption|exact hbr)).mono ?_;rintro e w6 ⟨rfl,fP⟩;have hbz:Below w.heap.size w w6:=acI (by first|assumption|exact hbr) (fP.mono (ac6 (by first|assumption|exact hbr)))))
 have G9:=ζ hbz;clear hbz fP HV HS hbr c0 c1 c5;go_wp2;go_ret;exact⟨rfl,G9.out⟩
theorem wD {w':World} {a b c d e f g:Value} {t:TypeId} (h:w.heap[k]? =some (.cells #[a,b,c,d,e,f,g] t (0,0))) (hw:Below w.heap.size w w') (x:Value):
 (w'.setCell ⟨k,5,none⟩ x).heap[k]? =some (.cells #[a,b,c,d,e,x,g] t (0,0))/\(w'.setCell ⟨k,6,none⟩ x).heap[k]? =some (.cells #[a,b,c,d,e,f,x] t (0,0))/\∀i,aq (fun b=>b=k) w (w'.setCell ⟨k,i,none⟩ x):=by
 have h':=(hw.block _ (lt_of_block h)).trans h;refine⟨?_,?_,fun i=>aq.setCell (S:=fun b=>b=k) ((aq.refl _ _).later hw) rfl x⟩
 .rw[heap_setCell_same _ _ _ _ _ _ h']
  rfl
 .rw[heap_setCell_same _ _ _ _ _ _ h']
  rfl
def GR (n:Int) (ao:Option Addr) (ca k:Nat) (es:List (Int×Int)) (q2 q3 q4 q6:Value) (ls:List (List Int)) (w:World) (e:Ending) (w':World):Prop:=
 ∃r,e= .returned (.bool (decide ((Ro.check n es (Ro.hls es 0 ls)).2=0)))/\w'.heap[k]? =some (.cells #[.int .i64 n,.slice ao es.length ca,q2,q3,q4,r,q6] 68 (0,0))/\aq (fun b=>b=k) w w'/\
  ((Ro.check n es (Ro.hls es 0 ls)).2=0->∃rs,ay w' w.heap.size r rs (Ro.hls es 0 ls))
theorem ke.one {ls:List (List Int)} {w':World} {e:Ending} {c:Int} (hc:(Ro.check n es (Ro.hls es 0 ls)).2=c) (h:ke n es ls w e w'):Below w.heap.size w w'/\∃ra rl rc z,e= .returned (.tuple #[.slice ra rl rc,.int .i64 z,.int .i64 c])/\(c=0->∃rs,ay w' w.heap.size (.slice ra rl rc) rs (Ro.hls es 0 ls)):=by
 unfold ke TW at h;rw[hc] at h;obtain⟨hb,⟨h0,rfl⟩|⟨h0,r,rs,rfl,hr⟩⟩:=h
 .exact⟨hb,_,_,_,_,rfl,fun h=>absurd h h0⟩
 .obtain⟨ra,rc,rfl⟩:=bG hr
  exact⟨hb,ra,_,rc,0,by rw[h0],fun _=>⟨rs,hr⟩⟩
theorem Ug {xo:Option Addr} {xc:Nat} {ls:List (List Int)} (hb:w.heap[k]? =some (.cells #[.int .i64 n,.slice ao es.length ca,q2,.slice xo ls.length xc,q4,q5,q6] 68 (0,0))) (he:ah w ao es) (hl:es.length<=4611686018427387904) (hx:bA w xo ls):
 Calls prog 52 #[.pointer (some ⟨k,0,none⟩)] w (GR n ao ca k es q2 (.slice xo ls.length xc) q4 q6 ls w):=by
 have hk:=lt_of_block hb;have HB:=ζ hb;obtain⟨c,hc⟩:∃c,(Ro.check n es (Ro.hls es 0 ls)).2=c:=⟨_,rfl⟩
 have HV:Hid (∀W,Below w.heap.size w W->Calls prog 94 #[.agg #[.int .i64 n,.slice ao es.length ca],.slice xo ls.length xc] W fun e w'=>Below W.heap.size W w'/\∃ra rl rc z,e= .returned (.tuple #[.slice ra rl rc,.int .i64 z,.int .i64 c])/\(c=0->∃rs,ay w' W.heap.size (.slice ra rl rc) rs (Ro.hls es 0 ls))):=
  fun W hW=>(JP n ao ca es xo xc ls W (he.later hW) hl (hx.later hW)).mono fun e w' h=>h.one hc
 have HS:Hid (∀W,Below w.heap.size w W->(W.cell? ⟨k,0,none⟩=some (.int .i64 n)/\W.cell? ⟨k,1,none⟩=some (.slice ao es.length ca)/\W.cell? ⟨k,3,none⟩=some (.slice xo ls.length xc)/\Below w.heap.size w W)):=fun W hW=>by
  obtain⟨c0,c1,-,c3,-⟩:=cQ ((hW.block _ hk).trans hb);exact⟨c0,c1,c3,hW⟩
 obtain⟨c0,c1,-,c3,-⟩:=cQ hb;have hbr:Below w.heap.size w w.drew:=(aae _ _).drew;unfold GR;rw[hc];clear hb he hx hc;go_enter func52,ntmps52;go_wp2_with fail
 go_region_held3 (fun W=>W.cell? ⟨k,0,none⟩=some (.int .i64 n)/\W.cell? ⟨k,1,none⟩=some (.slice ao es.length ca)/\W.cell? ⟨k,3,none⟩=some (.slice xo ls.length xc)/\Below w.heap.size w W)
  (exact HS.out _ (by first|assumption|exact hbr))
  ((go_at_call 94;refine(HV.out _ (by first|assumption|exact hbr)).mono ?_;rintro e w6 ⟨fP,ra,rl,rc,z,rfl,hr⟩;have hr2:c=0->∃rs,ay w6 w.heap.size (.slice ra rl rc) rs (Ro.hls es 0 ls):=(fun h=>(hr h).elim fun rs h2=>⟨rs,h2.lower (ac6 (by first|assumption|exact hbr))⟩);have hbz:Below w.heap.size w w6:=acI (by first|assumption|exact hbr) (fP.mono (ac6 (by first|assumption|exact hbr)))))
 have HC:=ζ (wD HB.out hbz (.slice ra rl rc));obtain⟨-,-,-,-,-,c5,-,cf⟩:=cQ ((hbz.block _ hk).trans HB.out);have cf5:=cf 5;clear cf;have hk1:k<w6.heap.size:=aa5 hk hbz.size;have HR:Hid (c=0->∃rs,ay (w6.setCell ⟨k,5,none⟩ (.slice ra rl rc)) w.heap.size (.slice ra rl rc) rs (Ro.hls es 0 ls)):=fun h0=>by
  obtain⟨rs,hr⟩:=hr2 h0;refine⟨rs,hr.kept fun b hb' _=>heap_setCell_other _ _ _ _ (fun e=> ?_)⟩;dsimp only at e;rcases hb' with hb'|⟨u,y,hy,hb'⟩
  .have:=(aap hr.outer b hb').1
   omega
  .obtain⟨l,hl'⟩:=hr.at hy
   have:=(aap (hr.row u y l hy hl') b hb').1;omega
 clear hbz fP HV HS hbr c0 c1 c3 hr hr2;by_cases hc0:c=0
 .have iN:(c==0)=true:=by simpa using hc0
  go_wp2;go_ret;refine⟨.slice ra rl rc,?_,HC.out.1,HC.out.2.2 5,HR.out⟩;rw[decide_eq_true hc0];rfl
 .have iN:(c==0)=false:=by simpa using hc0
  go_wp2;go_ret;refine⟨.slice ra rl rc,?_,HC.out.1,HC.out.2.2 5,HR.out⟩;rw[decide_eq_false hc0];rfl
def CO (n:Int) (ao:Option Addr) (ca k:Nat) (es:List (Int×Int)) (q2 q3 q4 q5:Value) (xs:List (Int×Int)) (w:World) (e:Ending) (w':World):Prop:=
 ∃v,e= .returned (.bool (decide ((Ck.bz xs es 0).length=xs.length)))/\w'.heap[k]? =some (.cells #[.int .i64 n,.slice ao es.length ca,q2,q3,q4,q5,v] 68 (0,0))/\aq (fun b=>b=k) w w'/\aj w' w.heap.size v (Ck.keep xs es)
theorem Q0 {xo:Option Addr} {xc:Nat} {xs:List (Int×Int)} (hb:w.heap[k]? =some (.cells #[.int .i64 n,.slice ao es.length ca,q2,q3,.slice xo xs.length xc,q5,q6] 68 (0,0))) (he:ah w ao es) (hl:es.length<=4194304) (hx:ah w xo xs) (hxl:xs.length<=4611686018427387904):
 Calls prog 54 #[.pointer (some ⟨k,0,none⟩)] w (CO n ao ca k es q2 q3 (.slice xo xs.length xc) q5 xs w):=by
 have hk:=lt_of_block hb;have HB:=ζ hb;have HV:Hid (∀W,Below w.heap.size w W->_):=fun W hW=>Ba xo xc xs ao ca es W (hx.later hW) hxl (he.later hW) hl
 have HS:Hid (∀W,Below w.heap.size w W->(W.cell? ⟨k,1,none⟩=some (.slice ao es.length ca)/\W.cell? ⟨k,4,none⟩=some (.slice xo xs.length xc)/\Below w.heap.size w W)):=fun W hW=>by
  obtain⟨-,c1,-,-,c4,-⟩:=cQ ((hW.block _ hk).trans hb);exact⟨c1,c4,hW⟩
 unfold CO;generalize decide ((Ck.bz xs es 0).length=xs.length)=t at HV ⊢;obtain⟨-,c1,-,-,c4,-⟩:=cQ hb;have hbr:Below w.heap.size w w.drew:=(aae _ _).drew;clear hb he hx;go_enter func54,ntmps54;go_wp2_with fail
 go_region_held3 (fun W=>W.cell? ⟨k,1,none⟩=some (.slice ao es.length ca)/\W.cell? ⟨k,4,none⟩=some (.slice xo xs.length xc)/\Below w.heap.size w W)
  (exact HS.out _ (by first|assumption|exact hbr))
  ((go_at_call 96;refine(HV.out _ (by first|assumption|exact hbr)).mono ?_;rintro e w6 ⟨v,rfl,hv,fP⟩;obtain⟨va,vc,rfl,-,-⟩:=hv.form;have hv2:aj w6 w.heap.size (.slice va (Ck.keep xs es).length vc) (Ck.keep xs es):=hv.lower (ac6 (by first|assumption|exact hbr));have hbz:Below w.heap.size w w6:=acI (by first|assumption|exact hbr) (fP.mono (ac6 (by first|assumption|exact hbr)))))
 generalize hkl:(Ck.keep xs es).length=q at hv2 ⊢;have HC:=ζ (wD HB.out hbz (.slice va q vc));obtain⟨-,-,-,-,-,-,c6,cf⟩:=cQ ((hbz.block _ hk).trans HB.out);have cf6:=cf 6;clear cf;have hk1:k<w6.heap.size:=aa5 hk hbz.size;have HR:Hid (aj (w6.setCell ⟨k,6,none⟩ (.slice va q vc)) w.heap.size (.slice va q vc) (Ck.keep xs es)):=hv2.same fun b hb' _=>heap_setCell_other _ _ _ _ (fun e=>by
  dsimp only at e;have:=(aap hv2 b hb').1;omega)
 clear hbz fP HV HS hbr c1 c4 hv hv2 hkl;go_wp2;go_ret;exact⟨.slice va q vc,rfl,HC.out.2.1,HC.out.2.2 6,HR.out⟩
theorem bD.Wp {W:World} {B c:Nat} {a:Option Addr} {l:List (Int×Int)} (h:bD W B (.slice a l.length c) l):ah W a l:=by
 obtain⟨a',c',e,_,_,h1,_⟩:=h.form;cases e;exact h1
theorem bD.Xd {W:World} {B c H:Nat} {a:Option Addr} {l:List (Int×Int)} (h:bD W B (.slice a l.length c) l) (hH:H<B) {x y:Value}:ah ((W.setCell ⟨H,0,none⟩ x).setCell ⟨H,1,none⟩ y) a l:=by
 have h2:bD ((W.setCell ⟨H,0,none⟩ x).setCell ⟨H,1,none⟩ y) B (.slice a l.length c) l:=bV h fun b hb hB _=>fy (by omega) x y
 exact h2.Wp
theorem Pc {lo:Option Addr} {lc:Nat} {l:List Int} {xs:List (Int×Int)} (hb:w.heap[k]? =some (.cells #[.int .i64 n,.slice ao es.length ca,q2,q3,q4,q5,.slice lo l.length lc] 68 (0,0))) (he:ah w ao es) (hl:es.length<=4194304) (hx:aU w lo l) (hxl:l.length<=4611686018427387904)
 (hs:Ed.sub n es l=(n,xs,0)) (hxs:xs.length<=4611686018427387904) (hk0:(Ku.kr n xs).2.2.2.2=0):
 Calls prog 55 #[.pointer (some ⟨k,0,none⟩)] w fun e w'=>e= .returned (.bool (Ku.kr n xs).2.2.2.1)/\Below w.heap.size w w':=by
 have hk:=lt_of_block hb;have HV:Hid (∀W,Below w.heap.size w W->Calls prog 97 #[.agg #[.int .i64 n,.slice ao es.length ca],.slice lo l.length lc] W fun e w'=>Below W.heap.size W w'/\∃yo yc,e= .returned (.tuple #[.agg #[.int .i64 n,.slice yo xs.length yc],.int .i64 0])/\bD w' W.heap.size (.slice yo xs.length yc) xs):=fun W hW=>
  (PO n lo l.length lc l ao ca es W (he.later hW) (by omega) rfl (hx.later hW) hxl).mono fun e w' ⟨v,h1,h2,h3⟩=>by
    rw[hs] at h1 h2;obtain⟨yo,yc,rfl,-,-,-,-⟩:=h2.form;exact⟨h3,yo,yc,h1,h2⟩
 have HS:Hid (∀W,Below w.heap.size w W->(W.cell? ⟨k,0,none⟩=some (.int .i64 n)/\W.cell? ⟨k,1,none⟩=some (.slice ao es.length ca)/\W.cell? ⟨k,6,none⟩=some (.slice lo l.length lc)/\Below w.heap.size w W)):=fun W hW=>by
  obtain⟨c0,c1,-,-,-,-,c6,-⟩:=cQ ((hW.block _ hk).trans hb);exact⟨c0,c1,c6,hW⟩
 obtain⟨c0,c1,-,-,-,-,c6,-⟩:=cQ hb;have hbr:Below w.heap.size w w.drew:=(aae _ _).drew;have KQ:=ζ hk0;obtain⟨R,hR⟩:∃R,Ku.kr n xs=R:=⟨_,rfl⟩;have Qk:=ζ hR;rw[hR] at KQ ⊢;clear hb he hx hs hk0 hR;go_enter func55,ntmps55
 go_upto_region 1 with fail
 go_cut [3,4] from 7 to 18 (fun p q wr=>∃(H:Nat) (va:Option Addr) (vc:Nat),p= .pointer (some ⟨H,0,none⟩)/\q= .int .i64 0/\wr.heap[H]? =some (.cells #[.int .i64 n,.slice va xs.length vc] 24 (0,0))/\ah wr va xs/\Below w.heap.size w wr)
 case first=>
  have Ys:=HS.out _ (aae _ _);go_wp2_with fail
  go_region_held3 (fun W=>W.cell? ⟨k,0,none⟩=some (.int .i64 n)/\W.cell? ⟨k,1,none⟩=some (.slice ao es.length ca)/\W.cell? ⟨k,6,none⟩=some (.slice lo l.length lc))
   (first|exact⟨Ys.1,Ys.2.1,Ys.2.2.1⟩|exact(fun h=>⟨h.1,h.2.1,h.2.2.1⟩) (HS.out _ (by repeat (first|exact aae _ _|exact hb0|refine aec ?_|refine Below.setCell ?_ (by first|(simp;done)|(simp;omega)|omega) _|refine ad6 ?_ (by first|exact aad _|(simp;done)|(simp;omega)|omega) _))))
   ((go_at_call 97;refine(HV.out _ (by repeat (first|exact aae _ _|refine aec ?_|refine ad6 ?_ (by first|exact aad _|(simp;done)|(simp;omega)) _))).mono ?_;rintro e w6 ⟨fP,yo,yc,rfl,hoL⟩;have hb0:Below w.heap.size w w6:=acI (by repeat (first|exact aae _ _|refine aec ?_|refine ad6 ?_ (by first|exact aad _|(simp;done)|(simp;omega)) _)) (fP.mono (by simp));have tL:w.heap.size<=w6.heap.size:=hb0.size;(try have bx0:w6.heap[w.heap.size]? =some (.cells #[.int .i64 0,.slice none 0 0] 24 (0,0)):=(fP.block _ (by simp)).trans (heap_alloc_new w _));(try have q0:=(af bx0).1);(try have q1:=(af bx0).2.1);(try have q2:=(af bx0).2.2 0);(try have q3:=(af bx0).2.2 1)))
  all_goals
   go_wp2
   go_meet
   first
    |exact⟨_,_,_,rfl,rfl,heap_alloc_new w6 _,(bD.Wp hoL).later ((aae _ _).alloc (aad _) _),hb0.alloc tL _⟩
    |exact⟨_,_,_,rfl,rfl,kW bx0 _ _,bD.Xd hoL (by simp),(hb0.setCell (p:=⟨w.heap.size,0,none⟩) (aad _) _).setCell (p:=⟨w.heap.size,1,none⟩) (aad _) _⟩
 case rest=>
 obtain⟨H,va,vc,rfl,rfl,Ya,hat,hb⟩:=hcut;have hP:=A4 n va vc xs _ hat hxs;rw[Qk.out] at hP;have HP:=ζ hP;have aB:=ζ hb;obtain⟨g0,g1,-⟩:=af Ya;have PC:=lt_of_block Ya;clear hP hat hb Ya c0 c1 c6 HV HS hbr;go_wp2_with (go_at_call 98;refine HP.out.mono ?_;refine aaj ?_);refine ζ ?_;rintro e w2 ⟨a1,d1,a2,d2,rfl,-,-,hb3⟩;rw[KQ.out];have aJ:=ζ (aB.out.trans (hb3.mono aB.out.size));have hs3:=aJ.out.size;clear g0 g1 hb3;obtain⟨t,ht⟩:∃t,R.2.2.2.1=t:=⟨_,rfl⟩;have Tc:=ζ ht;rw[ht];clear ht;cases t with
 |true=>
  go_wp2;go_ret;exact⟨by rw[Tc.out];rfl,aJ.out.alloc hs3 _⟩
 |false=>
  go_wp2;go_ret;exact⟨by rw[Tc.out];rfl,aJ.out.alloc hs3 _⟩
end
end
section
open Go.RowKit Go.Sort
namespace Ck
open Classical in
noncomputable def may (c:Ce.Cert):Bool:=decide (Ce.good c/\(Ce.eA c).length<=33554432)
theorem qA {c:Ce.Cert} (h:Ce.good c/\(Ce.eA c).length<=33554432):may c=true:=by unfold may;exact @decide_eq_true _ (_) h
theorem Ac {c:Ce.Cert} (h:¬(Ce.good c/\(Ce.eA c).length<=33554432)):may c=false:=by unfold may;exact @decide_eq_false _ (_) h
theorem F6 {c:Ce.Cert} (h:may c=true):Ce.good c/\(Ce.eA c).length<=33554432:=by unfold may at h;exact @of_decide_eq_true _ (_) h
open Classical in
noncomputable def code (n:Int) (es:List (Int×Int)) (c:Ce.Cert):Int:=
 if Si.valid n es=false then 1
 else if may c=false then 181
 else if c.pl=true then
  (if (Ro.check n es (Ro.hls es 0 c.ar)).2≠0 then 182 else if Fa.gz n.toNat es (Ro.hls es 0 c.ar)=0 then 0 else 183)
 else if ¬ ∀x∈c.es,x∈es then 184 else if (Ku.kr n c.es).2.2.2.1=true then 0 else 185
end Ck
theorem IL {k:Nat} {q0 q1 q5 q6 v:Value} {c:Ce.Cert} {xo eo:Option Addr} {xc ec:Nat} {w:World} (hb:w.heap[k]? =some (.cells #[q0,q1,.bool c.pl,.slice xo c.ar.length xc,.slice eo c.es.length ec,q5,q6] 68 (0,0))) (hs:Ce.iD w v c xo eo xc ec) (hf:Ce.vg c) (ht:kO w):
 Calls Tryz.prog 51 #[.pointer (some ⟨k,0,none⟩)] w fun e w'=>e= .returned (.bool (Ck.may c))/\Below w.heap.size w w':=by
 obtain⟨-,-,c2,c3,c4,-⟩:=cQ hb;have hk:=lt_of_block hb;have hV:=FR hs hf ht;rw[hs.val] at hV;have HV:=ζ hV;obtain⟨t,ht'⟩:∃t,Ck.may c=t:=⟨_,rfl⟩;have HPC:Hid (∀e,sr c e->∃s z,e= .returned (.tuple #[.string s,.int .i64 z])/\(z==0)=t):=fun e he=>by
  by_cases hg:Ce.good c
  .rcases he.2 hg with ⟨h1,rfl⟩|⟨h1,rfl⟩
   .refine⟨_,_,rfl,?_⟩
    rw[<-ht',Ck.Ac (fun h=>by omega)];rfl
   .refine⟨_,_,rfl,?_⟩
    rw[<-ht',Ck.qA ⟨hg,h1⟩];rfl
  .rw[he.1 hg]
   refine⟨_,_,rfl,?_⟩;rw[<-ht',Ck.Ac (fun h=>hg h.1)];rfl
 rw[ht'];clear hb hs hf ht hV ht';go_enter Tryz.func51,Tryz.ntmps51;go_wp2_with (go_at_call 19;refine HV.out.mono ?_;refine aaj ?_);refine ζ ?_;rintro e w1 ⟨Jn,hb1⟩;obtain⟨s,z,rfl,hz⟩:=HPC.out e Jn;have aI:=ζ hb1;clear Jn hb1 c2 c3 c4;go_wp2;go_ret;exact⟨rfl,aI.out⟩
end
end Go.Proofs.YtdbjpbjocmcpkaaGreatDoor
