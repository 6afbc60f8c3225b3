import Derived.Test.YtnhcggfbkoppnaaGreatMg00
import Derived.Test.YtnhcggfbkoppnaaGreatMg02
import Derived.BigQuiet
import Derived.Deep.QuietTactic
import Derived.Test.YtnhcggfbkoppnaaGreatMg01
namespace Go.Proofs.YtnhcggfbkoppnaaGreat
section
open Go.RowKit
def dc (w:World) (ao:Option Addr) (l:List Int):Prop:=∀(j:Nat) (x:Int),l[j]? =some x→∃b o:Nat,ao=some ⟨b,o,none⟩∧w.cell? ⟨b,o+j,none⟩=some (.int .i64 x)
theorem dc.later {w w':World} {ao:Option Addr} {l:List Int} (h:dc w ao l) (hb:Below w.heap.size w w'):dc w' ao l:=fun j x hj=>by
 obtain⟨b,o,e,h0⟩:=h j x hj
 exact⟨b,o,e,(hb.cell (p:=⟨b,o+j,none⟩) (block_lt_of_cell h0)).trans h0⟩
theorem dc.nil (w:World) (ao:Option Addr):dc w ao []:=fun j p hj=>by simp at hj
theorem aq.at {w:World} {g:Nat} {l:List Int} (h:aq w g l):dc w (some ⟨g,0,none⟩) l:=fun j x hj=>⟨g,0,rfl,by rw[Nat.zero_add];exact h.cell hj⟩
end
section
open Go.RowKit
def Cs.gM (n:Nat) (es:List (Int×Int)) (x:Int):List Int:=(Cs.xI n es x).map fun i:Nat=>(i:Int)
theorem Cs.Dr {n:Nat} {es:List (Int×Int)} {x:Int}:(Cs.gM n es x).length=(Cs.xI n es x).length:=by simp[Cs.gM]
def Cs.Ff (es:List (Int×Int)) (x:Int):Int:=if 0≤x∧x<2*(es.length:Int) then (Cs.fr es x.toNat:Int) else -1
def Cs.FT (es:List (Int×Int)) (x:Int):Int:=if 0≤x∧x<2*(es.length:Int) then (Cs.to es x.toNat:Int) else -1
theorem Cs.jI {es:List (Int×Int)} {i:Nat} (h:i<2*es.length):Cs.Ff es i=(Cs.fr es i:Int):=by
 unfold Cs.Ff
 rw[if_pos (by omega)]
 simp
theorem Cs.kB {es:List (Int×Int)} {i:Nat} (h:i<2*es.length):Cs.FT es i=(Cs.to es i:Int):=by
 unfold Cs.FT
 rw[if_pos (by omega)]
 simp
theorem Cs.zj {es:List (Int×Int)} {x:Int} (h:¬(0≤x∧x<2*(es.length:Int))):Cs.Ff es x= -1:=by unfold Cs.Ff;rw[if_neg h]
theorem Cs.LF {es:List (Int×Int)} {x:Int} (h:¬(0≤x∧x<2*(es.length:Int))):Cs.FT es x= -1:=by unfold Cs.FT;rw[if_neg h]
theorem Cs.EK (u:Nat):u ^^^ 1=Cs.twin u:=by
 have h1:(u ^^^ 1)/2=u/2:=by rw[Nat.xor_div_two];simp
 have h2:(u ^^^ 1)%2=(u+1)%2:=by
  have:=Nat.xor_mod_two_pow (a:=u) (b:=1) (n:=1)
  simp at this
  rw[this]
  rcases Nat.mod_two_eq_zero_or_one u with h|h<;>rw[h]<;>simp<;>omega
 unfold Cs.twin
 split<;>omega
theorem Cs.vR (u:Nat) (hu:u<4611686018427387904):bits .xor .i64 (u:Int) 1=(Cs.twin u:Int):=by
 have h1:(BitVec.ofInt 64 (u:Int)).toNat=u:=by
  rw[BitVec.ofInt_natCast,BitVec.toNat_ofNat];exact Nat.mod_eq_of_lt (by omega)
 have h2:(BitVec.ofInt 64 (1:Int)).toNat=1:=by decide
 show IntKind.i64.wrap ((BitVec.ofInt 64 (u:Int) ^^^ BitVec.ofInt 64 (1:Int)).toNat:Int)=_
 have h3:=Cs.EK u
 have h4:Cs.twin u≤u+1:=by unfold Cs.twin;split<;>omega
 rw[BitVec.toNat_xor,h1,h2,IntKind.wrap_i64,h3]
 omega
end
section
open Go.RowKit
def cE (w:World) (v:Value) (n:Nat) (es:List (Int×Int)):Prop:=(v= .pointer none∧n=0∧es=[])∨∃B p,v= .pointer (some ⟨p,0,none⟩)∧Si.Val n es∧lD w B p n es
theorem cE.later {w w':World} {v:Value} {n:Nat} {es:List (Int×Int)} (h:cE w v n es) (hb:Below w.heap.size w w'):cE w' v n es:=by
 rcases h with h|⟨B,p,h1,h2,h3⟩
 ·exact .inl h
 ·exact .inr ⟨B,p,h1,h2,h3.later hb⟩
theorem cE.bounds {w:World} {v:Value} {n:Nat} {es:List (Int×Int)} (h:cE w v n es):n≤1048576∧es.length≤4194304:=by
 rcases h with ⟨_,rfl,rfl⟩|⟨B,p,_,h2,_⟩
 ·simp
 ·have:=h2.hi
  have:=h2.few
  omega
set_option maxRecDepth 100000 in
set_option maxHeartbeats 1000000 in
theorem lY (v:Value) (n:Nat) (es:List (Int×Int)) (w:World) (h:cE w v n es):Calls Tryz.prog 44 #[v] w fun e w'=>e= .returned (.int .i64 (n:Int))∧w'=w:=by
 rcases h with ⟨rfl,rfl,rfl⟩|⟨B,p,rfl,hv,gd,gs,gh,gp,gt,h⟩
 ·go_enter Tryz.func44,Tryz.ntmps44
  go_wp2
  go_ret
  exact⟨rfl,rfl⟩
 ·have c0:=h.blk.c0
  clear h
  go_enter Tryz.func44,Tryz.ntmps44
  go_wp2
  go_ret
  exact⟨rfl,rfl⟩
set_option maxRecDepth 100000 in
set_option maxHeartbeats 1000000 in
theorem zv (v:Value) (n:Nat) (es:List (Int×Int)) (w:World) (h:cE w v n es):Calls Tryz.prog 78 #[v] w fun e w'=>e= .returned (.int .i64 (es.length:Int))∧w'=w:=by
 have hb:=h.bounds
 rcases h with ⟨rfl,rfl,rfl⟩|⟨B,p,rfl,hv,gd,gs,gh,gp,gt,h⟩
 ·go_enter Tryz.func78,Tryz.ntmps78
  go_wp2
  go_ret
  exact⟨rfl,rfl⟩
 ·have c4:=h.blk.c4
  have hdv:(2*(es.length:Int)).tdiv 2=es.length:=by rw[Int.tdiv_eq_ediv_of_nonneg (by omega)];omega
  clear h
  go_enter Tryz.func78,Tryz.ntmps78
  go_wp2
  go_ret
  exact⟨rfl,rfl⟩
set_option maxRecDepth 100000 in
set_option maxHeartbeats 1000000 in
theorem Bc (v:Value) (n:Nat) (es:List (Int×Int)) (x:Int) (w:World) (h:cE w v n es):Calls Tryz.prog 146 #[v,.int .i64 x] w fun e w'=>e= .returned (.bool (decide (0≤x∧x<(n:Int))))∧w'=w:=by
 have HN:=Nu.hid (lY v n es w h)
 clear h
 by_cases h0:0≤x
 ·have hd:decide (0≤x∧x<(n:Int))=decide (x<(n:Int)):=by simp[h0]
  rw[hd]
  go_enter Tryz.func146,Tryz.ntmps146
  go_wp2_with (go_at_call 44;refine HN.out.mono ?_;rintro e w1 ⟨rfl,rfl⟩)
  go_ret
  exact⟨rfl,rfl⟩
 ·have hd:decide (0≤x∧x<(n:Int))=false:=by simp[h0]
  rw[hd]
  go_enter Tryz.func146,Tryz.ntmps146
  go_wp2_with (go_at_call 44;refine HN.out.mono ?_;rintro e w1 ⟨rfl,rfl⟩)
  go_ret
  exact⟨rfl,rfl⟩
set_option maxRecDepth 100000 in
set_option maxHeartbeats 1000000 in
theorem pS (v:Value) (n:Nat) (es:List (Int×Int)) (x:Int) (w:World) (h:cE w v n es):Calls Tryz.prog 112 #[v,.int .i64 x] w fun e w'=>e= .returned (.bool (decide (0≤x∧x<2*(es.length:Int))))∧w'=w:=by
 have HN:=Nu.hid (zv v n es w h)
 have hb:=h.bounds
 clear h
 by_cases h0:0≤x
 ·have hd:decide (0≤x∧x<2*(es.length:Int))=decide (x<2*(es.length:Int)):=by simp[h0]
  rw[hd]
  go_enter Tryz.func112,Tryz.ntmps112
  go_wp2_with (go_at_call 78;refine HN.out.mono ?_;rintro e w1 ⟨rfl,rfl⟩)
  go_ret
  exact⟨rfl,rfl⟩
 ·have hd:decide (0≤x∧x<2*(es.length:Int))=false:=by simp[h0]
  rw[hd]
  go_enter Tryz.func112,Tryz.ntmps112
  go_wp2_with (go_at_call 78;refine HN.out.mono ?_;rintro e w1 ⟨rfl,rfl⟩)
  go_ret
  exact⟨rfl,rfl⟩
set_option maxRecDepth 100000 in
set_option maxHeartbeats 1000000 in
theorem lQ (v:Value) (n:Nat) (es:List (Int×Int)) (x:Int) (w:World) (h:cE w v n es):Calls Tryz.prog 114 #[v,.int .i64 x] w fun e w'=>e= .returned (.int .i64 (Cs.FT es x))∧w'=w:=by
 have HV:=Nu.hid (pS v n es x w h)
 by_cases hx:0≤x∧x<2*(es.length:Int)
 ·rw[decide_eq_true hx] at HV
  rcases h with ⟨rfl,rfl,rfl⟩|⟨B,p,rfl,hv,gd,gs,gh,gp,gt,h⟩
  ·simp at hx;omega
  ·obtain⟨u,rfl⟩:∃u:Nat,x=(u:Int):=⟨x.toNat,by omega⟩
   obtain⟨x0,x1⟩:=hx
   have c0:=h.blk.c4
   have d0:=h.goes u (by omega)
   rw[Cs.kB (by omega)]
   clear h hv
   go_enter Tryz.func114,Tryz.ntmps114
   go_wp2_with (go_at_call 112;refine HV.out.mono ?_;rintro e w1 ⟨rfl,rfl⟩)
   go_ret
   exact⟨rfl,rfl⟩
 ·rw[decide_eq_false hx] at HV
  rw[Cs.LF hx]
  clear h hx
  go_enter Tryz.func114,Tryz.ntmps114
  go_wp2_with (go_at_call 112;refine HV.out.mono ?_;rintro e w1 ⟨rfl,rfl⟩)
  go_ret
  exact⟨rfl,rfl⟩
set_option maxRecDepth 100000 in
set_option maxHeartbeats 1000000 in
theorem j8 (v:Value) (n:Nat) (es:List (Int×Int)) (x:Int) (w:World) (h:cE w v n es):Calls Tryz.prog 113 #[v,.int .i64 x] w fun e w'=>e= .returned (.int .i64 (Cs.Ff es x))∧w'=w:=by
 have HV:=Nu.hid (pS v n es x w h)
 by_cases hx:0≤x∧x<2*(es.length:Int)
 ·rw[decide_eq_true hx] at HV
  rcases h with ⟨rfl,rfl,rfl⟩|⟨B,p,rfl,hv,gd,gs,gh,gp,gt,h⟩
  ·simp at hx;omega
  ·obtain⟨u,rfl⟩:∃u:Nat,x=(u:Int):=⟨x.toNat,by omega⟩
   obtain⟨x0,x1⟩:=hx
   have ht:=Cs.uA (i:=u) (m:=es.length) (by omega)
   have c0:=h.blk.c4
   have cq:=hv.few
   have hxt:=Cs.vR u (by omega)
   have ht0:(0:Int)≤(Cs.twin u:Int):=by omega
   have ET:(Cs.twin u:Int)<2*(es.length:Int):=by omega
   have d0:=h.goes (Cs.twin u) ht
   rw[Cs.jI (by omega)]
   rw[Cs.OW] at d0
   clear h hv
   go_enter Tryz.func113,Tryz.ntmps113
   go_wp2_with (go_at_call 112;refine HV.out.mono ?_;rintro e w1 ⟨rfl,rfl⟩)
   go_ret
   exact⟨rfl,rfl⟩
 ·rw[decide_eq_false hx] at HV
  rw[Cs.zj hx]
  clear h hx
  go_enter Tryz.func113,Tryz.ntmps113
  go_wp2_with (go_at_call 112;refine HV.out.mono ?_;rintro e w1 ⟨rfl,rfl⟩)
  go_ret
  exact⟨rfl,rfl⟩
def Ou (n:Nat) (es:List (Int×Int)) (x:Int) (w0 w:World) (e:Ending) (w':World):Prop:=
 ∃ao cap,e= .returned (.slice ao (Cs.gM n es x).length cap)∧dc w0 ao (Cs.gM n es x)∧∃k,w'=w.drewN k
set_option maxRecDepth 100000 in
set_option maxHeartbeats 4000000 in
theorem uN (v:Value) (n:Nat) (es:List (Int×Int)) (x:Int) (w0 w:World) (h0:cE w0 v n es) (hb:Below w0.heap.size w0 w):Calls Tryz.prog 128 #[v,.int .i64 x] w (Ou n es x w0 w):=by
 have HV:=Nu.hid (Bc v n es x w (h0.later hb))
 by_cases hx:0≤x∧x<(n:Int)
 ·rw[decide_eq_true hx] at HV
  rcases h0 with ⟨rfl,rfl,rfl⟩|⟨B,p,rfl,hv,gd,gs,gh,gp,gt,h0⟩
  ·omega
  ·obtain⟨u,rfl⟩:∃u:Nat,x=(u:Int):=⟨x.toNat,by omega⟩
   obtain⟨x0,x1⟩:=hx
   have nJ:u<n:=by omega
   have h:=h0.same hb.size fun k _ h2=>hb.block k h2
   have c0:=h.blk.c0
   have c1:=h.blk.c1
   have c2:=h.blk.c2
   have d0:=h.deg u nJ
   have d1:=h.start u nJ
   have hlt:∀i,i<2*es.length→Cs.fr es i<n:=fun i hi=>(Cs.bH hv hi).1
   have hle:=Cs.zK hlt nJ
   have cq:=hv.few
   have pP:=h0.half
   have hcell:∀(j:Nat) (z:Int),(Cs.gM n es u)[j]? =some z→w0.cell? ⟨gh,Cs.st es (2*es.length) u+j,none⟩=some (.int .i64 z):=fun j z hj=>by
    unfold Cs.gM at hj
    rw[List.getElem?_map,Cs.ox nJ] at hj
    obtain⟨i,hi,rfl⟩:=Option.map_eq_some_iff.1 hj
    obtain⟨h1,h2,h3⟩:=Cs.nr hi
    have:=pP i h1
    unfold Cs.pos at this
    rw[h2,h3] at this
    exact this
   have eH:(Cs.gM n es u).length=(Cs.out es u (2*es.length)).length:=by rw[Cs.Dr,Cs.ox nJ]
   have HC:=Nu.hid hcell
   have yT:=Nu.hid eH
   obtain⟨s,hs⟩:∃s,Cs.st es (2*es.length) u=s:=⟨_,rfl⟩
   obtain⟨d,hd⟩:∃d,(Cs.out es u (2*es.length)).length=d:=⟨_,rfl⟩
   rw[hs] at d1 hle HC
   rw[hd] at d0 hle yT
   have s0:(0:Int)≤(s:Int):=by omega
   have s1:(s:Int)≤2*(es.length:Int):=by omega
   have s2:(0:Int)≤(d:Int):=by omega
   have s3:(d:Int)≤2*(es.length:Int)-(s:Int):=by omega
   clear h h0 hb hv hlt pP hcell eH hs hd
   go_enter Tryz.func128,Tryz.ntmps128
   go_wp2_with (go_at_call 146;refine HV.out.mono ?_;rintro e w1 ⟨rfl,rfl⟩)
   go_quiet (fail)
   obtain⟨A,hA⟩:∃A:Option Addr,(if 2*es.length=s then some ⟨gh,0,none⟩ else some ⟨gh,s,none⟩)=A:=⟨_,rfl⟩
   rw[hA]
   have HA:=Nu.hid hA
   clear hA
   go_wp2
   go_ret
   refine⟨A,_,by rw[yT.out];rfl,fun j z hj=> ?_,nq,rfl⟩
   have hjl:=(List.getElem?_eq_some_iff.1 hj).1
   rw[yT.out] at hjl
   have:=HA.out
   rw[if_neg (by omega)] at this
   exact⟨gh,s,this.symm,HC.out j z hj⟩
 ·rw[decide_eq_false hx] at HV
  have ho:Cs.gM n es x=[]:=by unfold Cs.gM;rw[Cs.Pn hx];rfl
  have HO:=Nu.hid ho
  clear h0 hb hx ho
  go_enter Tryz.func128,Tryz.ntmps128
  go_wp2_with (go_at_call 146;refine HV.out.mono ?_;rintro e w1 ⟨rfl,rfl⟩)
  go_ret
  refine⟨none,0,by rw[HO.out];rfl,by rw[HO.out];exact dc.nil _ _,0,rfl⟩
end
section
namespace Df
structure St where
 par:List Int
 ay:List Int
 ord:List Int
 aJ:List Int
deriving DecidableEq
abbrev St.height (s:St) (v:Nat):Int:=s.ay.getD v (-1)
abbrev St.dir (s:St) (e:Nat):Int:=s.aJ.getD e (-1)
abbrev St.left (s:St):Nat:=s.aJ.count (-1)
def St.reach (s:St) (v:Nat) (h height:Int):St:=⟨s.par.set v h,s.ay.set v height,s.ord++[(v:Int)],s.aJ⟩
def St.mark (s:St) (h:Nat):St:=⟨s.par,s.ay,s.ord,s.aJ.set (h/2) (h:Int)⟩
def St.go (es:List (Int×Int)) (s:St) (h:Nat):St:=(s.mark h).reach (Cs.to es h) h (s.height (Cs.fr es h)+1)
inductive R (es:List (Int×Int)):Nat→St→List Nat→St→Prop
 |nil (s:St):R es 0 s [] s
 |old {k:Nat} {s s':St} {h:Nat} {L:List Nat} (hw:s.dir (h/2)≠-1) (hr:R es k s L s'):R es (k+1) s (h::L) s'
 |back {k:Nat} {s s':St} {h:Nat} {L:List Nat} (hw:s.dir (h/2)= -1) (hv:s.height (Cs.to es h)≠-1) (hr:R es k (s.mark h) L s'):R es (k+1) s (h::L) s'
 |tree {j k:Nat} {s s1 s':St} {h:Nat} {L:List Nat} (hw:s.dir (h/2)= -1) (hv:s.height (Cs.to es h)= -1) (h1:R es j (s.go es h) (Cs.out es (Cs.to es h) (2*es.length)) s1) (h2:R es k s1 L s'):R es (j+k+2) s (h::L) s'
theorem R.unique {es:List (Int×Int)} {k:Nat} {s s':St} {L:List Nat} (h:R es k s L s'):∀{k':Nat} {s'':St},R es k' s L s''→k=k'∧s'=s'':=by
 induction h with
 |nil s=>intro k' s'' h;cases h;exact⟨rfl,rfl⟩
 |old hw hr ih=>
  intro k' s'' h
  cases h with
  |old hw' hr'=>obtain⟨rfl,rfl⟩:=ih hr';exact⟨rfl,rfl⟩
  |back hw'=>exact absurd hw' hw
  |tree hw'=>exact absurd hw' hw
 |back hw hv hr ih=>
  intro k' s'' h
  cases h with
  |old hw'=>exact absurd hw hw'
  |back hw' hv' hr'=>obtain⟨rfl,rfl⟩:=ih hr';exact⟨rfl,rfl⟩
  |tree hw' hv'=>exact absurd hv' hv
 |tree hw hv h1 h2 ih1 ih2=>
  intro k' s'' h
  cases h with
  |old hw'=>exact absurd hw hw'
  |back hw' hv'=>exact absurd hv hv'
  |tree hw' hv' h1' h2'=>
   obtain⟨rfl,rfl⟩:=ih1 h1'
   obtain⟨rfl,rfl⟩:=ih2 h2'
   exact⟨rfl,rfl⟩
structure Bd (n:Nat) (es:List (Int×Int)) (r:Nat) (s:St):Prop where
 lp:s.par.length=n
 lh:s.ay.length=n
 lo:s.aJ.length=es.length
 ho:∀e,e<es.length→s.dir e= -1∨(s.dir e=2*(e:Int)∨s.dir e=2*(e:Int)+1)
 hh:∀v,v<n→-1≤s.height v∧s.height v+(s.left:Int)≤es.length
 hr:s.ord.length+s.left≤es.length+r
 hp:∀v,v<n→-1≤s.par.getD v 0∧s.par.getD v 0<2*(es.length:Int)
 hu:∀v,v<n→s.height v= -1→s.par.getD v 0= -1
 hd:∀x∈s.ord,0≤x∧x<(n:Int)
section
variable {n r:Nat} {es:List (Int×Int)} {s s':St} {h v:Nat}
theorem Bd.few (b:Bd n es r s):s.left≤es.length:=by
 have:=List.count_le_length (a:=(-1:Int)) (l:=s.aJ)
 rw[b.lo] at this
 exact this
theorem jX (b:Bd n es r s) (hh:h<2*es.length) (hw:s.dir (h/2)= -1):(s.mark h).left+1=s.left:=by
 have hl:h/2<s.aJ.length:=by rw[b.lo];omega
 have e:s.aJ[h/2]= -1:=by
  have:=hw
  unfold St.dir at this
  rw[List.getD_eq_getElem?_getD,List.getElem?_eq_getElem hl] at this
  exact this
 have hpos:0<s.aJ.count (-1):=List.count_pos_iff.2 (by rw[←e];exact List.getElem_mem hl)
 unfold St.left St.mark
 dsimp only
 rw[List.count_set hl,e,if_pos (by decide),if_neg (by simp)]
 omega
theorem jr (b:Bd n es r s) (hh:h<2*es.length) (e:Nat):(s.mark h).dir e=if e=h/2 then (h:Int) else s.dir e:=by
 have hl:h/2<s.aJ.length:=by rw[b.lo];omega
 unfold St.dir St.mark
 dsimp only
 rw[List.getD_eq_getElem?_getD,List.getElem?_set]
 by_cases e1:h/2=e
 ·rw[if_pos e1,if_pos hl,if_pos e1.symm];rfl
 ·rw[if_neg e1,if_neg (fun e2=>e1 e2.symm),List.getD_eq_getElem?_getD]
theorem Bd.mark (b:Bd n es r s) (hl:h<2*es.length) (hw:s.dir (h/2)= -1):Bd n es r (s.mark h):=by
 have hm:=jX b hl hw
 refine⟨b.lp,b.lh,by simp[St.mark,b.lo],fun e he=> ?_,fun v hv=> ?_,?_,b.hp,b.hu,b.hd⟩
 ·rw[jr b hl]
  by_cases e1:e=h/2
  ·rw[if_pos e1];omega
  ·rw[if_neg e1];exact b.ho e he
 ·have:=b.hh v hv
  exact⟨this.1,by show s.height v+((s.mark h).left:Int)≤_;omega⟩
 ·have:=b.hr
  show s.ord.length+(s.mark h).left≤_
  omega
theorem bM (b:Bd n es r s) (hv:v<n) (x y:Int) (u:Nat):(s.reach v x y).height u=if u=v then y else s.height u:=by
 have hl:v<s.ay.length:=by rw[b.lh];omega
 unfold St.height St.reach
 dsimp only
 rw[List.getD_eq_getElem?_getD,List.getElem?_set]
 by_cases e1:v=u
 ·rw[if_pos e1,if_pos hl,if_pos e1.symm];rfl
 ·rw[if_neg e1,if_neg (fun e2=>e1 e2.symm),List.getD_eq_getElem?_getD]
theorem zZ (b:Bd n es r s) (hv:v<n) (x y:Int) (u:Nat):(s.reach v x y).par.getD u 0=if u=v then x else s.par.getD u 0:=by
 have hl:v<s.par.length:=by rw[b.lp];omega
 unfold St.reach
 dsimp only
 rw[List.getD_eq_getElem?_getD,List.getElem?_set]
 by_cases e1:v=u
 ·rw[if_pos e1,if_pos hl,if_pos e1.symm];rfl
 ·rw[if_neg e1,if_neg (fun e2=>e1 e2.symm),List.getD_eq_getElem?_getD]
theorem Bd.reach {r':Nat} (b:Bd n es r s) (hv:v<n) {x y:Int} (hx: -1≤x∧x<2*(es.length:Int)) (hy:0≤y) (hy2:y+(s.left:Int)≤es.length) (hr:s.ord.length+1+s.left≤es.length+r'):Bd n es r' (s.reach v x y):=by
 refine⟨by simp[St.reach,b.lp],by simp[St.reach,b.lh],b.lo,b.ho,fun u hu=> ?_,?_,fun u hu=> ?_,fun u hu hn=> ?_,fun z hz=> ?_⟩
 ·rw[bM b hv]
  show _∧_+(s.left:Int)≤_
  by_cases e:u=v
  ·rw[if_pos e];omega
  ·rw[if_neg e];exact b.hh u hu
 ·show(s.ord++[(v:Int)]).length+s.left≤_
  rw[List.length_append,List.length_singleton]
  exact hr
 ·rw[zZ b hv]
  by_cases e:u=v
  ·rw[if_pos e];exact hx
  ·rw[if_neg e];exact b.hp u hu
 ·rw[bM b hv] at hn
  by_cases e:u=v
  ·rw[if_pos e] at hn;omega
  ·rw[if_neg e] at hn
   rw[zZ b hv,if_neg e]
   exact b.hu u hu hn
 ·have hz':z∈s.ord++[(v:Int)]:=hz
  rcases List.mem_append.1 hz' with h|h
  ·exact b.hd z h
  ·rw[List.mem_singleton] at h
   subst h
   omega
theorem Bd.root (b:Bd n es r s) (hv:v<n):Bd n es (r+1) (s.reach v (-1) 0):=by
 have:=b.few
 have:=b.hr
 exact b.reach hv (by omega) (by omega) (by omega) (by omega)
theorem Bd.go (b:Bd n es r s) (hval:Si.Val n es) (hl:h<2*es.length) (hw:s.dir (h/2)= -1):Bd n es r (s.go es h):=by
 have hm:=jX b hl hw
 have hb:=b.mark hl hw
 obtain⟨hf,ht⟩:=Cs.bH hval hl
 have h1:=b.hh _ hf
 have h2:=b.hr
 have e:(s.mark h).ord=s.ord:=rfl
 unfold St.go
 exact hb.reach ht (by omega) (by omega) (by omega) (by rw[e];omega)
theorem e8 {v k:Nat}:∀x∈Cs.out es v k,x<k:=fun x hx=>by
 obtain⟨j,hj⟩:=List.getElem?_of_mem hx
 exact(Cs.nr hj).1
theorem R.bd {k:Nat} {L:List Nat} (hval:Si.Val n es) (h:R es k s L s'):(∀x∈L,x<2*es.length)→Bd n es r s→Bd n es r s':=by
 induction h with
 |nil s=>exact fun _ b=>b
 |old hw hr ih=>exact fun hl b=>ih (fun x hx=>hl x (List.mem_cons_of_mem _ hx)) b
 |back hw hv hr ih=>exact fun hl b=>ih (fun x hx=>hl x (List.mem_cons_of_mem _ hx)) (b.mark (hl _ List.mem_cons_self) hw)
 |tree hw hv h1 h2 ih1 ih2=>exact fun hl b=>ih2 (fun x hx=>hl x (List.mem_cons_of_mem _ hx)) (ih1 e8 (b.go hval (hl _ List.mem_cons_self) hw))
theorem total (hval:Si.Val n es):∀(u:Nat) (L:List Nat) (s:St),s.left≤u→Bd n es r s→(∀x∈L,x<2*es.length)→∃k s',R es k s L s'∧s'.left≤s.left:=by
 intro u
 induction u with
 |zero=>
  intro L
  induction L with
  |nil=>exact fun s _ _ _=>⟨0,s,.nil s,Nat.le_refl _⟩
  |cons h L ih=>
   intro s hu b hl
   by_cases hw:s.dir (h/2)= -1
   ·have:=jX b (hl h List.mem_cons_self) hw
    omega
   ·obtain⟨k,s',h1,h2⟩:=ih s hu b (fun x hx=>hl x (List.mem_cons_of_mem _ hx))
    exact⟨k+1,s',.old hw h1,h2⟩
 |succ u Y9=>
  intro L
  induction L with
  |nil=>exact fun s _ _ _=>⟨0,s,.nil s,Nat.le_refl _⟩
  |cons h L ih=>
   intro s hu b hl
   have hh:=hl h List.mem_cons_self
   have hL:∀x∈L,x<2*es.length:=fun x hx=>hl x (List.mem_cons_of_mem _ hx)
   by_cases hw:s.dir (h/2)= -1
   ·have hm:=jX b hh hw
    by_cases hv:s.height (Cs.to es h)= -1
    ·have hle:(s.go es h).left=(s.mark h).left:=rfl
     obtain⟨j,s1,h1,h2⟩:=Y9 (Cs.out es (Cs.to es h) (2*es.length)) (s.go es h) (by omega) (b.go hval hh hw) e8
     obtain⟨k,s',h3,h4⟩:=Y9 L s1 (by omega) (h1.bd hval e8 (b.go hval hh hw)) hL
     exact⟨_,s',.tree hw hv h1 h3,by omega⟩
    ·obtain⟨k,s',h1,h2⟩:=Y9 L (s.mark h) (by omega) (b.mark hh hw) hL
     exact⟨_,s',.back hw hv h1,by omega⟩
   ·obtain⟨k,s',h1,h2⟩:=ih s hu b hL
    exact⟨k+1,s',.old hw h1,h2⟩
end
def St.start (n m:Nat):St:=⟨List.replicate n (-1),List.replicate n (-1),[],List.replicate m (-1)⟩
theorem MW (n:Nat) (es:List (Int×Int)):Bd n es 0 (St.start n es.length):=by
 have hc:(St.start n es.length).left=es.length:=by unfold St.left St.start;simp
 have hg:∀(m v:Nat),(List.replicate m (-1:Int)).getD v (-1)= -1:=fun m v=>by
  rw[List.getD_eq_getElem?_getD,List.getElem?_replicate]
  split<;>rfl
 refine⟨by simp[St.start],by simp[St.start],by simp[St.start],fun e _=> .inl (hg _ e),fun v _=> ?_,?_,fun v hv=> ?_,fun v hv _=> ?_,fun x hx=> ?_⟩
 ·have:(St.start n es.length).height v= -1:=hg n v
  rw[this,hc]
  omega
 ·rw[hc];simp[St.start]
 ·have:(St.start n es.length).par.getD v 0= -1:=by simp[St.start,List.getD_eq_getElem?_getD,hv]
  rw[this]
  omega
 ·simp[St.start,List.getD_eq_getElem?_getD,hv]
 ·simp[St.start] at hx
inductive Wk (n:Nat) (es:List (Int×Int)):Nat→St→Prop
 |zero:Wk n es 0 (St.start n es.length)
 |pass {i:Nat} {s:St} (h:Wk n es i s) (hv:s.height i≠-1):Wk n es (i+1) s
 |walk {i k:Nat} {s s':St} (h:Wk n es i s) (hv:s.height i= -1) (hr:R es k (s.reach i (-1) 0) (Cs.out es i (2*es.length)) s'):Wk n es (i+1) s'
theorem Wk.unique {n:Nat} {es:List (Int×Int)} {i:Nat} {s:St} (h:Wk n es i s):∀{s':St},Wk n es i s'→s=s':=by
 induction h with
 |zero=>intro s' h;cases h;rfl
 |pass h hv ih=>
  intro s' h'
  cases h' with
  |pass h'' hv'=>exact ih h''
  |walk h'' hv' hr=>
   obtain rfl:=ih h''
   exact absurd hv' hv
 |walk h hv hr ih=>
  intro s' h'
  cases h' with
  |pass h'' hv'=>
   obtain rfl:=ih h''
   exact absurd hv hv'
  |walk h'' hv' hr'=>
   obtain rfl:=ih h''
   exact(hr.unique hr').2
theorem Wk.bd {n:Nat} {es:List (Int×Int)} (hval:Si.Val n es) {i:Nat} {s:St} (h:Wk n es i s):i≤n→Bd n es i s:=by
 induction h with
 |zero=>exact fun _=>MW n es
 |pass h hv ih=>
  intro hi
  have b:=ih (by omega)
  exact⟨b.lp,b.lh,b.lo,b.ho,b.hh,by have:=b.hr;omega,b.hp,b.hu,b.hd⟩
 |walk h hv hr ih=>exact fun hi=>hr.bd hval e8 ((ih (by omega)).root (by omega))
end Df
end
section
namespace Df
abbrev at_ (l:List Int) (i:Nat):Int:=l.getD i (-1)
def up (es:List (Int×Int)) (s:St) (v:Int):Int:=Cs.Ff es (at_ s.par v.toNat)
def sN (n:Nat) (es:List (Int×Int)) (s:St):Prop:=s.par.length=n∧s.ay.length=n∧s.ord.length=n∧s.aJ.length=es.length
def iq (n:Nat) (s:St) (k:Nat):Prop:=∀i,i<k→(0≤at_ s.ord i∧at_ s.ord i<(n:Int))∧∀j,j<i→at_ s.ord j≠at_ s.ord i
def kn (es:List (Int×Int)) (s:St) (v:Nat):Prop:=
 (at_ s.par v= -1∧at_ s.ay v=0)∨∃h:Nat,h<2*es.length∧at_ s.par v=(h:Int)∧Cs.to es h=v∧at_ s.aJ (h/2)=(h:Int)∧at_ s.ay v=IntKind.i64.wrap (at_ s.ay (Cs.fr es h)+1)
def BR (n:Nat) (es:List (Int×Int)) (s:St):Prop:=∀v,v<n→kn es s v
def leave (p i:Int):List Int→List Int→List Int×List Int
 |[],B=>([],B)
 |x::W,B=>if x=p then (x::W,B) else leave p i W (B.set x.toNat i)
def side (n:Nat) (es:List (Int×Int)) (s:St):Nat→Option (List Int×List Int)
 |0=>some ([],List.replicate n 0)
 |k+1=>(side n es s k).bind fun q=>
  if up es s (at_ s.ord k)≠-1∧(leave (up es s (at_ s.ord k)) k q.1 q.2).1=[] then none
  else some (at_ s.ord k::(leave (up es s (at_ s.ord k)) k q.1 q.2).1,(leave (up es s (at_ s.ord k)) k q.1 q.2).2)
def dK (es:List (Int×Int)) (s:St):List Int→Prop
 |[]=>True
 |v::W=>0≤v∧up es s v=W.headD (-1)∧dK es s W
def bP (es:List (Int×Int)) (s:St) (u v:Int):Prop:=∃W,dK es s (v::W)∧u∈v::W
theorem dK.unique {es:List (Int×Int)} {s:St}:∀{W W':List Int},dK es s W→dK es s W'→W.headD (-1)=W'.headD (-1)→W=W'
 |[],[],_,_,_=>rfl
 |[],v::W',_,h,e=>by
  have:=h.1
  simp at e
  omega
 |v::W,[],h,_,e=>by
  have:=h.1
  simp at e
  omega
 |v::W,v'::W',h,h',e=>by
  have e1:v=v':=by simpa using e
  subst e1
  rw[dK.unique h.2.2 h'.2.2 (h.2.1.symm.trans h'.2.1)]
theorem bP.iff {es:List (Int×Int)} {s:St} {u v:Int} {W:List Int} (h:dK es s (v::W)):bP es s u v↔u∈v::W:=by
 constructor
 ·rintro⟨W',h',hu⟩
  have:=dK.unique h h' rfl
  injection this with _ e
  rw[e]
  exact hu
 ·exact fun hu=>⟨W,h,hu⟩
theorem mC {p i:Int}:∀(W B:List Int),∃X,W=X++(leave p i W B).1∧p∉X∧((leave p i W B).1=[]∨(leave p i W B).1.headD (-1)=p)
 |[],B=>⟨[],rfl,by simp,.inl rfl⟩
 |x::W,B=>by
  unfold leave
  by_cases h:x=p
  ·rw[if_pos h]
   exact⟨[],rfl,by simp,.inr (by simpa using h)⟩
  ·rw[if_neg h]
   obtain⟨X,h1,h2,h3⟩:=mC (p:=p) (i:=i) W (B.set x.toNat i)
   refine⟨x::X,by rw[List.cons_append,←h1],?_,h3⟩
   simp only[List.mem_cons,not_or]
   exact⟨fun e=>h e.symm,h2⟩
theorem pM {p i:Int}:∀(W B:List Int),(leave p i W B).2.length=B.length
 |[],B=>rfl
 |x::W,B=>by
  unfold leave
  split
  ·rfl
  ·rw[pM W (B.set x.toNat i),List.length_set]
theorem lR {p i:Int} {u:Nat}:∀(W B:List Int),(∀x∈W,0≤x)→((u:Int)∉W∨(u:Int)∈(leave p i W B).1∧W.Nodup)→at_ (leave p i W B).2 u=at_ B u
 |[],B,_,_=>rfl
 |x::W,B,h0,hu=>by
  have e1:leave p i (x::W) B=if x=p then (x::W,B) else leave p i W (B.set x.toNat i):=by
   conv=>lhs;unfold leave
  rw[e1] at hu ⊢
  by_cases hx:x=p
  ·rw[if_pos hx]
  ·rw[if_neg hx] at hu ⊢
   have hx0:=h0 x List.mem_cons_self
   have hne:x.toNat≠u:=by
    rcases hu with hu|⟨hu,hd⟩
    ·intro e
     exact hu (by rw[←e];simp[Int.toNat_of_nonneg hx0])
    ·intro e
     obtain⟨X,h1,_,_⟩:=mC (p:=p) (i:=i) W (B.set x.toNat i)
     have:(u:Int)∈W:=by rw[h1];exact List.mem_append_right _ hu
     rw[←e,Int.toNat_of_nonneg hx0] at this
     exact(List.nodup_cons.1 hd).1 this
   rw[lR W (B.set x.toNat i) (fun y hy=>h0 y (List.mem_cons_of_mem _ hy)) (by
    rcases hu with hu|⟨hu,hd⟩
    ·exact .inl fun h=>hu (List.mem_cons_of_mem _ h)
    ·exact .inr ⟨hu,(List.nodup_cons.1 hd).2⟩)]
   unfold at_
   rw[List.getD_eq_getElem?_getD,List.getElem?_set,if_neg hne,←List.getD_eq_getElem?_getD]
theorem pL {p i:Int} {u:Nat}:∀(W B:List Int),(∀x∈W,0≤x)→W.Nodup→(u:Int)∈W→(u:Int)∉(leave p i W B).1→u<B.length→at_ (leave p i W B).2 u=i
 |[],B,_,_,hu,_,_=>by simp at hu
 |x::W,B,h0,hd,hu,hn,hl=>by
  have e1:leave p i (x::W) B=if x=p then (x::W,B) else leave p i W (B.set x.toNat i):=by
   conv=>lhs;unfold leave
  rw[e1] at hn ⊢
  by_cases hx:x=p
  ·rw[if_pos hx] at hn
   exact absurd hu hn
  ·rw[if_neg hx] at hn ⊢
   have h0':=fun y hy=>h0 y (List.mem_cons_of_mem _ hy)
   by_cases e:(u:Int)=x
   ·have hnW:(u:Int)∉W:=by rw[e];exact(List.nodup_cons.1 hd).1
    rw[lR W (B.set x.toNat i) h0' (.inl hnW)]
    have:x.toNat=u:=by omega
    unfold at_
    rw[this,List.getD_eq_getElem?_getD,List.getElem?_set,if_pos rfl,if_pos hl]
    rfl
   ·exact pL W (B.set x.toNat i) h0' (List.nodup_cons.1 hd).2 ((List.mem_cons.1 hu).resolve_left e) hn (by rw[List.length_set];exact hl)
end Df
end
section
namespace Df
theorem dK.tail {es:List (Int×Int)} {s:St}:∀{X Y:List Int},dK es s (X++Y)→dK es s Y
 |[],_,h=>h
 |_::_,_,h=>dK.tail h.2.2
theorem dK.pos {es:List (Int×Int)} {s:St}:∀{W:List Int},dK es s W→∀x∈W,0≤x
 |[],_,x,hx=>by simp at hx
 |v::W,h,x,hx=>by
  rcases List.mem_cons.1 hx with rfl|hx
  ·exact h.1
  ·exact dK.pos h.2.2 x hx
def kU (n:Nat) (es:List (Int×Int)) (s:St) (j:Nat):List Int:=((side n es s (j+1)).getD ([],[])).1
structure Sc (n:Nat) (es:List (Int×Int)) (s:St) (k:Nat) (W B:List Int):Prop where
 way:dK es s W
 sub:∀u∈W,∃a,a<k∧at_ s.ord a=u
 YN:W.Nodup
 len:W.length≤k
 LY:B.length=n
 ops:∀a,a<k→(at_ s.ord a∈W∧∀j,a≤j→j<k→at_ s.ord a∈kU n es s j)∨
  (at_ s.ord a∉W∧∃c:Nat,a<c∧c≤k∧at_ B (at_ s.ord a).toNat=(c:Int)∧(∀j,a≤j→j<c→at_ s.ord a∈kU n es s j)∧∀j,c≤j→j<k→at_ s.ord a∉kU n es s j)
 Mg:∀j,j<k→(∀u∈kU n es s j,∃a,a≤j∧at_ s.ord a=u)∧(∃Y,kU n es s j=at_ s.ord j::Y)∧dK es s (kU n es s j)∧(kU n es s j).length≤j+1∧(kU n es s j).Nodup
section
variable {n:Nat} {es:List (Int×Int)} {s:St}
theorem iq.ne (h:iq n s n) {a b:Nat} (ha:a<n) (hb:b<n) (hab:a≠b):at_ s.ord a≠at_ s.ord b:=by
 rcases Nat.lt_or_ge a b with h1|h1
 ·exact(h b hb).2 a h1
 ·exact fun e=>(h a ha).2 b (by omega) e.symm
theorem rJ (ho:iq n s n):∀k,k≤n→∀W B,side n es s k=some (W,B)→Sc n es s k W B:=by
 intro k
 induction k with
 |zero=>
  intro _ W B h
  simp only[side,Option.some.injEq,Prod.mk.injEq] at h
  obtain⟨rfl,rfl⟩:=h
  exact⟨trivial,by simp,by simp,by simp,by simp,fun a ha=>by omega,fun j hj=>by omega⟩
 |succ k ih=>
  intro hk W B h
  have hs:=h
  unfold side at h
  cases hq:side n es s k with
  |none=>rw[hq] at h;cases h
  |some q=>
   obtain⟨W0,B0⟩:=q
   have inv:=ih (by omega) W0 B0 hq
   rw[hq,Option.bind_some] at h
   dsimp only at h
   obtain⟨v,hv⟩:∃v,at_ s.ord k=v:=⟨_,rfl⟩
   obtain⟨p,hp⟩:∃p,up es s v=p:=⟨_,rfl⟩
   rw[hv,hp] at h
   obtain⟨X,hX,hpX,E5⟩:=mC (p:=p) (i:=(k:Int)) W0 B0
   have QC:=pM (p:=p) (i:=(k:Int)) W0 B0
   obtain⟨L,hL⟩:∃L,leave p k W0 B0=L:=⟨_,rfl⟩
   rw[hL] at h hX E5 QC
   split at h
   ·cases h
   rename_i hc
   simp only[Option.some.injEq,Prod.mk.injEq] at h
   obtain⟨rfl,rfl⟩:=h
   have hv0:=(ho k (by omega)).1
   rw[hv] at hv0
   have EW:∀u∈L.1,u∈W0:=fun u hu=>by rw[hX];exact List.mem_append_right _ hu
   have hne:∀a,a<k→at_ s.ord a≠v:=fun a ha=>by rw[←hv];exact ho.ne (by omega) (by omega) (by omega)
   have hvL:v∉W0:=fun hm=>by
    obtain⟨a,ha,e⟩:=inv.sub v hm
    exact hne a ha e
   have Zt:L.1.Nodup:=by
    have:=inv.YN
    rw[hX] at this
    exact(List.nodup_append.1 this).2.1
   have Az:kU n es s k=v::L.1:=by
    unfold kU
    rw[hs]
    rfl
   have Ze:dK es s L.1:=by
    have:=inv.way
    rw[hX] at this
    exact this.tail
   have bB:dK es s (v::L.1):=by
    refine⟨hv0.1,?_,Ze⟩
    rw[hp]
    rcases E5 with h1|h1
    ·rw[h1]
     simp only[List.headD_nil]
     by_cases e:p= -1
     ·exact e
     ·exact absurd ⟨e,h1⟩ hc
    ·exact h1.symm
   have ag5:L.1.length≤k:=by
    have:=inv.len
    rw[hX,List.length_append] at this
    omega
   have Mc:(v::L.1).Nodup:=List.nodup_cons.2 ⟨fun h=>hvL (EW v h),Zt⟩
   refine⟨bB,?_,Mc,by simp;omega,by rw[QC];exact inv.LY,?_,?_⟩
   ·intro u hu
    rcases List.mem_cons.1 hu with rfl|hu
    ·exact⟨k,by omega,hv⟩
    ·obtain⟨a,ha,e⟩:=inv.sub u (EW u hu)
     exact⟨a,by omega,e⟩
   ·intro a ha
    by_cases ZN:a=k
    ·subst ZN
     rw[hv]
     refine .inl ⟨List.mem_cons_self,fun j h1 h2=> ?_⟩
     obtain rfl:j=a:=by omega
     rw[Az]
     exact List.mem_cons_self
    ·have Rj:a<k:=by omega
     obtain⟨u,hu⟩:∃u,at_ s.ord a=u:=⟨_,rfl⟩
     have huv:=hne a Rj
     have Ui:=(ho a (by omega)).1
     have WQ:=inv.ops a Rj
     rw[hu] at huv Ui WQ ⊢
     have hun:(u.toNat:Int)=u:=Int.toNat_of_nonneg Ui.1
     rcases WQ with ⟨h1,h2⟩|⟨h1,c,c1,c2,c3,c4,c5⟩
     ·by_cases hin:u∈L.1
      ·refine .inl ⟨List.mem_cons_of_mem _ hin,fun j j1 j2=> ?_⟩
       by_cases e:j=k
       ·subst e;rw[Az];exact List.mem_cons_of_mem _ hin
       ·exact h2 j j1 (by omega)
      ·refine .inr ⟨fun h=>(List.mem_cons.1 h).elim huv hin,k,Rj,by omega,?_,h2,fun j j1 j2=> ?_⟩
       ·rw[←hL]
        refine pL W0 B0 inv.way.pos inv.YN (by rw[hun];exact h1) (by rw[hun,hL];exact hin) (by rw[inv.LY];omega)
       ·obtain rfl:j=k:=by omega
        rw[Az]
        exact fun h=>(List.mem_cons.1 h).elim huv hin
     ·have hin:u∉L.1:=fun h=>h1 (EW u h)
      refine .inr ⟨fun h=>(List.mem_cons.1 h).elim huv hin,c,c1,by omega,?_,c4,fun j j1 j2=> ?_⟩
      ·rw[←hL,lR W0 B0 inv.way.pos (.inl (by rw[hun];exact h1))]
       exact c3
      ·by_cases e:j=k
       ·subst e
        rw[Az]
        exact fun h=>(List.mem_cons.1 h).elim huv hin
       ·exact c5 j j1 (by omega)
   ·intro j hj
    by_cases e:j=k
    ·subst e
     rw[Az]
     refine⟨fun u hu=> ?_,⟨L.1,by rw[hv]⟩,bB,by simp;omega,Mc⟩
     rcases List.mem_cons.1 hu with rfl|hu
     ·exact⟨j,Nat.le_refl _,hv⟩
     ·obtain⟨a,ha,e⟩:=inv.sub u (EW u hu)
      exact⟨a,by omega,e⟩
    ·exact inv.Mg j (by omega)
def ends (n:Nat) (W B:List Int):List Int:=(leave (-1) n W B).2
theorem xM {W B:List Int} {i:Int} (h:∀x∈W,0≤x):(leave (-1) i W B).1=[]:=by
 obtain⟨X,hX,_,hh⟩:=mC (p:= -1) (i:=i) W B
 rcases hh with hh|hh
 ·exact hh
 ·cases hY:(leave (-1) i W B).1 with
  |nil=>rfl
  |cons y Y=>
   rw[hY] at hh hX
   have:=h y (by rw[hX];simp)
   simp at hh
   omega
theorem MZ (ho:iq n s n) {W B:List Int} (h:side n es s n=some (W,B)) {a j:Nat} (ha:a<n) (hj:j<n):
 at_ s.ord a∈kU n es s j↔a≤j∧(j:Int)<at_ (ends n W B) (at_ s.ord a).toNat:=by
 have inv:=rJ ho n (Nat.le_refl _) W B h
 have Ui:=(ho a ha).1
 have hun:((at_ s.ord a).toNat:Int)=at_ s.ord a:=Int.toNat_of_nonneg Ui.1
 have Mm:¬a≤j→at_ s.ord a∉kU n es s j:=fun hlt hm=>by
  obtain⟨b,hb,e⟩:=(inv.Mg j hj).1 _ hm
  exact ho.ne (a:=b) (b:=a) (by omega) ha (by omega) e
 rcases inv.ops a ha with ⟨h1,h2⟩|⟨h1,c,c1,c2,c3,c4,c5⟩
 ·have e:at_ (ends n W B) (at_ s.ord a).toNat=(n:Int):=by
   unfold ends
   exact pL W B inv.way.pos inv.YN (by rw[hun];exact h1) (by rw[xM inv.way.pos];simp) (by rw[inv.LY];omega)
  rw[e]
  constructor
  ·intro hm
   by_cases hlt:a≤j
   ·exact⟨hlt,by omega⟩
   ·exact absurd hm (Mm hlt)
  ·exact fun h=>h2 j h.1 hj
 ·have e:at_ (ends n W B) (at_ s.ord a).toNat=(c:Int):=by
   unfold ends
   rw[lR W B inv.way.pos (.inl (by rw[hun];exact h1))]
   exact c3
  rw[e]
  constructor
  ·intro hm
   by_cases hlt:a≤j
   ·refine⟨hlt,?_⟩
    rcases Nat.lt_or_ge j c with h|h
    ·omega
    ·exact absurd hm (c5 j h hj)
   ·exact absurd hm (Mm hlt)
  ·exact fun h=>c4 j h.1 (by omega)
end
end Df
end
section
namespace Df
section
variable {n:Nat} {es:List (Int×Int)} {s:St}
theorem iq.sI (h:iq n s n) {v:Nat} (hv:v<n):∃a,a<n∧at_ s.ord a=(v:Int):=by
 obtain⟨a,ha,e⟩:=Bu.pig n (fun a=>(at_ s.ord a).toNat) (fun i hi=>by have:=(h i hi).1;omega) (fun i j hi hj e=>by
  by_cases hij:i=j
  ·exact hij
  ·have h1:=(h i hi).1
   have h2:=(h j hj).1
   exact absurd (by omega:at_ s.ord i=at_ s.ord j) (h.ne hi hj hij)) v hv
 have:=(h a ha).1
 exact⟨a,ha,by omega⟩
def iY (n:Nat) (s:St) (P:List Int):Prop:=P.length=n∧∀a,a<n→at_ P (at_ s.ord a).toNat=(a:Int)
theorem tW (ho:iq n s n) {W B P:List Int} (hs:side n es s n=some (W,B)) (hP:iY n s P) {u v:Nat} (hu:u<n) (hv:v<n):
 (at_ P u≤at_ P v∧at_ P v<at_ (ends n W B) u)↔bP es s u v:=by
 obtain⟨a,ha,ea⟩:=ho.sI hu
 obtain⟨b,hb,eb⟩:=ho.sI hv
 have pa:=hP.2 a ha
 have pb:=hP.2 b hb
 have hend:=MZ (es:=es) ho hs ha hb
 obtain⟨_,⟨Y,hY⟩,hw,_,_⟩:=(rJ ho n (Nat.le_refl _) W B hs).Mg b hb
 rw[ea] at pa hend
 rw[eb] at pb hY
 rw[hY] at hw hend
 rw[Int.toNat_natCast] at pa pb hend
 rw[pa,pb,bP.iff hw,hend]
 omega
theorem jz (ho:iq n s n) {W B:List Int} (hs:side n es s n=some (W,B)) {v:Nat} (hv:v<n):∃Y,dK es s ((v:Int)::Y)∧Y.length<n∧∀x∈Y,∃u:Nat,u<n∧x=(u:Int):=by
 obtain⟨b,hb,eb⟩:=ho.sI hv
 obtain⟨hsub,⟨Y,hY⟩,hw,hl,_⟩:=(rJ ho n (Nat.le_refl _) W B hs).Mg b hb
 rw[eb] at hY
 rw[hY] at hw hl hsub
 refine⟨Y,hw,by simp at hl;omega,fun x hx=> ?_⟩
 obtain⟨a,ha,rfl⟩:=hsub x (List.mem_cons_of_mem _ hx)
 have:=(ho a (by omega)).1
 exact⟨(at_ s.ord a).toNat,by omega,by omega⟩
theorem kn.cases (hval:Si.Val n es) {v:Nat} (h:kn es s v):(at_ s.par v= -1∧up es s v= -1∧at_ s.ay v=0)∨∃u:Nat,u<n∧up es s v=(u:Int)∧at_ s.par v≠-1∧at_ s.ay v=IntKind.i64.wrap (at_ s.ay u+1):=by
 rcases h with ⟨h1,h2⟩|⟨x,hx,h1,h2,h3,h4⟩
 ·refine .inl ⟨h1,?_,h2⟩
  unfold up
  rw[Int.toNat_natCast,h1]
  exact Cs.zj (by omega)
 ·refine .inr ⟨Cs.fr es x,(Cs.bH hval hx).1,?_,by rw[h1];omega,h4⟩
  unfold up
  rw[Int.toNat_natCast,h1]
  exact Cs.jI hx
theorem jq (hval:Si.Val n es) (hh:BR n es s):∀(Y:List Int) (v:Nat),v<n→dK es s ((v:Int)::Y)→Y.length<4611686018427387904→at_ s.ay v=(Y.length:Int)
 |[],v,hv,hw,_=>by
  rcases(hh v hv).cases hval with ⟨_,_,h⟩|⟨u,_,h,_⟩
  ·simpa using h
  ·have:=hw.2.1
   simp at this
   omega
 |y::Y,v,hv,hw,hl=>by
  have h1:=hw.2.1
  have hy0:=hw.2.2.1
  simp at h1
  rcases(hh v hv).cases hval with ⟨_,h,_⟩|⟨u,hu,h,_,h4⟩
  ·omega
  ·obtain rfl:y=(u:Int):=by omega
   have ih:=jq hval hh Y u hu hw.2.2 (by simp at hl;omega)
   rw[h4,ih,IntKind.wrap_i64]
   simp at hl ⊢
   omega
theorem sK (hval:Si.Val n es) (hh:BR n es s):∀(Y:List Int) (v:Nat),v<n→dK es s ((v:Int)::Y)→Y.length<4611686018427387904→∀x:Nat,(x:Int)∈Y→at_ s.ay x<at_ s.ay v
 |[],v,hv,hw,_,x,hx=>by simp at hx
 |y::Y,v,hv,hw,hl,x,hx=>by
  have h1:=hw.2.1
  have hy0:=hw.2.2.1
  simp at h1
  rcases(hh v hv).cases hval with ⟨_,h,_⟩|⟨u,hu,h,_,_⟩
  ·omega
  ·obtain rfl:y=(u:Int):=by omega
   have e1:=jq hval hh ((u:Int)::Y) v hv hw hl
   have hl2:Y.length<4611686018427387904:=by simp at hl;omega
   have e2:=jq hval hh Y u hu hw.2.2 hl2
   have hlt:at_ s.ay u<at_ s.ay v:=by rw[e1,e2];simp;omega
   rcases List.mem_cons.1 hx with e|hx
   ·obtain rfl:x=u:=by omega
    exact hlt
   ·have:=sK hval hh Y u hu hw.2.2 hl2 x hx
    omega
def rG (es:List (Int×Int)) (s:St) (e:Nat):Prop:=
 ∃h:Nat,(h=2*e∨h=2*e+1)∧at_ s.aJ e=(h:Int)∧(at_ s.par (Cs.to es h)=(h:Int)∨bP es s (Cs.to es h) (Cs.fr es h))
structure VF (n:Nat) (es:List (Int×Int)) (s:St):Prop where
 lens:sN n es s
 once:iq n s n
 hang:BR n es s
 side:∃q,side n es s n=some q
 edge:∀e,e<es.length→rG es s e
def Vi (n:Nat) (s:St):Prop:=∀v,v<n→0≤at_ s.ay v∧at_ s.ay v<(n:Int)∧(at_ s.ay v=0↔at_ s.par v= -1)
theorem s9 (hval:Si.Val n es) (ho:iq n s n) (hh:BR n es s) (hs:∃q,Df.side n es s n=some q):Vi n s:=by
 intro v hv
 obtain⟨⟨W,B⟩,hs⟩:=hs
 obtain⟨Y,hw,hl,_⟩:=jz (es:=es) ho hs hv
 have hn:=hval.hi
 have e:=jq hval hh Y v hv hw (by omega)
 rw[e]
 refine⟨by omega,by omega,?_⟩
 rcases(hh v hv).cases hval with ⟨h1,h2,h3⟩|⟨u,_,h2,h3,_⟩
 ·constructor
  ·exact fun _=>h1
  ·intro _
   omega
 ·constructor
  ·intro h0
   have hY:Y=[]:=List.length_eq_zero_iff.1 (by omega)
   rw[hY] at hw
   have:=hw.2.1
   simp at this
   omega
  ·exact fun h=>absurd h h3
theorem q7 (hval:Si.Val n es) (ho:iq n s n) (hh:BR n es s) (hs:∃q,Df.side n es s n=some q) {u v:Nat} (hv:v<n) (hne:u≠v) (ha:bP es s u v):at_ s.ay u<at_ s.ay v:=by
 obtain⟨⟨W,B⟩,hs⟩:=hs
 obtain⟨Y,hw,hl,_⟩:=jz (es:=es) ho hs hv
 have hn:=hval.hi
 rw[bP.iff hw] at ha
 rcases List.mem_cons.1 ha with e|ha
 ·omega
 ·exact sK hval hh Y v hv hw (by omega) u ha
end
end Df
namespace Df
theorem zM {n:Nat} {es:List (Int×Int)} {s:St} {k:Nat} (h:side n es s k=none):∀d,side n es s (k+d)=none
 |0=>h
 |d+1=>by
  show side n es s (k+d+1)=none
  unfold side
  rw[zM h d]
  rfl
theorem qy {n:Nat} {es:List (Int×Int)} {s:St} (ho:iq n s n) {k:Nat} (hk:k≤n) {W B:List Int} (h:side n es s k=some (W,B)):(∀x∈W,0≤x∧x<(n:Int))∧W.length≤k∧B.length=n:=by
 have inv:=rJ ho k hk W B h
 refine⟨fun x hx=> ?_,inv.len,inv.LY⟩
 obtain⟨a,ha,rfl⟩:=inv.sub x hx
 exact(ho a (by omega)).1
end Df
def oK (n:Int) (es:List (Int×Int)) (s:Df.St):Prop:=∃m:Nat,n=(m:Int)∧Si.Val m es∧Df.VF m es s
end
section
open Go.RowKit
def aS (w:World) (B:Nat) (v:Value) (l:List Int):Prop:=w.ownsRow B 3 1 v l.length (l.map (Value.int .i64))
section
variable {w w':World} {B:Nat} {v:Value} {l:List Int}
theorem aS.nil (w:World) (B:Nat):aS w B (.slice none 0 0) []:=World.ownsRow_nil _ _ _ _
theorem aS.form (h:aS w B v l):∃ao cap,v= .slice ao l.length cap∧dc w ao l∧(∀x,ao=some x→B≤x.block∧x.block<w.heap.size):=by
 rcases h.2 with ⟨rfl,h0⟩|⟨g,cap,cur,rfl,hB,hh,_⟩
 ·refine⟨none,0,by rw[h0],fun j x hj=> ?_,fun x hx=>by cases hx⟩
  have:=(List.getElem?_eq_some_iff.1 hj).1
  omega
 ·refine⟨_,_,rfl,fun j x hj=> ?_,fun x hx=>by cases hx;exact⟨hB,lt_of_block hh⟩⟩
  refine⟨g,0,rfl,?_⟩
  have:=World.ownsRow.cells h (g:=g) rfl j (.int .i64 x) (by rw[List.getElem?_map,hj];rfl)
  have e:((⟨g,0,none⟩:Addr).add j)=⟨g,0+j,none⟩:=by
   by_cases h0:j=0<;>simp[Addr.add,h0]
  rw[e] at this
  exact this
theorem aS.same (h:aS w B v l) (hb:∀g,v.ownBlock=some g→g<w.heap.size→w'.heap[g]? =w.heap[g]?):aS w' B v l:=by
 refine⟨h.1,?_⟩
 rcases h.2 with h|⟨g,cap,cur,e1,hgB,hh,hr⟩
 ·exact .inl h
 ·exact .inr ⟨g,cap,cur,e1,hgB,(hb g (by rw[e1];rfl) (lt_of_block hh)).trans hh,hr⟩
theorem aS.later (h:aS w B v l) (hb:Below w.heap.size w w'):aS w' B v l:=h.same fun g _ hl=>hb.block g hl
theorem aS.lower {B':Nat} (h:aS w B v l) (hB:B'≤B):aS w B' v l:=by
 refine⟨h.1,?_⟩
 rcases h.2 with h|⟨g,cap,cur,e1,hgB,hr⟩
 ·exact .inl h
 ·exact .inr ⟨g,cap,cur,e1,Nat.le_trans hB hgB,hr⟩
theorem aq.own {g n:Nat} (h:aq w g l) (hB:B≤g) (hl:l.length=n) (hm:n≤8388608):aS w B (.slice (some ⟨g,0,none⟩) n n) l:=by
 subst hl
 refine⟨by simp,.inr ⟨g,_,_,rfl,hB,h,Nat.le_refl _,by unfold maxLen;omega,by simp,?_⟩⟩
 rw[List.take_of_length_le (by simp)]
end
end
end Go.Proofs.YtnhcggfbkoppnaaGreat
