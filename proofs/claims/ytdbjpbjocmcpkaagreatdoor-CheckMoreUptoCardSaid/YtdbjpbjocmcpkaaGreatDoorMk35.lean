import Derived.Test.YtdbjpbjocmcpkaaGreatDoorMk34
set_option maxHeartbeats 1000000
set_option maxRecDepth 100000
namespace Go.Proofs.YtdbjpbjocmcpkaaGreatDoor
section
open Go.RowKit Go.Sort
namespace Ck
open Classical in
noncomputable def may (c:Ce.Cert):Bool:=decide (Ce.good c/\(Ce.eP c).length<=33554432)
theorem qZ {c:Ce.Cert} (h:Ce.good c/\(Ce.eP c).length<=33554432):may c=true:=by unfold may;exact @decide_eq_true _ (_) h
theorem I5 {c:Ce.Cert} (h:¬(Ce.good c/\(Ce.eP c).length<=33554432)):may c=false:=by unfold may;exact @decide_eq_false _ (_) h
theorem BP {c:Ce.Cert} (h:may c=true):Ce.good c/\(Ce.eP c).length<=33554432:=by unfold may at h;exact @of_decide_eq_true _ (_) h
open Classical in
noncomputable def code (n:Int) (es:List (Int×Int)) (c:Ce.Cert):Int:=
 if Si.valid n es=false then 1
 else if may c=false then 181
 else if c.pl=true then
  (if (Ro.check n es (Ro.hls es 0 c.ar)).2≠0 then 182 else if Fa.gz n.toNat es (Ro.hls es 0 c.ar)=0 then 0 else 183)
 else if ¬ ∀x∈c.es,x∈es then 184 else if (Ku.kr n c.es).2.2.2.1=true then 0 else 185
end Ck
theorem DM {k:Nat} {q0 q1 q5 q6 v:Value} {c:Ce.Cert} {xo eo:Option Addr} {xc ec:Nat} {w:World} (hb:w.heap[k]? =some (.cells #[q0,q1,.bool c.pl,.slice xo c.ar.length xc,.slice eo c.es.length ec,q5,q6] 68 (0,0))) (hs:Ce.jV w v c xo eo xc ec) (hf:Ce.qB c) (ht:iE w):
 Calls Tryz.prog 51 #[.pointer (some ⟨k,0,none⟩)] w fun e w'=>e= .returned (.bool (Ck.may c))/\Below w.heap.size w w':=by
 obtain⟨-,-,c2,c3,c4,-⟩:=bV hb;have hk:=lt_of_block hb;have hV:=BH hs hf ht;rw[hs.val] at hV;have HV:=ζ hV;obtain⟨t,ht'⟩:∃t,Ck.may c=t:=⟨_,rfl⟩;have Zh:Hid (∀e,vN c e->∃s z,e= .returned (.tuple #[.string s,.int .i64 z])/\(z==0)=t):=fun e he=>by
  by_cases hg:Ce.good c
  .rcases he.2 hg with ⟨h1,rfl⟩|⟨h1,rfl⟩
   .refine⟨_,_,rfl,?_⟩
    rw[<-ht',Ck.I5 (fun h=>by omega)];rfl
   .refine⟨_,_,rfl,?_⟩
    rw[<-ht',Ck.qZ ⟨hg,h1⟩];rfl
  .rw[he.1 hg]
   refine⟨_,_,rfl,?_⟩;rw[<-ht',Ck.I5 (fun h=>hg h.1)];rfl
 rw[ht'];clear hb hs hf ht hV ht';go_enter Tryz.func51,Tryz.ntmps51;go_wp2_with (go_at_call 19;refine HV.out.mono ?_;refine aaH ?_);refine ζ ?_;rintro e w1 ⟨UF,hb1⟩;obtain⟨s,z,rfl,hz⟩:=Zh.out e UF;have aN:=ζ hb1;clear UF hb1 c2 c3 c4;go_wp2;go_ret;exact⟨rfl,aN.out⟩
end
end Go.Proofs.YtdbjpbjocmcpkaaGreatDoor
