import Derived.Test.YtnhcggfbkoppnaaGreatMg32
namespace Go.Proofs.YtnhcggfbkoppnaaGreat
section
open Go.RowKit Lt Pl
namespace Lt
section
variable {n m:Nat} {T:DF n m} {E:Env} {oe:Nat→List Nat} {hf:Nat→Int}
theorem Dc (hE:dN T E oe hf) {N:Nat} (hN:2*m+1≤N) {v:Nat} {l:List Int} {st:TS} {fin:Nat→Prop} {G:List Nat} {r:Option TS} (h:Inv T E oe st fin G []) (hv:v<n) (hnd:((v:Int)::l).Nodup) (hro:∀u:Nat,Root T u→(u:Int)∈(v:Int)::l→¬fin u) (ht:trees E N ((v:Int)::l) st=some r):
 (∃x:Int,x≠-1∧bz E.par (v:Int)=some x∧trees E N l st=some r)∨(bz E.par (v:Int)=some (-1)∧Inv T E oe (enter st v) fin G [⟨v,0,[]⟩]∧((run E N (enter st v)=some none∧r=none)∨∃fC qX G1,run E N (enter st v)=some (some fC)∧Inv T E oe fC qX G1 []∧trees E N l fC=some r∧∀u:Nat,Root T u→(u:Int)∈l→¬qX u)):=by
 obtain⟨Py,YP⟩:=List.nodup_cons.1 hnd
 unfold trees at ht
 rcases hE.par v hv with ⟨a,k1,k2,k3,k4⟩|⟨k1,k2⟩
 ·have:=hE.h0 a k1
  rw[k4] at ht
  dsimp only at ht
  rw[if_neg (by omega)] at ht
  exact .inl ⟨hf a,by omega,k4,ht⟩
 ·rw[k2] at ht
  dsimp only at ht
  rw[if_pos rfl] at ht
  have hi:=h.enter hv k1 (hro v k1 List.mem_cons_self)
  refine .inr ⟨k2,hi,?_⟩
  rcases Dj hE N hi (by simp;omega) with q|⟨fC,qX,G1,q1,q2,q3,q4,q5⟩
  ·rw[q.1] at ht
   exact .inl ⟨q.1,(Option.some.inj ht).symm⟩
  ·rw[q1] at ht
   refine .inr ⟨fC,qX,G1,q1,q2,ht,fun u hu hm ZE=> ?_⟩
   rcases q5 u ZE with q|⟨l,hl,q⟩|⟨a,a1,a2,a3⟩
   ·exact hro u hu (List.mem_cons_of_mem _ hm) q
   ·rw[List.mem_singleton.1 hl] at q
    dsimp only at q
    rw[q] at Py
    exact Py hm
   ·exact hu a a1 a2 a3
end
end Lt
section
variable {c:Wp} {p t:Nat} {W0 W wr:World} {O B:Nat→Prop} {st:TS} {L U Z:Nat} {vp vw:Value}
set_option maxRecDepth 100000 in
set_option maxHeartbeats 16000000 in
theorem Jh {T:DF c.n c.es.length} {oe:Nat→List Nat} {hf:Nat→Int} (hE:dN T c.env oe hf) (h:aQ c p t W0 O st L U Z vp vw W) {fin:Nat→Prop} {G:List Nat} (hI:Inv T c.env oe st fin G []) {N:Nat} (hN:2*c.es.length+1≤N) (nu:∀x∈c.s.ord,∃v:Nat,v<c.n∧x=(v:Int)) (hnd:c.s.ord.Nodup) (hro:∀u:Nat,Root T u→(u:Int)∈c.s.ord→¬fin u) {r:Option TS} (ht:trees c.env N c.s.ord st=some r):
 Calls Tryz.prog 48 #[.pointer (some ⟨t,0,none⟩)] W (gD c p t W0 O W r):=by
 have hn:=h.wk.val.hi
 have hl:=h.wk.vf.lens
 have x0:=h.cells.1
 have x1:=h.now.c4
 have nD:=Nu.hid (aD.start h)
 have mW:Hid (∀st' w',aT c p t W0 O W st' w'→aD c p t W0 O W (fun _=>False) st' w'):=fun st' w' hp=>hp.into h
 have fO:=Nu.hid h.now
 have jS:=Nu.hid h
 have HE:=Nu.hid hE
 have HI:=Nu.hid hI
 have HT:=Nu.hid ht
 have HRO:=Nu.hid hro
 have HND:=Nu.hid hnd
 have afn:=Nu.hid nu
 have HL:=Nu.hid hl
 have HN:Hid (c.n≤1048576):=by show c.n≤1048576;omega
 clear h hE hI ht hro hnd nu hl hn
 go_enter Tryz.func48,Tryz.ntmps48
 go_wp2_with fail
 go_loopw [14] (fun cv wr=>∃i:Nat,cv= .int .i64 (i:Int)∧i≤c.n∧∃st fin G,Inv T c.env oe st fin G []∧aD c p t W0 O W (fun _=>False) st wr∧trees c.env N (c.s.ord.drop i) st=some r∧∀u:Nat,Root T u→(u:Int)∈c.s.ord.drop i→¬fin u) (fun cv _=>c.n-(intOf cv).toNat)
 case atStart=>exact⟨0,rfl,Nat.zero_le _,st,fin,G,HI.out,nD.out,HT.out,HRO.out⟩
 case round=>
  obtain⟨i,rfl,hin,fC,qX,G1,wS,mI,ET,AH⟩:=hrel
  have fo:=Nu.hid mI
  by_cases hic:i<c.n
  ·have hsp:c.s.ord.drop i=Df.at_ c.s.ord i::c.s.ord.drop (i+1):=by
    have hlt:i<c.s.ord.length:=by rw[HL.out.2.2.1];exact hic
    rw[List.drop_eq_getElem_cons hlt]
    unfold Df.at_
    simp[hlt]
   obtain⟨v,hv,GY⟩:=afn.out (Df.at_ c.s.ord i) (List.mem_of_mem_drop (i:=i) (by rw[hsp];exact List.mem_cons_self))
   rw[hsp,GY] at ET AH
   have Md:((v:Int)::c.s.ord.drop (i+1)).Nodup:=by
    rw[←GY,←hsp]
    exact HND.out.drop
   have hca:=Dc HE.out hN wS hv Md AH ET
   obtain⟨-,-,O',-,-,L',U',Z',oY,qo,hT⟩:=mI
   obtain⟨bo,oo,eo,kX⟩:=hT.now.ord hic
   obtain⟨bp,op,ep,pR⟩:=hT.now.par hv
   have z0:=hT.cells.1
   have z1:=kX wr (Below.refl _ _) i hic
   rw[GY] at z1
   have z2:=hT.now.c2
   rw[ep] at z2
   have z3:=pR wr (Below.refl _ _) v hv
   have hpar:bz c.env.par (v:Int)=some (Df.at_ c.s.par v):=at_at (by show _<c.s.par.length;rw[HL.out.1];exact hv)
   have i0:(0:Int)≤(i:Int):=by omega
   have i1:(i:Int)<(c.n:Int):=by omega
   have i2:(i:Int)+1≤1048576:=by have:=HN.out;omega
   have t0:(0:Int)≤(v:Int):=by omega
   have t1:(v:Int)<(c.n:Int):=by omega
   rw[hpar] at hca
   obtain⟨x,hx⟩:∃x,Df.at_ c.s.par v=x:=⟨_,rfl⟩
   rw[hx] at hca z3
   rw[eo]
   rcases hca with ⟨x',hx1,hx2,hx3⟩|⟨hx2,E8,hca⟩
   ·cases hx2
    have uQ:(x== -1)=false:=by simp only[beq_eq_false_iff_ne,ne_eq];exact hx1
    have fB:Hid (∃st fin G,Inv T c.env oe st fin G []∧aD c p t W0 O W (fun _=>False) st wr∧trees c.env N (c.s.ord.drop (i+1)) st=some r∧∀u:Nat,Root T u→(u:Int)∈c.s.ord.drop (i+1)→¬fin u):=⟨fC,qX,G1,wS,fo.out,hx3,fun u hu hm=>AH u hu (List.mem_cons_of_mem _ hm)⟩
    clear hT wS ET AH Md hsp GY kX pR eo ep hpar hx hx3
    go_wp2_with fail
    go_roundw
    case rel=>exact⟨i+1,by simp,by omega,fB.out⟩
    case measure=>
     simp[intOf]
     omega
   ·cases hx2
    have vG:Hid (∀r1,run c.env N (enter fC v)=some r1→Calls Tryz.prog 88 #[.pointer (some ⟨t,0,none⟩),.int .i64 (v:Int)] wr (gD c p t W0 O W r1)):=fun r1 h1=>fo.out.says fun qm=>Jg HE.out qm E8 h1
    rcases hca with ⟨s1,s2⟩|⟨nG,mN,G2,s1,KD,hx3,WI⟩
    ·have mY:=Nu.hid (vG.out none s1)
     have SN:=Nu.hid s2
     clear hT wS ET AH Md hsp GY kX pR eo ep hpar hx s1 s2 E8
     go_wp2_with (go_at_call 88;refine mY.out.mono ?_;rintro e1 w2 ⟨nG,rfl,iM⟩;have ko:=Nu.hid iM;clear iM)
     go_ret
     rw[SN.out]
     exact⟨nG,rfl,ko.out⟩
    ·have mY:=Nu.hid (vG.out (some nG) s1)
     have fB:Hid (∀w2,aD c p t W0 O W (fun _=>False) nG w2→∃st fin G,Inv T c.env oe st fin G []∧aD c p t W0 O W (fun _=>False) st w2∧trees c.env N (c.s.ord.drop (i+1)) st=some r∧∀u:Nat,Root T u→(u:Int)∈c.s.ord.drop (i+1)→¬fin u):=fun w2 h2=>⟨nG,mN,G2,KD,h2,hx3,WI⟩
     clear hT wS ET AH Md hsp GY kX pR eo ep hpar hx hx3 s1 E8 KD WI
     go_wp2_with (go_at_call 88;refine mY.out.mono ?_;rintro e1 w2 ⟨rfl,iM⟩;have ko:=Nu.hid iM;clear iM)
     go_roundw
     case rel=>exact⟨i+1,by simp,by omega,fB.out _ (mW.out _ _ ko.out)⟩
     case measure=>
      simp[intOf]
      omega
  ·have adt:i=c.n:=by omega
   subst adt
   have P9:r=some fC:=by
    rw[List.drop_of_length_le (by rw[HL.out.2.2.1];exact Nat.le_refl _)] at ET
    exact(Option.some.inj ET).symm
   have xk:=Nu.hid P9
   clear wS mI ET AH P9
   go_wp2_with fail
   go_ret
   rw[xk.out]
   exact⟨rfl,fo.out.post⟩
end
end
end Go.Proofs.YtnhcggfbkoppnaaGreat
