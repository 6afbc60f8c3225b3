/-
  Proved: for every graph, forest and list of numbers the law LrTurns answers true, and all reads afterwards as before. No condition.
-/
import Derived.Test.YtnhcggfbkoppnaaGreatMg40
import Derived.Test.YtnhcggfbkoppnaaGreatMg41
import Derived.Test.YtnhcggfbkoppnaaGreatMg04
import Derived.Deep.RegionHeld3
namespace Go.Proofs.YtnhcggfbkoppnaaGreat
open Go.ChangeShapes Go.WideShapes Go.ChangeAt Go.RowKit
namespace xO
def mix (ps:List Int) (i:Nat):List Int:=(ps.take i).map fq++ps.drop i
theorem Gs (ps:List Int) (i:Nat):(mix ps i).length=ps.length:=by unfold mix;simp;omega
theorem LQ {ps:List Int} {i:Nat} (h:i<ps.length):(mix ps i)[i]? =some ps[i]:=by
 unfold mix
 rw[List.getElem?_append_right (by simp;omega)]
 simp[Nat.min_eq_left (Nat.le_of_lt h),h]
theorem Gr {ps:List Int} {i:Nat} (h:i<ps.length):(mix ps i).set i (fq ps[i])=mix ps (i+1):=by
 have hl:((ps.take i).map fq).length=i:=by simp;omega
 unfold mix
 rw[List.set_append_right _ _ (by omega),hl,Nat.sub_self,List.drop_eq_getElem_cons h,List.set_cons_zero,List.take_add_one,List.getElem?_eq_getElem h,List.map_append,List.append_assoc]
 rfl
theorem Np {ps:List Int} {i:Nat} (h:i<ps.length) (hx:fq ps[i]=ps[i]):mix ps (i+1)=mix ps i:=by
 rw[←Gr h,hx]
 have:=LQ h
 exact List.ext_getElem? fun k=>by
  rw[List.getElem?_set]
  by_cases e:i=k
  ·subst e
   rw[if_pos rfl,if_pos (by rw[Gs];exact h),this]
  ·rw[if_neg e]
set_option maxRecDepth 100000 in
set_option maxHeartbeats 16000000 in
theorem Yq (n:Int) (ao:Option Addr) (ca:Nat) (es:List (Int×Int)) (f:For) (s:Df.St) (pa:Option Addr) (k pc:Nat) (ps:List Int) (w:World) (Xy:aL w ao es) (hnil:ao=none→ca=0) (hl:es.length*16≤140737488351232) (hF:dF w f s) (hP:iu w pa k pc ps) (hk:k≤17592186043904):
 Calls Tryz.prog 6 #[.agg #[.int .i64 n,.slice ao es.length ca,.slice f.a1 s.par.length f.c1,.slice f.a2 s.ay.length f.c2,.slice f.a3 s.ord.length f.c3,.slice f.a4 s.aJ.length f.c4,.slice pa k pc]] w fun e w'=>e= .returned (.bool true)∧Below w.heap.size w w':=by
 obtain⟨a1,a2,a3,a4,c1,c2,c3,c4⟩:=f
 dsimp only
 obtain⟨W,hW⟩:∃W,W=w.alloc (.cells #[.int .i64 n,.slice ao es.length ca,.slice a1 s.par.length c1,.slice a2 s.ay.length c2,.slice a3 s.ord.length c3,.slice a4 s.aJ.length c4,.slice pa k pc] 43):=⟨_,rfl⟩
 have hB0:Below w.heap.size w W:=by rw[hW];exact(Below.refl _ _).alloc (Nat.le_refl _) _
 have g1:W.heap[w.heap.size]? =some (.cells #[.int .i64 n,.slice ao es.length ca,.slice a1 s.par.length c1,.slice a2 s.ay.length c2,.slice a3 s.ord.length c3,.slice a4 s.aJ.length c4,.slice pa k pc] 43 (0,0)):=by rw[hW];exact heap_alloc_new w _
 have lt1:=lt_of_block g1
 have hat:=Xy.later hB0
 have HFW:=Nu.hid (hF.later hB0)
 have HPW:=Nu.hid (hP.later hB0)
 have I2:=Nu.hid hat
 have El:Hid (∀V,Below W.heap.size W V→V.cell? ⟨w.heap.size,0,none⟩=some (.int .i64 n)∧V.cell? ⟨w.heap.size,1,none⟩=some (.slice ao es.length ca)∧V.cell? ⟨w.heap.size,2,none⟩=some (.slice a1 s.par.length c1)∧V.cell? ⟨w.heap.size,3,none⟩=some (.slice a2 s.ay.length c2)∧V.cell? ⟨w.heap.size,4,none⟩=some (.slice a3 s.ord.length c3)∧V.cell? ⟨w.heap.size,5,none⟩=some (.slice a4 s.aJ.length c4)∧V.cell? ⟨w.heap.size,6,none⟩=some (.slice pa k pc)):=fun V hV=>by
  have kk:=(hV.block w.heap.size lt1).trans g1
  refine⟨?_,?_,?_,?_,?_,?_,?_⟩<;>simp[World.cell?,kk]
 have VQ:Hid (∀V,Below W.heap.size W V→Calls Tryz.prog 13 #[.agg #[.int .i64 n,.slice ao es.length ca]] V fun e V'=>∃gb c,e= .returned (.agg #[.int .i64 n,.slice (some ⟨gb,0,none⟩) es.length c])∧aL V' (some ⟨gb,0,none⟩) es∧Below V.heap.size V V'):=fun V hV=>DZ n ao ca es V (I2.out.later hV) hnil (by omega)
 have HCF:Hid (∀V,Below W.heap.size W V→Calls Tryz.prog 20 #[.agg #[.slice a1 s.par.length c1,.slice a2 s.ay.length c2,.slice a3 s.ord.length c3,.slice a4 s.aJ.length c4]] V fun e V'=>∃a1 a2 a3 a4 c1 c2 c3 c4,e= .returned (.agg #[.slice a1 s.par.length c1,.slice a2 s.ay.length c2,.slice a3 s.ord.length c3,.slice a4 s.aJ.length c4])∧dF V' ⟨a1,a2,a3,a4,c1,c2,c3,c4⟩ s∧Below V.heap.size V V'):=fun V hV=>N9 ⟨a1,a2,a3,a4,c1,c2,c3,c4⟩ s V (HFW.out.later hV)
 have S4:Hid (∀V,Below W.heap.size W V→Calls Tryz.prog 21 #[.slice pa k pc] V fun e V'=>∃gb cb,e= .returned (.slice (some ⟨gb,0,none⟩) k cb)∧aB V' gb ps∧V.heap.size≤gb∧Below V.heap.size V V'):=fun V hV=>Gl pa k pc ps V (HPW.out.later hV) hk
 obtain⟨vb,vz,ND⟩:∃vb vz,qp n es s ps=(vb,vz):=⟨_,_,rfl⟩
 have Lg:Hid (∀V mP KU b1 b2 b3 b4 d1 d2 d3 d4 TY TX qs,qp n es s qs=(vb,vz)→aL V mP es→dF V ⟨b1,b2,b3,b4,d1,d2,d3,d4⟩ s→iu V TY k TX qs→Calls Tryz.prog 19 #[.agg #[.int .i64 n,.slice mP es.length KU],.agg #[.slice b1 s.par.length d1,.slice b2 s.ay.length d2,.slice b3 s.ord.length d3,.slice b4 s.aJ.length d4],.slice TY k TX] V fun e V'=>e= .returned (.tuple #[.bool vb,.int .i64 vz])∧Below V.heap.size V V'):=fun V mP KU b1 b2 b3 b4 d1 d2 d3 d4 TY TX qs hq hE hF hP=>by
  have:=xL n mP KU es b1 b2 b3 b4 d1 d2 d3 d4 s TY TX k qs V hE (by omega) hF hP
  rw[hq] at this
  exact this
 have HTE:Hid (∀V,Below W.heap.size W V→Calls Tryz.prog 11 #[.agg #[.int .i64 n,.slice ao es.length ca]] V (IE n es V)):=fun V hV=>OU n ao ca es V (I2.out.later hV) hnil (by omega)
 have HAW:=Nu.hid (Er W)
 have lZ:=Nu.hid hW
 have dm:=Nu.hid hB0
 have yO:=Nu.hid hP.len
 have HVQ:=Nu.hid ND
 clear hF g1 hB0 hW hat Xy hP ND
 rw[lZ.out] at HAW
 go_enter Tryz.func6,Tryz.ntmps6
 go_wp2_with fail
 go_at_call 9
 refine HAW.out.mono ?_
 rw[←lZ.out]
 rintro e w1 ⟨rfl,hb1⟩
 have aV:=Nu.hid hb1
 obtain⟨x0,x1,x2,x3,x4,x5,x6⟩:=El.out w1 hb1
 clear hb1 HAW
 have B9:Hid (∀V,Below W.heap.size W V→Below w.heap.size w V):=fun V hV=>dm.out.trans (hV.mono dm.out.size)
 by_cases hm:3000<es.length
 ·have hm':(3000:Int)<(es.length:Int):=by omega
  clear x0 x2 x3 x4 x5 x6
  simp only[]
  go_wp2_with fail
  go_ret
  exact⟨rfl,B9.out _ aV.out⟩
 by_cases hnn:20000<n
 ·have hm':decide ((3000:Int)<(es.length:Int))=false:=by simp only[decide_eq_false_iff_not];omega
  clear x2 x3 x4 x5 x6
  simp only[]
  go_wp2_with fail
  go_ret
  exact⟨rfl,B9.out _ aV.out⟩
 have hm':decide ((3000:Int)<(es.length:Int))=false:=by simp only[decide_eq_false_iff_not];omega
 have hn':decide ((20000:Int)<n)=false:=by simp only[decide_eq_false_iff_not];omega
 have nY:=Nu.hid (S4.out w1 aV.out)
 simp only[]
 go_wp2_with fail
 go_at_call 21
 refine nY.out.mono ?_
 rintro e w2 ⟨QB,qc,rfl,yB,hQB,hb2⟩
 have cz:=Nu.hid (aV.out.trans (hb2.mono aV.out.size))
 have S0:=Nu.hid yB
 have hQW:W.heap.size≤QB:=by have:=aV.out.size;omega
 clear yB hQB hb2 nY x0 x1 x2 x3 x4 x5 x6 hm hnn hm' hn'
 simp only[]
 go_wp2_with fail
 go_loopw [34] (fun iv wr=>∃i:Nat,iv= .int .i64 (i:Int)∧i≤k∧aB wr QB (mix ps i)∧Below W.heap.size W wr) (fun iv _=>k-(intOf iv).toNat)
 case atStart=>exact⟨0,rfl,Nat.zero_le _,by unfold mix;simpa using S0.out,cz.out⟩
 case round=>
  obtain⟨i,rfl,hik,hin,hbr⟩:=hrel
  by_cases hlt:i<k
  ·have hil:i<ps.length:=by rw[yO.out];exact hlt
   obtain⟨z,hz⟩:∃z,ps[i]=z:=⟨_,rfl⟩
   have Ut:=LQ hil
   rw[hz] at Ut
   have y1:wr.cell? ⟨QB,i,none⟩=some (.int .i64 z):=hin.cell Ut
   have y2:wr.frozen? ⟨QB,i,none⟩=false:=hin.free i
   have i0:(0:Int)≤(i:Int):=by omega
   have i1:(i:Int)<(k:Int):=by omega
   have i2:(i:Int)+1≤17592186043905:=by omega
   by_cases h1:z=1∨z= -1
   ·have mW:Hid (aB (wr.setCell ⟨QB,i,none⟩ (.int .i64 (-z))) QB (mix ps (i+1))):=by
     rw[←Gr hil,hz]
     have e:fq z= -z:=by unfold fq;rw[if_pos h1]
     rw[e]
     exact hin.set (by rw[Gs];exact hil) _
    have jy:=Nu.hid (hbr.setCell (p:=⟨QB,i,none⟩) hQW (.int .i64 (-z)))
    clear hin hbr Ut hz
    rcases h1 with rfl|rfl
    ·go_wp2_with fail
     go_roundw
     case rel=>exact⟨i+1,by simp,by omega,mW.out,jy.out⟩
     case measure=>
      simp[intOf]
      omega
    ·go_wp2_with fail
     go_roundw
     case rel=>exact⟨i+1,by simp,by omega,mW.out,jy.out⟩
     case measure=>
      simp[intOf]
      omega
   ·have mW:Hid (aB wr QB (mix ps (i+1))):=by
     rw[Np hil (by rw[hz];unfold fq;rw[if_neg h1])]
     exact hin
    have jy:=Nu.hid hbr
    have t1:(z==1)=false:=by simp only[beq_eq_false_iff_ne,ne_eq];omega
    have t2:(z== -1)=false:=by simp only[beq_eq_false_iff_ne,ne_eq];omega
    clear hin hbr Ut hz h1
    go_wp2_with fail
    go_roundw
    case rel=>exact⟨i+1,by simp,by omega,mW.out,jy.out⟩
    case measure=>
     simp[intOf]
     omega
  ·obtain rfl:i=k:=by omega
   have mW:Hid (aB wr QB (ps.map fq)):=by
    have e:mix ps i=ps.map fq:=by unfold mix;rw[List.take_of_length_le (by rw[yO.out];exact Nat.le_refl _),List.drop_of_length_le (by rw[yO.out];exact Nat.le_refl _),List.append_nil]
    rw[←e]
    exact hin
   have jy:=Nu.hid hbr
   clear hin hbr hlt hik
   go_wp2_with fail
   have K9:Hid (∀V,Below wr.heap.size wr V→Calls Tryz.prog 13 #[.agg #[.int .i64 n,.slice ao es.length ca]] V fun e V'=>∃gb c,e= .returned (.agg #[.int .i64 n,.slice (some ⟨gb,0,none⟩) es.length c])∧aL V' (some ⟨gb,0,none⟩) es∧Below V.heap.size V V'):=fun V hV=>VQ.out V (jy.out.trans (hV.mono jy.out.size))
   have Sq:Hid (∀V,Below wr.heap.size wr V→Calls Tryz.prog 20 #[.agg #[.slice a1 s.par.length c1,.slice a2 s.ay.length c2,.slice a3 s.ord.length c3,.slice a4 s.aJ.length c4]] V fun e V'=>∃a1 a2 a3 a4 c1 c2 c3 c4,e= .returned (.agg #[.slice a1 s.par.length c1,.slice a2 s.ay.length c2,.slice a3 s.ord.length c3,.slice a4 s.aJ.length c4])∧dF V' ⟨a1,a2,a3,a4,c1,c2,c3,c4⟩ s∧Below V.heap.size V V'):=fun V hV=>HCF.out V (jy.out.trans (hV.mono jy.out.size))
   have HXP:Hid (∀V,Below wr.heap.size wr V→Calls Tryz.prog 21 #[.slice pa i pc] V fun e V'=>∃gb cb,e= .returned (.slice (some ⟨gb,0,none⟩) i cb)∧aB V' gb ps∧V.heap.size≤gb∧Below V.heap.size V V'):=fun V hV=>S4.out V (jy.out.trans (hV.mono jy.out.size))
   have Lc:Hid (∀V,Below wr.heap.size wr V→V.cell? ⟨w.heap.size,0,none⟩=some (.int .i64 n)∧V.cell? ⟨w.heap.size,1,none⟩=some (.slice ao es.length ca)∧V.cell? ⟨w.heap.size,2,none⟩=some (.slice a1 s.par.length c1)∧V.cell? ⟨w.heap.size,3,none⟩=some (.slice a2 s.ay.length c2)∧V.cell? ⟨w.heap.size,4,none⟩=some (.slice a3 s.ord.length c3)∧V.cell? ⟨w.heap.size,5,none⟩=some (.slice a4 s.aJ.length c4)∧V.cell? ⟨w.heap.size,6,none⟩=some (.slice pa i pc)):=fun V hV=>El.out V (jy.out.trans (hV.mono jy.out.size))
   have hbd:Below wr.heap.size wr wr.drew:=(Below.refl _ _).drew
   go_region_held3 (fun V=>V.cell? ⟨w.heap.size,0,none⟩=some (.int .i64 n)∧V.cell? ⟨w.heap.size,1,none⟩=some (.slice ao es.length ca)∧V.cell? ⟨w.heap.size,2,none⟩=some (.slice a1 s.par.length c1)∧V.cell? ⟨w.heap.size,3,none⟩=some (.slice a2 s.ay.length c2)∧V.cell? ⟨w.heap.size,4,none⟩=some (.slice a3 s.ord.length c3)∧V.cell? ⟨w.heap.size,5,none⟩=some (.slice a4 s.aJ.length c4)∧V.cell? ⟨w.heap.size,6,none⟩=some (.slice pa i pc)∧Below wr.heap.size wr V)
    (exact(fun (q:Below wr.heap.size wr _)=>let ⟨k0,k1,k2,k3,k4,k5,k6⟩:=Lc.out _ q;⟨k0,k1,k2,k3,k4,k5,k6,q⟩) (by first|assumption|exact hbd))
    ((first
      |(go_at_call 13;refine(K9.out _ (by first|assumption|exact hbd)).mono ?_;rintro e V1 ⟨gb,c,rfl,KE,nI⟩;have hb1:Below wr.heap.size wr V1:=Below.trans (by first|assumption|exact hbd) (nI.mono (Below.size (by first|assumption|exact hbd))))
      |(go_at_call 20;refine(Sq.out _ (by first|assumption|exact hbd)).mono ?_;rintro e V2 ⟨b1,b2,b3,b4,d1,d2,d3,d4,rfl,mF,hv2⟩;have RF:aL V2 _ es:=aL.later KE hv2;have hb2:Below wr.heap.size wr V2:=hb1.trans (hv2.mono hb1.size))
      |(go_at_call 21;refine(HXP.out _ (by first|assumption|exact hbd)).mono ?_;rintro e V3 ⟨pg,pcc,rfl,hi1,-,hv3⟩;have hE3:aL V3 _ es:=aL.later RF hv3;have hl3:=mF.later hv3;have hb3:Below wr.heap.size wr V3:=hb2.trans (hv3.mono hb2.size))
      |(go_at_call 19;refine(Lg.out _ _ _ _ _ _ _ _ _ _ _ _ _ ps HVQ.out hE3 hl3 (hi1.Wc yO.out)).mono ?_;rintro e V4 ⟨rfl,hv4⟩;have hb4:Below wr.heap.size wr V4:=hb3.trans (hv4.mono hb3.size))))
   have gj:=Nu.hid (jy.out.trans (hb4.mono jy.out.size))
   have yq:=Nu.hid (mW.out.later hb4)
   clear K9 Sq HXP Lc hbd KE nI hb1 mF hv2 RF hb2 hi1 hv3 hE3 hl3 hb3 hv4 hb4
   clear V1 V2 V3
   generalize V4=X5 at gj yq ⊢
   go_wp2_with fail
   have K9:Hid (∀V,Below X5.heap.size X5 V→Calls Tryz.prog 13 #[.agg #[.int .i64 n,.slice ao es.length ca]] V fun e V'=>∃gb c,e= .returned (.agg #[.int .i64 n,.slice (some ⟨gb,0,none⟩) es.length c])∧aL V' (some ⟨gb,0,none⟩) es∧Below V.heap.size V V'):=fun V hV=>VQ.out V (gj.out.trans (hV.mono gj.out.size))
   have Sq:Hid (∀V,Below X5.heap.size X5 V→Calls Tryz.prog 20 #[.agg #[.slice a1 s.par.length c1,.slice a2 s.ay.length c2,.slice a3 s.ord.length c3,.slice a4 s.aJ.length c4]] V fun e V'=>∃a1 a2 a3 a4 c1 c2 c3 c4,e= .returned (.agg #[.slice a1 s.par.length c1,.slice a2 s.ay.length c2,.slice a3 s.ord.length c3,.slice a4 s.aJ.length c4])∧dF V' ⟨a1,a2,a3,a4,c1,c2,c3,c4⟩ s∧Below V.heap.size V V'):=fun V hV=>HCF.out V (gj.out.trans (hV.mono gj.out.size))
   have Lc:Hid (∀V,Below X5.heap.size X5 V→V.cell? ⟨w.heap.size,0,none⟩=some (.int .i64 n)∧V.cell? ⟨w.heap.size,1,none⟩=some (.slice ao es.length ca)∧V.cell? ⟨w.heap.size,2,none⟩=some (.slice a1 s.par.length c1)∧V.cell? ⟨w.heap.size,3,none⟩=some (.slice a2 s.ay.length c2)∧V.cell? ⟨w.heap.size,4,none⟩=some (.slice a3 s.ord.length c3)∧V.cell? ⟨w.heap.size,5,none⟩=some (.slice a4 s.aJ.length c4)∧V.cell? ⟨w.heap.size,6,none⟩=some (.slice pa i pc)):=fun V hV=>El.out V (gj.out.trans (hV.mono gj.out.size))
   have hbd:Below X5.heap.size X5 X5.drew:=(Below.refl _ _).drew
   have VH:Hid (∀V,Below X5.heap.size X5 V→iu V (some ⟨QB,0,none⟩) i qc (ps.map fq)):=fun V hV=>(yq.out.later hV).Wc (by rw[List.length_map];exact yO.out)
   have HVT:Hid (qp n es s (ps.map fq)=(vb,vz)):=by rw[Jc];exact HVQ.out
   go_region_held3 (fun V=>V.cell? ⟨w.heap.size,0,none⟩=some (.int .i64 n)∧V.cell? ⟨w.heap.size,1,none⟩=some (.slice ao es.length ca)∧V.cell? ⟨w.heap.size,2,none⟩=some (.slice a1 s.par.length c1)∧V.cell? ⟨w.heap.size,3,none⟩=some (.slice a2 s.ay.length c2)∧V.cell? ⟨w.heap.size,4,none⟩=some (.slice a3 s.ord.length c3)∧V.cell? ⟨w.heap.size,5,none⟩=some (.slice a4 s.aJ.length c4)∧V.cell? ⟨w.heap.size,6,none⟩=some (.slice pa i pc)∧Below X5.heap.size X5 V)
    (exact(fun (q:Below X5.heap.size X5 _)=>let ⟨k0,k1,k2,k3,k4,k5,k6⟩:=Lc.out _ q;⟨k0,k1,k2,k3,k4,k5,k6,q⟩) (by first|assumption|exact hbd))
    ((first
      |(go_at_call 13;refine(K9.out _ (by first|assumption|exact hbd)).mono ?_;rintro e V1 ⟨gb,c,rfl,KE,nI⟩;have hb1:Below X5.heap.size X5 V1:=Below.trans (by first|assumption|exact hbd) (nI.mono (Below.size (by first|assumption|exact hbd))))
      |(go_at_call 20;refine(Sq.out _ (by first|assumption|exact hbd)).mono ?_;rintro e V2 ⟨b1,b2,b3,b4,d1,d2,d3,d4,rfl,mF,hv2⟩;have RF:aL V2 _ es:=aL.later KE hv2;have hb2:Below X5.heap.size X5 V2:=hb1.trans (hv2.mono hb1.size))
      |(go_at_call 19;refine(Lg.out _ _ _ _ _ _ _ _ _ _ _ _ _ (ps.map fq) HVT.out RF mF (VH.out _ hb2)).mono ?_;rintro e V4 ⟨rfl,hv4⟩;have hb4:Below X5.heap.size X5 V4:=hb2.trans (hv4.mono hb2.size))))
   have jQ:=Nu.hid (gj.out.trans (hb4.mono gj.out.size))
   clear K9 Sq Lc VH hbd KE nI hb1 mF hv2 RF hb2 hv4 hb4
   clear V1 V2
   generalize V4=X6 at jQ ⊢
   obtain⟨x0,x1,x2,x3,x4,x5,x6⟩:=El.out X6 jQ.out
   have C1:=Nu.hid (HTE.out X6 jQ.out)
   have tb:(vb != vb)=false:=by simp
   have tz:(vz != vz)=false:=by simp
   go_wp2_with fail
   go_at_call 11
   refine C1.out.mono ?_
   rintro e X7 ⟨nK,kO⟩
   have FI:=Nu.hid (jQ.out.trans (kO.mono jQ.out.size))
   clear kO C1 x0 x1 x2 x3 x4 x5 x6 tb tz
   rcases nK with ⟨zz,rfl⟩|⟨m,s',l,gp,hnm,hval,hwk,pN,eH,rfl,hi7⟩
   ·by_cases hz0:zz=0
    ·subst hz0
     simp only[]
     go_wp2_with fail
     go_ret
     exact⟨rfl,B9.out _ FI.out⟩
    ·have tz:(zz==0)=false:=by simp only[beq_eq_false_iff_ne,ne_eq];exact hz0
     have tz2:(zz != 0)=true:=by simp only[bne,tz,Bool.not_false]
     simp only[]
     go_wp2_with fail
     go_ret
     exact⟨rfl,B9.out _ FI.out⟩
   ·subst hnm
    have VJ:=Nu.hid hi7
    have yT:=Nu.hid eH
    have HDW:Hid (∀V gb cb,aL V (some ⟨gb,0,none⟩) es→Calls Tryz.prog 22 #[.agg #[.int .i64 (m:Int),.slice (some ⟨gb,0,none⟩) es.length cb]] V fun e V'=>∃a1 a2 a3 a4 c1 c2 c3 c4,e= .returned (.tuple #[.agg #[.slice a1 s'.par.length c1,.slice a2 s'.ay.length c2,.slice a3 s'.ord.length c3,.slice a4 s'.aJ.length c4],.int .i64 0])∧dF V' ⟨a1,a2,a3,a4,c1,c2,c3,c4⟩ s'∧Below V.heap.size V V'):=fun V gb cb hE=>by
     refine(Bk (m:Int) (some ⟨gb,0,none⟩) cb es V hE (by omega)).mono ?_
     rintro e V' ⟨v1,v2,v3,v4,s2,z,rfl,hown,hc,hb⟩
     rcases hc with ⟨m',hm',-,acI,rfl⟩|⟨hv,-⟩
     ·obtain rfl:m=m':=by omega
      obtain rfl:=acI.unique hwk
      obtain⟨l1,l2,l3,l4⟩:=(hwk.vf hval).lens
      have h1:=hval.hi
      have h2:=hval.few
      obtain⟨f,rfl,rfl,rfl,rfl,hF⟩:=hown.ct (by omega)
      exact⟨f.a1,f.a2,f.a3,f.a4,f.c1,f.c2,f.c3,f.c4,rfl,hF,hb⟩
     ·rw[Si.bL.2 hval] at hv
      cases hv
    have CX:Hid (∀V mP KU b1 b2 b3 b4 d1 d2 d3 d4,aL V mP es→dF V ⟨b1,b2,b3,b4,d1,d2,d3,d4⟩ s'→aq V gp l→Calls Tryz.prog 19 #[.agg #[.int .i64 (m:Int),.slice mP es.length KU],.agg #[.slice b1 s'.par.length d1,.slice b2 s'.ay.length d2,.slice b3 s'.ord.length d3,.slice b4 s'.aJ.length d4],.slice (some ⟨gp,0,none⟩) es.length es.length] V fun e V'=>e= .returned (.tuple #[.bool true,.int .i64 0])∧Below V.heap.size V V'):=fun V mP KU b1 b2 b3 b4 d1 d2 d3 d4 hE hF hI=>by
     have:=xL (m:Int) mP KU es b1 b2 b3 b4 d1 d2 d3 d4 s' (some ⟨gp,0,none⟩) es.length es.length l V hE (by omega) hF (hI.ct yT.out)
     rw[Jd hval hwk pN] at this
     exact this
    obtain⟨x0,x1,x2,x3,x4,x5,x6⟩:=El.out X7 FI.out
    have HC7:=Nu.hid (VQ.out X7 FI.out)
    clear hval hwk pN eH hi7
    simp only[]
    go_wp2_with fail
    go_at_call 13
    refine HC7.out.mono ?_
    rintro e X8 ⟨gb,cb,rfl,hE8,dH⟩
    have Lz:=Nu.hid (FI.out.trans (dH.mono FI.out.size))
    have HI8:=Nu.hid (VJ.out.later dH)
    have HC8:=Nu.hid (HDW.out X8 gb cb hE8)
    clear hE8 dH HC7 x0 x1 x2 x3 x4 x5 x6
    simp only[]
    go_wp2_with fail
    go_at_call 22
    refine HC8.out.mono ?_
    rintro e X9 ⟨e1,e2,e3,e4,f1,f2,f3,f4,rfl,hF9,gw⟩
    obtain⟨Y,hY⟩:∃Y,Y=X9.alloc (.cells #[.slice e1 s'.par.length f1,.slice e2 s'.ay.length f2,.slice e3 s'.ord.length f3,.slice e4 s'.aJ.length f4] 36):=⟨_,rfl⟩
    have tI:Below X9.heap.size X9 Y:=by rw[hY];exact(Below.refl _ _).alloc (Nat.le_refl _) _
    have kY:Y.heap[X9.heap.size]? =some (.cells #[.slice e1 s'.par.length f1,.slice e2 s'.ay.length f2,.slice e3 s'.ord.length f3,.slice e4 s'.aJ.length f4] 36 (0,0)):=by rw[hY];exact heap_alloc_new X9 _
    have HY:=Nu.hid hY
    have HFY:=Nu.hid (hF9.later tI)
    have HIY:=Nu.hid ((HI8.out.later gw).later tI)
    have Da:Hid (Below W.heap.size W Y):=by
     have h1:=Lz.out.trans (gw.mono Lz.out.size)
     exact h1.trans (tI.mono h1.size)
    have HKY:=Nu.hid kY
    clear hF9 gw hY tI kY HC8
    simp only[]
    go_wp2_with fail
    rw[←HY.out]
    have K9:Hid (∀V,Below Y.heap.size Y V→Calls Tryz.prog 13 #[.agg #[.int .i64 (m:Int),.slice ao es.length ca]] V fun e V'=>∃gb c,e= .returned (.agg #[.int .i64 (m:Int),.slice (some ⟨gb,0,none⟩) es.length c])∧aL V' (some ⟨gb,0,none⟩) es∧Below V.heap.size V V'):=fun V hV=>VQ.out V (Da.out.trans (hV.mono Da.out.size))
    have Lc:Hid (∀V,Below Y.heap.size Y V→V.cell? ⟨w.heap.size,0,none⟩=some (.int .i64 (m:Int))∧V.cell? ⟨w.heap.size,1,none⟩=some (.slice ao es.length ca)∧V.cell? ⟨w.heap.size,2,none⟩=some (.slice a1 s.par.length c1)∧V.cell? ⟨w.heap.size,3,none⟩=some (.slice a2 s.ay.length c2)∧V.cell? ⟨w.heap.size,4,none⟩=some (.slice a3 s.ord.length c3)∧V.cell? ⟨w.heap.size,5,none⟩=some (.slice a4 s.aJ.length c4)∧V.cell? ⟨w.heap.size,6,none⟩=some (.slice pa i pc)):=fun V hV=>El.out V (Da.out.trans (hV.mono Da.out.size))
    have hbd:Below Y.heap.size Y Y.drew:=(Below.refl _ _).drew
    have HXW:Hid (∀V,Below Y.heap.size Y V→V.cell? ⟨X9.heap.size,0,none⟩=some (.slice e1 s'.par.length f1)∧V.cell? ⟨X9.heap.size,1,none⟩=some (.slice e2 s'.ay.length f2)∧V.cell? ⟨X9.heap.size,2,none⟩=some (.slice e3 s'.ord.length f3)∧V.cell? ⟨X9.heap.size,3,none⟩=some (.slice e4 s'.aJ.length f4)):=fun V hV=>by
     obtain⟨r0,r1,r2,r3,-⟩:=au ((hV.block _ (lt_of_block HKY.out)).trans HKY.out)
     exact⟨r0,r1,r2,r3⟩
    go_region_held3 (fun V=>V.cell? ⟨w.heap.size,0,none⟩=some (.int .i64 (m:Int))∧V.cell? ⟨w.heap.size,1,none⟩=some (.slice ao es.length ca)∧V.cell? ⟨X9.heap.size,0,none⟩=some (.slice e1 s'.par.length f1)∧V.cell? ⟨X9.heap.size,1,none⟩=some (.slice e2 s'.ay.length f2)∧V.cell? ⟨X9.heap.size,2,none⟩=some (.slice e3 s'.ord.length f3)∧V.cell? ⟨X9.heap.size,3,none⟩=some (.slice e4 s'.aJ.length f4)∧Below Y.heap.size Y V)
     (exact(fun (q:Below Y.heap.size Y _)=>let ⟨k0,k1,_,_,_,_,_⟩:=Lc.out _ q;let ⟨r0,r1,r2,r3⟩:=HXW.out _ q;⟨k0,k1,r0,r1,r2,r3,q⟩) (by first|assumption|exact hbd))
     ((first
       |(go_at_call 13;refine(K9.out _ (by first|assumption|exact hbd)).mono ?_;rintro e V1 ⟨gb,c,rfl,KE,nI⟩;have hb1:Below Y.heap.size Y V1:=Below.trans (by first|assumption|exact hbd) (nI.mono (Below.size (by first|assumption|exact hbd))))
       |(go_at_call 19;refine(CX.out _ _ _ _ _ _ _ _ _ _ _ KE (HFY.out.later hb1) (HIY.out.later hb1)).mono ?_;rintro e V4 ⟨rfl,hv4⟩;have hb4:Below Y.heap.size Y V4:=hb1.trans (hv4.mono hb1.size))))
    all_goals
     go_wp2_with fail
     go_ret
     exact⟨rfl,B9.out _ (Da.out.trans (hb4.mono Da.out.size))⟩
theorem walk (n:Int) (ao:Option Addr) (ca:Nat) (es:List (Int×Int)) (f:For) (s:Df.St) (pa:Option Addr) (pc:Nat) (ps:List Int) (w:World) (hq:BP w ao es.length ca es) (hl:es.length*16≤140737488351232) (hF:dF w f s) (hP:iu w pa ps.length pc ps) (hk:ps.length≤17592186043904):
 Calls Tryz.prog 6 #[.agg #[.int .i64 n,.slice ao es.length ca,.slice f.a1 s.par.length f.c1,.slice f.a2 s.ay.length f.c2,.slice f.a3 s.ord.length f.c3,.slice f.a4 s.aJ.length f.c4,.slice pa ps.length pc]] w fun e w'=>e= .returned (.bool true)∧Below w.heap.size w w':=
 Yq n ao ca es f s pa ps.length pc ps w hq.hat (fun h=>(hq.hnil h).2) hl hF hP hk
set_option maxRecDepth 100000 in
theorem contract (H:Type) (enc:TypeId×Value→H) (W:World) (base:Nat) (args:Array Value) (ds gs:List (DataW H)) (before:List MemPlace)
 (hval:∀(j:Nat) t v,Tryz.f6.params[j]? =some t→args[j]? =some v→Value.okWide Tryz.prog W .any base t v)
 (hW:DataW.Whole enc Tryz.prog Tryz.f6.params.toList Rows.lrTurnsSpec.vars false W args.toList ds gs before)
 (hsz:(DataW.weightsEach Tryz.prog (Tryz.f6.params.toList++(OpenSpec.ofChange Rows.lrTurnsSpec).bare.plain.varTypes Tryz.prog) (ds++gs)).all (·≤reachBytes)=true)
 :
 Calls Tryz.prog 6 args W fun e W'=>∃v,e= .returned v∧Rows.lrTurnsSpec.post enc Tryz.prog Tryz.f6 false true false false W args v W':=by
 have hW':=hW
 obtain⟨p,q,hA0,hV,rfl,hfz,hnd⟩:=hW
 have hA:DataW.TrodAll enc Tryz.prog W 0 (fun _=>true) true Tryz.f6.params.toList args.toList ds p:=hA0
 rw[Tryz.params6] at hA hval hsz
 obtain⟨v0,vs0,d0,ds0,p0,q0,hargs,rfl,rfl,h0,r0⟩:=trodAll_cons hA
 obtain⟨rfl,rfl,rfl⟩:=trodAll_nil r0
 obtain rfl:args= #[v0]:=by cases args;simp_all
 obtain⟨rfl,rfl⟩:=trodVars_none hV
 have k0:=h0
 have lt0:∀x∈p0,x.block<W.heap.size:=by obtain⟨m,hm⟩:=k0;exact DataW.trod_lt m _ _ _ hm
 obtain⟨n0,a0,aeD,q0,f0,s0,g0,c0,l0,rfl,z0,w0,u0,t0,r0⟩:=CU (j:=0) (hval 0 43 v0 rfl rfl) h0 hsz rfl rfl
 clear hA0
 refine(walk n0 a0 aeD q0 f0 s0 g0 c0 l0 W z0 w0 u0 t0 r0).mono fun e W' ⟨he,aI⟩=> ?_
 subst he
 exact⟨_,rfl,_,_,_,[],_,[],hW',trodAll_mk1 (shut_bool Tryz.underlying4 _),(trodAll_cons_mk (Below.trod laidOut (by kernel_rfl) (of_decide_eq_true (by kernel_rfl)) k0 aI lt0) trodAll_mk0),rfl,aI.frame _,fun h=>by cases h⟩
theorem laid_met (os:Os):laidMet Tryz.prog Rows.lrTurnsRow.laid ((settled os).forCall (fun _ _=>0) ⟨#[],#[.agg #[.int .i64 0,.slice none 0 0,.slice none 0 0,.slice none 0 0,.slice none 0 0,.slice none 0 0,.slice none 0 0]],[]⟩).memory:=
 laidMet_of_run' 100 (by kernel_rfl) (by kernel_rfl)
theorem reads (os:Os) {H:Type} (enc:TypeId×Value→H):∃places,DataW.whole enc Tryz.prog ((settled os).forCall (fun _ _=>0) ⟨#[],#[.agg #[.int .i64 0,.slice none 0 0,.slice none 0 0,.slice none 0 0,.slice none 0 0,.slice none 0 0,.slice none 0 0]],[]⟩).memory Tryz.f6.params.toList Rows.lrTurnsSpec.vars false (#[.agg #[.int .i64 0,.slice none 0 0,.slice none 0 0,.slice none 0 0,.slice none 0 0,.slice none 0 0,.slice none 0 0]]:Array Value).toList 8=some ([.agg [.agg [.lit (.int .i64 0),.nil],.agg [.nil,.nil,.nil,.nil],.nil]],[],places):=
 ⟨[],by kernel_rfl⟩
set_option maxRecDepth 100000 in
theorem lifted (os:Os) (started:os.Started) (H:Type) (enc:TypeId×Value→H) (F:Stop.Interp):
 ReturnsInHanded {} Tryz.checked os 6 .any ((OpenSpec.ofChange Rows.lrTurnsSpec).preRow enc Tryz.prog Tryz.f6 Rows.lrTurnsRow.domain false Rows.lrTurnsRow.laid) (((OpenSpec.ofChange Rows.lrTurnsSpec).at F).post enc Tryz.prog Tryz.f6 false true false false):=by
 obtain⟨places,hx⟩:=reads os enc
 refine returnsInHanded_of_row (C:=Tryz.checked) (s:=(OpenSpec.ofChange Rows.lrTurnsSpec)) own started (by kernel_rfl) Tryz.func6
  (witness_row_at (enc:=enc) (C:=Tryz.checked) false (settled os) #[.agg #[.int .i64 0,.slice none 0 0,.slice none 0 0,.slice none 0 0,.slice none 0 0,.slice none 0 0,.slice none 0 0]] rfl (by kernel_rfl) (by kernel_rfl) (by kernel_rfl)
    (OpenSpec.preRow_of_cond 8 hx (by kernel_rfl) (fun k hk=>by cases hk) (by kernel_rfl) (laid_met os))) ?_
 intro W base args ds gs before hval hW _ _ hsz _ _ _
 exact contract H enc W base args ds gs before hval hW hsz
theorem said:Rows.LrTurnsSaid:=
 OpenClaim.holds_of_cond 6 Tryz.f6 rfl rfl rfl rfl rfl rfl rfl ⟨rfl,rfl,rfl,rfl,rfl⟩ rfl rfl rfl rfl rfl (by kernel_rfl) Tryz.func6 (by kernel_rfl)
  (of_decide_eq_true (by kernel_rfl)) (by unfold Func.isWrapper;first|(rw[if_pos (by decide +kernel)];kernel_rfl)|(rw[if_neg (by decide +kernel)];exact⟨rfl,rfl⟩))
  (fun os started H enc _ F=>by rw[OpenClaim.pre_eq_preRow];exact lifted os started H enc F)
end xO
theorem lrTurns_holds:Rows.LrTurnsSaid:=xO.said
#print axioms lrTurns_holds
end Go.Proofs.YtnhcggfbkoppnaaGreat
