import Derived.Test.YtnhcggfbkoppnaaGreatMg08
import Derived.Test.YtnhcggfbkoppnaaGreatMg05
import Derived.Test.YtnhcggfbkoppnaaGreatMg04
namespace Go.Proofs.YtnhcggfbkoppnaaGreat
section
open Go.RowKit
namespace Df
def hd:List Nat→Int
 |[]=> -1
 |h::_=>(h:Int)
def Fw (n:Nat) (es:List (Int×Int)) (L:List Nat):Prop:=∃v i,v<n∧L=(Cs.out es v (2*es.length)).drop i
theorem Hy (L:List Nat) (i:Nat):(L.map fun i:Nat=>(i:Int)).getD i (-1)=hd (L.drop i):=by
 rw[List.getD_eq_getElem?_getD,List.getElem?_map]
 cases h:L[i]? with
 |none=>
  rw[List.drop_of_length_le (List.getElem?_eq_none_iff.1 h)]
  rfl
 |some x=>
  obtain⟨hi,hx⟩:=List.getElem?_eq_some_iff.1 h
  rw[List.drop_eq_getElem_cons hi,hx]
  rfl
theorem DV {n:Nat} {es:List (Int×Int)} {v:Nat} (hv:v<n):Cs.iG n es v=hd (Cs.out es v (2*es.length)):=by
 unfold Cs.iG Cs.gM
 rw[Cs.ox hv,Hy]
 rfl
theorem Fw.all {n:Nat} {es:List (Int×Int)} {v:Nat} (hv:v<n):Fw n es (Cs.out es v (2*es.length)):=⟨v,0,hv,rfl⟩
theorem Fw.step {n:Nat} {es:List (Int×Int)} {h:Nat} {L:List Nat} (hs:Fw n es (h::L)):h<2*es.length∧Fw n es L∧Cs.p5 n es h=hd L:=by
 obtain⟨v,i,hv,e⟩:=hs
 have hi:(Cs.out es v (2*es.length))[i]? =some h:=by
  have:=congrArg (fun l:List Nat=>l[0]?) e
  simpa using this.symm
 have hL:L=(Cs.out es v (2*es.length)).drop (i+1):=by
  have:=congrArg List.tail e
  simpa using this
 obtain⟨h1,h2,h3⟩:=Cs.nr hi
 refine⟨h1,⟨v,i+1,hv,hL⟩,?_⟩
 unfold Cs.p5 Cs.gM
 rw[if_pos (by omega),Int.toNat_natCast,h2,h3,Cs.ox hv,Hy,←hL]
inductive RS (es:List (Int×Int)):Nat→St→List (List Nat)→St→Prop
 |nil (s:St):RS es 0 s [] s
 |cons {j k:Nat} {s s1 s':St} {L:List Nat} {T:List (List Nat)} (h1:R es j s L s1) (h2:RS es k s1 T s'):RS es (j+k+1) s (L::T) s'
def stk (T:List (List Nat)):List Int:=(T.map hd).reverse
theorem vX (L:List Nat) (T:List (List Nat)):stk (L::T)=stk T++[hd L]:=by simp[stk]
theorem FX (T:List (List Nat)):(stk T).length=T.length:=by simp[stk]
end Df
def q9 (w0:World) (p gp gh gr:Nat) (av:Value) (n r:Nat) (es:List (Int×Int)) (s':Df.St) (w:World) (k:Nat):Prop:=
 ∃s T ov sv,Df.RS es k s T s'∧Df.Bd n es r s∧(∀L∈T,Df.Fw n es L)∧T.length+s.left≤es.length+1∧aM w0 w p gp gh gr av ov sv n es.length s (Df.stk T)
section
variable {w0 w:World} {p gp gh gr:Nat} {av ov sv:Value} {n r:Nat} {es:List (Int×Int)} {s s':Df.St}
set_option maxRecDepth 100000 in
set_option maxHeartbeats 16000000 in
theorem Ci (v k:Nat) (aX:cE w0 av n es) (hW:aM w0 w p gp gh gr av ov sv n es.length s []) (b:Df.Bd n es r s) (hv:v<n) (hr:r≤1048576) (hR:Df.R es k (s.reach v (-1) 0) (Cs.out es v (2*es.length)) s'):
 Calls Tryz.prog 46 #[.pointer (some ⟨p,0,none⟩),.int .i64 (v:Int)] w (xd w0 p gp gh gr av n es s' []):=by
 obtain⟨CG,lX⟩:=aX.bounds
 have nu:=b.hr
 have Z0:=zX v (-1) 0 aX hW b.lp b.lh hv (by omega) (by simp)
 rw[Df.DV hv,List.nil_append] at Z0
 have hinv:∀V dS fc,aM w0 V p gp gh gr av dS fc n es.length (s.reach v (-1) 0) [Df.hd (Cs.out es v (2*es.length))]→q9 w0 p gp gh gr av n (r+1) es s' V (k+0+1):=fun V dS fc h=>
  ⟨s.reach v (-1) 0,[Cs.out es v (2*es.length)],dS,fc,.cons hR (.nil s'),b.root hv,fun L hL=>by rw[List.mem_singleton] at hL;subst hL;exact Df.Fw.all hv,by have:=b.few;show 1+s.left≤_;omega,h⟩
 have uf:=Nu.hid Z0
 have Yi:=Nu.hid hinv
 have cQ:=Nu.hid aX
 have j5:∃q,av= .pointer q:=by
  rcases aX with ⟨h,_⟩|⟨_,p,h,_⟩
  ·exact⟨_,h⟩
  ·exact⟨_,h⟩
 obtain⟨q,rfl⟩:=j5
 clear Z0 hinv hR hW nu aX b
 go_enter Tryz.func46,Tryz.ntmps46
 go_wp2_with (go_at_call 79;refine uf.out.mono ?_;rintro e w1 ⟨rfl,Pk,sv1,h1⟩;have eN:=Nu.hid (Yi.out w1 Pk sv1 h1);clear h1)
 clear uf Yi
 go_loopw [4] (fun _ wr=>∃k,q9 w0 p gp gh gr (.pointer q) n (r+1) es s' wr k) (fun _ wr=>leastOf (q9 w0 p gp gh gr (.pointer q) n (r+1) es s' wr))
 case atStart=>exact⟨_,eN.out⟩
 case round=>
  obtain⟨k0,hk0⟩:=hrel
  obtain⟨hI,-⟩:=leastOf_spec hk0
  obtain⟨k,hk⟩:∃k,leastOf (q9 w0 p gp gh gr (.pointer q) n (r+1) es s' wr)=k:=⟨_,rfl⟩
  rw[hk] at hI
  have HK:=Nu.hid hk
  have xp:Hid (∀V k',q9 w0 p gp gh gr (.pointer q) n (r+1) es s' V k'→k'<k→leastOf (q9 w0 p gp gh gr (.pointer q) n (r+1) es s' V)<leastOf (q9 w0 p gp gh gr (.pointer q) n (r+1) es s' wr)):=fun V k' h1 h2=>by
   rw[hk]
   have:=(leastOf_spec h1).2
   omega
  clear hk hk0 HK
  obtain⟨s,T,ov,sv,hRS,b,xU,hlen,hw⟩:=hI
  cases T with
  |nil=>
   cases hRS
   have he:=mO p 5 _ _ _ _ _ wr hw.stk
   have wO:decide ((Df.stk []).length=0)=true:=rfl
   rw[wO] at he
   have HE:=Nu.hid he
   have HW:=Nu.hid hw
   clear he hw wO xU hlen b
   go_wp2_with (go_at_call 80;refine HE.out.mono ?_;rintro e w2 ⟨rfl,rfl⟩)
   go_end0
   exact⟨rfl,ov,sv,HW.out⟩
  |cons L T=>
   cases hRS with
   |cons h1 h2=>
   rename_i j k1 s1
   rw[Df.vX] at hw
   have Ic:(Df.stk T).length≤17592186044000:=by rw[Df.FX];simp at hlen;omega
   have he:=mO p 5 _ _ _ _ _ wr hw.stk
   have wO:decide ((Df.stk T++[Df.hd L]).length=0)=false:=by simp
   rw[wO] at he
   have HE:=Nu.hid he
   have WN:=(Gj p 5 _ _ _ _ (Df.stk T) (Df.hd L) wr hw.stk Ic).mono (R':=fun e w'=>e= .returned (.int .i64 (Df.hd L))∧∃fc,aM w0 w' p gp gh gr (.pointer q) ov fc n es.length s (Df.stk T)) (fun e w' hp=>⟨hp.1,hw.popped hp⟩)
   have jM:=Nu.hid WN
   clear he WN hw wO
   cases L with
   |nil=>
    cases h1
    have hTI:∀V fc,aM w0 V p gp gh gr (.pointer q) ov fc n es.length s (Df.stk T)→q9 w0 p gp gh gr (.pointer q) n (r+1) es s' V k1:=fun V fc h=>⟨s,T,ov,fc,h2,b,fun L hL=>xU L (List.mem_cons_of_mem _ hL),by simp at hlen;omega,h⟩
    have CZ:=Nu.hid hTI
    have yR:Hid (k1<0+k1+1):=show k1<0+k1+1 by omega
    unfold Df.hd at jM
    clear hTI h2 b xU hlen Ic
    go_wp2_with (first|(go_at_call 80;refine HE.out.mono ?_;rintro e w2 ⟨rfl,rfl⟩)|(go_at_call 81;refine jM.out.mono ?_;rintro e w3 ⟨rfl,Jp,h3⟩;have BU:=Nu.hid (CZ.out w3 Jp h3);clear h3))
    go_roundw
    case rel=>exact⟨_,BU.out⟩
    case measure=>exact xp.out _ _ BU.out yR.out
   |cons h L=>
    obtain⟨hh,Ul,bU⟩:=(xU _ List.mem_cons_self).step
    have hval:=cQ.out.val hh
    have NF:∀X∈L::T,Df.Fw n es X:=fun X hX=>by
     rcases List.mem_cons.1 hX with rfl|hX
     ·exact Ul
     ·exact xU X (List.mem_cons_of_mem _ hX)
    have hlen':T.length+1+s.left≤es.length+1:=by simpa using hlen
    unfold Df.hd at jM
    have hne:(((h:Nat):Int)== -1)=false:=by simp only[beq_eq_false_iff_ne,ne_eq];omega
    have C2:Hid (∀V fc,aM w0 V p gp gh gr (.pointer q) ov fc n es.length s (Df.stk T)→(∀U,Below V.heap.size V U→Calls Tryz.prog 83 #[.pointer q,.int .i64 (h:Int)] U fun e U'=>e= .returned (.int .i64 (Df.hd L))∧Below U.heap.size U U')∧(∀U,Below V.heap.size V U→Calls Tryz.prog 82 #[.pointer (some ⟨p,5,none⟩),.int .i64 (Df.hd L)] U fun e U'=>e= .returned (.tuple #[])∧(∃sv,aM w0 U' p gp gh gr (.pointer q) ov sv n es.length s (Df.stk (L::T)))∧U'.cell? ⟨p,0,none⟩=some (.pointer q))∧∀U,Below V.heap.size V U→U.cell? ⟨p,0,none⟩=some (.pointer q)):=fun V fc hV=>by
     refine⟨fun U hU=> ?_,fun U hU=> ?_,fun U hU=>(hV.later hU).c0⟩
     ·have:=KY _ n es h U (cQ.out.later (hV.aI.trans (hU.mono hV.aI.size)))
      rw[bU] at this
      exact this.mono (by rintro e U' ⟨rfl,k,rfl⟩;exact⟨rfl,below_drewN (Below.refl _ _) k⟩)
     ·have Rp:=hV.later hU
      refine(wB p 5 _ _ _ _ (Df.stk T) (Df.hd L) U Rp.stk Rp.aI.size Ic).mono ?_
      intro e U' hp
      obtain⟨sv2,h2⟩:=Rp.pushed hp
      rw[←Df.vX] at h2
      exact⟨hp.1,⟨sv2,h2⟩,h2.c0⟩
    have nu:=b.hr
    have hL2:(Df.stk (L::T)).length≤17592186044000:=by rw[Df.FX];simp;omega
    have fO:Hid (∀V fc,aM w0 V p gp gh gr (.pointer q) ov fc n es.length s (Df.stk (L::T))→Calls Tryz.prog 84 #[.pointer (some ⟨p,0,none⟩),.int .i64 (h:Int)] V fun e w'=>e= .returned (.bool (s.dir (h/2) != -1))∧w'=V):=fun V fc hV=>FL h hV b.lo hh lX
    have C7:Hid (∀a:Nat,a<j→a+k1+1<j+k1+1):=fun a ha=>by omega
    cases h1 with
    |old hw hr'=>
     rename_i kk
     have hb:(s.dir (h/2) != -1)=true:=by simpa using hw
     rw[hb] at fO
     have CZ:Hid (∀V fc,aM w0 V p gp gh gr (.pointer q) ov fc n es.length s (Df.stk (L::T))→q9 w0 p gp gh gr (.pointer q) n (r+1) es s' V (kk+k1+1)):=fun V fc hV=>⟨s,L::T,ov,fc,.cons hr' h2,b,NF,hlen',hV⟩
     clear hw hr' h2 b xU Ul NF hlen hlen' bU hval nu Ic hL2 hb
     go_wp2_with (first|(go_at_call 80;refine HE.out.mono ?_;rintro e w2 ⟨rfl,rfl⟩)|(go_at_call 81;refine jM.out.mono ?_;rintro e w3 ⟨rfl,Jp,h3⟩;obtain⟨HA,HP,HC⟩:=C2.out w3 Jp h3;have TH:=Nu.hid HA;have S6:=Nu.hid HP;have TA:=Nu.hid HC;have hbd:Below w3.heap.size w3 w3.drew:=(Below.refl _ _).drew;clear HA HP HC h3))
     go_region_held3 (fun V=>V.cell? ⟨p,0,none⟩=some (.pointer q))
      (first|exact TA.out _ (by first|assumption|exact hbd)|assumption)
      ((first
        |(go_at_call 83;refine(TH.out _ (by first|assumption|exact hbd)).mono ?_;rintro e V1 ⟨rfl,nI⟩;have hb1:Below w3.heap.size w3 V1:=Below.trans (by first|assumption|exact hbd) (nI.mono (Below.size (by first|assumption|exact hbd))))
        |(go_at_call 82;refine(S6.out _ (by first|assumption|exact hbd)).mono ?_;rintro e V2 ⟨rfl,hv2,hs2⟩)))
     obtain⟨FW,h4⟩:=hv2
     have nU:=Nu.hid (fO.out V2 FW h4)
     have HT4:=Nu.hid (CZ.out V2 FW h4)
     clear h4 hs2
     go_wp2_with (go_at_call 84;refine nU.out.mono ?_;rintro e w5 ⟨rfl,rfl⟩)
     go_roundw
     case rel=>exact⟨_,HT4.out⟩
     case measure=>exact xp.out _ _ HT4.out (C7.out _ (by omega))
    |back hw hv' hr'=>
     rename_i kk
     have hb:(s.dir (h/2) != -1)=false:=by simpa using hw
     rw[hb] at fO
     have hm:=Df.jX b hh hw
     have CZ:Hid (∀V dS fc,aM w0 V p gp gh gr (.pointer q) dS fc n es.length (s.mark h) (Df.stk (L::T))→q9 w0 p gp gh gr (.pointer q) n (r+1) es s' V (kk+k1+1)):=fun V dS fc hV=>⟨s.mark h,L::T,dS,fc,.cons hr' h2,b.mark hh hw,NF,by simp;omega,hV⟩
     have IL:Hid (∀V fc,aM w0 V p gp gh gr (.pointer q) ov fc n es.length s (Df.stk (L::T))→Calls Tryz.prog 85 #[.pointer (some ⟨p,0,none⟩),.int .i64 (h:Int)] V (xd w0 p gp gh gr (.pointer q) n es (s.mark h) (Df.stk (L::T)))):=fun V fc hV=>I8 h cQ.out hV b hh hv'
     clear hw hv' hr' h2 b xU Ul NF hlen hlen' bU hval nu Ic hL2 hb hm
     go_wp2_with (first|(go_at_call 80;refine HE.out.mono ?_;rintro e w2 ⟨rfl,rfl⟩)|(go_at_call 81;refine jM.out.mono ?_;rintro e w3 ⟨rfl,Jp,h3⟩;obtain⟨HA,HP,HC⟩:=C2.out w3 Jp h3;have TH:=Nu.hid HA;have S6:=Nu.hid HP;have TA:=Nu.hid HC;have hbd:Below w3.heap.size w3 w3.drew:=(Below.refl _ _).drew;clear HA HP HC h3))
     go_region_held3 (fun V=>V.cell? ⟨p,0,none⟩=some (.pointer q))
      (first|exact TA.out _ (by first|assumption|exact hbd)|assumption)
      ((first
        |(go_at_call 83;refine(TH.out _ (by first|assumption|exact hbd)).mono ?_;rintro e V1 ⟨rfl,nI⟩;have hb1:Below w3.heap.size w3 V1:=Below.trans (by first|assumption|exact hbd) (nI.mono (Below.size (by first|assumption|exact hbd))))
        |(go_at_call 82;refine(S6.out _ (by first|assumption|exact hbd)).mono ?_;rintro e V2 ⟨rfl,hv2,hs2⟩)))
     obtain⟨FW,h4⟩:=hv2
     have nU:=Nu.hid (fO.out V2 FW h4)
     have yM:=Nu.hid (IL.out V2 FW h4)
     clear h4 hs2
     go_wp2_with (first|(go_at_call 84;refine nU.out.mono ?_;rintro e w5 ⟨rfl,rfl⟩)|(go_at_call 85;refine yM.out.mono ?_;rintro e w6 ⟨rfl,YL,YC,h6⟩;have C1:=Nu.hid (CZ.out w6 YL YC h6);clear h6))
     go_roundw
     case rel=>exact⟨_,C1.out⟩
     case measure=>exact xp.out _ _ C1.out (C7.out _ (by omega))
    |tree hw hv' hr1 hr2=>
     rename_i kj kk s2
     have hb:(s.dir (h/2) != -1)=false:=by simpa using hw
     rw[hb] at fO
     have hm:=Df.jX b hh hw
     have ht:=(Cs.bH hval hh).2
     have Zw:(s.go es h).left=(s.mark h).left:=rfl
     have CZ:Hid (∀V dS fc,aM w0 V p gp gh gr (.pointer q) dS fc n es.length (s.go es h) (Df.stk (L::T)++[Cs.iG n es (Cs.to es h)])→q9 w0 p gp gh gr (.pointer q) n (r+1) es s' V (kj+(kk+k1+1)+1)):=fun V dS fc hV=>by
      rw[Df.DV ht,←Df.vX] at hV
      refine⟨s.go es h,Cs.out es (Cs.to es h) (2*es.length)::L::T,dS,fc,.cons hr1 (.cons hr2 h2),b.go hval hh hw,fun X hX=> ?_,by simp;omega,hV⟩
      rcases List.mem_cons.1 hX with rfl|hX
      ·exact Df.Fw.all ht
      ·exact NF X hX
     have IL:Hid (∀V fc,aM w0 V p gp gh gr (.pointer q) ov fc n es.length s (Df.stk (L::T))→Calls Tryz.prog 85 #[.pointer (some ⟨p,0,none⟩),.int .i64 (h:Int)] V (xd w0 p gp gh gr (.pointer q) n es (s.go es h) (Df.stk (L::T)++[Cs.iG n es (Cs.to es h)]))):=fun V fc hV=>I6 h cQ.out hV b hh hv' (by omega) hL2
     clear hw hv' hr1 hr2 h2 b xU Ul NF hlen hlen' bU hval nu Ic hL2 hb hm ht Zw
     go_wp2_with (first|(go_at_call 80;refine HE.out.mono ?_;rintro e w2 ⟨rfl,rfl⟩)|(go_at_call 81;refine jM.out.mono ?_;rintro e w3 ⟨rfl,Jp,h3⟩;obtain⟨HA,HP,HC⟩:=C2.out w3 Jp h3;have TH:=Nu.hid HA;have S6:=Nu.hid HP;have TA:=Nu.hid HC;have hbd:Below w3.heap.size w3 w3.drew:=(Below.refl _ _).drew;clear HA HP HC h3))
     go_region_held3 (fun V=>V.cell? ⟨p,0,none⟩=some (.pointer q))
      (first|exact TA.out _ (by first|assumption|exact hbd)|assumption)
      ((first
        |(go_at_call 83;refine(TH.out _ (by first|assumption|exact hbd)).mono ?_;rintro e V1 ⟨rfl,nI⟩;have hb1:Below w3.heap.size w3 V1:=Below.trans (by first|assumption|exact hbd) (nI.mono (Below.size (by first|assumption|exact hbd))))
        |(go_at_call 82;refine(S6.out _ (by first|assumption|exact hbd)).mono ?_;rintro e V2 ⟨rfl,hv2,hs2⟩)))
     obtain⟨FW,h4⟩:=hv2
     have nU:=Nu.hid (fO.out V2 FW h4)
     have yM:=Nu.hid (IL.out V2 FW h4)
     clear h4 hs2
     go_wp2_with (first|(go_at_call 84;refine nU.out.mono ?_;rintro e w5 ⟨rfl,rfl⟩)|(go_at_call 85;refine yM.out.mono ?_;rintro e w6 ⟨rfl,YL,YC,h6⟩;have C1:=Nu.hid (CZ.out w6 YL YC h6);clear h6))
     go_roundw
     case rel=>exact⟨_,C1.out⟩
     case measure=>exact xp.out _ _ C1.out (show kj+(kk+k1+1)+1<kj+kk+2+k1+1 by omega)
end
end
section
open Go.RowKit
def Oh (n:Int) (es:List (Int×Int)) (w:World) (e:Ending) (w':World):Prop:=
 ∃v1 v2 v3 v4 s z,e= .returned (.tuple #[.agg #[v1,v2,v3,v4],.int .i64 z])∧lK w' w.heap.size v1 v2 v3 v4 s∧
  ((∃m:Nat,n=(m:Int)∧Si.Val n es∧Df.Wk m es m s∧z=0)∨(Si.valid n es=false∧s=⟨[],[],[],[]⟩∧z=1))∧Below w.heap.size w w'
theorem xe.at {av:Value} {n m:Nat} {w w':World} {e:Ending} (hn:n≤8388608) (h:xe av n m w e w'):∃p gp gh gr ov,e= .returned (.pointer (some ⟨p,0,none⟩))∧aM w w' p gp gh gr av ov (.slice none 0 0) n m (Df.St.start n m) []:=by
 obtain⟨p,gp,gh,go,gr,he,hb,h1,h2,h3,h4,⟨b1,b2,b3,b4,b5⟩,⟨d1,d2,d3,d4,d5,d6,d7,d8,d9,d10⟩,dg⟩:=h
 refine⟨p,gp,gh,gr,.slice (some ⟨go,0,none⟩) 0 n,he,dg,hb,h1,h2,h3,h4.abR b4 (by simp) hn,.nil _ _,⟨b1,b2,b3,b5⟩,⟨d1,d2,d4,d5,d7,d9⟩,⟨?_,?_,?_,?_⟩,⟨by simp[Value.ownBlock],by simp[Value.ownBlock],by simp[Value.ownBlock],by simp[Value.ownBlock]⟩,fun b _=>by simp[Value.ownBlock]⟩
 ·exact fun e=>d3 (Option.some.inj e).symm
 ·exact fun e=>d6 (Option.some.inj e).symm
 ·exact fun e=>d8 (Option.some.inj e).symm
 ·exact fun e=>d10 (Option.some.inj e)
theorem aM.own {w0 w:World} {p gp gh gr:Nat} {av ov sv:Value} {n m:Nat} {s:Df.St} {K:List Int} (h:aM w0 w p gp gh gr av ov sv n m s K) (h1:s.par.length=n) (h2:s.ay.length=n) (h4:s.aJ.length=m) (hn:n≤8388608) (hm:m≤8388608):
 lK w w0.heap.size (.slice (some ⟨gp,0,none⟩) n n) (.slice (some ⟨gh,0,none⟩) n n) ov (.slice (some ⟨gr,0,none⟩) m m) s:=by
 refine⟨h.ip.own h.lo.2.1 h1 hn,h.ih.own h.lo.2.2.1 h2 hn,h.ow,h.ir.own h.lo.2.2.2 h4 hm,fun b hb e=> ?_,fun b hb e=> ?_,fun b hb e=> ?_,fun b hb e=> ?_,fun b hb e=> ?_,fun b hb e=> ?_⟩
 ·exact h.ne.2.2.2.1 ((Option.some.inj hb).trans (Option.some.inj e).symm)
 ·exact h.fD.2.1 (e.trans hb.symm)
 ·exact h.ne.2.2.2.2.1 ((Option.some.inj hb).trans (Option.some.inj e).symm)
 ·exact h.fD.2.2.1 (e.trans hb.symm)
 ·exact h.ne.2.2.2.2.2 ((Option.some.inj hb).trans (Option.some.inj e).symm)
 ·exact h.fD.2.2.2 (hb.trans e.symm)
set_option maxRecDepth 100000 in
set_option maxHeartbeats 16000000 in
theorem Bk (n:Int) (ao:Option Addr) (cap:Nat) (es:List (Int×Int)) (w:World) (he:aL w ao es) (hl:es.length≤4611686018427387904):
 Calls Tryz.prog 22 #[cK n ao es.length cap] w (Oh n es w):=by
 obtain⟨W,hW⟩:∃W,W=(w.alloc (.cells #[.int .i64 n,.slice ao es.length cap] 24)).alloc (.cells #[.slice none 0 0,.slice none 0 0,.slice none 0 0,.slice none 0 0] 36):=⟨_,rfl⟩
 have hB0:Below w.heap.size w W:=by rw[hW];exact((Below.refl _ _).alloc (Nat.le_refl _) _).alloc (by simp) _
 have hsz:W.heap.size=w.heap.size+2:=by rw[hW];simp
 have g1:W.heap[w.heap.size]? =some (.cells #[.int .i64 n,.slice ao es.length cap] 24 (0,0)):=by
  rw[hW,Below.heap_alloc _ _ _ (by simp)]
  exact heap_alloc_new w _
 have g2:W.heap[w.heap.size+1]? =some (.cells #[.slice none 0 0,.slice none 0 0,.slice none 0 0,.slice none 0 0] 36 (0,0)):=by
  rw[hW]
  exact alloc_at (by simp)
 have hnew:=wX n ao cap es W (he.later hB0) hl
 unfold cK at hnew ⊢
 have dm:=Nu.hid hB0
 have kT:=Nu.hid g2
 obtain⟨x0,x1,-⟩:=az g1
 have lZ:=Nu.hid hW
 rw[hW] at x0 x1
 cases hv:Si.valid n es with
 |false=>
  have nC:Hid (Calls Tryz.prog 42 #[.agg #[.int .i64 n,.slice ao es.length cap]] W fun e w'=>e= .returned (.tuple #[.pointer none,.int .i64 1])∧Below W.heap.size W w'):=hnew.mono (by
   rintro e w' ⟨⟨m,q,rfl,hval,_⟩|⟨_,h⟩,hb⟩
   ·rw[Si.bL.2 hval] at hv;cases hv
   ·exact⟨h,hb⟩)
  have HV:=Nu.hid hv
  clear hnew hB0 g1 g2 he hW hv
  go_enter Tryz.func22,Tryz.ntmps22
  go_wp2_with (go_at_call 42;rw[←lZ.out];refine nC.out.mono ?_;rintro e w1 ⟨rfl,hb1⟩;refine Hid.out ?_)
  refine Nu.hid ?_
  have hk2:=(hb1.block _ (by omega)).trans kT.out
  have aV:=Nu.hid (dm.out.trans (hb1.mono dm.out.size))
  obtain⟨r0,r1,r2,r3,-⟩:=au (gV hk2 (.slice none 0 0) (.slice none 0 0) (.slice none 0 0) (.slice none 0 0))
  have R0:=Nu.hid r0
  have R1:=Nu.hid r1
  have R2:=Nu.hid r2
  have R3:=Nu.hid r3
  unfold dY at R0 R1 R2 R3
  obtain⟨k0,k1,k2,k3,kf⟩:=au hk2
  have oO:=Nu.hid (eA aV.out (R:=w.heap.size+1) (by omega) (.slice none 0 0) (.slice none 0 0) (.slice none 0 0) (.slice none 0 0))
  unfold dY at oO
  clear hb1 hk2 r0 r1 r2 r3
  go_wp2
  refine bodyPost_ret (v:= .tuple #[.agg #[.slice none 0 0,.slice none 0 0,.slice none 0 0,.slice none 0 0],.int .i64 1]) (by simp[results,Tryz.results22,go_sem,R0.out,R1.out,R2.out,R3.out]) rfl ?_
  exact⟨_,_,_,_,_,_,rfl,lK.empty _ _,.inr ⟨HV.out,rfl,rfl⟩,oO.out⟩
 |true=>
  obtain⟨m,rfl⟩:∃m:Nat,n=(m:Int):=⟨n.toNat,by have:=(Si.bL.1 hv).lo;omega⟩
  have hval:=Si.bL.1 hv
  have nC:Hid (Calls Tryz.prog 42 #[.agg #[.int .i64 (m:Int),.slice ao es.length cap]] W fun e w'=>∃q,e= .returned (.tuple #[.pointer (some ⟨q,0,none⟩),.int .i64 0])∧lD w' W.heap.size q m es∧Below W.heap.size W w'):=hnew.mono (by
   rintro e w' ⟨⟨m',q,hm,_,h,ha⟩|⟨h,_⟩,hb⟩
   ·obtain rfl:m=m':=by omega
    exact⟨q,h,ha,hb⟩
   ·rw[hv] at h;cases h)
  have mV:=Nu.hid hval
  clear hnew hB0 g1 g2 he hW hv hval
  go_enter Tryz.func22,Tryz.ntmps22
  go_wp2_with (go_at_call 42;rw[←lZ.out];refine nC.out.mono ?_;rintro e w1 ⟨q,rfl,aX,hb1⟩;refine Hid.out ?_)
  refine Nu.hid ?_
  have hk2:=(hb1.block _ (by omega)).trans kT.out
  have aV:=Nu.hid (dm.out.trans (hb1.mono dm.out.size))
  have hs1:=hb1.size
  have j5:cE w1 (.pointer (some ⟨q,0,none⟩)) m es:= .inr ⟨_,q,rfl,mV.out,aX⟩
  have cQ:=Nu.hid j5
  obtain⟨CG,lX⟩:=j5.bounds
  have HNW:=Nu.hid (Ad _ m es w1 j5)
  have xq:=Nu.hid hk2
  clear hb1 x0 x1 aX j5 hk2
  go_wp2_with (go_at_call 43;refine HNW.out.mono ?_;intro e w2 Zr;obtain⟨p,gp,gh,gr,ov,rfl,h2⟩:=Zr.at (by omega);have H2:=Nu.hid h2;clear h2 Zr;refine Hid.out ?_)
  refine Nu.hid ?_
  have Tb:=Nu.hid (lY _ m es w2 (cQ.out.later H2.out.aI))
  go_wp2_with (go_at_call 44;refine Tb.out.mono ?_;rintro e w3 ⟨rfl,rfl⟩)
  go_loopw [21] (fun c wr=>∃(i:Nat) (s:Df.St) (ov sv:Value),i≤m∧c= .int .i64 i∧Df.Wk m es i s∧aM w1 wr p gp gh gr (.pointer (some ⟨q,0,none⟩)) ov sv m es.length s []) (fun c _=>m-(intOf c).toNat)
  case atStart=>exact⟨0,_,_,_,Nat.zero_le _,rfl,.zero,H2.out⟩
  case round=>
   obtain⟨i,s,dS,fc,UA,rfl,hwk,hw⟩:=hrel
   have hbd:=hwk.bd mV.out UA
   by_cases hlt:i<m
   ·have oA:(i:Int)<(m:Int):=by omega
    have AK:=pq i hw hbd.lh hlt
    by_cases hh:s.height i= -1
    ·have hb:(s.height i != -1)=false:=by simpa using hh
     rw[hb] at AK
     obtain⟨k,s2,hR,_⟩:=Df.total mV.out (s.reach i (-1) 0).left (Cs.out es i (2*es.length)) (s.reach i (-1) 0) (Nat.le_refl _) (hbd.root hlt) Df.e8
     have HWT:=Nu.hid (Ci i k cQ.out hw hbd hlt (by omega) hR)
     have uf:=Nu.hid AK
     have fO:Hid (Df.Wk m es (i+1) s2):= .walk hwk hh hR
     clear AK hb hR hwk hw hbd hh
     go_wp2_with (first|(go_at_call 45;refine uf.out.mono ?_;rintro e w4 ⟨rfl,rfl⟩)|(go_at_call 46;refine HWT.out.mono ?_;rintro e w5 ⟨rfl,YM,sv5,h5⟩;have H5:=Nu.hid h5;clear h5))
     go_roundw
     case rel=>exact⟨i+1,s2,YM,sv5,by omega,by go_num,fO.out,H5.out⟩
     case measure=>simp[intOf];omega
    ·have hb:(s.height i != -1)=true:=by simpa using hh
     rw[hb] at AK
     have uf:=Nu.hid AK
     have fO:Hid (Df.Wk m es (i+1) s):= .pass hwk hh
     have H5:=Nu.hid hw
     clear AK hb hwk hw hbd hh
     go_wp2_with (first|(go_at_call 45;refine uf.out.mono ?_;rintro e w4 ⟨rfl,rfl⟩))
     go_roundw
     case rel=>exact⟨i+1,s,dS,fc,by omega,by go_num,fO.out,H5.out⟩
     case measure=>simp[intOf];omega
   ·obtain rfl:i=m:=by omega
    have hd:¬((i:Int)<(i:Int)):=by omega
    have hown:=hw.own hbd.lp hbd.lh hbd.lo (by omega) (by omega)
    have c1:=hw.c1
    have c2:=hw.c2
    have c3:=hw.c3
    have c4:=hw.c4
    have hk3:=(hw.aI.block (w.heap.size+1) (by omega)).trans xq.out
    obtain⟨k0,k1,k2,k3,kf⟩:=au hk3
    obtain⟨r0,r1,r2,r3,-⟩:=au (gV hk3 (.slice (some ⟨gp,0,none⟩) i i) (.slice (some ⟨gh,0,none⟩) i i) dS (.slice (some ⟨gr,0,none⟩) es.length es.length))
    have R0:=Nu.hid r0
    have R1:=Nu.hid r1
    have R2:=Nu.hid r2
    have R3:=Nu.hid r3
    unfold dY at R0 R1 R2 R3
    have Qp:lK (dY wr (w.heap.size+1) (.slice (some ⟨gp,0,none⟩) i i) (.slice (some ⟨gh,0,none⟩) i i) dS (.slice (some ⟨gr,0,none⟩) es.length es.length)) w1.heap.size (.slice (some ⟨gp,0,none⟩) i i) (.slice (some ⟨gh,0,none⟩) i i) dS (.slice (some ⟨gr,0,none⟩) es.length es.length) s:=hown.same fun g hg _=>kH (by omega) _ _ _ _
    have Q9:=eA (aV.out.trans (hw.aI.mono aV.out.size)) (R:=w.heap.size+1) (by omega) (.slice (some ⟨gp,0,none⟩) i i) (.slice (some ⟨gh,0,none⟩) i i) dS (.slice (some ⟨gr,0,none⟩) es.length es.length)
    have OC:=Nu.hid (Qp.lower aV.out.size)
    have oO:=Nu.hid Q9
    unfold dY at OC oO
    obtain⟨yH,jT,AU,_,_⟩:=hw.ow.form
    subst AU
    have fO:=Nu.hid hwk
    clear hwk hw hbd hown hk3 r0 r1 r2 r3 Qp Q9
    go_wp2
    refine bodyPost_ret (v:= .tuple #[.agg #[.slice (some ⟨gp,0,none⟩) i i,.slice (some ⟨gh,0,none⟩) i i,.slice yH s.ord.length jT,.slice (some ⟨gr,0,none⟩) es.length es.length],.int .i64 0]) (by simp[results,Tryz.results22,go_sem,R0.out,R1.out,R2.out,R3.out]) rfl ?_
    exact⟨_,_,_,_,_,_,rfl,OC.out,.inl ⟨i,rfl,mV.out,fO.out,rfl⟩,oO.out⟩
end
section
open Go.RowKit Go.Sort
namespace Df
def iO (s:St):List Int:=s.ay.map fun x=>if x= -1 then 0 else x
def gU (s:St):List Bool:=s.ay.map fun x=>x != -1
end Df
structure RW (w0 w:World) (F gp gh gr gs:Nat) (ov:Value) (n m:Nat) (P H O R:List Int) (S:List Bool):Prop where
 aI:Below w0.heap.size w0 w
 blk:w.heap[F]? =some (.cells #[.slice (some ⟨gp,0,none⟩) n n,.slice (some ⟨gh,0,none⟩) n n,ov,.slice (some ⟨gr,0,none⟩) m m] 36 (0,0))
 ip:aq w gp P
 ih:aq w gh H
 ir:aq w gr R
 is:bX w gs S
 ow:aS w w0.heap.size ov O
 lo:w0.heap.size≤F∧w0.heap.size≤gp∧w0.heap.size≤gh∧w0.heap.size≤gr∧w0.heap.size≤gs
 ne:F≠gp∧F≠gh∧F≠gr∧F≠gs∧gp≠gh∧gp≠gr∧gp≠gs∧gh≠gr∧gh≠gs∧gr≠gs
 fD:ov.ownBlock≠some F∧ov.ownBlock≠some gp∧ov.ownBlock≠some gh∧ov.ownBlock≠some gr∧ov.ownBlock≠some gs
def BL (F gp gh gr gs:Nat) (ov:Value) (b:Nat):Prop:=b=F∨b=gp∨b=gh∨b=gr∨b=gs∨ov.ownBlock=some b
section
variable {w0 w w':World} {F gp gh gr gs:Nat} {ov:Value} {n m:Nat} {P H O R:List Int} {S:List Bool}
theorem RW.cells (h:RW w0 w F gp gh gr gs ov n m P H O R S):w.cell? ⟨F,0,none⟩=some (.slice (some ⟨gp,0,none⟩) n n)∧w.cell? ⟨F,1,none⟩=some (.slice (some ⟨gh,0,none⟩) n n)∧w.cell? ⟨F,2,none⟩=some ov∧w.cell? ⟨F,3,none⟩=some (.slice (some ⟨gr,0,none⟩) m m)∧∀i,w.frozen? ⟨F,i,none⟩=false:=au h.blk
theorem RW.lt (h:RW w0 w F gp gh gr gs ov n m P H O R S):F<w.heap.size:=lt_of_block h.blk
theorem RW.later (h:RW w0 w F gp gh gr gs ov n m P H O R S) (hb:Below w.heap.size w w'):RW w0 w' F gp gh gr gs ov n m P H O R S:=
 ⟨h.aI.trans (hb.mono h.aI.size),(hb.block F h.lt).trans h.blk,h.ip.later hb,h.ih.later hb,h.ir.later hb,h.is.later hb,h.ow.later hb,h.lo,h.ne,h.fD⟩
theorem RW.uC (h:RW w0 w F gp gh gr gs ov n m P H O R S) (v:Nat) (x:Int):RW w0 (w.setCell ⟨gp,v,none⟩ (.int .i64 x)) F gp gh gr gs ov n m (P.set v x) H O R S:=by
 obtain⟨n1,n2,n3,n4,n5,n6,n7,n8,n9,n10⟩:=h.ne
 exact⟨h.aI.setCell (p:=⟨gp,v,none⟩) h.lo.2.1 _,(cM n1 _).trans h.blk,h.ip.set v x,h.ih.aK (Ne.symm n5) _,h.ir.aK (Ne.symm n6) _,h.is.aK (Ne.symm n7) _,h.ow.aK h.fD.2.1 _,h.lo,h.ne,h.fD⟩
theorem RW.Ez (h:RW w0 w F gp gh gr gs ov n m P H O R S) (v:Nat) (x:Int):RW w0 (w.setCell ⟨gh,v,none⟩ (.int .i64 x)) F gp gh gr gs ov n m P (H.set v x) O R S:=by
 obtain⟨n1,n2,n3,n4,n5,n6,n7,n8,n9,n10⟩:=h.ne
 exact⟨h.aI.setCell (p:=⟨gh,v,none⟩) h.lo.2.2.1 _,(cM n2 _).trans h.blk,h.ip.aK n5 _,h.ih.set v x,h.ir.aK (Ne.symm n8) _,h.is.aK (Ne.symm n9) _,h.ow.aK h.fD.2.2.1 _,h.lo,h.ne,h.fD⟩
theorem RW.rL (h:RW w0 w F gp gh gr gs ov n m P H O R S) (v:Nat) (x:Int):RW w0 (w.setCell ⟨gr,v,none⟩ (.int .i64 x)) F gp gh gr gs ov n m P H O (R.set v x) S:=by
 obtain⟨n1,n2,n3,n4,n5,n6,n7,n8,n9,n10⟩:=h.ne
 exact⟨h.aI.setCell (p:=⟨gr,v,none⟩) h.lo.2.2.2.1 _,(cM n3 _).trans h.blk,h.ip.aK n6 _,h.ih.aK n8 _,h.ir.set v x,h.is.aK (Ne.symm n10) _,h.ow.aK h.fD.2.2.2.1 _,h.lo,h.ne,h.fD⟩
theorem RW.O6 (h:RW w0 w F gp gh gr gs ov n m P H O R S) (v:Nat) (x:Bool):RW w0 (w.setCell ⟨gs,v,none⟩ (.bool x)) F gp gh gr gs ov n m P H O R (S.set v x):=by
 obtain⟨n1,n2,n3,n4,n5,n6,n7,n8,n9,n10⟩:=h.ne
 exact⟨h.aI.setCell (p:=⟨gs,v,none⟩) h.lo.2.2.2.2 _,(cM n4 _).trans h.blk,h.ip.aK n7 _,h.ih.aK n9 _,h.ir.aK n10 _,h.is.set v x,h.ow.aK h.fD.2.2.2.2 _,h.lo,h.ne,h.fD⟩
theorem RW.ED {w1:World} {dS:Value} {x:Int} {tmp:Obj} (h:RW w0 w F gp gh gr gs ov n m P H O R S) (hown:aS w1 w0.heap.size dS (O++[x])) (hg:(w.alloc tmp).grownBy w1 ov.ownBlock) (hat:dS.ownBlock=ov.ownBlock∨dS.ownBlock=some (w.heap.size+1)):
 RW w0 (w1.setCell ⟨F,2,none⟩ dS) F gp gh gr gs dS n m P H (O++[x]) R S∧w1.cell? ⟨F,2,none⟩=some ov∧w1.frozen? ⟨F,2,none⟩=false∧aF (BL F gp gh gr gs ov) w (w1.setCell ⟨F,2,none⟩ dS):=by
 have keep:∀b,b<w.heap.size→ov.ownBlock≠some b→w1.heap[b]? =w.heap[b]? :=fun b hb hne=>by
  rw[hg.block b (by rw[World.size_alloc];omega) (fun e=>hne e.symm)]
  exact Below.heap_alloc w tmp b hb
 have gP:=(keep F h.lt h.fD.1).trans h.blk
 have hsz:w.heap.size≤w1.heap.size:=by
  have:=hg.size
  rw[World.size_alloc] at this
  omega
 have hB:=h.aI.size
 have hnew:∀b,b<w.heap.size→ov.ownBlock≠some b→dS.ownBlock≠some b:=fun b hb hne e=>by
  rcases hat with e1|e1
  ·exact hne (e1.symm.trans e)
  ·rw[e1] at e
   have:=Option.some.inj e
   omega
 have QW:=hnew F h.lt h.fD.1
 obtain⟨n1,n2,n3,n4,n5,n6,n7,n8,n9,n10⟩:=h.ne
 obtain⟨k0,k1,k2,k3,kf⟩:=au gP
 refine⟨⟨?_,?_,?_,?_,?_,?_,?_,h.lo,h.ne,⟨QW,hnew gp h.ip.lt h.fD.2.1,hnew gh h.ih.lt h.fD.2.2.1,hnew gr h.ir.lt h.fD.2.2.2.1,hnew gs h.is.lt h.fD.2.2.2.2⟩⟩,k2,kf 2,?_⟩
 ·have hb1:Below w0.heap.size w w1:=⟨hg.os,hg.tape,hg.output,hsz,fun k hk=>keep k (by omega) (fun e=>by have:=(h.ow.lt e).1;omega)⟩
  exact(h.aI.trans hb1).setCell (p:=⟨F,2,none⟩) h.lo.1 _
 ·rw[heap_setCell_same w1 F 2 _ _ _ gP]
  rfl
 ·exact aq.aK ((keep gp h.ip.lt h.fD.2.1).trans h.ip) (Ne.symm n1) _
 ·exact aq.aK ((keep gh h.ih.lt h.fD.2.2.1).trans h.ih) (Ne.symm n2) _
 ·exact aq.aK ((keep gr h.ir.lt h.fD.2.2.2.1).trans h.ir) (Ne.symm n3) _
 ·exact bX.aK ((keep gs h.is.lt h.fD.2.2.2.2).trans h.is) (Ne.symm n4) _
 ·exact hown.aK QW _
 ·refine⟨hg.os,hg.tape,hg.output,by simpa using hsz,fun k hk hn=> ?_⟩
  rw[cM (fun e=>hn (.inl e)),keep k hk (fun e=>hn (.inr (.inr (.inr (.inr (.inr e))))))]
end
theorem iN.look {w:World} {G n:Nat} {vs:List Value} {es:List (Int×Int)} {j v:Nat} (h:iN w G vs es j) (hl:vs.length=n) (hv:v<n):∃ao cap,w.cell? ⟨G,v,none⟩=some (.slice ao (Cs.jB es v j).length cap)∧dc w ao (Cs.jB es v j):=by
 obtain⟨x,hx⟩:∃x,vs[v]? =some x:=⟨_,List.getElem?_eq_getElem (by omega)⟩
 have hr:aS w (G+1) x (Cs.jB es v j):=h.row v x hx
 obtain⟨ao,cap,rfl,hi,_⟩:=hr.form
 exact⟨ao,cap,h.cell hx,hi⟩
end
end Go.Proofs.YtnhcggfbkoppnaaGreat
