import Derived.Test.YtbhdibflpjhpaaaGreatMg24
set_option maxHeartbeats 16000000
set_option maxRecDepth 100000
namespace Go.Proofs.YtbhdibflpjhpaaaGreat
section
open Go.Proofs.Tryz
open Go.RowKit
namespace Df
def hd:List Nat->Int
 |[]=> -1
 |h::_=>(h:Int)
def Jl (n:Nat) (es:List (Int×Int)) (L:List Nat):Prop:=∃v i,v<n/\L=(Cs.out es v (2*es.length)).drop i
theorem Ld (L:List Nat) (i:Nat):(L.map fun i:Nat=>(i:Int)).getD i (-1)=hd (L.drop i):=by
 rw[aag,abU];cases h:L[i]? with
 |none=>
  rw[aeB (aeP.1 h)];rfl
 |some x=>
  obtain⟨hi,hx⟩:=aaf.1 h;rw[adj hi,hx];rfl
theorem GH {n:Nat} {es:List (Int×Int)} {v:Nat} (hv:v<n):Cs.fM n es v=hd (Cs.out es v (2*es.length)):=by
 unfold Cs.fM Cs.gO;rw[Cs.kL hv,Ld];rfl
theorem Jl.all {n:Nat} {es:List (Int×Int)} {v:Nat} (hv:v<n):Jl n es (Cs.out es v (2*es.length)):=⟨v,0,hv,rfl⟩
theorem Jl.step {n:Nat} {es:List (Int×Int)} {h:Nat} {L:List Nat} (hs:Jl n es (h::L)):h<2*es.length/\Jl n es L/\Cs.mD n es h=hd L:=by
 obtain⟨v,i,hv,e⟩:=hs;have hi:(Cs.out es v (2*es.length))[i]? =some h:=by
  have:=congrArg (fun l:List Nat=>l[0]?) e;simpa using this.symm
 have hL:L=(Cs.out es v (2*es.length)).drop (i+1):=by
  have:=congrArg List.tail e;simpa using this
 obtain⟨h1,h2,h3⟩:=Cs.kK hi;refine⟨h1,⟨v,i+1,hv,hL⟩,?_⟩;unfold Cs.mD Cs.gO;rw[if_pos (by omega),ach,h2,h3,Cs.kL hv,Ld,<-hL]
inductive RS (es:List (Int×Int)):Nat->St->List (List Nat)->St->Prop
 |nil (s:St):RS es 0 s [] s
 |cons {j k:Nat} {s s1 s':St} {L:List Nat} {T:List (List Nat)} (h1:R es j s L s1) (h2:RS es k s1 T s'):RS es (j+k+1) s (L::T) s'
def stk (T:List (List Nat)):List Int:=(T.map hd).reverse
theorem zD (L:List Nat) (T:List (List Nat)):stk (L::T)=stk T++[hd L]:=by simp[stk]
theorem JU (T:List (List Nat)):(stk T).length=T.length:=by simp[stk]
end Df
def uw (w0:World) (p gp gh gr:Nat) (av:Value) (n r:Nat) (es:List (Int×Int)) (s':Df.St) (w:World) (k:Nat):Prop:=
 ∃s T ov sv,Df.RS es k s T s'/\Df.Bd n es r s/\(∀L∈T,Df.Jl n es L)/\T.length+s.left<=es.length+1/\aL w0 w p gp gh gr av ov sv n es.length s (Df.stk T)
section
variable {w0 w:World} {p gp gh gr:Nat} {av ov sv:Value} {n r:Nat} {es:List (Int×Int)} {s s':Df.St}
theorem E8 (v k:Nat) (aV:bK w0 av n es) (hW:aL w0 w p gp gh gr av ov sv n es.length s []) (b:Df.Bd n es r s) (hv:v<n) (hr:r<=1048576) (hR:Df.R es k (s.reach v (-1) 0) (Cs.out es v (2*es.length)) s'):
 Calls prog 49 #[.pointer (some ⟨p,0,none⟩),.int .i64 (v:Int)] w (Ai w0 p gp gh gr av n es s' []):=by
 obtain⟨yD,lZ⟩:=aV.bounds;have wC:=b.hr;have hRE:=C7 v (-1) 0 aV hW b.lp b.lh hv (by omega) (by simp);rw[Df.GH hv,acs] at hRE;have hinv:∀V kJ fJ,aL w0 V p gp gh gr av kJ fJ n es.length (s.reach v (-1) 0) [Df.hd (Cs.out es v (2*es.length))]->uw w0 p gp gh gr av n (r+1) es s' V (k+0+1):=fun V kJ fJ h=>
  ⟨s.reach v (-1) 0,[Cs.out es v (2*es.length)],kJ,fJ,.cons hR (.nil s'),b.root hv,fun L hL=>by rw[aan] at hL;subst hL;exact Df.Jl.all hv,by have:=b.few;show 1+s.left<=_;omega,h⟩
 have tu:=ζ hRE;have abD:=ζ hinv;have cP:=ζ aV;have kT:∃q,av= .pointer q:=by
  rcases aV with ⟨h,_⟩|⟨_,p,h,_⟩
  .exact⟨_,h⟩
  .exact⟨_,h⟩
 obtain⟨q,rfl⟩:=kT;clear hRE hinv hR hW wC aV b;go_enter func49,ntmps49;go_wp2_with (go_at_call 61;refine tu.out.mono ?_;rintro e w1 ⟨rfl,ov1,sv1,h1⟩;have XD:=ζ (abD.out w1 ov1 sv1 h1);clear h1);clear tu abD;go_loopw [4] (fun _ wr=>∃k,uw w0 p gp gh gr (.pointer q) n (r+1) es s' wr k) (fun _ wr=>leastOf (uw w0 p gp gh gr (.pointer q) n (r+1) es s' wr))
 case atStart=>exact⟨_,XD.out⟩
 case round=>
  obtain⟨k0,hk0⟩:=hrel;obtain⟨hI,-⟩:=leastOf_spec hk0;obtain⟨k,hk⟩:∃k,leastOf (uw w0 p gp gh gr (.pointer q) n (r+1) es s' wr)=k:=⟨_,rfl⟩;rw[hk] at hI;have HK:=ζ hk;have Ap:Hid (∀V k',uw w0 p gp gh gr (.pointer q) n (r+1) es s' V k'->k'<k->leastOf (uw w0 p gp gh gr (.pointer q) n (r+1) es s' V)<leastOf (uw w0 p gp gh gr (.pointer q) n (r+1) es s' wr)):=fun V k' h1 h2=>by
   rw[hk];have:=(leastOf_spec h1).2;omega
  clear hk hk0 HK;obtain⟨s,T,ov,sv,hRS,b,A4,hlen,hw⟩:=hI;cases T with
  |nil=>
   cases hRS;have he:=oD p 5 _ _ _ _ _ wr hw.stk;have BM:decide ((Df.stk []).length=0)=true:=rfl;rw[BM] at he;have HE:=ζ he;have HW:=ζ hw;clear he hw BM A4 hlen b;go_wp2_with (go_at_call 62;refine HE.out.mono ?_;rintro e w2 ⟨rfl,rfl⟩)
   go_end0
   exact⟨rfl,ov,sv,HW.out⟩
  |cons L T=>
   cases hRS with
   |cons h1 h2=>
   rename_i j k1 s1
   rw[Df.zD] at hw;have Lp:(Df.stk T).length<=17592186044000:=by rw[Df.JU];simp at hlen;omega
   have he:=oD p 5 _ _ _ _ _ wr hw.stk;have BM:decide ((Df.stk T++[Df.hd L]).length=0)=false:=by simp
   rw[BM] at he;have HE:=ζ he;have aaK:=(J9 p 5 _ _ _ _ (Df.stk T) (Df.hd L) wr hw.stk Lp).mono (R':=fun e w'=>e= .returned (.int .i64 (Df.hd L))/\∃fJ,aL w0 w' p gp gh gr (.pointer q) ov fJ n es.length s (Df.stk T)) (fun e w' hp=>⟨hp.1,hw.popped hp⟩);have mX:=ζ aaK;clear he aaK hw BM;cases L with
   |nil=>
    cases h1;have hTI:∀V fJ,aL w0 V p gp gh gr (.pointer q) ov fJ n es.length s (Df.stk T)->uw w0 p gp gh gr (.pointer q) n (r+1) es s' V k1:=fun V fJ h=>⟨s,T,ov,fJ,h2,b,fun L hL=>A4 L (aak _ hL),by simp at hlen;omega,h⟩
    have Fw:=ζ hTI;have tA:Hid (k1<0+k1+1):=show k1<0+k1+1 by omega
    unfold Df.hd at mX;clear hTI h2 b A4 hlen Lp;go_wp2_with (first|(go_at_call 62;refine HE.out.mono ?_;rintro e w2 ⟨rfl,rfl⟩)|(go_at_call 63;refine mX.out.mono ?_;rintro e w3 ⟨rfl,M5,h3⟩;have ZT:=ζ (Fw.out w3 M5 h3);clear h3));go_roundw
    case rel=>exact⟨_,ZT.out⟩
    case measure=>exact Ap.out _ _ ZT.out tA.out
   |cons h L=>
    obtain⟨hh,YZ,dY⟩:=(A4 _ aai).step;have hval:=cP.out.val hh;have Ss:∀X∈L::T,Df.Jl n es X:=fun X hX=>by
     rcases aaj.1 hX with rfl|hX
     .exact YZ
     .exact A4 X (aak _ hX)
    have hlen':T.length+1+s.left<=es.length+1:=by simpa using hlen
    unfold Df.hd at mX;have hne:(((h:Nat):Int)== -1)=false:=by simp only[beq_eq_false_iff_ne,ne_eq];omega
    have Fy:Hid (∀V fJ,aL w0 V p gp gh gr (.pointer q) ov fJ n es.length s (Df.stk T)->(∀U,Below V.heap.size V U->Calls prog 59 #[.pointer q,.int .i64 (h:Int)] U fun e U'=>e= .returned (.int .i64 (Df.hd L))/\Below U.heap.size U U')/\(∀U,Below V.heap.size V U->Calls prog 64 #[.pointer (some ⟨p,5,none⟩),.int .i64 (Df.hd L)] U fun e U'=>e= .returned (.tuple #[])/\(∃sv,aL w0 U' p gp gh gr (.pointer q) ov sv n es.length s (Df.stk (L::T)))/\U'.cell? ⟨p,0,none⟩=some (.pointer q))/\∀U,Below V.heap.size V U->U.cell? ⟨p,0,none⟩=some (.pointer q)):=fun V fJ hV=>by
     refine⟨fun U hU=> ?_,fun U hU=> ?_,fun U hU=>(hV.later hU).c0⟩
     .have:=EI _ n es h U (cP.out.later (hV.aZ.trans (hU.mono hV.aZ.size)))
      rw[dY] at this;exact this.mono (by rintro e U' ⟨rfl,k,rfl⟩;exact⟨rfl,below_drewN (aae _ _) k⟩)
     .have hU2:=hV.later hU
      refine(zK p 5 _ _ _ _ (Df.stk T) (Df.hd L) U hU2.stk hU2.aZ.size Lp).mono ?_;intro e U' hp;obtain⟨sv2,h2⟩:=hU2.pushed hp;rw[<-Df.zD] at h2;exact⟨hp.1,⟨sv2,h2⟩,h2.c0⟩
    have wC:=b.hr;have hL2:(Df.stk (L::T)).length<=17592186044000:=by rw[Df.JU];simp;omega
    have sI:Hid (∀V fJ,aL w0 V p gp gh gr (.pointer q) ov fJ n es.length s (Df.stk (L::T))->Calls prog 65 #[.pointer (some ⟨p,0,none⟩),.int .i64 (h:Int)] V fun e w'=>e= .returned (.bool (s.dir (h/2) != -1))/\w'=V):=fun V fJ hV=>JC h hV b.lo hh lZ
    have B4:Hid (∀a:Nat,a<j->a+k1+1<j+k1+1):=fun a ha=>by omega
    cases h1 with
    |old hw hr'=>
     rename_i kk
     have hb:(s.dir (h/2) != -1)=true:=by simpa using hw
     rw[hb] at sI;have Fw:Hid (∀V fJ,aL w0 V p gp gh gr (.pointer q) ov fJ n es.length s (Df.stk (L::T))->uw w0 p gp gh gr (.pointer q) n (r+1) es s' V (kk+k1+1)):=fun V fJ hV=>⟨s,L::T,ov,fJ,.cons hr' h2,b,Ss,hlen',hV⟩
     clear hw hr' h2 b A4 YZ Ss hlen hlen' dY hval wC Lp hL2 hb;go_wp2_with (first|(go_at_call 62;refine HE.out.mono ?_;rintro e w2 ⟨rfl,rfl⟩)|(go_at_call 63;refine mX.out.mono ?_;rintro e w3 ⟨rfl,M5,h3⟩;obtain⟨HA,HP,HC⟩:=Fy.out w3 M5 h3;have Ye:=ζ HA;have XQ:=ζ HP;have X8:=ζ HC;have hbd:Below w3.heap.size w3 w3.drew:=(aae _ _).drew;clear HA HP HC h3))
     go_region_held3 (fun V=>V.cell? ⟨p,0,none⟩=some (.pointer q))
      (first|exact X8.out _ (by first|assumption|exact hbd)|assumption)
      ((first
        |(go_at_call 59;refine(Ye.out _ (by first|assumption|exact hbd)).mono ?_;rintro e V1 ⟨rfl,td⟩;have hb1:Below w3.heap.size w3 V1:=aeh (by first|assumption|exact hbd) (td.mono (ad9 (by first|assumption|exact hbd))))
        |(go_at_call 64;refine(XQ.out _ (by first|assumption|exact hbd)).mono ?_;rintro e V2 ⟨rfl,hv2,hs2⟩)))
     obtain⟨JT,h4⟩:=hv2;have xJ:=ζ (sI.out V2 JT h4);have HT4:=ζ (Fw.out V2 JT h4);clear h4 hs2;go_wp2_with (go_at_call 65;refine xJ.out.mono ?_;rintro e w5 ⟨rfl,rfl⟩);go_roundw
     case rel=>exact⟨_,HT4.out⟩
     case measure=>exact Ap.out _ _ HT4.out (B4.out _ (by omega))
    |back hw hv' hr'=>
     rename_i kk
     have hb:(s.dir (h/2) != -1)=false:=by simpa using hw
     rw[hb] at sI;have hm:=Df.lY b hh hw;have Fw:Hid (∀V kJ fJ,aL w0 V p gp gh gr (.pointer q) kJ fJ n es.length (s.mark h) (Df.stk (L::T))->uw w0 p gp gh gr (.pointer q) n (r+1) es s' V (kk+k1+1)):=fun V kJ fJ hV=>⟨s.mark h,L::T,kJ,fJ,.cons hr' h2,b.mark hh hw,Ss,by simp;omega,hV⟩
     have Me:Hid (∀V fJ,aL w0 V p gp gh gr (.pointer q) ov fJ n es.length s (Df.stk (L::T))->Calls prog 66 #[.pointer (some ⟨p,0,none⟩),.int .i64 (h:Int)] V (Ai w0 p gp gh gr (.pointer q) n es (s.mark h) (Df.stk (L::T)))):=fun V fJ hV=>MF h cP.out hV b hh hv'
     clear hw hv' hr' h2 b A4 YZ Ss hlen hlen' dY hval wC Lp hL2 hb hm;go_wp2_with (first|(go_at_call 62;refine HE.out.mono ?_;rintro e w2 ⟨rfl,rfl⟩)|(go_at_call 63;refine mX.out.mono ?_;rintro e w3 ⟨rfl,M5,h3⟩;obtain⟨HA,HP,HC⟩:=Fy.out w3 M5 h3;have Ye:=ζ HA;have XQ:=ζ HP;have X8:=ζ HC;have hbd:Below w3.heap.size w3 w3.drew:=(aae _ _).drew;clear HA HP HC h3))
     go_region_held3 (fun V=>V.cell? ⟨p,0,none⟩=some (.pointer q))
      (first|exact X8.out _ (by first|assumption|exact hbd)|assumption)
      ((first
        |(go_at_call 59;refine(Ye.out _ (by first|assumption|exact hbd)).mono ?_;rintro e V1 ⟨rfl,td⟩;have hb1:Below w3.heap.size w3 V1:=aeh (by first|assumption|exact hbd) (td.mono (ad9 (by first|assumption|exact hbd))))
        |(go_at_call 64;refine(XQ.out _ (by first|assumption|exact hbd)).mono ?_;rintro e V2 ⟨rfl,hv2,hs2⟩)))
     obtain⟨JT,h4⟩:=hv2;have xJ:=ζ (sI.out V2 JT h4);have Xy:=ζ (Me.out V2 JT h4);clear h4 hs2;go_wp2_with (first|(go_at_call 65;refine xJ.out.mono ?_;rintro e w5 ⟨rfl,rfl⟩)|(go_at_call 66;refine Xy.out.mono ?_;rintro e w6 ⟨rfl,ov6,sv6,h6⟩;have XC:=ζ (Fw.out w6 ov6 sv6 h6);clear h6));go_roundw
     case rel=>exact⟨_,XC.out⟩
     case measure=>exact Ap.out _ _ XC.out (B4.out _ (by omega))
    |tree hw hv' hr1 hr2=>
     rename_i kj kk s2
     have hb:(s.dir (h/2) != -1)=false:=by simpa using hw
     rw[hb] at sI;have hm:=Df.lY b hh hw;have ht:=(Cs.bI hval hh).2;have hlg:(s.go es h).left=(s.mark h).left:=rfl;have Fw:Hid (∀V kJ fJ,aL w0 V p gp gh gr (.pointer q) kJ fJ n es.length (s.go es h) (Df.stk (L::T)++[Cs.fM n es (Cs.to es h)])->uw w0 p gp gh gr (.pointer q) n (r+1) es s' V (kj+(kk+k1+1)+1)):=fun V kJ fJ hV=>by
      rw[Df.GH ht,<-Df.zD] at hV;refine⟨s.go es h,Cs.out es (Cs.to es h) (2*es.length)::L::T,kJ,fJ,.cons hr1 (.cons hr2 h2),b.go hval hh hw,fun X hX=> ?_,by simp;omega,hV⟩;rcases aaj.1 hX with rfl|hX
      .exact Df.Jl.all ht
      .exact Ss X hX
     have Me:Hid (∀V fJ,aL w0 V p gp gh gr (.pointer q) ov fJ n es.length s (Df.stk (L::T))->Calls prog 66 #[.pointer (some ⟨p,0,none⟩),.int .i64 (h:Int)] V (Ai w0 p gp gh gr (.pointer q) n es (s.go es h) (Df.stk (L::T)++[Cs.fM n es (Cs.to es h)]))):=fun V fJ hV=>ME h cP.out hV b hh hv' (by omega) hL2
     clear hw hv' hr1 hr2 h2 b A4 YZ Ss hlen hlen' dY hval wC Lp hL2 hb hm ht hlg;go_wp2_with (first|(go_at_call 62;refine HE.out.mono ?_;rintro e w2 ⟨rfl,rfl⟩)|(go_at_call 63;refine mX.out.mono ?_;rintro e w3 ⟨rfl,M5,h3⟩;obtain⟨HA,HP,HC⟩:=Fy.out w3 M5 h3;have Ye:=ζ HA;have XQ:=ζ HP;have X8:=ζ HC;have hbd:Below w3.heap.size w3 w3.drew:=(aae _ _).drew;clear HA HP HC h3))
     go_region_held3 (fun V=>V.cell? ⟨p,0,none⟩=some (.pointer q))
      (first|exact X8.out _ (by first|assumption|exact hbd)|assumption)
      ((first
        |(go_at_call 59;refine(Ye.out _ (by first|assumption|exact hbd)).mono ?_;rintro e V1 ⟨rfl,td⟩;have hb1:Below w3.heap.size w3 V1:=aeh (by first|assumption|exact hbd) (td.mono (ad9 (by first|assumption|exact hbd))))
        |(go_at_call 64;refine(XQ.out _ (by first|assumption|exact hbd)).mono ?_;rintro e V2 ⟨rfl,hv2,hs2⟩)))
     obtain⟨JT,h4⟩:=hv2;have xJ:=ζ (sI.out V2 JT h4);have Xy:=ζ (Me.out V2 JT h4);clear h4 hs2;go_wp2_with (first|(go_at_call 65;refine xJ.out.mono ?_;rintro e w5 ⟨rfl,rfl⟩)|(go_at_call 66;refine Xy.out.mono ?_;rintro e w6 ⟨rfl,ov6,sv6,h6⟩;have XC:=ζ (Fw.out w6 ov6 sv6 h6);clear h6));go_roundw
     case rel=>exact⟨_,XC.out⟩
     case measure=>exact Ap.out _ _ XC.out (show kj+(kk+k1+1)+1<kj+kk+2+k1+1 by omega)
end
end
section
open Go.Proofs.Tryz
open Go.RowKit
def S5 (n:Int) (es:List (Int×Int)) (w:World) (e:Ending) (w':World):Prop:=
 ∃v1 v2 v3 v4 s z,e= .returned (.tuple #[.agg #[v1,v2,v3,v4],.int .i64 z])/\pQ w' w.heap.size v1 v2 v3 v4 s/\
  ((∃m:Nat,n=(m:Int)/\Si.Val n es/\Df.Wk m es m s/\z=0)\/(Si.valid n es=false/\s=⟨[],[],[],[]⟩/\z=1))/\Below w.heap.size w w'
theorem Aj.at {av:Value} {n m:Nat} {w w':World} {e:Ending} (hn:n<=8388608) (h:Aj av n m w e w'):∃p gp gh gr ov,e= .returned (.pointer (some ⟨p,0,none⟩))/\aL w w' p gp gh gr av ov (.slice none 0 0) n m (Df.St.start n m) []:=by
 obtain⟨p,gp,gh,go,gr,he,hb,h1,h2,h3,h4,⟨b1,b2,b3,b4,b5⟩,⟨d1,d2,d3,d4,d5,d6,d7,d8,d9,d10⟩,fW⟩:=h;refine⟨p,gp,gh,gr,.slice (some ⟨go,0,none⟩) 0 n,he,fW,hb,h1,h2,h3,h4.afB b4 (by simp) hn,.nil _ _,⟨b1,b2,b3,b5⟩,⟨d1,d2,d4,d5,d7,d9⟩,⟨?_,?_,?_,?_⟩,⟨by simp[Value.ownBlock],by simp[Value.ownBlock],by simp[Value.ownBlock],by simp[Value.ownBlock]⟩,fun b _=>by simp[Value.ownBlock]⟩
 .exact fun e=>d3 (aal e).symm
 .exact fun e=>d6 (aal e).symm
 .exact fun e=>d8 (aal e).symm
 .exact fun e=>d10 (aal e)
theorem aL.own {w0 w:World} {p gp gh gr:Nat} {av ov sv:Value} {n m:Nat} {s:Df.St} {K:List Int} (h:aL w0 w p gp gh gr av ov sv n m s K) (h1:s.par.length=n) (h2:s.ay.length=n) (h4:s.aT.length=m) (hn:n<=8388608) (hm:m<=8388608):
 pQ w w0.heap.size (.slice (some ⟨gp,0,none⟩) n n) (.slice (some ⟨gh,0,none⟩) n n) ov (.slice (some ⟨gr,0,none⟩) m m) s:=by
 refine⟨h.ip.own h.lo.2.1 h1 hn,h.ih.own h.lo.2.2.1 h2 hn,h.ow,h.ir.own h.lo.2.2.2 h4 hm,fun b hb e=> ?_,fun b hb e=> ?_,fun b hb e=> ?_,fun b hb e=> ?_,fun b hb e=> ?_,fun b hb e=> ?_⟩
 .exact h.ne.2.2.2.1 ((aal hb).trans (aal e).symm)
 .exact h.oO.2.1 (e.trans hb.symm)
 .exact h.ne.2.2.2.2.1 ((aal hb).trans (aal e).symm)
 .exact h.oO.2.2.1 (e.trans hb.symm)
 .exact h.ne.2.2.2.2.2 ((aal hb).trans (aal e).symm)
 .exact h.oO.2.2.2 (hb.trans e.symm)
theorem OQ (n:Int) (ao:Option Addr) (cap:Nat) (es:List (Int×Int)) (w:World) (he:aN w ao es) (hl:es.length<=4611686018427387904):
 Calls prog 32 #[cH n ao es.length cap] w (S5 n es w):=by
 obtain⟨W,hW⟩:∃W,W=(w.alloc (.cells #[.int .i64 n,.slice ao es.length cap] 24)).alloc (.cells #[.slice none 0 0,.slice none 0 0,.slice none 0 0,.slice none 0 0] 79):=⟨_,rfl⟩;have hB0:Below w.heap.size w W:=by rw[hW];exact((aae _ _).alloc (aad _) _).alloc (by simp) _
 have hsz:W.heap.size=w.heap.size+2:=by rw[hW];simp
 have g1:W.heap[w.heap.size]? =some (.cells #[.int .i64 n,.slice ao es.length cap] 24 (0,0)):=by
  rw[hW,ab2 _ _ _ (by simp)];exact heap_alloc_new w _
 have g2:W.heap[w.heap.size+1]? =some (.cells #[.slice none 0 0,.slice none 0 0,.slice none 0 0,.slice none 0 0] 79 (0,0)):=by
  rw[hW];exact alloc_at (by simp)
 have hnew:=qT n ao cap es W (he.later hB0) hl;unfold cH at hnew ⊢;have fo:=ζ hB0;have jG:=ζ g2;obtain⟨x0,x1,-⟩:=aj g1;have qg:=ζ hW;rw[hW] at x0 x1;cases hv:Si.valid n es with
 |false=>
  have ko:Hid (Calls prog 13 #[.agg #[.int .i64 n,.slice ao es.length cap]] W fun e w'=>e= .returned (.tuple #[.pointer none,.int .i64 1])/\Below W.heap.size W w'):=hnew.mono (by
   rintro e w' ⟨⟨m,q,rfl,hval,_⟩|⟨_,h⟩,hb⟩
   .rw[Si.bQ.2 hval] at hv;cases hv
   .exact⟨h,hb⟩)
  have HV:=ζ hv;clear hnew hB0 g1 g2 he hW hv;go_enter func32,ntmps32;go_wp2_with (go_at_call 13;rw[<-qg.out];refine ko.out.mono ?_;rintro e w1 ⟨rfl,hb1⟩;refine abQ ?_);refine ζ ?_;have hk2:=(hb1.block _ (by omega)).trans jG.out;have aY:=ζ (fo.out.trans (hb1.mono fo.out.size));obtain⟨r0,r1,r2,r3,-⟩:=ah (lU hk2 (.slice none 0 0) (.slice none 0 0) (.slice none 0 0) (.slice none 0 0));have R0:=ζ r0;have R1:=ζ r1;have R2:=ζ r2;have R3:=ζ r3;unfold jY at R0 R1 R2 R3;obtain⟨k0,k1,k2,k3,kf⟩:=ah hk2;have uD:=ζ (fO aY.out (R:=w.heap.size+1) (by omega) (.slice none 0 0) (.slice none 0 0) (.slice none 0 0) (.slice none 0 0));unfold jY at uD;clear hb1 hk2 r0 r1 r2 r3;go_wp2;refine bodyPost_ret (v:= .tuple #[.agg #[.slice none 0 0,.slice none 0 0,.slice none 0 0,.slice none 0 0],.int .i64 1]) (by simp[results,results32,go_sem,R0.out,R1.out,R2.out,R3.out]) rfl ?_;exact⟨_,_,_,_,_,_,rfl,pQ.empty _ _,.inr ⟨HV.out,rfl,rfl⟩,uD.out⟩
 |true=>
  obtain⟨m,rfl⟩:∃m:Nat,n=(m:Int):=⟨n.toNat,by have:=(Si.bQ.1 hv).lo;omega⟩;have hval:=Si.bQ.1 hv;have ko:Hid (Calls prog 13 #[.agg #[.int .i64 (m:Int),.slice ao es.length cap]] W fun e w'=>∃q,e= .returned (.tuple #[.pointer (some ⟨q,0,none⟩),.int .i64 0])/\nk w' W.heap.size q m es/\Below W.heap.size W w'):=hnew.mono (by
   rintro e w' ⟨⟨m',q,hm,_,h,ha⟩|⟨h,_⟩,hb⟩
   .obtain rfl:m=m':=by omega
    exact⟨q,h,ha,hb⟩
   .rw[hv] at h;cases h)
  have oJ:=ζ hval;clear hnew hB0 g1 g2 he hW hv hval;go_enter func32,ntmps32;go_wp2_with (go_at_call 13;rw[<-qg.out];refine ko.out.mono ?_;rintro e w1 ⟨q,rfl,aV,hb1⟩;refine abQ ?_);refine ζ ?_;have hk2:=(hb1.block _ (by omega)).trans jG.out;have aY:=ζ (fo.out.trans (hb1.mono fo.out.size));have hs1:=hb1.size;have kT:bK w1 (.pointer (some ⟨q,0,none⟩)) m es:= .inr ⟨_,q,rfl,oJ.out,aV⟩;have cP:=ζ kT;obtain⟨yD,lZ⟩:=kT.bounds;have HNW:=ζ (Dn _ m es w1 kT);have Jt:=ζ hk2;clear hb1 x0 x1 aV kT hk2;go_wp2_with (go_at_call 47;refine HNW.out.mono ?_;intro e w2 hnw;obtain⟨p,gp,gh,gr,ov,rfl,h2⟩:=hnw.at (by omega);have H2:=ζ h2;clear h2 hnw;refine abQ ?_);refine ζ ?_;have HN2:=ζ (mE _ m es w2 (cP.out.later H2.out.aZ));go_wp2_with (go_at_call 24;refine HN2.out.mono ?_;rintro e w3 ⟨rfl,rfl⟩);go_loopw [21] (fun c wr=>∃(i:Nat) (s:Df.St) (ov sv:Value),i<=m/\c= .int .i64 i/\Df.Wk m es i s/\aL w1 wr p gp gh gr (.pointer (some ⟨q,0,none⟩)) ov sv m es.length s []) (fun c _=>m-(intOf c).toNat)
  case atStart=>exact⟨0,_,_,_,ab6 _,rfl,.zero,H2.out⟩
  case round=>
   obtain⟨i,s,kJ,fJ,BG,rfl,hwk,hw⟩:=hrel;have hbd:=hwk.bd oJ.out BG;by_cases hlt:i<m
   .have kR:(i:Int)<(m:Int):=by omega
    have Su:=rD i hw hbd.lh hlt;by_cases hh:s.height i= -1
    .have hb:(s.height i != -1)=false:=by simpa using hh
     rw[hb] at Su;obtain⟨k,s2,hR,_⟩:=Df.total oJ.out (s.reach i (-1) 0).left (Cs.out es i (2*es.length)) (s.reach i (-1) 0) (aad _) (hbd.root hlt) Df.nK;have HWT:=ζ (E8 i k cP.out hw hbd hlt (by omega) hR);have tu:=ζ Su;have sI:Hid (Df.Wk m es (i+1) s2):= .walk hwk hh hR;clear Su hb hR hwk hw hbd hh;go_wp2_with (first|(go_at_call 48;refine tu.out.mono ?_;rintro e w4 ⟨rfl,rfl⟩)|(go_at_call 49;refine HWT.out.mono ?_;rintro e w5 ⟨rfl,ov5,sv5,h5⟩;have H5:=ζ h5;clear h5));go_roundw
     case rel=>exact⟨i+1,s2,ov5,sv5,by omega,by go_num,sI.out,H5.out⟩
     case measure=>simp[intOf];omega
    .have hb:(s.height i != -1)=true:=by simpa using hh
     rw[hb] at Su;have tu:=ζ Su;have sI:Hid (Df.Wk m es (i+1) s):= .pass hwk hh;have H5:=ζ hw;clear Su hb hwk hw hbd hh;go_wp2_with (first|(go_at_call 48;refine tu.out.mono ?_;rintro e w4 ⟨rfl,rfl⟩));go_roundw
     case rel=>exact⟨i+1,s,kJ,fJ,by omega,by go_num,sI.out,H5.out⟩
     case measure=>simp[intOf];omega
   .obtain rfl:i=m:=by omega
    have hd:¬((i:Int)<(i:Int)):=by omega
    have hown:=hw.own hbd.lp hbd.lh hbd.lo (by omega) (by omega);have c1:=hw.c1;have c2:=hw.c2;have c3:=hw.c3;have c4:=hw.c4;have hk3:=(hw.aZ.block (w.heap.size+1) (by omega)).trans Jt.out;obtain⟨k0,k1,k2,k3,kf⟩:=ah hk3;obtain⟨r0,r1,r2,r3,-⟩:=ah (lU hk3 (.slice (some ⟨gp,0,none⟩) i i) (.slice (some ⟨gh,0,none⟩) i i) kJ (.slice (some ⟨gr,0,none⟩) es.length es.length));have R0:=ζ r0;have R1:=ζ r1;have R2:=ζ r2;have R3:=ζ r3;unfold jY at R0 R1 R2 R3;have hoZ:pQ (jY wr (w.heap.size+1) (.slice (some ⟨gp,0,none⟩) i i) (.slice (some ⟨gh,0,none⟩) i i) kJ (.slice (some ⟨gr,0,none⟩) es.length es.length)) w1.heap.size (.slice (some ⟨gp,0,none⟩) i i) (.slice (some ⟨gh,0,none⟩) i i) kJ (.slice (some ⟨gr,0,none⟩) es.length es.length) s:=hown.same fun g hg _=>tK (by omega) _ _ _ _
    have hbZ:=fO (aY.out.trans (hw.aZ.mono aY.out.size)) (R:=w.heap.size+1) (by omega) (.slice (some ⟨gp,0,none⟩) i i) (.slice (some ⟨gh,0,none⟩) i i) kJ (.slice (some ⟨gr,0,none⟩) es.length es.length);have Z3:=ζ (hoZ.lower aY.out.size);have uD:=ζ hbZ;unfold jY at Z3 uD;obtain⟨ao3,WS,Oa,_,_⟩:=hw.ow.form;subst Oa;have sI:=ζ hwk;clear hwk hw hbd hown hk3 r0 r1 r2 r3 hoZ hbZ;go_wp2;refine bodyPost_ret (v:= .tuple #[.agg #[.slice (some ⟨gp,0,none⟩) i i,.slice (some ⟨gh,0,none⟩) i i,.slice ao3 s.ord.length WS,.slice (some ⟨gr,0,none⟩) es.length es.length],.int .i64 0]) (by simp[results,results32,go_sem,R0.out,R1.out,R2.out,R3.out]) rfl ?_;exact⟨_,_,_,_,_,_,rfl,Z3.out,.inl ⟨i,rfl,oJ.out,sI.out,rfl⟩,uD.out⟩
end
end Go.Proofs.YtbhdibflpjhpaaaGreat
