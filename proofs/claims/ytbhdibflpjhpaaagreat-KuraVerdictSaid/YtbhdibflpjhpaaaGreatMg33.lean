import Derived.Test.YtbhdibflpjhpaaaGreatMg29
import Derived.Test.YtbhdibflpjhpaaaGreatMg32
set_option maxHeartbeats 16000000
set_option maxRecDepth 100000
namespace Go.Proofs.YtbhdibflpjhpaaaGreat
section
namespace Lo
open Df
section
variable {n:Nat} {es:List (Int×Int)} {s:St}
theorem nZ (hv:Si.Val n es) (pZ:VF n es s):∀k,k<=es.length->∀(v:Nat) (L:List Int),(bY n es s k)[v]? =some L->∀x,x∈L↔∃b,b<k/\fr es s b=v/\x=at_ s.aT b
 |0,_,v,L,hL,x=>by
  unfold bY at hL;rw[acQ] at hL
  split at hL
  .cases hL
   simp
  .cases hL
 |k+1,hk,v,L,hL,x=>by
  have ih:=nZ hv pZ k (by omega);have hlt:fr es s k<(bY n es s k).length:=by rw[fu];exact(ct hv pZ (by omega)).1
  unfold bY at hL;rw[ab0] at hL;by_cases e:fr es s k=v
  .rw[if_pos e,if_pos hlt] at hL
   have hL':=aal hL;rw[<-hL',J7];have ag9:(bY n es s k)[fr es s k]? =some ((bY n es s k).getD (fr es s k) []):=by
    rw[aag,aac hlt];rfl
   rw[ih (fr es s k) _ ag9 x];constructor
   .rintro(h1|⟨b,h1,h2,h3⟩)
    .exact⟨k,by omega,e,h1⟩
    .exact⟨b,by omega,by rw[h2,e],h3⟩
   .rintro⟨b,h1,h2,h3⟩
    by_cases eb:b=k
    .exact .inl (by rw[h3,eb])
    .exact .inr ⟨b,by omega,by rw[h2,e],h3⟩
  .rw[if_neg e] at hL
   rw[ih v L hL x];constructor
   .rintro⟨b,h1,h2,h3⟩
    exact⟨b,by omega,h2,h3⟩
   .rintro⟨b,h1,h2,h3⟩
    refine⟨b,?_,h2,h3⟩;have:b≠k:=fun eb=>e (by rw[<-eb];exact h2)
    omega
def Jo (es:List (Int×Int)) (s:St) (x y:Int):Prop:=nest es s (x.toNat/2)<nest es s (y.toNat/2)\/(nest es s (x.toNat/2)=nest es s (y.toNat/2)/\x<y)
theorem fH (pZ:VF n es s) {b:Nat} (hb:b<es.length):(at_ s.aT b).toNat/2=b/\0<=at_ s.aT b/\at_ s.aT b<2*(es.length:Int):=by
 obtain⟨h1,h2,h3,h4⟩:=fQ pZ hb;rw[h1,ach];exact⟨h4,by omega,by omega⟩
theorem rF (hv:Si.Val n es) (pZ:VF n es s):∀k,k<=es.length->∀L∈bY n es s k,List.Pairwise (Jo es s) L
 |0,_,L,hL=>by
  unfold bY at hL;rw[List.mem_replicate] at hL;rw[hL.2];exact List.Pairwise.nil
 |k+1,hk,L,hL=>by
  have ih:=rF hv pZ k (by omega);unfold bY at hL;rcases afK hL with h1|h1
  .exact ih L h1
  .have hlt:fr es s k<(bY n es s k).length:=by rw[fu];exact(ct hv pZ (by omega)).1
   have hmem:(bY n es s k).getD (fr es s k) []∈bY n es s k:=by
    rw[aag,aac hlt];exact adi hlt
   have hp:=ih _ hmem;have hh:=(AO hv pZ k (by omega) _ hmem).1;obtain⟨M,hM⟩:∃M,(bY n es s k).getD (fr es s k) []=M:=⟨_,rfl⟩;rw[hM] at hp hh h1;rw[h1];obtain⟨p,hpd⟩:∃p,(fun x:Int=>decide (nest es s k<nest es s (x.toNat/2)))=p:=⟨_,rfl⟩;rw[hpd];have hpx:∀x,p x=true↔nest es s k<nest es s (x.toNat/2):=fun x=>by rw[<-hpd];simp
   have hfs:=yI p M;have kB:=hp;rw[<-hfs,acT] at kB;obtain⟨p1,p2,p3⟩:=kB;obtain⟨k1,k2,_⟩:=fH pZ (show k<es.length by omega);obtain⟨o1,o2,_,_⟩:=fQ pZ (show k<es.length by omega);have jJ:∀x∈M,x<at_ s.aT k:=fun x hx=>by
    obtain⟨b,hb,e⟩:=hh x hx;obtain⟨q1,q2,_,_⟩:=fQ pZ (show b<es.length by omega);rw[e,q1,o1];omega
   have agr:∀y∈snd p M,nest es s k<nest es s (y.toNat/2):=fun y hy=>by
    cases hs:snd p M with
    |nil=>rw[hs] at hy;simp at hy
    |cons z D=>
     have hz:=(hpx z).1 (JX p M z D hs);rw[hs] at hy p2;rcases aaj.1 hy with rfl|hy
     .exact hz
     .rcases(acE.1 p2).1 y hy with h|⟨h,_⟩
      .omega
      .omega
   unfold put;rw[acT];refine⟨p1,acE.2 ⟨fun y hy=> .inl (by rw[k1];exact agr y hy),p2⟩,fun x hx y hy=> ?_⟩;have o7:¬nest es s k<nest es s (x.toNat/2):=fun h=>by
    have:=(hpx x).2 h;rw[QD p M x hx] at this;cases this
   rcases aaj.1 hy with rfl|hy
   .have hxM:x∈M:=by rw[<-hfs];exact aci _ hx
    have hlt2:=jJ x hxM;by_cases heq:nest es s (x.toNat/2)=nest es s k
    .exact .inr ⟨by rw[k1];exact heq,hlt2⟩
    .exact .inl (by rw[k1];omega)
   .exact p3 x hx y hy
theorem KC {x:Int}:¬Jo es s x x:=by
 rintro(h|⟨_,h⟩)<;>omega
end
end Lo
end
section
namespace Lo
open Df
theorem qq {α:Type} {R:α->α->Prop} (Vu:∀x,¬R x x) (VR:∀x y,R x y->¬R y x):∀{X Y:List α},List.Pairwise R X->List.Pairwise R Y->(∀x,x∈X↔x∈Y)->X=Y
 |[],[],_,_,_=>rfl
 |[],y::Y,_,_,h=>by have:=(h y).2 aai;simp at this
 |x::X,[],_,_,h=>by have:=(h x).1 aai;simp at this
 |x::X,y::Y,hX,hY,h=>by
  obtain⟨hx1,hx2⟩:=acE.1 hX;obtain⟨hy1,hy2⟩:=acE.1 hY;have e:x=y:=by
   rcases aaj.1 ((h x).1 aai) with e|h1
   .exact e
   .rcases aaj.1 ((h y).2 aai) with e|h2
    .exact e.symm
    .exact absurd (hy1 x h1) (VR _ _ (hx1 y h2))
  subst e
  congr 1
  refine qq Vu VR hx2 hy2 fun z=>⟨fun hz=> ?_,fun hz=> ?_⟩
  .rcases aaj.1 ((h z).1 (aak _ hz)) with e|h1
   .subst e;exact absurd (hx1 z hz) (Vu z)
   .exact h1
  .rcases aaj.1 ((h z).2 (aak _ hz)) with e|h1
   .subst e;exact absurd (hy1 z hz) (Vu z)
   .exact h1
def tW (es:List (Int×Int)) (S:List Int) (v:Nat):List Int:=S.filter fun h=>decide (Cs.fr es h.toNat=v)
def yH (n:Nat) (es:List (Int×Int)) (S:List Int) (k:Nat):List (List Int):=(List.range n).map fun v=>tW es (S.take k) v
theorem qN (n:Nat) (es:List (Int×Int)) (S:List Int) (k:Nat):(yH n es S k).length=n:=by simp[yH]
theorem yG {n:Nat} {es:List (Int×Int)} {S:List Int} {k v:Nat} (h:v<n):(yH n es S k)[v]? =some (tW es (S.take k) v):=by simp[yH,h]
theorem SJ (n:Nat) (es:List (Int×Int)) (S:List Int):yH n es S 0=List.replicate n []:=by
 refine acO fun v=> ?_
 by_cases hv:v<n
 .rw[yG hv,acQ,if_pos hv]
  rfl
 .rw[abv (by rw[qN];omega),abv (by simp;omega)]
theorem SK {n:Nat} {es:List (Int×Int)} {S:List Int} {k:Nat} {h:Int} (hk:S[k]? =some h):yH n es S (k+1)=(yH n es S k).set (Cs.fr es h.toNat) (tW es (S.take k) (Cs.fr es h.toNat)++[h]):=by
 refine acO fun v=> ?_
 have e:S.take (k+1)=S.take k++[h]:=by rw[ade,hk];rfl
 by_cases hv:v<n
 .rw[yG hv,ab0,e]
  unfold tW;rw[aeV];by_cases hf:Cs.fr es h.toNat=v
  .rw[if_pos hf,if_pos (by rw[qN];omega),aep (by simpa using hf),afP,hf]
  .rw[if_neg hf,yG hv,ae3 (by simpa using hf),afP,acH]
   rfl
 .rw[abv (by rw[qN];omega),abv (by rw[acJ,qN];omega)]
theorem OI (es:List (Int×Int)) (S:List Int) (v:Nat):(tW es S v).length<=S.length:=List.length_filter_le _ _
section
variable {n:Nat} {es:List (Int×Int)} {s:St}
noncomputable def kM (es:List (Int×Int)) (s:St) (h:Int):Int:=nest es s (h.toNat/2)
theorem uZ (pZ:VF n es s) {b:Nat} (hb:b<es.length):s.aT[b]? =some (at_ s.aT b):=by
 have:=pZ.lens.2.2.2;unfold at_;rw[aag,aac (by omega)];rfl
theorem Iu (pZ:VF n es s) {b:Nat} (hb:b<es.length):(s.aT.map (kM es s))[b]? =some (nest es s b):=by
 rw[abU,uZ pZ hb];show some (kM es s (at_ s.aT b))=_;unfold kM;rw[(fH pZ hb).1]
theorem RU (hv:Si.Val n es) (h:VF n es s) {e:Nat} (he:e<es.length):0<=nest es s e/\nest es s e<=2*(n:Int):=by
 have:=Kn hv h he;unfold nest
 split<;>omega
theorem RT (hv:Si.Val n es) (h:VF n es s):Bu.fault (2*(n:Int)) (s.aT.map (kM es s))=0:=by
 have hn:=hv.hi;refine Bu.uj (by omega) ?_;rw[List.any_eq_false];intro x hx;obtain⟨b,hb⟩:=ac5 hx;have hl:=h.lens.2.2.2;have hbl:b<es.length:=by
  have:=(aaf.1 hb).1;rw[aco] at this;omega
 rw[Iu h hbl] at hb;obtain rfl:=aal hb;have:=RU hv h hbl;rw[Bu.QT (by omega)];decide
theorem AB (h:VF n es s) {S:List Int} (hS:Bu.Sorted (s.aT.map (kM es s)) s.aT S):∀x,x∈S↔∃b,b<es.length/\x=at_ s.aT b:=fun x=>by
 have hl:=h.lens.2.2.2;have hkl:(s.aT.map (kM es s)).length=es.length:=by rw[aco];exact hl
 constructor
 .intro hx
  obtain⟨k,hk⟩:=ac5 hx;have agQ:k<(s.aT.map (kM es s)).length:=by rw[<-hS.len];exact(aaf.1 hk).1
  obtain⟨i,hi,rfl⟩:=Bu.C3 _ agQ;rw[hS.put i hi,uZ h (by omega)] at hk;exact⟨i,by omega,(aal hk).symm⟩
 .rintro⟨b,hb,rfl⟩
  have:=hS.put b (by omega);rw[uZ h hb] at this;exact aah this
theorem Fa (h:VF n es s) {S:List Int} (hS:Bu.Sorted (s.aT.map (kM es s)) s.aT S):List.Pairwise (Jo es s) S:=by
 have hl:=h.lens.2.2.2;have hkl:(s.aT.map (kM es s)).length=es.length:=by rw[aco];exact hl
 refine acP.2 fun a b ha hb hab=> ?_
 obtain⟨i,hi,rfl⟩:=Bu.C3 (s.aT.map (kM es s)) (k:=a) (by rw[<-hS.len];exact ha);obtain⟨j,hj,rfl⟩:=Bu.C3 (s.aT.map (kM es s)) (k:=b) (by rw[<-hS.len];exact hb);have e1:=hS.put i hi;have e2:=hS.put j hj;rw[uZ h (by omega),aac ha] at e1;rw[uZ h (by omega),aac hb] at e2;rw[aal e1,aal e2];have hne:i≠j:=fun e=>by subst e;omega
 have IV:Bu.Ahead (s.aT.map (kM es s)) i j:=by
  rcases Bu.GQ (s.aT.map (kM es s)) hne with h1|h1
  .exact h1
  .have:=Bu.zG hj hi h1
   omega
 have k1:=Bu.EG (Iu h (b:=i) (by omega));have k2:=Bu.EG (Iu h (b:=j) (by omega));have o1:=fH h (b:=i) (by omega);have o2:=fH h (b:=j) (by omega);unfold Bu.Ahead at IV;rw[k1,k2] at IV;unfold Jo;rw[o1.1,o2.1];rcases IV with h1|⟨h1,h2⟩
 .exact .inl h1
 .exact .inr ⟨h1,by omega⟩
theorem Sc {x y:Int} (h:Jo es s x y):¬Jo es s y x:=by
 unfold Jo at h ⊢;omega
theorem Wx (hv:Si.Val n es) (h:VF n es s) {S:List Int} (hS:Bu.Sorted (s.aT.map (kM es s)) s.aT S):yH n es S S.length=bY n es s es.length:=by
 refine acO fun v=> ?_
 by_cases eM:v<n
 .rw[yG eM,adI]
  have hl:v<(bY n es s es.length).length:=by rw[fu];exact eM
  obtain⟨L,hL⟩:∃L,(bY n es s es.length)[v]? =some L:=⟨_,aac hl⟩;rw[hL]
  congr 1
  refine qq (R:=Jo es s) (fun x=>KC) (fun x y=>Sc) ((Fa h hS).filter _) (rF hv h _ (aad _) L (aah hL)) fun x=> ?_
  rw[nZ hv h _ (aad _) v L hL x];unfold tW;rw[acK,AB h hS,decide_eq_true_iff];constructor
  .rintro⟨⟨b,hb,rfl⟩,hf⟩
   exact⟨b,hb,hf,rfl⟩
  .rintro⟨b,hb,hf,rfl⟩
   exact⟨⟨b,hb,rfl⟩,hf⟩
 .rw[abv (by rw[qN];omega),abv (by rw[fu];omega)]
end
end Lo
end
section
open Go.Proofs.Tryz
open Go.RowKit
theorem Rx {V:World} {B n:Nat} (hB:B<=V.heap.size) (hn:n<=8388608):aU (V.alloc (.cells (madeCells #[.slice none 0 0] n) 27)) B (.slice (some ⟨V.heap.size,0,none⟩) n n) (List.replicate n (.slice none 0 0)) (List.replicate n []):=by
 have em:madeCells #[Value.slice none 0 0] n=Array.replicate n (Value.slice none 0 0):=by
  apply Array.ext
  .rw[size_madeCells];simp
  .intro i h1 h2
   simp[madeCells,Nat.mod_one]
 rw[em];refine⟨by simp,⟨by simp,.inr ⟨V.heap.size,n,Array.replicate n (Value.slice none 0 0),by simp,hB,heap_alloc_new V _,by simp,by unfold maxLen;omega,by simp,by simp⟩⟩,fun u x l hx hl=> ?_,fun u u' x x' b _ hx _ hb=> ?_,fun u x b hx hb=> ?_⟩
 .rw[acQ] at hx hl
  split at hx
  .rename_i hu
   rw[if_pos hu] at hl;cases hx;cases hl;exact aH.nil _ _
  .cases hx
 .rw[acQ] at hx
  split at hx
  .cases hx;cases hb
  .cases hx
 .rw[acQ] at hx
  split at hx
  .cases hx;cases hb
  .cases hx
section
variable {p:Nat} {av:Value} {n:Nat} {es:List (Int×Int)} {f:For} {s:Df.St}
theorem RQ (Bn g3 b:Nat) (h:Int) (A3:List Int) (w:World) (hb:Boxed w Bn 27 (.slice (some ⟨g3,0,none⟩) es.length es.length)) (hA:aF w g3 A3) (hl:A3.length=es.length) (hbl:b<es.length) (h0:0<=h) (h2:h.toNat/2=b) (hf:es.length<=4194304):
 Calls prog 87 #[.int .i64 h,.pointer (some ⟨Bn,0,none⟩)] w fun e w'=>e= .returned (.int .i64 (A3.getD b 0))/\Below w.heap.size w w':=by
 obtain⟨z,hz⟩:∃z,A3[b]? =some z:=⟨_,aac (by omega)⟩;have c1:=hA.cell hz;have c0:=hb.cell;have e:A3.getD b 0=z:=by rw[aag,hz];rfl
 rw[e];have DT:h.tdiv 2=(b:Int):=by rw[acG h0];omega
 have KS:h/2=(b:Int):=by omega
 have b0:(0:Int)<=(b:Int):=by omega
 have b1:(b:Int)<(es.length:Int):=by omega
 clear hA hb hz e;go_enter func87,ntmps87;go_wp2;go_ret;exact⟨rfl,aae _ _⟩
def S9 (n:Nat) (es:List (Int×Int)) (s:Df.St) (w:World) (e:Ending) (w':World):Prop:=
 ∃vo vs,e= .returned vo/\aU w' w.heap.size vo vs (Lo.bY n es s es.length)/\Below w.heap.size w w'
theorem RN (g3:Nat) (w:World) (hd:Wd w p av n es f s) (h3:aF w g3 (upTo (Lo.nest es s) es.length)):
 Calls prog 70 #[.pointer (some ⟨p,0,none⟩),.slice (some ⟨g3,0,none⟩) es.length es.length] w (S9 n es s w):=by
 have dH:=hd.val.few;have hn:=hd.val.hi;have hlo:=hd.vf.lens.2.2.2;obtain⟨i0,hi,hz0,hz1,hz2⟩:=info_parts Tryz.cM;obtain⟨i1,hi1,hy0,hy1,hy2⟩:=info_parts Tryz.KI;have hmo:∀W,(Instr.makeSlice 28 (.int .i64 (n:Int)) (.int .i64 (n:Int))).run prog W= .ok (.slice (some ⟨W.heap.size,0,none⟩) n n) (W.alloc (.cells (madeCells #[.slice none 0 0] n) 27)):=fun W=>by
  have:=run_make (P:=prog) W 28 27 i1 (.slice none 0 0) Tryz.underlying28 hi1 hy0 .i64 .i64 (n:Int) (n:Int) (by omega) (by omega) (by rw[hy2];omega) (by omega);rw[this,hy1];simp[Value.cells]
 obtain⟨W,hW⟩:∃W,W=w.alloc (.cells #[.slice (some ⟨g3,0,none⟩) es.length es.length] 27):=⟨_,rfl⟩;have dJ:Below w.heap.size w W:=by rw[hW];exact(aae _ _).alloc (aad _) _
 have bn:Boxed W w.heap.size 27 (.slice (some ⟨g3,0,none⟩) es.length es.length):=by rw[hW];exact aer _ _ _
 have Zf:=hd.later dJ;have c0:=Zf.c0;have c4:=Zf.c4;have Gu:=enters_of func87 (by kernel_rfl) rfl;have HN:Hid (∀V,Below w.heap.size w V->Calls prog 24 #[av] V fun e w'=>e= .returned (.int .i64 (n:Int))/\w'=V):=fun V hV=>mE av n es V (hd.later hV).Fv
 have A5:qW W f.a4 es.length f.c4 s.aT:=by have:=Zf.bT.l4;rwa[hlo] at this
 have HSO:=ζ (Ht 87 #[.pointer (some ⟨w.heap.size,0,none⟩)] (Lo.kM es s) (2*(n:Int)) f.a4 f.c4 es.length s.aT (s.aT.map (Lo.kM es s)) W (by omega) A5 rfl Gu (fun V x hV hx=>by
  obtain⟨b,hb⟩:=ac5 hx;have hbl:b<es.length:=by rw[<-hlo];exact(aaf.1 hb).1
  rw[Lo.uZ hd.vf hbl] at hb;obtain rfl:=aal hb;have ho:=Lo.fH hd.vf hbl;have:=RQ (es:=es) w.heap.size g3 b (Df.at_ s.aT b) (upTo (Lo.nest es s) es.length) V ((hV.block _ bn.lt).trans bn) (h3.later (dJ.trans (hV.mono dJ.size))) (gm _ _) hbl ho.2.1 ho.1 dH;have e:(upTo (Lo.nest es s) es.length).getD b 0=Lo.kM es s (Df.at_ s.aT b):=by
   rw[aag,iR hbl];unfold Lo.kM;rw[ho.1];rfl
  rw[e] at this;exact this))
 have abr:Hid (Calls prog 86 #[.slice f.a4 es.length f.c4,.func (.func 87) #[] #[.pointer (some ⟨w.heap.size,0,none⟩)],.int .i64 (2*(n:Int))] W fun e w'=>∃(gS:Nat) (S:List Int),e= .returned (.tuple #[.slice (some ⟨gS,0,none⟩) es.length es.length,.int .i64 0])/\W.heap.size<=gS/\af w' gS S/\Bu.Sorted (s.aT.map (Lo.kM es s)) s.aT S/\Below W.heap.size W w'):=HSO.out.mono fun e w' h=>by
  obtain⟨gD,hb2⟩:=h;obtain⟨-,gS,S,he,hgS,jx,V5⟩:=gD.resolve_left (fun h=>h.1 (Lo.RT hd.val hd.vf));rw[hlo] at he;exact⟨gS,S,he,hgS,jx,V5,hb2⟩
 have lA:Hid (∀V (i:Nat),Below w.heap.size w V->i<2*es.length->Calls prog 42 #[av,.int .i64 (i:Int)] V fun e w'=>e= .returned (.int .i64 (Cs.fr es i:Int))/\w'=V):=fun V i hV hi=>(j7 av n es (i:Int) V (hd.later hV).Fv).mono fun e w' ⟨he,hw⟩=>⟨by rw[he,Cs.jQ hi],hw⟩
 have HD:=ζ hd;have qg:=ζ hW;have fP:=ζ dJ;have hnw:(2:Int)*(n:Int)<=2097152:=by omega
 rw[hW] at c0;clear hW hd Zf h3 dJ bn A5 Gu;go_enter func70,ntmps70;go_wp2_with (first|(go_at_call 24;rw[<-qg.out];refine(HN.out _ fP.out).mono ?_;rintro e w1 ⟨rfl,rfl⟩)|(go_at_call 86;refine abr.out.mono ?_;rintro e w2 ⟨gS,S,rfl,hgS,jx,V5,hb2⟩;refine abQ ?_));refine ζ ?_;have hB2:Below w.heap.size w w2:=fP.out.trans (hb2.mono fP.out.size);have V9:S.length=es.length:=by rw[V5.len,aco];exact hlo
 have hlS:=jx.lt;have d0:=(HD.out.later hB2).c0;have HN2:=ζ (HN.out w2 hB2);have abq:=ζ V5;have cj:=ζ hB2;have HIS:=ζ jx;have hs2:=hB2.size;have aev:Hid (aU (w2.alloc (.cells (madeCells #[.slice none 0 0] n) 27)) w2.heap.size (.slice (some ⟨w2.heap.size,0,none⟩) n n) (List.replicate n (.slice none 0 0)) (Lo.yH n es S 0)):=by
  rw[Lo.SJ];exact Rx (aad _) (by omega)
 clear hb2 V5 jx hB2 c4 c0 HSO abr;go_wp2_with (go_at_call 24;refine HN2.out.mono ?_;rintro e w3 ⟨rfl,rfl⟩);clear d0 hmo;go_loopw [37] (fun i wr=>∃(k:Nat) (vs:List Value),k<=es.length/\i= .int .i64 (k:Int)/\aU wr w3.heap.size (.slice (some ⟨w3.heap.size,0,none⟩) n n) vs (Lo.yH n es S k)/\Below w3.heap.size w3 wr) (fun i _=>es.length-(intOf i).toNat)
 case atStart=>exact⟨0,_,ab6 _,rfl,aev.out,(aae _ _).alloc (aad _) _⟩
 case round=>
  obtain⟨k,vs,hk,rfl,hrows,hb⟩:=hrel;have hsz:=hb.size;have iQ:Below w.heap.size w wr:=cj.out.trans (hb.mono cj.out.size);by_cases hlt:k<es.length
  .obtain⟨h,hh⟩:∃h,S[k]? =some h:=⟨_,aac (by omega)⟩
   obtain⟨e,he,heq⟩:=(Lo.AB HD.out.vf abq.out h).1 (aah hh);obtain⟨ho1,-,BD,-⟩:=Lo.fQ HD.out.vf he;rw[ho1] at heq;subst heq;obtain⟨i,hie⟩:∃i,Lo.oh s e=i:=⟨_,rfl⟩;rw[hie] at hh BD;have cS:=(hb.cell (p:=⟨gS,k,none⟩) hlS).trans (HIS.out.cell hh);have eM:=(Cs.bI HD.out.val BD).1;have HF:=ζ (lA.out wr i iQ BD);have c0:=(HD.out.later iQ).c0;obtain⟨v,hv⟩:∃v,Cs.fr es i=v:=⟨_,rfl⟩;have HGS:Hid (Lo.yH n es S (k+1)=(Lo.yH n es S k).set v (Lo.tW es (S.take k) v++[(i:Int)])):=by
    show _=_;have:=Lo.SK (n:=n) (es:=es) hh;rw[ach,hv] at this;exact this
   rw[hv] at HF eM;have hl:=Lo.yG (es:=es) (S:=S) (k:=k) eM;have eO:=Lo.OI es (S.take k) v;have vT:(S.take k).length<=k:=by simp;omega
   obtain⟨l,hle⟩:∃l,Lo.tW es (S.take k) v=l:=⟨_,rfl⟩;rw[hle] at hl eO HGS;have BJ:=Lo.qN n es S k;obtain⟨x,hx⟩:=hrows.WZ hl;have Ve:=hrows.row v x l hx hl;obtain⟨xo,xc,o8,-,-⟩:=Ve.form;subst o8;have cx:wr.cell? ⟨w3.heap.size,v,none⟩=some (.slice xo l.length xc):=by
    have:=ac1 hrows.outer (g:=w3.heap.size) rfl v _ hx;have ea:((⟨w3.heap.size,0,none⟩:Addr).add v)=⟨w3.heap.size,v,none⟩:=by
     by_cases h0:v=0<;>simp[Addr.add,h0]
    rwa[ea] at this
   obtain⟨p1,kQ⟩:∃p1,l.length=p1:=⟨_,rfl⟩;unfold aH at Ve;rw[kQ] at Ve hx cx eO;have HOX:=ζ Ve;have HX:=ζ hx;have HL:=ζ hl;have HP1:=ζ kQ;have aes:=ζ hrows;have HB:=ζ hb;have HGL:=ζ BJ;have v0:(0:Int)<=(v:Int):=by omega
   have v1:(v:Int)<(n:Int):=by omega
   have k0:(0:Int)<=(k:Int):=by omega
   have k1:(k:Int)<(es.length:Int):=by omega
   clear Ve hx hl kQ hrows hb BJ hh hle hv hie ho1 iQ;go_wp2_with (first|(go_at_call 42;refine HF.out.mono ?_;rintro e w4 ⟨rfl,hw4⟩;obtain rfl:=hw4)|(at_builtin;refine wpList_append_own_at _ rfl _ _ 27 rfl w3.heap.size 3 i0 (.int .i64 0) 1 8 Tryz.underlying27 hi hz0 hz1 hz2 rfl (by decide) _ _ _ rfl (adD HOX.out _) ⟨w4.heap.size,0,none⟩ 1 1 [.int .i64 (i:Int)] rfl rfl (cell_one_new _ _ _) (by simp[Value.oneCell']) (by unfold maxLen;omega) (by omega) (by simp;omega) ?_;refine abQ ?_));refine ζ ?_;intro v4 w5 N9 Qv _ Lh;obtain⟨g4,c4,hv4⟩:=qx N9;subst hv4;have II:aH w5 w3.heap.size (.slice (some ⟨g4,0,none⟩) (p1+1) c4) (l++[(i:Int)]):=by
    unfold aH;rw[abZ,acS,HP1.out];exact N9
   have hrw:aU w4 w3.heap.size (.slice (some ⟨w3.heap.size,0,none⟩) (Lo.yH n es S k).length n) vs (Lo.yH n es S k):=by rw[HGL.out];exact aes.out
   obtain⟨j1,j2,j3,j4⟩:=hrw.put HX.out HL.out II Qv (by simpa using Lh);rw[HGL.out,<-HGS.out] at j3;have EX:=ζ j3;have HJ4:=ζ (HB.out.trans j4);clear N9 Qv Lh II j3 j4 hrw;go_wp2;go_roundw
   case rel=>exact⟨k+1,_,by omega,by go_num,EX.out,HJ4.out⟩
   case measure=>simp[intOf];omega
  .have hd:¬((k:Int)<(es.length:Int)):=by omega
   have KZ:k=S.length:=by omega
   subst KZ;have HR:Hid (aU wr w3.heap.size (.slice (some ⟨w3.heap.size,0,none⟩) n n) vs (Lo.bY n es s es.length)):=by
    rw[Lo.Wx HD.out.val HD.out.vf abq.out] at hrows;exact hrows
   have Mx:=ζ iQ;clear hrows hb iQ;go_wp2;go_ret;exact⟨_,vs,rfl,HR.out.lower hs2,Mx.out⟩
end
end
section
open Go.Proofs.Tryz
open Go.RowKit Go.Shelf
attribute [local go_sem] Oper.semAt_some
section
variable {p:Nat} {av:Value} {n:Nat} {es:List (Int×Int)} {f:For} {s:Df.St}
theorem RZ (w:World) (hd:Wd w p av n es f s):Calls prog 68 #[.pointer (some ⟨p,0,none⟩)] w (Ak es s w):=by
 have dH:=hd.val.few;obtain⟨W,hW⟩:∃W,W=(w.alloc (.cells #[.pointer (some ⟨p,0,none⟩)] 116)).alloc (.cells #[.slice none 0 0,.slice none 0 0,.slice none 0 0,.slice none 0 0] 102):=⟨_,rfl⟩;have dJ:Below w.heap.size w W:=by rw[hW];exact((aae _ _).alloc (aad _) _).alloc (by simp) _
 have abj:W.heap.size=w.heap.size+2:=by rw[hW];simp
 have bw:Boxed W w.heap.size 116 (.pointer (some ⟨p,0,none⟩)):=by rw[hW];exact(aer w _ _).alloc _
 have hres:W.heap[w.heap.size+1]? =some (.cells #[.slice none 0 0,.slice none 0 0,.slice none 0 0,.slice none 0 0] 102 (0,0)):=by rw[hW];exact alloc_at (by simp)
 have HM:Hid (∀V,Below W.heap.size W V->Calls prog 26 #[av] V fun e w'=>e= .returned (.int .i64 (es.length:Int))/\w'=V):=fun V hV=>yS av n es V (hd.later (dJ.trans (hV.mono dJ.size))).Fv
 have HS:Hid (∀V,Below W.heap.size W V->(V.cell? ⟨w.heap.size,0,none⟩=some (.pointer (some ⟨p,0,none⟩))/\V.cell? ⟨p,0,none⟩=some av/\Below W.heap.size W V)):=fun V hV=>
  ⟨aeZ ((hV.block _ bw.lt).trans bw),(hd.later (dJ.trans (hV.mono dJ.size))).c0,hV⟩
 obtain⟨i0,hi,hz0,hz1,hz2⟩:=info_parts Tryz.cM;have hmk:∀W,(Instr.makeSlice 27 (.int .i64 (es.length:Int)) (.int .i64 (es.length:Int))).run prog W= .ok (.slice (some ⟨W.heap.size,0,none⟩) es.length es.length) (W.alloc (.cells (madeCells #[.int .i64 0] es.length) 3)):=fun W=>by
  have:=run_make (P:=prog) W 27 3 i0 (.int .i64 0) Tryz.underlying27 hi hz0 .i64 .i64 (es.length:Int) (es.length:Int) (by omega) (by omega) (by rw[hz2];omega) (by omega);rw[this,hz1];simp[Value.cells]
 have qg:=ζ hW;have HD:=ζ hd;have hm1:(es.length:Int)<=4194304:=by omega
 clear hW hd;refine(callsIn_wide (n:=13)).1 ?_;refine callsIn_of_wp_marks func68 rfl trivial ?_ rfl;simp only[ntmps68,adO,abS,acY,Nat.reduceAdd,Nat.reduceSub,adB,adC,adP,adF,acs,acZ];refine wpIn_wide.2 ?_;go_wp2_with fail
 rename_i K hK
 rw[<-qg.out];have HK:=ζ hK;clear hK
 have HMK:Hid (∀V Lb g1 g2,Below W.heap.size W V->V.heap[Lb]? =some (.cells #[.slice (some ⟨g1,0,none⟩) es.length es.length,.slice (some ⟨g2,0,none⟩) es.length es.length,.slice none 0 0,.slice none 0 0] 102 (0,0))->af V g1 (List.replicate es.length 0)->af V g2 (List.replicate es.length 0)->
  w.heap.size+2<=Lb/\w.heap.size+2<=g1/\w.heap.size+2<=g2/\Lb≠g1/\Lb≠g2/\g1≠g2->Q0 w V p es.length w.heap.size (w.heap.size+1) Lb g1 g2):=fun V Lb g1 g2 hV h1 h2 h3 h4=>
  ⟨dJ.trans (hV.mono dJ.size),(hV.block _ bw.lt).trans bw,(hV.block _ (lt_of_block hres)).trans hres,h1,h2,h3,by omega,by omega⟩
 go_region_held3 (fun V=>V.cell? ⟨w.heap.size,0,none⟩=some (.pointer (some ⟨p,0,none⟩))/\V.cell? ⟨p,0,none⟩=some av/\Below W.heap.size W V)
  (exact HS.out _ (by repeat (first|exact aae _ _|refine xB ?_|refine xC ?_ _)))
  ((go_at_call 26;refine(HM.out _ (by repeat (first|exact aae _ _|refine xB ?_|refine xC ?_ _))).mono ?_;rintro e V1 ⟨rfl,rfl⟩))
 all_goals
  refine HK.out _ _ (NF w _ w.heap.size (w.heap.size+1) _ _ _ _ _ _ _ _ _ _ _ _ _ _ HD.out (HMK.out _ _ _ _ ?_ ?_ ?_ ?_ ?_))
  .repeat (first|exact aae _ _|refine xB ?_|refine xC ?_ _)
  .refine SS ?_
   repeat (first|(refine alloc_at ?_;first|omega|(simp only[acC];omega))|refine Om (by first|omega|(simp only[acC];omega)) ?_)
  .refine af.drew ?_
   repeat (first|(refine vq ?_;first|omega|(simp only[acC];omega))|refine af.alloc ?_ _)
  .refine af.drew ?_
   repeat (first|(refine vq ?_;first|omega|(simp only[acC];omega))|refine af.alloc ?_ _)
  .omega
end
end
section
open Go.Proofs.Tryz
open Go.RowKit
theorem setCell_at {w:World} {g i:Nat} {cs:Array Value} {t:TypeId} (h:w.heap[g]? =some (.cells cs t (0,0))) (v:Value):(w.setCell ⟨g,i,none⟩ v).heap[g]? =some (.cells (cs.setIfInBounds i v) t (0,0)):=by
 obtain⟨hlt,he⟩:=abR.1 h;simp[World.setCell,hlt];rw[Array.getElem_modify_self,he]
def Al (n:Int) (es:List (Int×Int)) (s:Df.St) (w:World) (r:Ending) (w':World):Prop:=
 ∃v1 v2 v3 vo vs A1 A2 A3 ls z B,r= .returned (.tuple #[.agg #[v1,v2,v3,vo],.int .i64 z])/\Xs n es s A1 A2 A3 ls z/\aH w' w.heap.size v1 A1/\aH w' w.heap.size v2 A2/\aH w' w.heap.size v3 A3/\aU w' B vo vs ls/\w.heap.size<=B/\
  (∀b,v1.ownBlock=some b->b<B/\v2.ownBlock≠some b/\v3.ownBlock≠some b)/\(∀b,v2.ownBlock=some b->b<B/\v3.ownBlock≠some b)/\(∀b,v3.ownBlock=some b->b<B)/\Below w.heap.size w w'
theorem Al.low {n:Int} {es:List (Int×Int)} {s:Df.St} {w w':World} {r:Ending} (h:Al n es s w r w'):Tc n es s w r w':=by
 obtain⟨v1,v2,v3,vo,vs,A1,A2,A3,ls,z,B,h1,h2,h3,h4,h5,h6,h7,-,-,-,h8⟩:=h;exact⟨v1,v2,v3,vo,vs,A1,A2,A3,ls,z,h1,h2,h3,h4,h5,h6.lower h7,h8⟩
theorem T8 (n:Int) (ao:Option Addr) (cap:Nat) (es:List (Int×Int)) (f:For) (s:Df.St) (w:World) (he:aN w ao es) (hl:es.length<=4611686018427387904) (hF:mV w f s):
 Calls prog 50 #[.agg #[.int .i64 n,.slice ao es.length cap],f.val s] w (Al n es s w):=by
 obtain⟨W,hW⟩:∃W,W=((w.alloc (.cells #[.int .i64 n,.slice ao es.length cap] 24)).alloc (.cells #[.slice f.a1 s.par.length f.c1,.slice f.a2 s.ay.length f.c2,.slice f.a3 s.ord.length f.c3,.slice f.a4 s.aT.length f.c4] 79)).alloc (.cells #[.slice none 0 0,.slice none 0 0,.slice none 0 0,.slice none 0 0] 102):=⟨_,rfl⟩;have hB0:Below w.heap.size w W:=by rw[hW];exact(((aae _ _).alloc (aad _) _).alloc (by simp) _).alloc (by simp;omega) _
 have hsz:W.heap.size=w.heap.size+3:=by rw[hW];simp
 have g1:W.heap[w.heap.size]? =some (.cells #[.int .i64 n,.slice ao es.length cap] 24 (0,0)):=by
  rw[hW,ab2 _ _ _ (by simp;omega),ab2 _ _ _ (by simp)];exact heap_alloc_new w _
 have g2:W.heap[w.heap.size+1]? =some (.cells #[.slice f.a1 s.par.length f.c1,.slice f.a2 s.ay.length f.c2,.slice f.a3 s.ord.length f.c3,.slice f.a4 s.aT.length f.c4] 79 (0,0)):=by
  rw[hW,ab2 _ _ _ (by simp)];exact alloc_at (by simp)
 have g3:W.heap[w.heap.size+2]? =some (.cells #[.slice none 0 0,.slice none 0 0,.slice none 0 0,.slice none 0 0] 102 (0,0)):=by
  rw[hW];exact alloc_at (by simp)
 have Mi:Hid (Calls prog 67 #[.agg #[.int .i64 n,.slice ao es.length cap],.agg #[.slice f.a1 s.par.length f.c1,.slice f.a2 s.ay.length f.c2,.slice f.a3 s.ord.length f.c3,.slice f.a4 s.aT.length f.c4]] W fun e w'=>∃q z,e= .returned (.tuple #[.pointer q,.int .i64 z])/\((Si.valid n es=false/\z=1)\/(Si.valid n es=true/\¬uA n es s/\z=80)\/∃(p m:Nat) (av:Value),n=(m:Int)/\q=some ⟨p,0,none⟩/\z=0/\Wd w' p av m es f s)/\Below W.heap.size W w'):=(Nh n ao cap es f s W (he.later hB0) hl (hF.later hB0)).mono fun e w' ⟨h,hb⟩=>by
  rcases h with ⟨h1,h2⟩|⟨h1,h2,h3⟩|⟨p,m,av,h1,h2,h3⟩
  .exact⟨_,_,h2,.inl ⟨h1,rfl⟩,hb⟩
  .exact⟨_,_,h3,.inr (.inl ⟨h1,h2,rfl⟩),hb⟩
  .exact⟨_,_,h2,.inr (.inr ⟨p,m,av,h1,rfl,rfl,h3⟩),hb⟩
 obtain⟨x0,x1,-⟩:=aj g1;obtain⟨k0,k1,k2,k3,-⟩:=ah g2;have Ms:=ζ g3;have fo:=ζ hB0;have qg:=ζ hW;rw[hW] at x0 x1 k0 k1 k2 k3;unfold For.val;clear hB0 g1 g2 g3 he hW hF;go_enter func50,ntmps50;go_wp2_with (go_at_call 67;rw[<-qg.out];refine Mi.out.mono ?_;rintro e w1 ⟨q,z,rfl,hq,hb1⟩;refine abQ ?_);refine ζ ?_;clear x0 x1 k0 k1 k2 k3;have hB1:Below w.heap.size w w1:=fo.out.trans (hb1.mono fo.out.size);have hs1:=hb1.size;have r1:=(hb1.block _ (lt_of_block Ms.out)).trans Ms.out;rcases hq with VK|VK|⟨p,m,av,hnm,rfl,rfl,hwd⟩
 .obtain⟨hno,rfl⟩:=VK
  obtain⟨u0,u1,u2,u3,u4⟩:=ah r1;have aY:=ζ hB1;have Pe:=ζ r1;have lg:=ζ hno;clear hB1 r1 hno;go_wp2;obtain⟨Y,hY⟩:∃Y,Y=jY w1 (w.heap.size+1+1) (.slice none 0 0) (.slice none 0 0) (.slice none 0 0) (.slice none 0 0):=⟨_,rfl⟩;have Fm:=lU (B:=w.heap.size+1+1) Pe.out (.slice none 0 0) (.slice none 0 0) (.slice none 0 0) (.slice none 0 0);rw[<-hY] at Fm;have Ou:Below w.heap.size w Y:=by rw[hY];exact fO aY.out (by omega) _ _ _ _
  obtain⟨v0,v1,v2,v3,-⟩:=ah Fm;unfold jY at hY;rw[<-hY];refine bodyPost_ret (v:= .tuple #[.agg #[.slice none 0 0,.slice none 0 0,.slice none 0 0,.slice none 0 0],.int .i64 1]) (by simp[results,results50,go_sem,v0,v1,v2,v3]) rfl ?_;exact⟨_,_,_,_,[],_,_,_,_,_,w.heap.size,rfl,.inl ⟨lg.out,rfl,rfl,rfl,rfl,rfl⟩,.nil _ _,.nil _ _,.nil _ _,.nil _ _,aad _,(fun b hb=>by cases hb),(fun b hb=>by cases hb),(fun b hb=>by cases hb),Ou⟩
 .obtain⟨aaP,hno,rfl⟩:=VK
  obtain⟨u0,u1,u2,u3,u4⟩:=ah r1;have aY:=ζ hB1;have Pe:=ζ r1;have lg:=ζ hno;have aiU:=ζ aaP;clear hB1 r1 hno aaP;go_wp2;obtain⟨Y,hY⟩:∃Y,Y=jY w1 (w.heap.size+1+1) (.slice none 0 0) (.slice none 0 0) (.slice none 0 0) (.slice none 0 0):=⟨_,rfl⟩;have Fm:=lU (B:=w.heap.size+1+1) Pe.out (.slice none 0 0) (.slice none 0 0) (.slice none 0 0) (.slice none 0 0);rw[<-hY] at Fm;have Ou:Below w.heap.size w Y:=by rw[hY];exact fO aY.out (by omega) _ _ _ _
  obtain⟨v0,v1,v2,v3,-⟩:=ah Fm;unfold jY at hY;rw[<-hY];refine bodyPost_ret (v:= .tuple #[.agg #[.slice none 0 0,.slice none 0 0,.slice none 0 0,.slice none 0 0],.int .i64 80]) (by simp[results,results50,go_sem,v0,v1,v2,v3]) rfl ?_;exact⟨_,_,_,_,[],_,_,_,_,_,w.heap.size,rfl,.inr (.inl ⟨aiU.out,lg.out,rfl,rfl,rfl,rfl,rfl⟩),.nil _ _,.nil _ _,.nil _ _,.nil _ _,aad _,(fun b hb=>by cases hb),(fun b hb=>by cases hb),(fun b hb=>by cases hb),Ou⟩
 .have HLW:=ζ (RZ w1 hwd)
  have Pe:=ζ r1;have O9:=ζ hwd;have aY:=ζ hB1;have dH:=hwd.val.few;have hnn:=hwd.val.hi;subst hnm;clear hwd hB1 r1 hb1;go_wp2_with (go_at_call 68;refine HLW.out.mono ?_;rintro e w2 ⟨g1,g2,rfl,i1,i2,l1,l2,hne,hb2⟩;refine abQ ?_);refine ζ ?_;have hs2:=hb2.size;have gl1:=i1.lt;have gl2:=i2.lt;obtain⟨w3,hw3⟩:∃w3,w3=w2.alloc (.cells #[.slice (some ⟨g1,0,none⟩) es.length es.length,.slice (some ⟨g2,0,none⟩) es.length es.length,.slice none 0 0,.slice none 0 0] 102):=⟨_,rfl⟩;have hb3:Below w2.heap.size w2 w3:=by rw[hw3];exact(aae _ _).alloc (aad _) _
  have hs3:w3.heap.size=w2.heap.size+1:=by rw[hw3];simp
  have lb3:w3.heap[w2.heap.size]? =some (.cells #[.slice (some ⟨g1,0,none⟩) es.length es.length,.slice (some ⟨g2,0,none⟩) es.length es.length,.slice none 0 0,.slice none 0 0] 102 (0,0)):=by rw[hw3];exact heap_alloc_new w2 _
  have Ww:Below w1.heap.size w1 w3:=hb2.trans (hb3.mono hb2.size);have HNS:=ζ (Nx g1 g2 w3 (O9.out.later Ww) (i1.later hb3).ins (i2.later hb3).ins);have qX:=ζ hw3;have My:=ζ Ww;have qZ:=ζ (i1.later hb3);have iM:=ζ (i2.later hb3);have abA:=ζ lb3;clear hw3 hb3 hb2 i1 i2 Ww lb3;go_wp2_with (go_at_call 69;rw[<-qX.out];refine HNS.out.mono ?_;rintro e w4 ⟨g3,rfl,i3,l3,hb4⟩;refine abQ ?_);refine ζ ?_;have Y0:=hb4.size;have gl3:=i3.lt;have lb4:=(hb4.block _ (lt_of_block abA.out)).trans abA.out;obtain⟨y0,y1,y2,y3,yf⟩:=ah lb4;obtain⟨w5,N0⟩:∃w5,w5=w4.setCell ⟨w2.heap.size,2,none⟩ (.slice (some ⟨g3,0,none⟩) es.length es.length):=⟨_,rfl⟩;have VO:∀b,b≠w2.heap.size->w5.heap[b]? =w4.heap[b]? :=fun b hb=>by rw[N0];exact heap_setCell_other w4 ⟨w2.heap.size,2,none⟩ b _ hb
  have hs5:w5.heap.size=w4.heap.size:=by rw[N0];simp
  have lb5:w5.heap[w2.heap.size]? =some (.cells #[.slice (some ⟨g1,0,none⟩) es.length es.length,.slice (some ⟨g2,0,none⟩) es.length es.length,.slice (some ⟨g3,0,none⟩) es.length es.length,.slice none 0 0] 102 (0,0)):=by
   rw[N0];have:=setCell_at (i:=2) lb4 (.slice (some ⟨g3,0,none⟩) es.length es.length);exact this
  have Wv:Below w1.heap.size w1 w5:=by rw[N0];exact(My.out.trans (hb4.mono My.out.size)).setCell (p:=⟨w2.heap.size,2,none⟩) (by show w1.heap.size<=w2.heap.size;omega) _
  have i35:af w5 g3 (upTo (Lo.nest es s) es.length):=(VO g3 (by omega)).trans i3;have ajn:Hid (af w5 g1 (upTo (Lo.low es s) es.length)):=(VO g1 (by omega)).trans (qZ.out.later hb4);have ajl:Hid (af w5 g2 (upTo (Lo.cK es s) es.length)):=(VO g2 (by omega)).trans (iM.out.later hb4);have HOS:=ζ (RN g3 w5 (O9.out.later Wv) i35.ins);have Xy:=ζ N0;have abK:=ζ Wv;have ajj:=ζ i35;have abz:=ζ lb5;have z2:w5.cell? ⟨w2.heap.size,2,none⟩=some (.slice (some ⟨g3,0,none⟩) es.length es.length):=(ah lb5).2.2.1;rw[N0] at z2;clear N0 hb4 i3 Wv i35 lb5 lb4 y0 y1 y3;go_wp2_with (go_at_call 70;rw[<-Xy.out];refine HOS.out.mono ?_;rintro e w6 ⟨vo,vs,rfl,hro,eC⟩;refine abQ ?_);refine ζ ?_;clear z2 y2 yf;have hs6:=eC.size;have lb6:=(eC.block _ (lt_of_block abz.out)).trans abz.out;obtain⟨y0,y1,y2,y3,yf⟩:=ah lb6;obtain⟨go,gc,hvo⟩:=gU hro;subst hvo;rw[Lo.fu];obtain⟨w7,Sq⟩:∃w7,w7=w6.setCell ⟨w2.heap.size,3,none⟩ (.slice go m gc):=⟨_,rfl⟩;have VN:∀b,b≠w2.heap.size->w7.heap[b]? =w6.heap[b]? :=fun b hb=>by rw[Sq];exact heap_setCell_other w6 ⟨w2.heap.size,3,none⟩ b _ hb
  have lb7:w7.heap[w2.heap.size]? =some (.cells #[.slice (some ⟨g1,0,none⟩) es.length es.length,.slice (some ⟨g2,0,none⟩) es.length es.length,.slice (some ⟨g3,0,none⟩) es.length es.length,.slice go m gc] 102 (0,0)):=by
   rw[Sq];exact setCell_at (i:=3) lb6 (.slice go m gc)
  have Wu:Below w1.heap.size w1 w7:=by rw[Sq];exact(abK.out.trans (eC.mono abK.out.size)).setCell (p:=⟨w2.heap.size,3,none⟩) (by show w1.heap.size<=w2.heap.size;omega) _
  have r7:=(Wu.block _ (lt_of_block Pe.out)).trans Pe.out;obtain⟨q0,q1,q2,q3,-⟩:=ah lb7;obtain⟨t0,t1,t2,t3,tf⟩:=ah r7;have Qw:∀b,b<w5.heap.size->b≠w2.heap.size->w7.heap[b]? =w5.heap[b]? :=fun b hb hne=>(VN b hne).trans (eC.block b hb)
  have ajm:Hid (af w7 g1 (upTo (Lo.low es s) es.length)):=(Qw g1 (by omega) (by omega)).trans ajn.out;have ajk:Hid (af w7 g2 (upTo (Lo.cK es s) es.length)):=(Qw g2 (by omega) (by omega)).trans ajl.out;have aji:Hid (af w7 g3 (upTo (Lo.nest es s) es.length)):=(Qw g3 (by omega) (by omega)).trans ajj.out;have aiI:Hid (aU w7 w5.heap.size (.slice go m gc) vs (Lo.bY m es s es.length)):=by
   rw[Lo.fu] at hro;exact hro.same fun g hg _=>VN g (by omega)
  have ajH:=ζ (aY.out.trans (Wu.mono aY.out.size));have HR7:=ζ r7;have HW7:=ζ Sq;rw[Sq] at q0 q1 q2 q3 t0 t1 t2 t3 tf;clear hro eC VN Qw Wu r7 lb7 lb6 Sq y0 y1 y2;go_wp2;rw[<-HW7.out];obtain⟨Y,hY⟩:∃Y,Y=jY w7 (w.heap.size+1+1) (.slice (some ⟨g1,0,none⟩) es.length es.length) (.slice (some ⟨g2,0,none⟩) es.length es.length) (.slice (some ⟨g3,0,none⟩) es.length es.length) (.slice go m gc):=⟨_,rfl⟩;have Fm:=lU (B:=w.heap.size+1+1) HR7.out (.slice (some ⟨g1,0,none⟩) es.length es.length) (.slice (some ⟨g2,0,none⟩) es.length es.length) (.slice (some ⟨g3,0,none⟩) es.length es.length) (.slice go m gc);rw[<-hY] at Fm;have Ou:Below w.heap.size w Y:=by rw[hY];exact fO ajH.out (by omega) _ _ _ _
  have Ll:∀b,b≠w.heap.size+1+1->Y.heap[b]? =w7.heap[b]? :=fun b hb=>by rw[hY];exact tK hb _ _ _ _
  obtain⟨v0,v1,v2,v3,-⟩:=ah Fm;unfold jY at hY;rw[<-hY];refine bodyPost_ret (v:= .tuple #[.agg #[.slice (some ⟨g1,0,none⟩) es.length es.length,.slice (some ⟨g2,0,none⟩) es.length es.length,.slice (some ⟨g3,0,none⟩) es.length es.length,.slice go m gc],.int .i64 0]) (by simp[results,results50,go_sem,v0,v1,v2,v3]) rfl ?_;have o1:af Y g1 (upTo (Lo.low es s) es.length):=(Ll g1 (by omega)).trans ajm.out;have o2:af Y g2 (upTo (Lo.cK es s) es.length):=(Ll g2 (by omega)).trans ajk.out;have o3:af Y g3 (upTo (Lo.nest es s) es.length):=(Ll g3 (by omega)).trans aji.out;refine⟨_,_,_,_,vs,_,_,_,_,_,w5.heap.size,rfl,.inr (.inr ⟨m,rfl,O9.out.val,O9.out.vf,rfl,rfl,rfl,rfl,rfl⟩),o1.own (by omega) (gm _ _) (by omega),o2.own (by omega) (gm _ _) (by omega),o3.own (by omega) (gm _ _) (by omega),aiI.out.same fun g hg _=>Ll g (by omega),by omega,fun b hb=> ?_,fun b hb=> ?_,fun b hb=> ?_,Ou⟩
  .have hb:g1=b:=aal hb
   exact⟨by omega,(fun e=>by have e:g2=b:=aal e;omega),(fun e=>by have e:g3=b:=aal e;omega)⟩
  .have hb:g2=b:=aal hb
   exact⟨by omega,(fun e=>by have e:g3=b:=aal e;omega)⟩
  .have hb:g3=b:=aal hb
   omega
end
end Go.Proofs.YtbhdibflpjhpaaaGreat
