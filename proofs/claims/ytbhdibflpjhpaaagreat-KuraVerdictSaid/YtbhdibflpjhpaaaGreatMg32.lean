import Derived.Test.YtbhdibflpjhpaaaGreatMg31
import Derived.Test.YtbhdibflpjhpaaaGreatMg27
set_option maxHeartbeats 16000000
set_option maxRecDepth 100000
namespace Go.Proofs.YtbhdibflpjhpaaaGreat
section
open Go.RowKit
theorem yV.af1 {n:Int} {es:List (Int×Int)} {f:For} {s:Df.St} {w w':World} {r:Option Addr} (h:yV n es f s w r w'):uA n es s:=by
 obtain⟨m,p,gp,gb,av,P,E,w0,h1,h2,h3,_⟩:=h;exact⟨m,h1,h2,h3⟩
theorem yV.aZ {n:Int} {es:List (Int×Int)} {f:For} {s:Df.St} {w w':World} {r:Option Addr} (h:yV n es f s w r w'):Below w.heap.size w w':=by
 obtain⟨m,p,gp,gb,av,P,E,w0,h1,h2,h3,h4,h5,h6,h7,h8⟩:=h;exact h8
theorem LJ (n:Int) (ao:Option Addr) (cap:Nat) (es:List (Int×Int)) (f:For) (s:Df.St) (w:World) (he:aN w ao es) (hl:es.length<=4611686018427387904) (hF:mV w f s):
 Calls Tryz.prog 82 #[cH n ao es.length cap,f.val s] w (ku (uA n es s) w):=by
 obtain⟨a1,a2,a3,a4,c1,c2,c3,c4⟩:=f;obtain⟨W,hW⟩:∃W,W=(w.alloc (.cells #[.int .i64 n,.slice ao es.length cap] 24)).alloc (.cells #[.slice a1 s.par.length c1,.slice a2 s.ay.length c2,.slice a3 s.ord.length c3,.slice a4 s.aT.length c4] 79):=⟨_,rfl⟩;have hB0:Below w.heap.size w W:=by rw[hW];exact((aae _ _).alloc (aad _) _).alloc (by simp) _
 have g1:W.heap[w.heap.size]? =some (.cells #[.int .i64 n,.slice ao es.length cap] 24 (0,0)):=by
  rw[hW,ab2 _ _ _ (by simp)];exact heap_alloc_new w _
 have g2:W.heap[w.heap.size+1]? =some (.cells #[.slice a1 s.par.length c1,.slice a2 s.ay.length c2,.slice a3 s.ord.length c3,.slice a4 s.aT.length c4] 79 (0,0)):=by
  rw[hW];exact alloc_at (by simp)
 have hrd:=RH n ao cap es ⟨a1,a2,a3,a4,c1,c2,c3,c4⟩ s W (he.later hB0) hl (hF.later hB0);unfold cH at hrd ⊢;unfold For.val at hrd ⊢;dsimp only at hrd ⊢;have Mi:=ζ hrd;have fo:=ζ hB0;obtain⟨x0,x1,-⟩:=aj g1;obtain⟨k0,k1,k2,k3,-⟩:=ah g2;have qg:=ζ hW;rw[hW] at x0 x1 k0 k1 k2 k3;clear hrd hB0 g1 g2 he hW hF;go_enter Tryz.func82,Tryz.ntmps82;go_wp2_with (go_at_call 98;rw[<-qg.out];refine Mi.out.mono ?_;rintro e w1 (⟨r,rfl,hs⟩|⟨r,rfl,hno,hb1⟩);rotate_left;have lg:=ζ hno;have aY:=ζ hb1;clear hno hb1;rotate_left;have HS:=ζ hs;clear hs)
 .go_ret
  exact⟨true,rfl,⟨fun _=>HS.out.af1,fun _=>rfl⟩,fo.out.trans (HS.out.aZ.mono fo.out.size)⟩
 .go_ret
  exact⟨false,rfl,⟨fun h=>(by cases h),fun h=>absurd h lg.out⟩,fo.out.trans (aY.out.mono fo.out.size)⟩

end
section
open Go.Proofs.Tryz
open Go.RowKit
def O5 (n:Int) (es:List (Int×Int)) (f:For) (s:Df.St) (w:World) (e:Ending) (w':World):Prop:=
 ((Si.valid n es=false/\e= .returned (.tuple #[.pointer none,.int .i64 1]))\/(Si.valid n es=true/\¬uA n es s/\e= .returned (.tuple #[.pointer none,.int .i64 80]))\/
   ∃(p m:Nat) (av:Value),n=(m:Int)/\e= .returned (.tuple #[.pointer (some ⟨p,0,none⟩),.int .i64 0])/\Wd w' p av m es f s)/\Below w.heap.size w w'
theorem Nh (n:Int) (ao:Option Addr) (cap:Nat) (es:List (Int×Int)) (f:For) (s:Df.St) (w:World) (he:aN w ao es) (hl:es.length<=4611686018427387904) (hF:mV w f s):
 Calls prog 67 #[cH n ao es.length cap,f.val s] w (O5 n es f s w):=by
 obtain⟨W,hW⟩:∃W,W=(w.alloc (.cells #[.int .i64 n,.slice ao es.length cap] 24)).alloc (.cells #[.slice f.a1 s.par.length f.c1,.slice f.a2 s.ay.length f.c2,.slice f.a3 s.ord.length f.c3,.slice f.a4 s.aT.length f.c4] 79):=⟨_,rfl⟩;have hB0:Below w.heap.size w W:=by rw[hW];exact((aae _ _).alloc (aad _) _).alloc (by simp) _
 have g1:W.heap[w.heap.size]? =some (.cells #[.int .i64 n,.slice ao es.length cap] 24 (0,0)):=by
  rw[hW,ab2 _ _ _ (by simp)];exact heap_alloc_new w _
 have g2:W.heap[w.heap.size+1]? =some (.cells #[.slice f.a1 s.par.length f.c1,.slice f.a2 s.ay.length f.c2,.slice f.a3 s.ord.length f.c3,.slice f.a4 s.aT.length f.c4] 79 (0,0)):=by
  rw[hW];exact alloc_at (by simp)
 have ko:Hid (Calls prog 13 #[.agg #[.int .i64 n,.slice ao es.length cap]] W fun e w'=>∃q z,e= .returned (.tuple #[.pointer q,.int .i64 z])/\((∃m p:Nat,n=(m:Int)/\Si.Val n es/\q=some ⟨p,0,none⟩/\z=0/\nk w' W.heap.size p m es)\/(Si.valid n es=false/\q=none/\z=1))/\Below W.heap.size W w'):=(qT n ao cap es W (he.later hB0) hl).mono fun e w' ⟨h,hb⟩=>by
  rcases h with ⟨m,p,h1,h2,h3,h4⟩|⟨h1,h2⟩
  .exact⟨_,_,h3,.inl ⟨m,p,h1,h2,rfl,rfl,h4⟩,hb⟩
  .exact⟨_,_,h2,.inr ⟨h1,rfl,rfl⟩,hb⟩
 have oJ:Hid (∀V,Below w.heap.size w V->Calls prog 82 #[.agg #[.int .i64 n,.slice ao es.length cap],.agg #[.slice f.a1 s.par.length f.c1,.slice f.a2 s.ay.length f.c2,.slice f.a3 s.ord.length f.c3,.slice f.a4 s.aT.length f.c4]] V (ku (uA n es s) V)):=fun V hV=>LJ n ao cap es f s V (he.later hV) hl (hF.later hV)
 have HF:Hid (∀V,Below w.heap.size w V->mV V f s):=fun V hV=>hF.later hV
 obtain⟨x0,x1,-⟩:=aj g1;have mY:=ζ g1;have jG:=ζ g2;have fo:=ζ hB0;have qg:=ζ hW;rw[hW] at x0 x1;unfold cH For.val;clear hB0 g1 g2 he hW hF;go_enter func67,ntmps67;go_wp2_with (go_at_call 13;rw[<-qg.out];refine ko.out.mono ?_;rintro e w1 ⟨q,z,rfl,hq,hb1⟩;refine abQ ?_);refine ζ ?_;have hB1:Below w.heap.size w w1:=fo.out.trans (hb1.mono fo.out.size);clear x0 x1;rcases hq with ⟨m,pa,hnm,hval,rfl,rfl,aV⟩|⟨hno,rfl,rfl⟩
 .have hg1:=(hb1.block _ (lt_of_block mY.out)).trans mY.out
  have hg2:=(hb1.block _ (lt_of_block jG.out)).trans jG.out;obtain⟨x0,x1,-⟩:=aj hg1;obtain⟨k0,k1,k2,k3,-⟩:=ah hg2;have abG:=ζ hg2;have cP:=ζ aV;have Q3:=ζ hval;have aY:=ζ hB1;have HV1:=ζ (oJ.out w1 hB1);have Z5:=ζ hnm;clear hg1 hg2 aV hval hB1 hb1 hnm;go_wp2_with (go_at_call 82;refine HV1.out.mono ?_;rintro e w2 ⟨b,rfl,xg,hb2⟩;refine abQ ?_);refine ζ ?_;have hB2:Below w.heap.size w w2:=aY.out.trans (hb2.mono aY.out.size);cases b with
  |false=>
   have lg:Hid (¬uA n es s):=fun h=>by have:=xg.2 h;cases this
   have cj:=ζ hB2;clear xg hB2 x0 x1 k0 k1 k2 k3;go_wp2;go_ret2;exact⟨.inr (.inl ⟨Si.bQ.2 Q3.out,lg.out,rfl⟩),cj.out⟩
  |true=>
   have hyes:=xg.1 rfl;obtain⟨k0,k1,k2,k3,-⟩:=ah ((hb2.block _ (lt_of_block abG.out)).trans abG.out);have cj:=ζ hB2;have Xt:=ζ hyes;have afl:Hid (bK w2 (.pointer (some ⟨pa,0,none⟩)) m es):=bK.later (.inr ⟨_,pa,rfl,by have:=Q3.out;rw[Z5.out] at this;exact this,cP.out⟩) hb2;clear xg hyes hB2 hb2 x0 x1;go_wp2;go_ret2;obtain⟨m',hm',hv',IB⟩:=Xt.out;have hmm:m'=m:=by have:=Z5.out;omega
   subst hmm;have l:=IB.lens;have yE:Below w2.heap.size w2 (w2.alloc (.cells #[.pointer (some ⟨pa,0,none⟩),.slice f.a1 s.par.length f.c1,.slice f.a2 s.ay.length f.c2,.slice f.a3 s.ord.length f.c3,.slice f.a4 s.aT.length f.c4] 142)):=(aae _ _).alloc (aad _) _;refine⟨.inr (.inr ⟨w2.heap.size,m',.pointer (some ⟨pa,0,none⟩),hm',rfl,?_,afl.out.later yE,hv',HF.out _ (cj.out.trans (yE.mono cj.out.size)),IB⟩),cj.out.trans (yE.mono cj.out.size)⟩;rw[l.1,l.2.1,l.2.2.1,l.2.2.2];exact heap_alloc_new w2 _
 .have aY:=ζ hB1
  have lg:=ζ hno;clear hb1 hB1 hno;go_wp2;go_ret2;exact⟨.inl ⟨lg.out,rfl⟩,aY.out⟩
end
section
open Go.RowKit
def Bu.Max (l:List Int) (k:Nat) (m:Int):Prop:=(∃j,j<k/\l[j]? =some m)/\∀(j:Nat) (z:Int),j<k->l[j]? =some z->z<=m
theorem Bu.Max.more {l:List Int} {k:Nat} {m y:Int} (h:Bu.Max l k m) (hy:l[k]? =some y):Bu.Max l (k+1) (if y>m then y else m):=by
 obtain⟨⟨j,hj,e⟩,h2⟩:=h;by_cases c:y>m
 .rw[if_pos c]
  refine⟨⟨k,by omega,hy⟩,fun i z hi hz=> ?_⟩;by_cases hk:i=k
  .subst hk;rw[hy] at hz;cases hz;exact adA _
  .have:=h2 i z (by omega) hz;omega
 .rw[if_neg c]
  refine⟨⟨j,by omega,e⟩,fun i z hi hz=> ?_⟩;by_cases hk:i=k
  .subst hk;rw[hy] at hz;cases hz;omega
  .exact h2 i z (by omega) hz
theorem Uv (ao:Option Addr) (ca n:Nat) (l:List Int) (w:World) (hn:l.length=n) (h0:0<n) (hl:n<=17592186043904) (ha:bV w ao l):
 Calls Tryz.prog 127 #[.slice ao n ca] w fun e w'=>∃m,e= .returned (.int .i64 m)/\Bu.Max l n m/\w'=w:=by
 obtain⟨x,hx⟩:∃x,l[0]? =some x:=⟨_,aac (by omega)⟩;obtain⟨b,o,rfl,c0⟩:=ha 0 x hx;have HA:=ζ ha;have HN:=ζ hn;have HX:=ζ hx;have i0:(0:Int)<(n:Int):=by omega
 have i1:¬((n:Int)<1):=by omega
 rw[ado] at c0;clear ha hn hx;go_enter Tryz.func127,Tryz.ntmps127;go_wp2;go_loopw [3,4] (fun mv c wr=>∃(k:Nat) (m:Int),0<k/\k<=n/\c= .int .i64 k/\mv= .int .i64 m/\Bu.Max l k m/\wr=w) (fun _ c _=>n-(intOf c).toNat)
 case atStart=>exact⟨1,x,by omega,by omega,rfl,rfl,⟨⟨0,by omega,HX.out⟩,fun j z hj hz=>by
  obtain rfl:j=0:=by omega
  rw[HX.out] at hz;cases hz;exact adA _⟩,rfl⟩
 case round=>
  obtain⟨k,m,hk0,hk,rfl,rfl,hm,rfl⟩:=hrel;have HM:=ζ hm;clear hm;by_cases hlt:k<n
  .have kR:(k:Int)<(n:Int):=by omega
   have hki:(0:Int)<=(k:Int):=by omega
   obtain⟨y,hy⟩:∃y,l[k]? =some y:=⟨_,aac (by have:=HN.out;omega)⟩;obtain⟨b',o',e',ck⟩:=HA.out k y hy;cases e';have HY:=ζ hy;clear hy;obtain⟨q,hq⟩:∃q,q=(if y>m then y else m):=⟨_,rfl⟩;have HQ:=ζ (HM.out.more HY.out);rw[<-hq] at HQ;go_wp2
   first|rw[<-hq]|rw[show max m y=q by rw[hq];split<;>omega]
   go_roundw
   case rel=>exact⟨k+1,q,by omega,by omega,by go_num,rfl,HQ.out,trivial⟩
   case measure=>simp[intOf];omega
  .have hd:¬((k:Int)<(n:Int)):=by omega
   obtain rfl:k=n:=by omega
   go_wp2;go_ret;exact⟨m,rfl,HM.out,rfl⟩
end
section
open Go.Proofs.Tryz
open Go.RowKit
structure Bu.Jz (ks:List Int) (i K:Nat) (C:List Int):Prop where
 len:C.length=K
 put:∀k,k<K->C[k]? =some ((ks.take i).count (k:Int):Int)
theorem Bu.Jz.start (ks:List Int) (K:Nat):Bu.Jz ks 0 K (List.replicate K 0):=⟨by simp,fun k hk=>by simp[hk]⟩
theorem Bu.Jz.step {ks:List Int} {i K k:Nat} {C:List Int} (h:Bu.Jz ks i K C) (hi:ks[i]? =some (k:Int)) (hk:k<K):Bu.Jz ks (i+1) K (C.set k (((ks.take i).count (k:Int):Int)+1)):=by
 refine⟨by rw[acJ];exact h.len,fun j hj=> ?_⟩;rw[ab0,Bu.jz hi];by_cases e:k=j
 .subst e
  rw[if_pos rfl,if_pos (by rw[h.len];exact hk),if_pos rfl];simp
 .rw[if_neg e,if_neg (by omega),h.put j hj]
  simp
def Yh (m0:Int) (ks:List Int) (w:World) (e:Ending) (w':World):Prop:=
 (ks=[]/\e= .returned (.slice none 0 0)/\w'=w)\/
 ∃(g K:Nat) (C:List Int),0<ks.length/\e= .returned (.slice (some ⟨g,0,none⟩) K K)/\w.heap.size<=g/\g<w'.heap.size/\aF w' g C/\Bu.Jz ks ks.length K C/\(K:Int)<=m0+1/\(∀z∈ks,z<(K:Int))/\Below w.heap.size w w'
theorem LM (ao:Option Addr) (ca n:Nat) (ks:List Int) (w:World) (hn:ks.length=n) (hl:n<=17592186043904) (ha:bV w ao ks) (m0:Int) (hm0:m0<=4194304) (hin:Bu.In m0 ks):
 Calls prog 120 #[.slice ao n ca] w (Yh m0 ks w):=by
 by_cases h0:n=0
 .subst h0
  go_enter func120,ntmps120;go_wp2;go_ret;exact .inl ⟨ac0.1 hn,rfl,rfl⟩
 obtain⟨i0,hi,hz0,hz1,hz2⟩:=info_parts Tryz.cM;have HM:=ζ (Uv ao ca n ks w hn (by omega) hl ha);have HA:=ζ ha;have HN:=ζ hn;have qY:=ζ hin;have j0:((n:Int)==0)=false:=by simp;omega
 clear ha hn hin;go_enter func120,ntmps120;go_wp2_with (go_at_call 127;refine HM.out.mono ?_;rintro e w1 ⟨m,rfl,hm,hw1⟩;obtain rfl:=hw1.symm;have HMX:=ζ hm;clear hm;refine abQ ?_);refine ζ ?_;have hmb:0<=m/\m<=m0:=by
  obtain⟨⟨j,hj,e⟩,-⟩:=HMX.out;exact qY.out m (aah e)
 obtain⟨M,rfl⟩:∃M:Nat,m=(M:Int):=⟨m.toNat,by omega⟩;have nC:Hid (∀z∈ks,z<((M+1:Nat):Int)):=fun z hz=>by
  obtain⟨j,hj,rfl⟩:=adk hz;have:=HMX.out.2 j _ (by have:=HN.out;omega) (aac hj);omega
 clear HM;go_wp2_with (at_make;refine wpList_make_full _ rfl _ _ 27 rfl w.heap.size 3 i0 (.int .i64 0) 1 Tryz.underlying27 hi hz0 hz1 _ _ _ _ (M+1) rfl rfl rfl rfl (by rw[hz2];omega) (by unfold maxLen;omega) (aad _) ?_;refine abQ ?_);refine ζ ?_;intro w2 hrow hg2;rw[dD] at hrow;have hik:=(eu hrow).ins;have hb2:Below w.heap.size w w2:=(aae _ _).grown hg2 (aad _) (fun j hj=>by cases hj);have iM:=ζ hik;have cj:=ζ hb2;clear hrow hg2 hik hb2;obtain⟨K,hK⟩:∃K,M+1=K:=⟨_,rfl⟩;rw[hK] at iM nC ⊢;have Jt:Hid ((K:Int)<=m0+1):=by show _<=_;omega
 have hK2:K<=4194305:=by omega
 clear hK hmb;go_wp2;go_loopw [15] (fun c wr=>∃(i:Nat) (C:List Int),i<=n/\c= .int .i64 i/\Bu.Jz ks i K C/\aF wr w.heap.size C/\Below w.heap.size w wr) (fun c _=>n-(intOf c).toNat)
 case atStart=>exact⟨0,_,ab6 _,rfl,Bu.Jz.start ks K,iM.out,cj.out⟩
 case round=>
  obtain⟨i,C,hin,rfl,hC,Fj,hb⟩:=hrel;have hsz:=Fj.lt;have HC:=ζ hC;have HIC:=ζ Fj;have HB:=ζ hb;by_cases hlt:i<n
  .have hk0:(0:Int)<=(i:Int):=by omega
   have hk1:(i:Int)<(n:Int):=by omega
   obtain⟨x,hx⟩:∃x,ks[i]? =some x:=⟨_,aac (by have:=HN.out;omega)⟩;have hx0:=qY.out x (aah hx);have hx1:=nC.out x (aah hx);obtain⟨k,rfl⟩:∃k:Nat,x=(k:Int):=⟨x.toNat,by omega⟩;have Y8:k<K:=by omega
   obtain⟨b,o,rfl,c0⟩:=(HA.out.later HB.out) i _ hx;have qK:=hC.put k Y8;have hcl:((ks.take i).count (k:Int))<=i:=acA afm (by simp;omega);have kZ:=ζ (hC.step hx Y8);obtain⟨q,hq⟩:∃q,(ks.take i).count (k:Int)=q:=⟨_,rfl⟩;rw[hq] at qK hcl kZ;have ET:=ζ (Fj.set (i:=k) (by rw[hC.len];exact Y8) ((q:Int)+1));have Mw:=ζ (hb.setCell (p:=⟨w.heap.size,k,none⟩) (aad _) (.int .i64 ((q:Int)+1)));have c1:=Fj.cell qK;have f1:=Fj.free k;have k0:(0:Int)<=(k:Int):=by omega
   have k1:(k:Int)<(K:Int):=by omega
   clear hC Fj hb hx qK hq;go_wp2;go_roundw
   case rel=>exact⟨i+1,_,by omega,by go_num,kZ.out,ET.out,Mw.out⟩
   case measure=>simp[intOf];omega
  .have hd:¬((i:Int)<(n:Int)):=by omega
   obtain rfl:i=n:=by omega
   clear hC Fj hb;go_wp2;go_ret;exact .inr ⟨w.heap.size,K,C,by have:=HN.out;omega,rfl,aad _,hsz,HIC.out,by rw[HN.out];exact HC.out,Jt.out,nC.out,HB.out⟩
end
section
open Go.Proofs.Tryz
open Go.RowKit
structure Bu.Mz (ks:List Int) (i K:Nat) (F:List Int):Prop where
 len:F.length=K
 put:∀k,k<K->F[k]? =some ((Bu.less ks (k:Int)+(ks.take i).count (k:Int):Nat):Int)
theorem Bu.Mz.step {ks:List Int} {i K k:Nat} {F:List Int} (h:Bu.Mz ks i K F) (hi:ks[i]? =some (k:Int)) (hk:k<K):Bu.Mz ks (i+1) K (F.set k ((Bu.rk ks i:Int)+1)):=by
 refine⟨by rw[acJ];exact h.len,fun j hj=> ?_⟩;rw[ab0,Bu.jz hi,Bu.zF hi];by_cases e:k=j
 .subst e
  rw[if_pos rfl,if_pos (by rw[h.len];exact hk),if_pos rfl]
  congr 1
 .rw[if_neg e,if_neg (by omega),h.put j hj]
  congr 1
structure Bu.Half (ks:List Int) (k K:Nat) (F:List Int):Prop where
 len:F.length=K
 lo:∀j,j<k->F[j]? =some (Bu.less ks (j:Int):Int)
 hi:∀j,k<=j->j<K->F[j]? =some (ks.count (j:Int):Int)
theorem Bu.Half.step {ks:List Int} {k K:Nat} {F:List Int} (h:Bu.Half ks k K F) (hk:k<K):Bu.Half ks (k+1) K (F.set k (Bu.less ks (k:Int):Int)):=by
 refine⟨by rw[acJ];exact h.len,fun j hj=> ?_,fun j hj hjK=> ?_⟩
 .rw[ab0]
  by_cases e:k=j
  .subst e;rw[if_pos rfl,if_pos (by rw[h.len];exact hk)]
  .rw[if_neg e,h.lo j (by omega)]
 .rw[ab0,if_neg (by omega),h.hi j (by omega) hjK]
def ZJ (ks:List Int) (w:World) (e:Ending) (w':World):Prop:=
 ∃g:Nat,e= .returned (.slice (some ⟨g,0,none⟩) ks.length ks.length)/\w.heap.size<=g/\af w' g (Bu.rE ks)/\Below w.heap.size w w'
theorem af.other {w:World} {g:Nat} {l:List Int} (h:af w g l) {b i:Nat} (hb:g≠b) (x:Value):af (w.setCell ⟨b,i,none⟩ x) g l:=(heap_setCell_other w ⟨b,i,none⟩ g x hb).trans h
theorem tD {α:Type} {l R:List α} {i:Nat} {x:α} (hl:R.length=l.length) (h:∀j,j<i->R[j]? =l[j]?) (hx:l[i]? =some x):∀j,j<i+1->(R.set i x)[j]? =l[j]? :=fun j hj=>by
 have hil:=(aaf.1 hx).1;rw[ab0];by_cases e:i=j
 .subst e;rw[if_pos rfl,if_pos (by omega),hx]
 .rw[if_neg e,h j (by omega)]
theorem Ni (ao:Option Addr) (ca n:Nat) (ks:List Int) (w:World) (hn:ks.length=n) (hl:n<=17592186043904) (ha:bV w ao ks) (hin:Bu.In 4194304 ks):
 Calls prog 105 #[.slice ao n ca] w (ZJ ks w):=by
 obtain⟨i0,hi,hz0,hz1,hz2⟩:=info_parts Tryz.cM;have HM:=ζ (LM ao ca n ks w hn hl ha 4194304 (by decide) hin);have HA:=ζ ha;have HN:=ζ hn;have qY:=ζ hin;clear ha hn hin;by_cases h0:n=0
 .subst h0
  have Pg:Hid (Calls prog 120 #[.slice ao 0 ca] w fun e w'=>e= .returned (.slice none 0 0)/\w'=w):=HM.out.mono (by
   rintro e w1 (⟨-,h1,h2⟩|⟨g,K,C,h1,-⟩)
   .exact⟨h1,h2⟩
   .have:=HN.out;omega)
  clear HM;go_enter func105,ntmps105;go_wp2_with (go_at_call 120;refine Pg.out.mono ?_;rintro e w1 ⟨rfl,hw1⟩;obtain rfl:=hw1.symm;refine abQ ?_);refine ζ ?_;go_wp2;go_loopw [4,14] (fun a c wr=>c= .int .i64 0/\wr=w) (fun _ c _=>0)
  case atStart=>exact⟨rfl,rfl⟩
  case round=>
   obtain⟨rfl,rfl⟩:=hrel;go_wp2_with (at_make;refine wpList_make_full _ rfl _ _ 27 rfl wr.heap.size 3 i0 (.int .i64 0) 1 Tryz.underlying27 hi hz0 hz1 _ _ _ _ 0 rfl rfl rfl rfl (by rw[hz2];omega) (by unfold maxLen;omega) (aad _) ?_;refine abQ ?_);refine ζ ?_;intro w2 hrow hg2;rw[dD] at hrow;have iM:=ζ (eu hrow);have cj:Hid (Below wr.heap.size wr w2):=(aae _ _).grown hg2 (aad _) (fun j hj=>by cases hj);clear hrow hg2;go_wp2;go_loopw [32] (fun c wx=>c= .int .i64 0/\wx=w2) (fun c _=>0)
   case atStart=>exact⟨rfl,rfl⟩
   case round=>
    obtain⟨rfl,rfl⟩:=hrel;go_wp2;go_ret;refine⟨_,by rw[HN.out];rfl,aad _,?_,cj.out⟩;have:Bu.rE ks=[]:=ac0.1 (by rw[Bu.pW,HN.out]);rw[this];exact iM.out
 .have Pg:Hid (Calls prog 120 #[.slice ao n ca] w fun e w'=>∃(g K:Nat) (C:List Int),e= .returned (.slice (some ⟨g,0,none⟩) K K)/\w.heap.size<=g/\g<w'.heap.size/\aF w' g C/\Bu.Jz ks ks.length K C/\(K:Int)<=4194304+1/\(∀z∈ks,z<(K:Int))/\Below w.heap.size w w'):=HM.out.mono (by
   rintro e w1 (⟨h1,-⟩|⟨g,K,C,-,h⟩)
   .exact absurd (by rw[<-HN.out,h1];rfl) h0
   .exact⟨g,K,C,h⟩)
  clear HM;go_enter func105,ntmps105;go_wp2_with (go_at_call 120;refine Pg.out.mono ?_;rintro e w1 ⟨g,K,C,rfl,hg,BJ,Fj,hC,hK,Qn,hb1⟩;refine abQ ?_);refine ζ ?_;have nC:=ζ Qn;have aY:=ζ hb1;have H0:Hid (Bu.Half ks 0 K C):=⟨hC.len,fun j hj=>by omega,fun j _ hj=>by have:=hC.put j hj;rw[adI] at this;exact this⟩;have abE:=ζ Fj;have HZ:Hid (Bu.less ks 0=0):=Bu.NG qY.out;clear Qn hb1 hC Fj Pg;go_wp2;go_loopw [4,14] (fun a c wr=>∃(k:Nat) (F:List Int),k<=K/\c= .int .i64 k/\a= .int .i64 (Bu.less ks (k:Int):Int)/\Bu.Half ks k K F/\aF wr g F/\Below w.heap.size w wr) (fun _ c _=>K-(intOf c).toNat)
  case atStart=>exact⟨0,C,ab6 _,rfl,by rw[show((0:Nat):Int)=0 by rfl,HZ.out];rfl,H0.out,abE.out,aY.out⟩
  case round=>
   obtain⟨k,F,Y8,rfl,rfl,hF,BH,hb⟩:=hrel;have hsz:=BH.lt;have HF:=ζ hF;have HIF:=ζ BH;have HB:=ζ hb;have eO:=Bu.Kv ks (k:Int);rw[HN.out] at eO;by_cases hlt:k<K
   .have hk0:(0:Int)<=(k:Int):=by omega
    have hk1:(k:Int)<(K:Int):=by omega
    have qK:=hF.hi k (aad _) hlt;have hcl:ks.count (k:Int)<=n:=by rw[<-HN.out];exact afm
    have kZ:=ζ (hF.step hlt);have hls:=Bu.Dy ks (k:Int);obtain⟨q,hq⟩:∃q,ks.count (k:Int)=q:=⟨_,rfl⟩;obtain⟨r,hr⟩:∃r,Bu.less ks (k:Int)=r:=⟨_,rfl⟩;rw[hq] at qK hcl hls;rw[hr] at eO hls kZ ⊢;have HLS:Hid (Bu.less ks ((k+1:Nat):Int)=r+q):=by
     have e:((k+1:Nat):Int)=(k:Int)+1:=by omega
     show _=_;rw[e];exact hls
    have ET:=ζ (BH.set (i:=k) (by rw[hF.len];exact hlt) (r:Int));have Mw:=ζ (hb.setCell (p:=⟨g,k,none⟩) (by exact hg) (.int .i64 (r:Int)));have c1:=BH.cell qK;have f1:=BH.free k;clear hF BH hb qK hq hr hls;go_wp2;go_roundw
    case rel=>exact⟨k+1,_,by omega,by go_num,by rw[HLS.out];go_num,kZ.out,ET.out,Mw.out⟩
    case measure=>simp[intOf];omega
   .have hd:¬((k:Int)<(K:Int)):=by omega
    obtain rfl:k=K:=by omega
    have H1:Hid (Bu.Mz ks 0 k F):=⟨hF.len,fun j hj=>by rw[hF.lo j hj];simp⟩;clear hF BH hb;go_wp2_with (at_make;refine wpList_make_full _ rfl _ _ 27 rfl wr.heap.size 3 i0 (.int .i64 0) 1 Tryz.underlying27 hi hz0 hz1 _ _ _ _ n rfl rfl rfl rfl (by rw[hz2];omega) (by unfold maxLen;omega) (aad _) ?_;refine abQ ?_);refine ζ ?_;intro w2 hrow hg2;rw[dD] at hrow;have iM:=ζ (eu hrow);have hb2:Below wr.heap.size wr w2:=(aae _ _).grown hg2 (aad _) (fun j hj=>by cases hj);have ajf:=ζ (HIF.out.later hb2);have cj:=ζ (HB.out.trans (hb2.mono HB.out.size));have hsw:=HB.out.size;obtain⟨G,hG⟩:∃G,G=wr.heap.size:=⟨_,rfl⟩;rw[<-hG] at iM hsz hsw ⊢;have hgG:g≠G:=by omega
    have hGg:G≠g:=by omega
    clear hrow hg2 hb2 HIF H0 abE hG;go_wp2;go_loopw [32] (fun c wx=>∃(i:Nat) (F R:List Int),i<=n/\c= .int .i64 i/\Bu.Mz ks i k F/\R.length=n/\(∀j,j<i->R[j]? =(Bu.rE ks)[j]?)/\aF wx g F/\af wx G R/\Below w.heap.size w wx) (fun c _=>n-(intOf c).toNat)
    case atStart=>exact⟨0,F,_,ab6 _,rfl,H1.out,by simp,fun j hj=>by omega,ajf.out,iM.out,cj.out⟩
    case round=>
     obtain⟨i,F',R,hin,rfl,hF,We,hR,BH,Fi,hb⟩:=hrel;have HR:=ζ hR;have HIR:=ζ Fi;have cz:=ζ hb;by_cases hlt:i<n
     .have hk0:(0:Int)<=(i:Int):=by omega
      have hk1:(i:Int)<(n:Int):=by omega
      obtain⟨x,hx⟩:∃x,ks[i]? =some x:=⟨_,aac (by have:=HN.out;omega)⟩;have hx0:=qY.out x (aah hx);have hx1:=nC.out x (aah hx);obtain⟨z,rfl⟩:∃z:Nat,x=(z:Int):=⟨x.toNat,by omega⟩;have hzk:z<k:=by omega
      obtain⟨b,o,rfl,c0⟩:=(HA.out.later cz.out) i _ hx;have qK:=hF.put z hzk;rw[<-Bu.zF hx] at qK;have hrl:=Bu.Hw (ks:=ks) (i:=i) (by rw[HN.out];exact hlt);rw[HN.out] at hrl;have N7:=Bu.FU (ks:=ks) (i:=i) (by rw[HN.out];exact hlt);have kZ:=ζ (hF.step hx hzk);obtain⟨q,hq⟩:∃q,Bu.rk ks i=q:=⟨_,rfl⟩;rw[hq] at qK hrl kZ N7;obtain⟨y,hy⟩:∃y,R[i]? =some y:=⟨_,aac (by omega)⟩;have Fx:=ζ (tD (by rw[We,Bu.pW,HN.out]) hR N7);have c1:=BH.cell qK;have c2:=Fi.cell hy;have f2:=Fi.free i;have hF2:=BH.other (i:=i) hgG (.int .i64 (q:Int));have hR2:=Fi.set i (q:Int);have c3:=hF2.cell qK;have f3:=hF2.free z;have HF3:=ζ (hF2.set (i:=z) (by rw[hF.len];exact hzk) ((q:Int)+1));have sJ:=ζ (hR2.other (i:=z) hGg (.int .i64 ((q:Int)+1)));have iE:=ζ ((hb.setCell (p:=⟨G,i,none⟩) (by show _<=G;omega) (.int .i64 (q:Int))).setCell (p:=⟨g,z,none⟩) (by exact hg) (.int .i64 ((q:Int)+1)));have z0:(0:Int)<=(z:Int):=by omega
      have z1:(z:Int)<(k:Int):=by omega
      have HRL:Hid ((R.set i (q:Int)).length=n):=by show _=_;simp[We]
      clear hF BH Fi hb hR hx qK hq N7 hy hF2 hR2;go_wp2;go_roundw
      case rel=>exact⟨i+1,_,_,by omega,by go_num,kZ.out,HRL.out,Fx.out,HF3.out,sJ.out,iE.out⟩
      case measure=>simp[intOf];omega
     .have hd:¬((i:Int)<(n:Int)):=by omega
      obtain rfl:i=n:=by omega
      clear hF BH Fi hb;go_wp2;go_ret;refine⟨G,by rw[HN.out];rfl,hsw,?_,cz.out⟩;have e:R=Bu.rE ks:=acO fun j=>by
       by_cases hj:j<i
       .exact HR.out j hj
       .rw[abv (by omega),abv (by rw[Bu.pW,HN.out];omega)]
      rw[<-e];exact HIR.out
end
section
open Go.Proofs.Tryz
open Go.RowKit
theorem s9 {P:Program} (w:World) (d:Nat) (t:TypeId) (kf:Nat) (bs:Array Value) {ps rs:Array TypeId} {vd:Bool} (h:P.underlying t=some (.func ps rs vd)):
 (Op.equalIn (d+1) t (.func (.func kf) #[] bs) .nilFunc).run P w= .ok false w:=by
 simp[Op.equalIn,run_underlying h]
theorem xZ {P:Program} (w:World) (t:TypeId) (kf:Nat) (bs:Array Value) {ps rs:Array TypeId} {vd:Bool} (h:P.underlying t=some (.func ps rs vd)):(binOp .eql t (.func (.func kf) #[] bs) .nilFunc).run P w= .ok (.bool false) w:=by
 simp only[binOp];simp[Op.equal,Op.maxDepth,s9 w 9999 t kf bs h]
def GS (most:Int) (ks:List Int) (w:World) (e:Ending) (w':World):Prop:=
 ((Bu.fault most ks≠0/\e= .returned (.tuple #[.slice none 0 0,.int .i64 (Bu.fault most ks)]))\/
  (Bu.fault most ks=0/\∃g:Nat,e= .returned (.tuple #[.slice (some ⟨g,0,none⟩) ks.length ks.length,.int .i64 0])/\w.heap.size<=g/\af w' g ks))/\Below w.heap.size w w'
theorem Ir (kf:Nat) (bs:Array Value) (key:Int->Int) (most:Int) (ao:Option Addr) (ca n:Nat) (xs ks:List Int) (w:World) (hn:xs.length=n) (hl:n<=17592186043904) (ha:bV w ao xs) (hks:ks=xs.map key)
 (Gu:∀(args:Array Value) (w:World),(callFunc kf args).run prog w= .ok (.enter kf args) w) (fG:∀W x,Below w.heap.size w W->x∈xs->Calls prog kf (#[.int .i64 x]++bs) W fun e w'=>e= .returned (.int .i64 (key x))/\Below W.heap.size W w'):
 Calls prog 104 #[.slice ao n ca,.func (.func kf) #[] bs,.int .i64 most] w (GS most ks w):=by
 obtain⟨i0,hi,hz0,hz1,hz2⟩:=info_parts Tryz.cM;have HA:=ζ ha;have HN:=ζ hn;have aff:=ζ fG;have HKS:=ζ hks;have hnil:=fun w=>xZ (P:=prog) w 68 kf bs Tryz.underlying68
 have HLEN:Hid (ks.length=n):=by show _=_;rw[hks,aco,hn]
 clear ha hn fG hks;by_cases h1:most<0
 .have HF:Hid (Bu.fault most ks=2):=Bu.xu (.inl h1)
  go_enter func104,ntmps104;go_wp2;go_ret2;exact⟨.inl ⟨by rw[HF.out];decide,by rw[HF.out];rfl⟩,aae _ _⟩
 by_cases h2:4194304<most
 .have HF:Hid (Bu.fault most ks=2):=Bu.xu (.inr h2)
  go_enter func104,ntmps104;go_wp2;go_ret2;exact⟨.inl ⟨by rw[HF.out];decide,by rw[HF.out];rfl⟩,aae _ _⟩
 have XO:Hid (¬(most<0\/4194304<most)):=by show ¬_;omega
 go_enter func104,ntmps104;go_wp2_with (at_make;refine wpList_make_full _ rfl _ _ 27 rfl w.heap.size 3 i0 (.int .i64 0) 1 Tryz.underlying27 hi hz0 hz1 _ _ _ _ n rfl rfl rfl rfl (by rw[hz2];omega) (by unfold maxLen;omega) (aad _) ?_;refine abQ ?_);refine ζ ?_;intro w2 hrow hg2;rw[dD] at hrow;have iM:=ζ (eu hrow);have cj:Hid (Below w.heap.size w w2):=(aae _ _).grown hg2 (aad _) (fun j hj=>by cases hj);clear hrow hg2;go_wp2;go_loopw [27] (fun c wr=>∃(i:Nat) (R:List Int),i<=n/\c= .int .i64 i/\R.length=n/\(∀j,j<i->R[j]? =ks[j]?)/\(ks.take i).any (Bu.bad most)=false/\af wr w.heap.size R/\Below w.heap.size w wr) (fun c _=>n-(intOf c).toNat)
 case atStart=>exact⟨0,_,ab6 _,rfl,by simp,fun j hj=>by omega,by simp,iM.out,cj.out⟩
 case round=>
  obtain⟨i,R,hin,rfl,We,hR,Gy,Fi,hb⟩:=hrel;have HR:=ζ hR;have HIR:=ζ Fi;have HB:=ζ hb;have abL:=ζ Gy;by_cases hlt:i<n
  .have hk0:(0:Int)<=(i:Int):=by omega
   have hk1:(i:Int)<(n:Int):=by omega
   obtain⟨x,hx⟩:∃x,xs[i]? =some x:=⟨_,aac (by have:=HN.out;omega)⟩;have vV:ks[i]? =some (key x):=by rw[HKS.out,abU,hx];rfl
   obtain⟨b,o,rfl,c0⟩:=(HA.out.later HB.out) i _ hx;have HC:=ζ (aff.out wr x hb (aah hx));obtain⟨y,hy⟩:∃y,R[i]? =some y:=⟨_,aac (by omega)⟩;generalize key x=z at vV HC;have Pk:=ζ vV;have HY:=ζ hy;clear hR Fi hb Gy hx vV hy;go_wp2_with (go_at_fn kf;refine HC.out.mono ?_;rintro e w3 ⟨rfl,hb3⟩;refine abQ ?_);refine ζ ?_;have cz:=ζ (HB.out.trans (hb3.mono HB.out.size));have Gq:=HIR.out.later hb3;clear hb3;by_cases q1:z<0
   .have HF:Hid (Bu.fault most ks=60):=Bu.xw XO.out (Bu.QU Pk.out (Bu.LX (.inl q1)))
    clear Gq;go_wp2;go_ret2;exact⟨.inl ⟨by rw[HF.out];decide,by rw[HF.out];rfl⟩,cz.out⟩
   by_cases q2:most<z
   .have HF:Hid (Bu.fault most ks=60):=Bu.xw XO.out (Bu.QU Pk.out (Bu.LX (.inr q2)))
    clear Gq;go_wp2;go_ret2;exact⟨.inl ⟨by rw[HF.out];decide,by rw[HF.out];rfl⟩,cz.out⟩
   have c2:=Gq.cell HY.out;have f2:=Gq.free i;have aeJ:=ζ (Bu.EH Pk.out abL.out (Bu.QT (by omega)));have sJ:=ζ (Gq.set i z);have iE:=ζ (cz.out.setCell (p:=⟨w.heap.size,i,none⟩) (aad _) (.int .i64 z));have Fx:=ζ (tD (by rw[We,HLEN.out]) HR.out Pk.out);have HRL:Hid ((R.set i z).length=n):=by show _=_;simp[We]
   clear Gq;go_wp2;go_roundw
   case rel=>exact⟨i+1,_,by omega,by go_num,HRL.out,Fx.out,aeJ.out,sJ.out,iE.out⟩
   case measure=>simp[intOf];omega
  .have hd:¬((i:Int)<(n:Int)):=by omega
   obtain rfl:i=n:=by omega
   clear hR Fi hb Gy;go_wp2;go_ret2;have hks:ks.take i=ks:=acL (by have:=HLEN.out;omega);have e:R=ks:=acO fun j=>by
    by_cases hj:j<i
    .exact HR.out j hj
    .rw[abv (by omega),abv (by have:=HLEN.out;omega)]
   have Gy:=abL.out;rw[hks] at Gy;refine⟨.inr ⟨Bu.uj XO.out Gy,w.heap.size,?_,aad _,?_⟩,HB.out⟩
   .rw[HLEN.out];rfl
   .rw[<-e];exact HIR.out
end
section
open Go.RowKit
theorem OP {most:Int} {ks:List Int} (h:Bu.fault most ks=0):0<=most/\most<=4194304/\Bu.In most ks/\Bu.In 4194304 ks:=by
 rcases Bu.I6 most ks with ⟨_,h1⟩|⟨_,_,h1⟩|⟨h1,h2,_⟩
 .omega
 .omega
 .have h3:=Bu.ZH h2
  exact⟨by omega,by omega,h3,fun z hz=>by have:=h3 z hz;omega⟩
end
section
open Go.Proofs.Tryz
open Go.RowKit
theorem LV (ao:Option Addr) (n ca:Nat) (l:List Int) (w:World) (h:qW w ao n ca l) (hn:n<=17592186043904):
 Calls prog 38 #[.slice ao n ca] w fun e w'=>∃bo cb,e= .returned (.slice bo n cb)/\qW w' bo n cb l/\Below w.heap.size w w':=by
 have HR:=ζ h;have hnil:=fun w=>Lib.run_eql_slice_nil (P:=prog) w 27 3 ao n ca 0 0 Tryz.underlying27
 rcases ao with _|y
 .obtain⟨rfl,rfl⟩:=h.none rfl
  clear h;go_enter func38,ntmps38;go_wp2;go_ret;exact⟨none,0,rfl,HR.out,aae _ _⟩
 .clear h
  go_enter func38,ntmps38;go_wp2_with (at_builtin;refine zy rfl _ _ rfl w (some y) n ca l rfl rfl HR.out hn ?_;refine abQ ?_);refine ζ ?_;intro gb c w1 hrow hgb hlt hc hb;have HX:=ζ hrow;have HB:=ζ hb;clear hrow hb hgb;go_wp2;go_ret;refine⟨some ⟨gb,0,none⟩,c,rfl,?_,HB.out⟩;have hi:=yx HX.out;exact⟨HR.out.len,fun j x hj=>⟨gb,0,rfl,by rw[ac7];exact hi.cell hj⟩,fun e=>by cases e⟩
def S7 (most:Int) (ks xs:List Int) (w:World) (e:Ending) (w':World):Prop:=
 ((Bu.fault most ks≠0/\e= .returned (.tuple #[.slice none 0 0,.int .i64 (Bu.fault most ks)]))\/
  (Bu.fault most ks=0/\∃(g:Nat) (S:List Int),e= .returned (.tuple #[.slice (some ⟨g,0,none⟩) xs.length xs.length,.int .i64 0])/\w.heap.size<=g/\af w' g S/\Bu.Sorted ks xs S))/\Below w.heap.size w w'
theorem Ht (kf:Nat) (bs:Array Value) (key:Int->Int) (most:Int) (ao:Option Addr) (ca n:Nat) (xs ks:List Int) (w:World) (hl:n<=17592186043904) (ha:qW w ao n ca xs) (hks:ks=xs.map key)
 (Gu:∀(args:Array Value) (w:World),(callFunc kf args).run prog w= .ok (.enter kf args) w) (fG:∀W x,Below w.heap.size w W->x∈xs->Calls prog kf (#[.int .i64 x]++bs) W fun e w'=>e= .returned (.int .i64 (key x))/\Below W.heap.size W w'):
 Calls prog 86 #[.slice ao n ca,.func (.func kf) #[] bs,.int .i64 most] w (S7 most ks xs w):=by
 obtain⟨i0,hi,hz0,hz1,hz2⟩:=info_parts Tryz.cM;have HN:=ζ ha.len;have HLEN:Hid (ks.length=n):=by show _=_;rw[hks,aco,ha.len]
 have q8:=ζ (LV ao n ca xs w ha hl);have HK:Hid (∀W bo cb,qW W bo n cb xs->Below w.heap.size w W->Calls prog 104 #[.slice bo n cb,.func (.func kf) #[] bs,.int .i64 most] W (GS most ks W)):=fun W bo cb h hb=>
  Ir kf bs key most bo cb n xs ks W h.len hl h.ints hks Gu (fun W2 x hb2 hx=>fG W2 x (hb.trans (hb2.mono hb.size)) hx)
 clear ha fG Gu hks;go_enter func86,ntmps86;go_wp2_with (go_at_call 38;refine q8.out.mono ?_;rintro e w1 ⟨bo,cb,rfl,hst,hb1⟩;have HST:=ζ hst;have aY:=ζ hb1;clear hst hb1;refine abQ ?_);refine ζ ?_;have Tn:=ζ (HK.out w1 bo cb HST.out aY.out);clear HK q8;by_cases hf:Bu.fault most ks=0
 .have HF:=ζ hf
  have dH:=(OP hf).2.2.2;have ajv:=ζ dH;have Jt:Hid (Calls prog 104 #[.slice bo n cb,.func (.func kf) #[] bs,.int .i64 most] w1 fun e w'=>∃g:Nat,e= .returned (.tuple #[.slice (some ⟨g,0,none⟩) n n,.int .i64 0])/\w1.heap.size<=g/\af w' g ks/\Below w1.heap.size w1 w'):=Tn.out.mono (by
   rintro e w' ⟨⟨h1,_⟩|⟨_,g,h2,h3,h4⟩,hb⟩
   .exact absurd HF.out h1
   .rw[HLEN.out] at h2
    exact⟨g,h2,h3,h4,hb⟩)
  clear Tn hf dH;go_wp2_with (go_at_call 104;refine Jt.out.mono ?_;rintro e w2 ⟨g,rfl,hg,hkb,hb2⟩;have HKB:=ζ hkb;have cj:=ζ (aY.out.trans (hb2.mono aY.out.size));have XG:=ζ (HST.out.later hb2);clear hkb hb2 hg;refine abQ ?_);refine ζ ?_;clear Jt HST aY;go_wp2_with (at_make;refine wpList_make_full _ rfl _ _ 27 rfl w2.heap.size 3 i0 (.int .i64 0) 1 Tryz.underlying27 hi hz0 hz1 _ _ _ _ n rfl rfl rfl rfl (by rw[hz2];omega) (by unfold maxLen;omega) (aad _) ?_;refine abQ ?_);refine ζ ?_;intro w3 hrow hg3;rw[dD] at hrow;have hb3:Below w2.heap.size w2 w3:=(aae _ _).grown hg3 (aad _) (fun j hj=>by cases hj);have EY:=ζ (eu hrow);have abp:=ζ (XG.out.later hb3);have abC:=ζ (HKB.out.later hb3);have cz:=ζ (cj.out.trans (hb3.mono cj.out.size));have U5:=cj.out.size;have aaD:∀x,bo=some x->0<n->x.block<w2.heap.size:=fun x hx h0=>by
   obtain⟨z,hz⟩:∃z,xs[0]? =some z:=⟨_,aac (by have:=HN.out;omega)⟩;obtain⟨b,o,e,hc⟩:=XG.out.ints 0 z hz;rw[hx] at e;cases e;exact block_lt_of_cell hc
  have XF:=ζ aaD;obtain⟨G,hG⟩:∃G,G=w2.heap.size:=⟨_,rfl⟩;rw[<-hG] at EY XF U5 ⊢;have HRK:=ζ (Ni (some ⟨g,0,none⟩) n n ks w3 HLEN.out hl abC.out.at ajv.out);clear hrow hg3 hb3 XG HKB cj hG aaD;go_wp2_with (go_at_call 105;refine HRK.out.mono ?_;rintro e w4 ⟨gr,rfl,hgr,hrb,hb4⟩;rw[HLEN.out];have HRB:=ζ hrb;have GU:=ζ (abp.out.later hb4);have HI4:=ζ (EY.out.later hb4);have anA:=acU EY.out.lt hgr;have iE:=ζ (cz.out.trans (hb4.mono cz.out.size));clear hrb hb4 hgr;refine abQ ?_);refine ζ ?_;clear HRK abp EY cz abC;go_wp2;go_loopw [32] (fun c wr=>∃(i:Nat) (S:List Int),i<=n/\c= .int .i64 i/\Bu.Laid ks xs S i/\qW wr bo n cb xs/\af wr gr (Bu.rE ks)/\af wr G S/\Below w.heap.size w wr) (fun c _=>n-(intOf c).toNat)
  case atStart=>exact⟨0,_,ab6 _,rfl,⟨by rw[HLEN.out];simp,fun i hi=>by omega⟩,GU.out,HRB.out,HI4.out,iE.out⟩
  case round=>
   obtain⟨i,S,hin,rfl,hS,hst,hrb,jx,hb⟩:=hrel;have HS:=ζ hS;have HIS:=ζ jx;have HB:=ζ hb;by_cases hlt:i<n
   .have hk0:(0:Int)<=(i:Int):=by omega
    have hk1:(i:Int)<(n:Int):=by omega
    have N7:=Bu.FU (ks:=ks) (i:=i) (by rw[HLEN.out];exact hlt);have hrl:=Bu.Hw (ks:=ks) (i:=i) (by rw[HLEN.out];exact hlt);rw[HLEN.out] at hrl;obtain⟨x,hx⟩:∃x,xs[i]? =some x:=⟨_,aac (by have:=HN.out;omega)⟩;have kZ:=ζ (hS.step (by rw[HLEN.out];exact hlt) hx);obtain⟨q,hq⟩:∃q,Bu.rk ks i=q:=⟨_,rfl⟩;rw[hq] at N7 hrl kZ;obtain⟨y,hy⟩:∃y,S[q]? =some y:=⟨_,aac (by rw[hS.len,HLEN.out];exact hrl)⟩;obtain⟨b,o,IQ,c0⟩:=hst.ints i x hx;have hbG:b≠G:=by
     have:=XF.out _ IQ (by omega);dsimp only at this;have:=HI4.out;intro e;subst e;omega
    have c1:=hrb.cell N7;have c2:=jx.cell hy;have f2:=jx.free q;have aiF:Hid (qW (wr.setCell ⟨G,q,none⟩ (.int .i64 x)) bo n cb xs):=⟨hst.len,fun j z hj=>by
     obtain⟨b',o',e',hc⟩:=hst.ints j z hj;refine⟨b',o',e',?_⟩;rw[IQ] at e';cases e';rw[<-hc];simp[World.cell?,heap_setCell_other wr ⟨G,q,none⟩ b _ hbG],hst.none⟩
    have aiK:=ζ (hrb.other (i:=q) (show gr≠G by omega) (.int .i64 x));have ajb:=ζ (jx.set q x);have jN:=ζ (hb.setCell (p:=⟨G,q,none⟩) U5 (.int .i64 x));have q0:(0:Int)<=(q:Int):=by omega
    have q1:(q:Int)<(n:Int):=by omega
    subst IQ;clear hS hst hrb jx hb hx N7 hq hy XF;go_wp2;go_roundw
    case rel=>exact⟨i+1,_,by omega,by go_num,kZ.out,aiF.out,aiK.out,ajb.out,jN.out⟩
    case measure=>simp[intOf];omega
   .have hd:¬((i:Int)<(n:Int)):=by omega
    obtain rfl:i=n:=by omega
    clear hS hst hrb jx hb;go_wp2;go_ret2;refine⟨.inr ⟨HF.out,G,S,by rw[HN.out];rfl,U5,HIS.out,⟨HS.out.len,fun j hj=>HS.out.put j (by have:=HLEN.out;omega)⟩⟩,HB.out⟩
 .have HF:=ζ hf
  have Jt:Hid (Calls prog 104 #[.slice bo n cb,.func (.func kf) #[] bs,.int .i64 most] w1 fun e w'=>e= .returned (.tuple #[.slice none 0 0,.int .i64 (Bu.fault most ks)])/\Below w1.heap.size w1 w'):=Tn.out.mono (by
   rintro e w' ⟨⟨_,h1⟩|⟨h1,_⟩,hb⟩
   .exact⟨h1,hb⟩
   .exact absurd h1 HF.out)
  obtain⟨q,hq⟩:∃q,Bu.fault most ks=q:=⟨_,rfl⟩;rw[hq] at Jt hf;have j0:(q != 0)=true:=by simp[hf]
  have HQ:=ζ hq;clear Tn hq;go_wp2_with (go_at_call 104;refine Jt.out.mono ?_;rintro e w2 ⟨rfl,hb2⟩;have cj:=ζ (aY.out.trans (hb2.mono aY.out.size));clear hb2;refine abQ ?_);refine ζ ?_;go_wp2;go_ret2;exact⟨.inl ⟨HF.out,by rw[HQ.out];rfl⟩,cj.out⟩
end
end Go.Proofs.YtbhdibflpjhpaaaGreat
