import Derived.Test.YtbhdibflpjhpaaaGreatMg07
import Derived.Maps.OwnSet
import Derived.DeepKeys4
set_option maxHeartbeats 8000000
set_option maxRecDepth 100000
namespace Go.Proofs.YtbhdibflpjhpaaaGreat
section
open Go.Proofs.Tryz
open Go.RowKit Go.Sort
theorem xM {U:World} {o:Oper} {a:Act} {K:Act->World->Prop} {Q:Exit->Act->World->Prop} (s x:Operand) (ho:o.op= .call { callee:= .builtin .append,args:= #[s,x],argTypes:= #[28,28] })
 (B:Nat) (v:Value) (vs:List Value) (ls:List (List Int)) (xa:Option Addr) (xn xc:Nat) (l:List Int) (hR:aU U B v vs ls) (hB:B<=U.heap.size) (hs:a.eval s=v) (c:Nat) (hx:a.eval x= .slice (some ⟨c,0,none⟩) 1 1) (hc:U.cell? ⟨c,0,none⟩=some (.slice xa xn xc))
 (hO:aH U B (.slice xa xn xc) l) (D9:∀b,(Value.slice xa xn xc).ownBlock=some b->¬(v.ownBlock=some b\/eX vs b)) (hl:ls.length<=4194304)
 (h:∀v' w',aU w' B v' (vs++[.slice xa xn xc]) (ls++[l])->U.grownBy w' v.ownBlock->(v'.ownBlock=v.ownBlock\/v'.ownBlock=some U.heap.size)->K (a.put o.dst v') w'):o.wp prog a U K Q:=by
 refine E6 s x ho B v vs [.slice xa xn xc] ls [l] hR hB hs (some ⟨c,0,none⟩) 1 1 rfl hx (fun e=>by cases e) rfl (fun j u hj=> ?_) (fun u hu=> ?_) (fun u y k hy hk=> ?_) (fun u u' y y' b hne hy hy'=> ?_) (fun b hb'=> ?_) (by omega) h
 .obtain rfl:j=0:=by
   have:=(aaf.1 hj).1;simp at this;exact this
  cases hj;exact⟨_,rfl,hc⟩
 .cases aan.1 hu
  rfl
 .obtain rfl:u=0:=by
   have:=(aaf.1 hy).1;simp at this;exact this
  cases hy;cases hk;exact hO
 .have h1:=(aaf.1 hy).1
  have h2:=(aaf.1 hy').1;simp at h1 h2;omega
 .obtain⟨u,y,hy,hyb⟩:=hb'
  obtain rfl:u=0:=by
   have:=(aaf.1 hy).1;simp at this;exact this
  cases hy;exact D9 b hyb
namespace Ku
structure zu (es:List (Int×Int)) {n:Int} (hv:Si.Val n es) (g:Nat) (W:World) (i:Nat) (v:Value) (us:List Value) (gf:Nat->Bool) (U:World):Prop where
 rws:aU U W.heap.size v us (rows es hv i)
 gone:bN U g es.length gf
 iff:∀e,gf e=true↔∃l∈ij es hv i,By l e
 wrote:az (fun k=>k=g\/W.heap.size<=k) W U
def Q7 (es:List (Int×Int)) {n:Int} (hv:Si.Val n es) (w:World) (e:Ending) (w':World):Prop:=∃v us,e= .returned v/\aU w' w.heap.size v us (rows es hv es.length)/\Below w.heap.size w w'
theorem LP {es:List (Int×Int)} {n:Int} {hv:Si.Val n es} {k:Nat} (h:First es hv k):ij es hv (k+1)=ij es hv k++[ch es hv k]:=by
 simp only[ij];rw[if_pos h]
theorem QJ {es:List (Int×Int)} {n:Int} {hv:Si.Val n es} {k:Nat} (h:¬First es hv k):ij es hv (k+1)=ij es hv k:=by
 simp only[ij];rw[if_neg h]
section
variable {es:List (Int×Int)} {n:Int} {hv:Si.Val n es} {g i:Nat} {W U:World} {v:Value} {us:List Value} {gf:Nat->Bool}
theorem zu.first (h:zu es hv g W i v us gf U) (hi:i<es.length):gf i=true↔¬First es hv i:=(h.iff i).trans (Rt hi)
theorem zu.skip (h:zu es hv g W i v us gf U) (hf:¬First es hv i):zu es hv g W (i+1) v us gf U:=⟨by rw[C1 hf];exact h.rws,h.gone,by rw[QJ hf];exact h.iff,h.wrote⟩
theorem G6 {W X w4:World} {g:Nat} {r:Option Nat} (hg:X.grownBy w4 r) (hX:az (fun k=>k=g\/W.heap.size<=k) W X) (hr:∀k,r=some k->W.heap.size<=k):az (fun k=>k=g\/W.heap.size<=k) W w4:=
 ⟨hg.os.trans hX.os,hg.tape.trans hX.tape,hg.output.trans hX.output,acA hX.size hg.size,fun k hk hne=>(hg.block k (acU hk hX.size) (fun e=>hne (.inr (hr k e.symm)))).trans (hX.block k hk hne)⟩
theorem zu.mid {U1 U2 U3 V:World} {b:Nat} {rY:Nat->Bool} {x:Value} (h:zu es hv g W i v us gf U) (hg:g<W.heap.size) (hf:First es hv i) (hV:Below U.heap.size U V) (h1:Below V.heap.size V U1) (hb:uH es hv i b) (h2:az (fun k=>k=g) U1 U2) (hgo:bN U2 g es.length rY) (hiff:∀e,rY e=true↔(gf e=true\/By (all (gs es hv).toSys b) e)) (h3:Below U1.heap.size U2 U3) (hO:aH U3 U1.heap.size x (iG (ZL (vs (gs es hv) (all (gs es hv).toSys b))))):
 aU U3 W.heap.size v us (rows es hv i)/\aH U3 W.heap.size x (ZL (vs (gs es hv) (ch es hv i)))/\(∀b,x.ownBlock=some b->¬(v.ownBlock=some b\/eX us b))/\bN U3 g es.length rY/\(∀e,rY e=true↔∃l∈ij es hv (i+1),By l e)/\az (fun k=>k=g\/W.heap.size<=k) W U3/\W.heap.size<=U3.heap.size:=by
 obtain⟨b1,b2,b3⟩:=hb;obtain⟨e1,e2⟩:=GN hf b1 b2 b3;have s0:=h.wrote.size;have sV:=hV.size;have s1:=h1.size;have s2:=h2.size;have s3:=h3.size;have keep:∀k,k≠g->k<U.heap.size->U3.heap[k]? =U.heap[k]? :=fun k hk hl=>by
  rw[h3.block k (by omega),h2.block k (by omega) hk,h1.block k (by omega),hV.block k hl]
 refine⟨h.rws.kept fun k hk hl=>keep k (by have:=(h.rws.within hk).1;omega) hl,?_,fun k hk hc=> ?_,hgo.same (h3.block g (by omega)),fun e=> ?_,?_,by omega⟩
 .rw[JA,<-e1] at hO
  exact hO.lower (by omega)
 .have a1:=(h.rws.within hc).2
  have a2:=(acj hO k hk).1;omega
 .rw[hiff e,h.iff e,LP hf,<-e2 e]
  constructor
  .rintro(⟨l,hl,hb⟩|hb)
   .exact⟨l,aci _ hl,hb⟩
   .exact⟨_,acd _ (aan.2 rfl),hb⟩
  .rintro⟨l,hl,hb⟩
   rcases aam.1 hl with hl|hl
   .exact .inl ⟨l,hl,hb⟩
   .cases aan.1 hl
    exact .inr hb
 .refine h.wrote.trans ⟨?_,?_,?_,by omega,fun k hk hne=>keep k (fun e=>hne (.inl e)) hk⟩
  .rw[h3.os,h2.os,h1.os,hV.os]
  .rw[h3.tape,h2.tape,h1.tape,hV.tape]
  .rw[h3.output,h2.output,h1.output,hV.output]
end
end Ku
theorem xP (p n:Nat) (es:List (Int×Int)) (w:World) (hA:bK w (.pointer (some ⟨p,0,none⟩)) n es) (hv:Si.Val (n:Int) es):
 Calls prog 17 #[.pointer (some ⟨p,0,none⟩)] w (Ku.Q7 es hv w):=by
 have HM:Hid (∀U:World,Below w.heap.size w U->Calls prog 26 #[.pointer (some ⟨p,0,none⟩)] U fun e w'=>e= .returned (.int .i64 (es.length:Int))/\w'=U):=fun U hU=>yS _ n es U (hA.later hU)
 have HA:=ζ hA;have dH:=hv.few;obtain⟨i0,D6,hz0,hz1,hz2⟩:=info_parts Tryz.Sl;have i1:(0:Int)<=(es.length:Int):=by omega
 have i2:(es.length:Int)<=140737488355328:=by omega
 have Pg:=ζ (HM.out w (aae _ _));have hmk:∀W,(Instr.makeSlice 70 (.int .i64 (es.length:Int)) (.int .i64 (es.length:Int))).run prog W= .ok (.slice (some ⟨W.heap.size,0,none⟩) es.length es.length) (W.alloc (.cells (madeCells #[.bool false] es.length) 4)):=fun W=>by
  have:=run_make (P:=prog) W 70 4 i0 (.bool false) Tryz.underlying70 D6 hz0 .i64 .i64 (es.length:Int) (es.length:Int) (by omega) (adA _) (by rw[hz2];omega) (by omega);rw[this,hz1];simp[Value.cells]
 obtain⟨W1,hW1⟩:∃W1,W1=w.alloc (.cells (madeCells #[.bool false] es.length) 4):=⟨_,rfl⟩;obtain⟨W,hW⟩:∃W,W=W1.alloc (.cells #[.pointer (some ⟨p,0,none⟩),.slice (some ⟨w.heap.size,0,none⟩) es.length es.length] 72):=⟨_,rfl⟩;have hsz:W1.heap.size=w.heap.size+1:=by rw[hW1];simp
 have hB1:Below w.heap.size w W1:=by rw[hW1];exact(aae _ _).alloc (aad _) _
 have hB2:Below W1.heap.size W1 W:=by rw[hW];exact(aae _ _).alloc (aad _) _
 have hB0:Below w.heap.size w W:=hB1.trans (hB2.mono hB1.size);have g1:W.heap[w.heap.size+1]? =some (.cells #[.pointer (some ⟨p,0,none⟩),.slice (some ⟨w.heap.size,0,none⟩) es.length es.length] 72 (0,0)):=by rw[hW,<-hsz];exact heap_alloc_new W1 _
 have Mt:Hid (bN W w.heap.size es.length (fun _=>false)):=by
  have:bN W1 w.heap.size es.length (fun _=>false):=by rw[hW1];exact Km rfl _
  exact this.later hB2
 have DM:w.heap.size+1<W.heap.size:=lt_of_block g1;have HW:Hid (W=(w.alloc (.cells (madeCells #[.bool false] es.length) 4)).alloc (.cells #[.pointer (some ⟨p,0,none⟩),.slice (some ⟨w.heap.size,0,none⟩) es.length es.length] 72)):=by rw[hW,hW1];exact ζ rfl
 have HMW:=ζ (HM.out W hB0);have fo:=ζ hB0;have Js:Hid (∀U:World,az (fun k=>k=w.heap.size\/W.heap.size<=k) W U->Below w.heap.size w U):=fun U hU=>hB0.trans (hU.below (by omega) (fun k hk=>by omega))
 have GZ:Hid (∀U:World,az (fun k=>k=w.heap.size\/W.heap.size<=k) W U->U.heap[w.heap.size+1]? =some (.cells #[.pointer (some ⟨p,0,none⟩),.slice (some ⟨w.heap.size,0,none⟩) es.length es.length] 72 (0,0))):=fun U hU=>(hU.block _ DM (by omega)).trans g1
 clear hA hW1 hW hsz hB1 hB2 hB0 g1;go_enter func17,ntmps17;go_wp2_with (go_at_call 26;refine Pg.out.mono ?_;rintro e w1 ⟨rfl,hw1⟩;obtain rfl:=hw1.symm;refine abQ ?_);refine ζ ?_;go_wp2_with (go_at_call 26;rw[<-HW.out];refine HMW.out.mono ?_;rintro e w1 ⟨rfl,hw1⟩;obtain rfl:=hw1.symm;refine abQ ?_);refine ζ ?_;clear hmk;go_wp2;go_loopw [4,13] (fun v cv wr=>∃(i:Nat) (us:List Value) (gf:Nat->Bool),i<=es.length/\cv= .int .i64 (i:Int)/\Ku.zu es hv w.heap.size W i v us gf wr) (fun _ cv _=>es.length-(intOf cv).toNat)
 case atStart=>exact⟨0,[],fun _=>false,ab6 _,rfl,aU.nil _ _,Mt.out,fun e=>by simp[Ku.ij],az.refl _ _⟩
 case round=>
  obtain⟨i,us,gf,hi,rfl,hch⟩:=hrel;obtain⟨U,rfl⟩:∃U,U=wr:=⟨wr,rfl⟩;have Mv:=ζ hch;obtain⟨va,vc,qH⟩:=gU hch.rws;obtain⟨J,hJ⟩:∃J,(Ku.rows es hv i).length=J:=⟨_,rfl⟩;rw[hJ] at qH;subst qH;have HJ:=ζ hJ;have hJi:J<=i:=by rw[<-hJ,Ku.rA];exact Ku.Bb i
  have hwi:IntKind.i64.wrap ((i:Int)+1)=(i:Int)+1:=by rw[acf];omega
  have XT:=ζ (Js.out U hch.wrote);by_cases hlt:i<es.length
  .have kR:(i:Int)<(es.length:Int):=by omega
   have anz:(0:Int)<=(i:Int):=by omega
   obtain⟨c0,c1,-⟩:=aj (GZ.out U hch.wrote);have cg:=hch.gone.cell hlt;have Gt:=hch.first hlt
   cases hb:gf i with
   |true=>
    rw[hb] at cg Gt;have HN:=ζ (hch.skip (Gt.1 rfl));clear hch hJ hb Gt;go_wp2;go_roundw
    case rel=>exact⟨i+1,us,gf,by omega,by go_num,HN.out⟩
    case measure=>simp[intOf];omega
   |false=>
    rw[hb] at cg Gt;have hf:Ku.First es hv i:=abO fun h=>by have:=Gt.2 h;cases this
    have HCN:Hid (∀e',Ku.By (Ku.ch es hv i) e'->gf e'=false):=fun e' he'=>by
     cases hc:gf e' with
     |false=>rfl
     |true=>exact absurd ((hch.iff e').1 hc) (Ku.A8 hlt hf he')
    have Ff:=hch.wrote;have anp:=Ff.size;have HS:Hid (∀V:World,az (fun k=>k=w.heap.size\/W.heap.size<=k) W V->V.cell? ⟨w.heap.size+1,0,none⟩=some (.pointer (some ⟨p,0,none⟩))/\V.cell? ⟨w.heap.size+1,1,none⟩=some (.slice (some ⟨w.heap.size,0,none⟩) es.length es.length)):=fun V hV=>by
     obtain⟨a1,a2,-⟩:=aj (GZ.out V hV);exact⟨a1,a2⟩
    have ajA:Hid (∀V:World,Below U.heap.size U V->Calls prog 29 #[.agg #[.pointer (some ⟨p,0,none⟩),.slice (some ⟨w.heap.size,0,none⟩) es.length es.length],.int .i64 (i:Int)] V (Ku.abM es hv i V)):=fun V hV=>JF p n es _ _ _ i V (HA.out.later (XT.out.trans (hV.mono XT.out.size))) hv hlt
    have ajJ:Hid (∀(V U1:World) (b:Nat),Below U.heap.size U V->Below V.heap.size V U1->Ku.uH es hv i b->Calls prog 28 #[.agg #[.pointer (some ⟨p,0,none⟩),.slice (some ⟨w.heap.size,0,none⟩) es.length es.length],.int .i64 (b:Int)] U1 (Ku.Yj es hv b w.heap.size gf U1)):=fun V U1 b hV h1 hb=>by
     have hbl:Below U.heap.size U U1:=hV.trans (h1.mono hV.size);refine JG p n es w.heap.size b gf w U1 HA.out hv (XT.out.trans (hbl.mono XT.out.size)) (aad _) (Mv.out.gone.later hbl) hb.1 fun x hx=> ?_
     exact HCN.out _ (((Ku.GN hf hb.1 hb.2.1 hb.2.2).2 _).2 ⟨x,hx,rfl⟩)
    have hbr:Below U.heap.size U U.drew:=(aae _ _).drew;have hTr:az (fun k=>k=w.heap.size\/W.heap.size<=k) W U.drew:=Ff.drew;have HLEN:Hid (∀b,Ku.uH es hv i b->2<=(Ku.ZL (Ku.vs (Ku.gs es hv) (Ku.all (Ku.gs es hv).toSys b))).length/\(Ku.ZL (Ku.vs (Ku.gs es hv) (Ku.all (Ku.gs es hv).toSys b))).length<=17592186044000):=fun b hb=>by
     obtain⟨-,nd,lt,-,-⟩:=Ku.dM (S:=(Ku.gs es hv).toSys) hb.1;have h1:=Ku.Xb (S:=(Ku.gs es hv).toSys) hb.1;have h2:=Ku.l8 nd lt;have h3:(Ku.gs es hv).toSys.M=2*es.length:=rfl;rw[Ku.fC,Ku.cN (fun e=>by rw[e] at h1;simp at h1)];omega
    clear hb Gt hch hJ;go_wp2_with fail
    go_region_held3 (fun V=>V.cell? ⟨w.heap.size+1,0,none⟩=some (.pointer (some ⟨p,0,none⟩))/\V.cell? ⟨w.heap.size+1,1,none⟩=some (.slice (some ⟨w.heap.size,0,none⟩) es.length es.length))
     (exact HS.out _ (by first|assumption|exact hTr|(refine az.drew ?_;assumption)|(refine az.alloc ?_ _;assumption)|(refine az.drew ?_;refine az.alloc ?_ _;assumption)))
     (first
       |(go_at_call 29;refine(ajA.out _ hbr).mono ?_;rintro e u1 ⟨b,rfl,IQ,hb1⟩;have hT1:az (fun k=>k=w.heap.size\/W.heap.size<=k) W u1:=hTr.later hb1)
       |(go_at_call 28;refine(ajJ.out _ _ _ hbr hb1 IQ).mono ?_;rintro e u2 ⟨v2,gf2,rfl,ho2,hg2,hi2,hw2⟩;have BP:az (fun k=>k=w.heap.size\/W.heap.size<=k) W u2:=hT1.trans (hw2.mono fun k _ hk=> .inl hk);obtain⟨xa,xc,qH,-,-⟩:=ho2.form;obtain⟨Lc,hLc⟩:∃Lc,(Ku.ZL (Ku.vs (Ku.gs es hv) (Ku.all (Ku.gs es hv).toSys b))).length=Lc:=⟨_,rfl⟩;rw[hLc] at qH;subst qH)
       |(go_at_call 27;refine(E9 u1.heap.size xa Lc xc _ u2 hLc ho2 hw2.size (by have:=(HLEN.out b IQ).1;omega) (by have:=(HLEN.out b IQ).2;omega)).mono ?_;rintro e u3 ⟨rfl,BD,hb3⟩;obtain⟨m1,m2,m3,m4,m5,m6,m7⟩:=Mv.out.mid (by omega) hf hbr hb1 IQ hw2 hg2 hi2 hb3 BD)
       |(rw[if_pos (by rfl)];refine xM _ _ (by rfl) W.heap.size (.slice va J vc) us (Ku.rows es hv i) xa Lc xc _ (m1.later (by first|exact(aae _ _).alloc (aad _) _|exact((aae _ _).alloc (aad _) _).drew)) (by simp;omega) (by rfl) u3.heap.size (by rfl) (by first|exact(cell_one_new _ _ _ 0 _ rfl)|exact cell_one_new _ _ _) (m2.later (by first|exact(aae _ _).alloc (aad _) _|exact((aae _ _).alloc (aad _) _).drew)) m3 (by rw[HJ.out];omega) ?_;intro v4 w4 Oy hg4 _;have hT4:az (fun k=>k=w.heap.size\/W.heap.size<=k) W w4:=Ku.G6 hg4 (by first|exact m6.alloc _|exact(m6.alloc _).drew) (fun k hk=>(acj m1.outer k hk).1)))
    have ko:Hid (Ku.zu es hv w.heap.size W (i+1) v4 (us++[.slice xa Lc xc]) gf2 w4):=⟨by rw[Ku.uV hf];exact Oy,m4.same ((hg4.block _ (by simp;omega) (fun e=>by have:=(acj m1.outer _ e.symm).1;omega)).trans (heap_alloc_old _ _ (by omega))),m5,hT4⟩;clear Oy hg4 hT4 m1 m2 m3 m4 m5 m6 m7 BD hb3 hLc ho2 hg2 hi2 hw2 BP hT1 IQ hb1 c0 c1 cg hbr hTr;go_wp2;go_roundw
    case rel=>exact⟨i+1,_,_,by omega,by go_num,ko.out⟩
    case measure=>simp[intOf];omega
  .have hd:¬((i:Int)<(es.length:Int)):=by omega
   obtain rfl:i=es.length:=by omega
   clear hch hJ;go_wp2;go_ret;exact⟨_,us,rfl,Mv.out.rws.lower (by omega),XT.out⟩
end
section
open Go.Proofs.Tryz
open Go.RowKit Go.Sort
theorem Hz (n:Int) (ao:Option Addr) (cap:Nat) (es:List (Int×Int)) (w:World) (he:aN w ao es) (hl:es.length<=4611686018427387904):
 Calls prog 10 #[.agg #[.int .i64 n,.slice ao es.length cap]] w (Ku.Yi n es w):=by
 obtain⟨W,hW⟩:∃W,W=w.alloc (.cells #[.int .i64 n,.slice ao es.length cap] 24):=⟨_,rfl⟩;have hB0:Below w.heap.size w W:=by rw[hW];exact(aae _ _).alloc (aad _) _
 have g1:W.heap[w.heap.size]? =some (.cells #[.int .i64 n,.slice ao es.length cap] 24 (0,0)):=by rw[hW];exact heap_alloc_new w _
 have ko:=ζ (qT n ao cap es W (he.later hB0) hl);unfold cH at ko;have fo:=ζ hB0;have HW:=ζ hW;obtain⟨q0,q1,-⟩:=aj g1;rw[hW] at q0 q1;clear he hB0 g1 hW;go_enter func10,ntmps10;go_wp2_with (go_at_call 13;rw[<-HW.out];refine ko.out.mono ?_;refine abQ ?_);refine ζ ?_;rintro e w1 ⟨gD,hb1⟩;have aY:=ζ (fo.out.trans (hb1.mono fo.out.size));clear q0 q1;rcases gD with ⟨m,p,rfl,hval,rfl,aV⟩|⟨hv,rfl⟩
 .have HV:=ζ hval
  have Mv:=ζ (xP p m es w1 (.inr ⟨_,p,rfl,hval,aV⟩) hval);have hs:=aY.out.size;clear aV hb1;go_wp2_with (go_at_call 17;refine Mv.out.mono ?_;refine abQ ?_);refine ζ ?_;rintro e w2 ⟨v,us,rfl,hr,hb2⟩;have HR:=ζ hr;have cj:=ζ (aY.out.trans (hb2.mono aY.out.size));clear hr hb2;go_wp2;go_ret2;exact⟨.inr ⟨HV.out,v,us,rfl,HR.out.lower (by omega)⟩,cj.out⟩
 .have HV:=ζ hv
  clear hv hb1;go_wp2;go_ret2;exact⟨.inl ⟨HV.out,rfl⟩,aY.out⟩
namespace Ku
def bJ (es:List (Int×Int)):Nat->List Nat
 |0=>[]
 |k+1=>if dg es k≠0/\dg es k≠2 then bJ es k++[k] else bJ es k
theorem ED {es:List (Int×Int)} {k:Nat} (h:dg es k≠0/\dg es k≠2):bJ es (k+1)=bJ es k++[k]:=if_pos h
theorem Jg {es:List (Int×Int)} {k:Nat} (h:¬(dg es k≠0/\dg es k≠2)):bJ es (k+1)=bJ es k:=if_neg h
theorem Bc (es:List (Int×Int)) (k:Nat):(bJ es k).length<=k:=by
 induction k with
 |zero=>simp[bJ]
 |succ k ih=>
  unfold bJ
  split
  .simp;omega
  .omega
def ajQ (es:List (Int×Int)) (n:Nat) (w:World) (e:Ending) (w':World):Prop:=∃v,e= .returned v/\aH w' w.heap.size v (ZL (bJ es n))/\Below w.heap.size w w'
end Ku
theorem Bj (p n:Nat) (es:List (Int×Int)) (w:World) (hA:bK w (.pointer (some ⟨p,0,none⟩)) n es) (hv:Si.Val (n:Int) es):
 Calls prog 14 #[.pointer (some ⟨p,0,none⟩)] w (Ku.ajQ es n w):=by
 have hn:n<=1048576:=by have:=hv.hi;omega
 have HN:=ζ (mE _ n es w hA);have HD:Hid (∀(v:Nat) (U:World),v<n->Below w.heap.size w U->Calls prog 25 #[.pointer (some ⟨p,0,none⟩),.int .i64 (v:Int)] U fun e w'=>e= .returned (.int .i64 (Ku.dg es v:Int))/\w'=U):=fun v U hv' hU=>by
  have:=pO _ n es (v:Int) U (hA.later hU);rw[Ku.Cm hv'] at this;exact this
 clear hA hv;go_enter func14,ntmps14;go_wp2_with (go_at_call 24;refine HN.out.mono ?_;rintro e w1 ⟨rfl,hw1⟩;obtain rfl:=hw1.symm;refine abQ ?_);refine ζ ?_;go_wp2;go_loopw [3,8] (fun v cv wr=>∃k:Nat,k<=n/\cv= .int .i64 (k:Int)/\aH wr w.heap.size v (Ku.ZL (Ku.bJ es k))/\Below w.heap.size w wr) (fun _ cv _=>n-(intOf cv).toNat)
 case atStart=>exact⟨0,ab6 _,rfl,aH.nil _ _,aae _ _⟩
 case round=>
  obtain⟨k,hk,rfl,hown,hb⟩:=hrel;obtain⟨U,rfl⟩:∃U,U=wr:=⟨wr,rfl⟩;have jm:=ζ hown;have HB:=ζ hb;have hs0:=hb.size;have hwk:IntKind.i64.wrap ((k:Int)+1)=(k:Int)+1:=by rw[acf];omega
  by_cases hlt:k<n
  .have kR:(k:Int)<(n:Int):=by omega
   have Tx:=ζ (HD.out k U hlt hb);obtain⟨d,hd⟩:∃d,Ku.dg es k=d:=⟨_,rfl⟩;rw[hd] at Tx;have Pn:=ζ hd;clear hown hb hd;go_wp2_with (go_at_call 25;refine Tx.out.mono ?_;rintro e w1 ⟨rfl,hw1⟩;obtain rfl:=hw1.symm;refine abQ ?_);refine ζ ?_;by_cases hc:d≠0/\d≠2
   .have t1:((d:Int) != 0)=true:=by simp;omega
    have t2:((d:Int) != 2)=true:=by simp;omega
    have kD:Hid (Ku.ZL (Ku.bJ es (k+1))=Ku.ZL (Ku.bJ es k)++[(k:Int)]):=by
     refine ζ ?_;rw[Ku.ED (by rw[Pn.out];exact hc)];simp[Ku.ZL]
    have eO:(Ku.ZL (Ku.bJ es k)).length<=17592186044000:=by
     rw[Ku.fC];have:=Ku.Bc es k;omega
    clear hc;go_wp2_with (at_builtin;refine kE rfl _ _ rfl _ w.heap.size _ _ (k:Int) jm.out hs0 eO rfl rfl ?_;refine abQ ?_);refine ζ ?_;intro v' w3 hrow3 _ _ hb3;have HR:=ζ hrow3;have cz:=ζ (HB.out.trans hb3);clear hrow3 hb3;go_wp2;go_roundw
    case rel=>exact⟨k+1,by omega,by go_num,by rw[kD.out];exact HR.out,cz.out⟩
    case measure=>simp[intOf];omega
   .have kD:Hid (Ku.ZL (Ku.bJ es (k+1))=Ku.ZL (Ku.bJ es k)):=by
     refine ζ ?_;rw[Ku.Jg (by rw[Pn.out];exact hc)]
    by_cases h0:d=0
    .have t1:((d:Int) != 0)=false:=by simp[h0]
     clear hc h0;go_wp2;go_roundw
     case rel=>exact⟨k+1,by omega,by go_num,by rw[kD.out];exact jm.out,HB.out⟩
     case measure=>simp[intOf];omega
    .have t1:((d:Int) != 0)=true:=by simp;omega
     have t2:((d:Int) != 2)=false:=by simp;omega
     clear hc h0;go_wp2;go_roundw
     case rel=>exact⟨k+1,by omega,by go_num,by rw[kD.out];exact jm.out,HB.out⟩
     case measure=>simp[intOf];omega
  .have hd:¬((k:Int)<(n:Int)):=by omega
   obtain rfl:k=n:=by omega
   clear hown hb;go_wp2;go_ret;exact⟨_,rfl,jm.out,HB.out⟩
theorem MG (p n:Nat) (es:List (Int×Int)) (la:Option Addr) (q lc d:Nat) (L:List Nat) (w:World) (hA:bK w (.pointer (some ⟨p,0,none⟩)) n es) (hq:L.length=q) (hL:bV w la (Ku.ZL L)) (hb:∀v∈L,v<n) (hl:q<=17592186044000) (r:Bool) (hr:r=true↔∀v∈L,Ku.dg es v=d):
 Calls prog 15 #[.pointer (some ⟨p,0,none⟩),.slice la q lc,.int .i64 (d:Int)] w fun e w'=>e= .returned (.bool r)/\Below w.heap.size w w':=by
 have HD:Hid (∀(v:Nat) (U:World),v<n->Below w.heap.size w U->Calls prog 25 #[.pointer (some ⟨p,0,none⟩),.int .i64 (v:Int)] U fun e w'=>e= .returned (.int .i64 (Ku.dg es v:Int))/\w'=U):=fun v U hv' hU=>by
  have:=pO _ n es (v:Int) U (hA.later hU);rw[Ku.Cm hv'] at this;exact this
 have HL:=ζ hL;have Pj:=ζ hb;have HR:=ζ hr;have HQ:=ζ hq;clear hA hL hb hr hq;go_enter func15,ntmps15;go_wp2;go_loopw [11] (fun cv wr=>∃k:Nat,k<=q/\cv= .int .i64 (k:Int)/\(∀(i v:Nat),i<k->L[i]? =some v->Ku.dg es v=d)/\wr=w) (fun cv _=>q-(intOf cv).toNat)
 case atStart=>exact⟨0,ab6 _,rfl,fun i v hi=>by omega,rfl⟩
 case round=>
  obtain⟨k,hk,rfl,hall,hwr⟩:=hrel;obtain rfl:=hwr.symm;have q9:=ζ hall;have hwk:IntKind.i64.wrap ((k:Int)+1)=(k:Int)+1:=by rw[acf];omega
  clear hwr hall;by_cases hlt:k<q
  .have kR:(k:Int)<(q:Int):=by omega
   have hk0:(0:Int)<=(k:Int):=by omega
   obtain⟨v,hv⟩:∃v,L[k]? =some v:=⟨_,aac (by rw[HQ.out];exact hlt)⟩;have hvz:(Ku.ZL L)[k]? =some (v:Int):=by rw[Ku.Jk,hv];rfl
   obtain⟨b,o,rfl,d0⟩:=HL.out k _ hvz;have Tx:=ζ (HD.out v w (Pj.out v (aah hv)) (aae _ _));obtain⟨dv,hd⟩:∃dv,Ku.dg es v=dv:=⟨_,rfl⟩;rw[hd] at Tx;have Pn:=ζ hd;have HV:=ζ hv;clear hv hvz hd;by_cases hc:dv=d
   .have t1:((dv:Int) != (d:Int))=false:=by simp[hc]
    have HN:Hid (∀(i v:Nat),i<k+1->L[i]? =some v->Ku.dg es v=d):=fun i v' hi hv'=>by
     by_cases e:i=k
     .subst e
      rw[HV.out] at hv';cases hv';rw[Pn.out];exact hc
     .exact q9.out i v' (by omega) hv'
    clear hc;go_wp2_with (go_at_call 25;refine Tx.out.mono ?_;rintro e w1 ⟨rfl,hw1⟩;obtain rfl:=hw1.symm;refine abQ ?_);refine ζ ?_;go_wp2;go_roundw
    case rel=>exact⟨k+1,by omega,by go_num,HN.out,by first|rfl|trivial⟩
    case measure=>simp[intOf];omega
   .have t1:((dv:Int) != (d:Int))=true:=by simp;omega
    have HF:Hid (r=false):=by
     refine ζ ?_;cases hr:r with
     |false=>rfl
     |true=>exact absurd (by rw[<-Pn.out];exact HR.out.1 hr v (aah HV.out)) hc
    clear hc;go_wp2_with (go_at_call 25;refine Tx.out.mono ?_;rintro e w1 ⟨rfl,hw1⟩;obtain rfl:=hw1.symm;refine abQ ?_);refine ζ ?_;go_wp2;go_ret;exact⟨by rw[HF.out];rfl,aae _ _⟩
  .have hd:¬((k:Int)<(q:Int)):=by omega
   have HF:Hid (r=true):=HR.out.2 fun v hv=>by
    obtain⟨i,hi⟩:=ac5 hv;exact q9.out i v (by have:=(aaf.1 hi).1;rw[HQ.out] at this;omega) hi
   go_wp2;go_ret;exact⟨by rw[HF.out];rfl,aae _ _⟩
end
section
open Go.Proofs.Tryz
open Go.RowKit Go.Sort Go.Maps
theorem Sg:laidOutB prog=true:=by kernel_rfl
theorem J3:(69:TypeId)<prog.types.size:=of_decide_eq_true (by kernel_rfl)
theorem Q9:(match prog.underlying 69 with|some (.array _ _)|some (.struct _)=>true|_=>false)=true:=by kernel_rfl
theorem NM:prog.keyTypeAt 2 69=true:=by kernel_rfl
theorem DC:Keyed prog 69:=Keyed.of_law (deep_law_laid Sg (m:=2) (by omega) J3 NM Q9)
theorem Iw:prog.keyType 69=true:=by kernel_rfl
theorem EA:prog.cellsOf 69=2:=by kernel_rfl
theorem Nk {a b:Nat} (h:a<b):∃m,b=m+1:=⟨b-1,by omega⟩
theorem MO:∃m,prog.types.size=m+1:=Nk J3
theorem MA (w:World):(zeroValue 3).run prog w= .ok (.int .i64 0) w:=by kernel_rfl
def qw (e:Int×Int):Value:= .agg #[.int .i64 e.1,.int .i64 e.2]
def qF (e:Int×Int):Lit:= .string (keyBytes [.int .i64 e.1,.int .i64 e.2])
theorem keyOf_pair {e:Int×Int} (h:jl e):keyOf prog 69 (qw e)=some (qF e):=by
 obtain⟨m,hm⟩:=MO;have w1:=TI h.1;have w2:=TI h.2;unfold keyOf qw qF;simp only[Tryz.underlying69];rw[if_pos (by simp[Iw,Value.formed,Tryz.underlying69,EA]),hm];unfold Program.keyLits;simp only[Tryz.underlying69,Value.cells];rw[if_pos (by rw[EA];rfl),show List.range 2=[0,1] from rfl];simp[xA,Program.keyLits,Tryz.underlying3,w1,w2]
theorem AY (e:Int×Int):WideAt.IsKeyLit (qF e):=by unfold qF;trivial
theorem Sj {a b:Int×Int} (ha:jl a) (hb:jl b) (h:qF a=qF b):a=b:=by
 have h1:=keyOf_pair ha;have h2:=keyOf_pair hb;rw[<-h] at h2;have:=DC.inj h1 h2;unfold qw at this;simp at this;exact Prod.ext this.1 this.2
namespace Ku
def OM (w:World) (b n:Nat) (f:Int×Int->Option Nat):Prop:=∃D:DataW Unit,w.ownsMap prog 69 (plainElem prog 3) b n D/\∀p,jl p->Maps.has D (qF p)=(f p).isSome/\D.atKey (qF p) (.lit (.int .i64 0))= .lit (.int .i64 (((f p).getD 0:Nat):Int))
def MN (f:Int×Int->Option Nat) (p:Int×Int) (i:Nat):Int×Int->Option Nat:=fun q=>if q=p then some i else f q
section
variable {w w':World} {b n:Nat} {f:Int×Int->Option Nat}
theorem OM.kept (h:OM w b n f) (hb:w'.heap[b]? =w.heap[b]?):OM w' b n f:=by
 obtain⟨D,⟨es,clock,h1,h2⟩,h3⟩:=h;exact⟨D,⟨es,clock,hb.trans h1,h2⟩,h3⟩
theorem OM.lt (h:OM w b n f):b<w.heap.size:=by
 obtain⟨D,h1,_⟩:=h;exact h1.lt
theorem OM.later (h:OM w b n f) (hb:Below w.heap.size w w'):OM w' b n f:=h.kept (hb.block b h.lt)
theorem OM.new (w:World):OM (w.alloc (.map #[] 0)) w.heap.size 0 (fun _=>none):=⟨.map [],World.ownsMap_made _ _ _ _,fun p _=>⟨by simp[Maps.has],rfl⟩⟩
theorem OM.Uy (h:OM w b n f) {p:Int×Int} (hp:jl p):(Instr.lookup 52 (.map (some b)) (qw p) true).run prog w= .ok (.tuple #[.int .i64 (((f p).getD 0:Nat):Int),.bool (f p).isSome]) w:=by
 obtain⟨D,hD,hf⟩:=h;obtain⟨v,ps,hrun,hv⟩:=hD.look_ok (t:=52) DC Tryz.underlying52 (MA w) (plainElem_int Tryz.underlying3 (by decide)) (keyOf_pair hp);obtain⟨c,rfl,hc,_⟩:=plainElem_int_inv Tryz.underlying3 hv;obtain⟨h1,h2⟩:=hf p hp;rw[h1] at hrun;have:=congrArg Prod.fst hc;dsimp only at this;rw[h2] at this;cases this;exact hrun
theorem OM.look (h:OM w b n f) {p:Int×Int} (hp:jl p):∃c:Int,(Instr.lookup 52 (.map (some b)) (qw p) true).run prog w= .ok (.tuple #[.int .i64 c,.bool (f p).isSome]) w/\∀i:Nat,f p=some i->c=(i:Int):=⟨_,h.Uy hp,fun i hi=>by rw[hi];rfl⟩
theorem OM.put {D:DataW Unit} (hf:∀p,jl p->Maps.has D (qF p)=(f p).isSome/\D.atKey (qF p) (.lit (.int .i64 0))= .lit (.int .i64 (((f p).getD 0:Nat):Int))) (hD:IsMap D) {p:Int×Int} (hp:jl p) (i:Nat) (h:w'.ownsMap prog 69 (plainElem prog 3) b (n+1) (D.put (qF p) (.lit (.int .i64 (i:Int))))):OM w' b (n+1) (MN f p i):=by
 refine⟨_,h,fun q hq=> ?_⟩;unfold MN;by_cases e:q=p
 .subst e
  rw[if_pos rfl,has_put_same hD (AY q),atKey_put_same hD (AY q)];exact⟨rfl,rfl⟩
 .have hk:qF q≠qF p:=fun h=>e (Sj hq hp h)
  rw[if_neg e,has_put_other hk,atKey_put_other hk];exact hf q hq
end
def ends (l:List Int):Int×Int:=(gI l 0,gI l (l.length-1))
def opn (R:List (List Int)):Nat->Int×Int->Option Nat
 |0=>fun _=>none
 |k+1=>if (ends (R.getD k [])).1≠(ends (R.getD k [])).2 then MN (opn R k) (ends (R.getD k [])) k else opn R k
theorem Kg {R:List (List Int)} {k:Nat} {l:List Int} (hl:R[k]? =some l) (h:(ends l).1≠(ends l).2):opn R (k+1)=MN (opn R k) (ends l) k:=by
 have e:R.getD k []=l:=by rw[aag,hl];rfl
 simp only[opn];rw[e,if_pos h]
theorem PY {R:List (List Int)} {k:Nat} {l:List Int} (hl:R[k]? =some l) (h:(ends l).1=(ends l).2):opn R (k+1)=opn R k:=by
 have e:R.getD k []=l:=by rw[aag,hl];rfl
 simp only[opn];rw[e,if_neg (by simpa using h)]
theorem qz {R:List (List Int)} {p:Int×Int} {i:Nat}:∀{k:Nat},k<=R.length->opn R k p=some i->i<k/\∃l,R[i]? =some l/\ends l=p/\p.1≠p.2
 |0,_,h=>by cases h
 |k+1,hk,h=>by
  obtain⟨l,hl⟩:∃l,R[k]? =some l:=⟨_,aac (by omega)⟩;by_cases he:(ends l).1=(ends l).2
  .rw[PY hl he] at h
   obtain⟨h1,h2⟩:=qz (by omega) h;exact⟨by omega,h2⟩
  .rw[Kg hl he] at h
   unfold MN at h
   split at h
   .rename_i e
    cases h;exact⟨by omega,l,hl,e.symm,by rw[e];exact he⟩
   .obtain⟨h1,h2⟩:=qz (by omega) h
    exact⟨by omega,h2⟩
def aef (R:List (List Int)) (cv:Value) (w:World) (e:Ending) (w':World):Prop:=∃b,e= .returned (.agg #[cv,.map (some b)])/\w.heap.size<=b/\OM w' b R.length (opn R R.length)/\Below w.heap.size w w'
end Ku
end
section
open Go.Proofs.Tryz
open Go.RowKit Go.Sort Go.Maps
namespace Ku
def Small (R:List (List Int)):Prop:=R.length<=4194304/\∀l∈R,2<=l.length/\l.length<=17592186044000/\∀x∈l,0<=x/\x<1048576
theorem OM.mono {w:World} {b n n':Nat} {f:Int×Int->Option Nat} (h:OM w b n f) (hn:n<=n'):OM w b n' f:=by
 obtain⟨D,h1,h2⟩:=h;exact⟨D,h1.mono hn,h2⟩
theorem Small.ends {R:List (List Int)} (h:Small R) {l:List Int} (hl:l∈R):jl (ends l):=by
 obtain⟨h1,_,h3⟩:=h.2 l hl;have key:∀i,i<l.length->0<=gI l i/\gI l i<1048576:=fun i hi=>by
  obtain⟨x,hx⟩:∃x,l[i]? =some x:=⟨_,aac hi⟩;rw[eY hx];exact h3 x (aah hx)
 have a:=key 0 (by omega);have b:=key (l.length-1) (by omega);unfold jl Ku.ends;dsimp only;omega
end Ku
theorem Hy {fn:Func} {P:Program} {p:Tmp} (h:fn.results= #[.cell p 54]) (hP:P=prog) (tmps:Array Value) (w:World) (b:Nat) (x y:Value) (hp:tmps.getD p undef= .pointer (some ⟨b,0,none⟩)) (h0:w.cell? ⟨b,0,none⟩=some x) (h1:w.cell? ⟨b,1,none⟩=some y):(results fn tmps).run P w= .ok (.agg #[x,y]) w:=by
 subst hP;have hp':tmps[p]?.getD undef= .pointer (some ⟨b,0,none⟩):=by simpa using hp
 simp[results,h,go_sem,hp',h0,h1]
theorem CW {w:World} {b:Nat} {s t:Value} (hs:w.cell? ⟨b,0,none⟩=some s) (ht:w.cell? ⟨b,1,none⟩=some t) (x y:Value):((w.setCell ⟨b,0,none⟩ x).setCell ⟨b,1,none⟩ y).cell? ⟨b,0,none⟩=some x/\((w.setCell ⟨b,0,none⟩ x).setCell ⟨b,1,none⟩ y).cell? ⟨b,1,none⟩=some y:=by
 refine⟨?_,?_⟩<;>simp[go_sem,hs,ht]
theorem Cy (ca:Option Addr) (J cc:Nat) (R:List (List Int)) (w:World) (hJ:R.length=J) (hR:Ku.ni w (.slice ca J cc) R) (hS:Ku.Small R):
 Calls prog 16 #[.slice ca J cc] w (Ku.aef R (.slice ca J cc) w):=by
 obtain⟨W0,hW0⟩:∃W0,W0=w.alloc (.cells #[.slice none 0 0,.map none] 54):=⟨_,rfl⟩;obtain⟨W1,hW1⟩:∃W1,W1=W0.alloc (.map #[] 0):=⟨_,rfl⟩;obtain⟨W,hW⟩:∃W,W=W1.alloc (.cells #[.slice ca J cc,.map (some (w.heap.size+1))] 54):=⟨_,rfl⟩;have hs0:W0.heap.size=w.heap.size+1:=by rw[hW0];simp
 have hs1:W1.heap.size=w.heap.size+2:=by rw[hW1];simp[hs0]
 have hB0:Below w.heap.size w W0:=by rw[hW0];exact(aae _ _).alloc (aad _) _
 have hB1:Below W0.heap.size W0 W1:=by rw[hW1];exact(aae _ _).alloc (aad _) _
 have hB2:Below W1.heap.size W1 W:=by rw[hW];exact(aae _ _).alloc (aad _) _
 have jE:Below w.heap.size w W:=(hB0.trans (hB1.mono hB0.size)).trans (hB2.mono (by omega));have g0:W.heap[w.heap.size]? =some (.cells #[.slice none 0 0,.map none] 54 (0,0)):=by
  rw[hB2.block _ (by omega),hB1.block _ (by omega),hW0];exact heap_alloc_new w _
 have g2:W.heap[w.heap.size+1+1]? =some (.cells #[.slice ca J cc,.map (some (w.heap.size+1))] 54 (0,0)):=by rw[hW,show w.heap.size+1+1=W1.heap.size by omega];exact heap_alloc_new W1 _
 have oy:Ku.OM W (w.heap.size+1) 0 (fun _=>none):=by
  have:Ku.OM W1 (w.heap.size+1) 0 (fun _=>none):=by rw[hW1,<-hs0];exact Ku.OM.new W0
  exact this.later hB2
 have Zm:w.heap.size+1+1<W.heap.size:=lt_of_block g2;have HW:Hid (W=((w.alloc (.cells #[.slice none 0 0,.map none] 54)).alloc (.map #[] 0)).alloc (.cells #[.slice ca J cc,.map (some (w.heap.size+1))] 54)):=by rw[hW,hW1,hW0];exact ζ rfl
 have aiH:Hid (∀U:World,az (fun k=>k=w.heap.size+1) W U->Ku.ni U (.slice ca J cc) R):=fun U hU=>hR.later (jE.trans (hU.below (by omega) (fun k hk=>by omega)))
 have HB:Hid (∀U:World,az (fun k=>k=w.heap.size+1) W U->Below w.heap.size w U):=fun U hU=>jE.trans (hU.below (by omega) (fun k hk=>by omega))
 have Mt:Hid (∀U:World,az (fun k=>k=w.heap.size+1) W U->U.heap[w.heap.size]? =some (.cells #[.slice none 0 0,.map none] 54 (0,0))):=fun U hU=>(hU.block _ (by omega) (by omega)).trans g0
 have jG:Hid (∀U:World,az (fun k=>k=w.heap.size+1) W U->U.heap[w.heap.size+1+1]? =some (.cells #[.slice ca J cc,.map (some (w.heap.size+1))] 54 (0,0))):=fun U hU=>(hU.block _ (by omega) (by omega)).trans g2
 have HOM:=ζ oy;have HJ:=ζ hJ;have hJl:J<=4194304:=by rw[<-hJ];exact hS.1
 have HS:=ζ hS;have hmm:= @run_makeMap prog;clear hW hW1 hW0 hs0 hs1 hB0 hB1 hB2 jE g0 g2 oy hR hJ hS;go_enter func16,ntmps16;go_wp2_with fail;rw[<-HW.out];clear hmm;go_loopw [12] (fun cv wr=>∃k:Nat,k<=J/\cv= .int .i64 (k:Int)/\Ku.OM wr (w.heap.size+1) k (Ku.opn R k)/\az (fun k=>k=w.heap.size+1) W wr) (fun cv _=>J-(intOf cv).toNat)
 case atStart=>exact⟨0,ab6 _,rfl,HOM.out,az.refl _ _⟩
 case round=>
  obtain⟨k,hk,rfl,oy,hwr⟩:=hrel;obtain⟨U,rfl⟩:∃U,U=wr:=⟨wr,rfl⟩;have HO:=ζ oy;have lD:=ζ hwr;have hwk:IntKind.i64.wrap ((k:Int)+1)=(k:Int)+1:=by rw[acf];omega
  by_cases hlt:k<J
  .have kR:(k:Int)<(J:Int):=by omega
   have hk0:(0:Int)<=(k:Int):=by omega
   obtain⟨l,hl⟩:∃l,R[k]? =some l:=⟨_,aac (by rw[HJ.out];exact hlt)⟩;obtain⟨ca',cc',hce,hrd⟩:=aiH.out U hwr;rw[HJ.out] at hce;cases hce;obtain⟨gb,go',x,rfl,cx,xa,xc,rfl,hat⟩:=hrd k l hl;obtain⟨q,hq⟩:∃q,l.length=q:=⟨_,rfl⟩;rw[hq] at cx;obtain⟨BC,KU,-⟩:=HS.out.2 l (aah hl);rw[hq] at BC KU;obtain⟨q1,zW⟩:∃q1,q1=q-1:=⟨_,rfl⟩;obtain⟨x0,hx0⟩:∃x,l[0]? =some x:=⟨_,aac (by omega)⟩;obtain⟨xn,o7⟩:∃x,l[q1]? =some x:=⟨_,aac (by omega)⟩;obtain⟨b,o,rfl,e0⟩:=hat 0 x0 hx0;obtain⟨_,_,e,e1⟩:=hat q1 xn o7;cases e;rw[ado] at e0;have hw1:IntKind.i64.wrap ((q:Int)-1)=(q1:Int):=by rw[acf];omega
   have i0:(0:Int)<(q:Int):=by omega
   have i2:(0:Int)<=(q1:Int):=by omega
   have i3:(q1:Int)<(q:Int):=by omega
   have cG:Ku.ends l=(x0,xn):=by
    unfold Ku.ends;rw[Ku.eY hx0,hq,<-zW,Ku.eY o7]
   have hin:jl (x0,xn):=by rw[<-cG];exact HS.out.ends (aah hl)
   have HKY:=ζ (keyOf_pair hin);unfold qw at HKY;dsimp only at HKY;obtain⟨c0,c1,-⟩:=aj (jG.out U hwr);have Xt:Hid (x0≠xn->Ku.opn R (k+1)=Ku.MN (Ku.opn R k) (x0,xn) k):=fun h=>by
    have:=Ku.Kg hl (by rw[cG];exact h);rw[cG] at this;exact this
   have lg:Hid (x0=xn->Ku.opn R (k+1)=Ku.opn R k):=fun h=>Ku.PY hl (by rw[cG];exact h)
   have qY:=ζ hin;clear oy hwr hl hrd hat hx0 o7 hq zW cG hin;have VL:b<U.heap.size:=block_lt_of_cell e0;have yD:b≠U.heap.size:=by omega
   go_wp2_with fail;go_big_region;obtain⟨V,hV⟩:∃V,V=(U.alloc (.cells #[.int .i64 x0,.int .i64 xn] 69)).drew:=⟨_,rfl⟩;rw[<-hV];have xj:Below U.heap.size U V:=by rw[hV];exact((aae _ _).alloc (aad _) _).drew
   have gV:V.heap[U.heap.size]? =some (.cells #[.int .i64 x0,.int .i64 xn] 69 (0,0)):=by rw[hV];exact heap_alloc_new U _
   have KQ:=lD.out.later xj;have Jp:=ζ KQ;have Tk:=ζ (HO.out.later xj);clear c0 c1;obtain⟨c0,c1,-⟩:=aj (jG.out V KQ);obtain⟨v0,v1,-⟩:=aj gV;clear hV xj gV KQ e0 e1 cx VL yD;by_cases hx:x0=xn
   .have t1:(x0 != xn)=false:=by simp[hx]
    have HN:=ζ (lg.out hx);clear hx;go_wp2;go_roundw
    case rel=>exact⟨k+1,by omega,by go_num,by rw[HN.out];exact Tk.out.mono (by omega),Jp.out⟩
    case measure=>simp[intOf];omega
   .have t1:(x0 != xn)=true:=by simp[hx]
    have HN:=ζ (Xt.out hx);obtain⟨D,hD,hf⟩:=Tk.out;have HD:=ζ hD;have HF:=ζ hf;clear hx hD hf;go_wp2_with (at_mapUpdate;refine wpList_mapUpdate_in _ rfl _ _ _ 52 rfl 69 3 DC Tryz.underlying52 (plainElem prog 3) (w.heap.size+1) k D rfl HD.out (by unfold maxLen;omega) _ _ _ rfl rfl HKY.out (.lit (.int .i64 (k:Int))) [] (plainElem_int Tryz.underlying3 (TI (by omega))) ?_;refine abQ ?_);refine ζ ?_;intro w3 Vf Qm;have aiS:Hid (Ku.OM w3 (w.heap.size+1) (k+1) (Ku.opn R (k+1))):=by
     rw[HN.out];exact Ku.OM.put HF.out HD.out.isMap qY.out k Vf
    have hg3:=Qm.grown;have qX:Hid (az (fun k=>k=w.heap.size+1) W w3):=Jp.out.trans ⟨hg3.os,hg3.tape,hg3.output,hg3.size,fun j hj hne=>hg3.block j hj (fun e=>hne (aal e))⟩;clear Vf Qm hg3;go_wp2;go_roundw
    case rel=>exact⟨k+1,by omega,by go_num,aiS.out,qX.out⟩
    case measure=>simp[intOf];omega
  .have hd:¬((k:Int)<(J:Int)):=by omega
   obtain rfl:k=J:=by omega
   obtain⟨c0,c1,-⟩:=aj (jG.out U hwr);obtain⟨v0,v1,vf⟩:=aj (Mt.out U hwr);have hv0:=vf 0;have td:=vf 1;have hne:w.heap.size≠w.heap.size+1+1:=by omega
   clear oy hwr vf;have HF0:Hid (Ku.OM ((U.setCell ⟨w.heap.size,0,none⟩ (.slice ca k cc)).setCell ⟨w.heap.size,1,none⟩ (.map (some (w.heap.size+1)))) (w.heap.size+1) k (Ku.opn R k)):=HO.out.kept (by rw[heap_setCell_other _ ⟨w.heap.size,1,none⟩ _ _ (by simp),heap_setCell_other _ ⟨w.heap.size,0,none⟩ _ _ (by simp)]);have qi:Hid (Below w.heap.size w ((U.setCell ⟨w.heap.size,0,none⟩ (.slice ca k cc)).setCell ⟨w.heap.size,1,none⟩ (.map (some (w.heap.size+1))))):=((HB.out U lD.out).setCell (p:=⟨w.heap.size,0,none⟩) (aad _) _).setCell (p:=⟨w.heap.size,1,none⟩) (aad _) _;go_wp2;refine bodyPost_ret (Hy rfl rfl _ _ w.heap.size _ _ rfl (CW v0 v1 _ _).1 (CW v0 v1 _ _).2) rfl ?_;refine⟨w.heap.size+1,rfl,by omega,?_,qi.out⟩;rw[HJ.out];exact HF0.out
end
end Go.Proofs.YtbhdibflpjhpaaaGreat
