import Derived.Test.YtdbjpbjocmcpkaaGreatDoorMg22
import Derived.Maps.RangeWalk
import Derived.Maps.OwnOps
set_option maxHeartbeats 4000000
set_option maxRecDepth 100000
namespace Go.Proofs.YtdbjpbjocmcpkaaGreatDoor
section
open Go.Proofs.Tryz
open Go.RowKit Go.Maps
def fB (v:Value):Option (DataW Unit×List MemPlace):=
 match v with
 | .agg cs=>
   match cs.toList with
   |[.int .i64 a,.int .i64 b,.int .i64 c]=>some (.agg [.lit (.int .i64 a),.lit (.int .i64 b),.lit (.int .i64 c)],[])
   |_=>none
 |_=>none
theorem yY (a b c:Int):fB (.agg #[.int .i64 a,.int .i64 b,.int .i64 c])=some (.agg [.lit (.int .i64 a),.lit (.int .i64 b),.lit (.int .i64 c)],[]):=rfl
theorem oY {v:Value} {y:DataW Unit×List MemPlace} (h:fB v=some y):∃a b c:Int,v= .agg #[.int .i64 a,.int .i64 b,.int .i64 c]/\y=(.agg [.lit (.int .i64 a),.lit (.int .i64 b),.lit (.int .i64 c)],[]):=by
 unfold fB at h
 split at h
 .rename_i cs
  split at h
  .rename_i a b c e
   refine⟨a,b,c,?_,(aaG h).symm⟩;obtain⟨l⟩:=cs;simp only at e;rw[e]
  .cases h
 .cases h
theorem Ny:Keyed prog 3:=int_keyed Tryz.underlying3
theorem Qr (w:World):(zeroValue 315).run prog w= .ok (.agg #[.int .i64 0,.int .i64 0,.int .i64 0]) w:=by kernel_rfl
def cD (a b c:Nat):DataW Unit:= .agg [.lit (.int .i64 (a:Int)),.lit (.int .i64 (b:Int)),.lit (.int .i64 (c:Int))]
def kJ (j:Nat):Lit:= .int .i64 (j:Int)
theorem Gf {i j:Nat} (h:kJ i=kJ j):i=j:=by
 unfold kJ at h;injection h with _ h
 omega
structure PMD (w:World) (b n:Nat) (hs:Nat->Bool) (x y z:Nat->Nat) (D:DataW Unit):Prop where
 own:w.ownsMap prog 3 fB b n D
 at_:∀j,D.atKey (kJ j) (cD 0 0 0)=cD (x j) (y j) (z j)
 has:∀kl,Maps.has D kl=true↔∃j,kl=kJ j/\hs j=true
def PM (w:World) (b n:Nat) (hs:Nat->Bool) (x y z:Nat->Nat):Prop:=∃D,PMD w b n hs x y z D
theorem PM.kept {w w':World} {b n:Nat} {hs:Nat->Bool} {x y z:Nat->Nat} (h:PM w b n hs x y z) (hb:w'.heap[b]? =w.heap[b]?):PM w' b n hs x y z:=by
 obtain⟨D,⟨es,clock,h1,h2⟩,h3,h4⟩:=h;exact⟨D,⟨es,clock,hb.trans h1,h2⟩,h3,h4⟩
theorem PM.lt {w:World} {b n:Nat} {hs:Nat->Bool} {x y z:Nat->Nat} (h:PM w b n hs x y z):b<w.heap.size:=by
 obtain⟨D,h1,_⟩:=h;exact h1.lt
theorem Ef {j:Nat} (h:j<=4611686018427387904):(Lit.int .i64 (j:Int)).wf=true:=by
 have e1:IntKind.i64.min= -9223372036854775808:=rfl;have e2:IntKind.i64.max=9223372036854775807:=rfl;simp only[Lit.wf,aa2,decide_eq_true_eq,e1,e2];omega
theorem Ge (j:Nat):WideAt.IsKeyLit (kJ j):=trivial
theorem wW {ops:Array Oper} {rest:List Oper} {o:Oper} {a:Act} {Q:Exit->Act->World->Prop} (hgd:o.guard=none) (m k v:Operand) (ho:o.op=Op.mapUpdate 311 m k v) (w W:World) (b n:Nat) (hs:Nat->Bool) (x y z:Nat->Nat) (h:PM w b n hs x y z) (hW:Below w.heap.size w W)
 (hn:n<=4611686018427387904) (j c1 c2 c3:Nat) (hj:j<=4611686018427387904) (hm:a.eval m= .map (some b)) (hk:a.eval k= .int .i64 (j:Int)) (hv:a.eval v= .agg #[.int .i64 (c1:Int),.int .i64 (c2:Int),.int .i64 (c3:Int)])
 (hK:∀w',PM w' b (n+1) (Co.bS hs j true) (Co.upd x j c1) (Co.upd y j c2) (Co.upd z j c3)->aq (fun k=>k=b) w w'->wpList prog ops Q rest (a.put o.dst undef) w'):wpList prog ops Q (o::rest) a W:=by
 have hlt:=h.lt;obtain⟨D,hD,hat,hhas⟩:=h;have hown:W.ownsMap prog 3 fB b n D:=by
  obtain⟨es,clock,h1,h2⟩:=hD;exact⟨es,clock,(hW.block b hlt).trans h1,h2⟩
 have hmap:=hown.isMap;refine wpList_mapUpdate_own W hgd m k v 311 ho 3 315 Ny Tryz.underlying311 fB b n D hm hown (by unfold maxLen;omega) _ _ (kJ j) hk hv (keyOf_int_mk Tryz.underlying3 (Ef hj)) _ [] (yY _ _ _) ?_;intro w' ho' hg';refine hK w' ⟨_,ho',fun i=> ?_,fun kl=> ?_⟩ ⟨hg'.os.trans hW.os,hg'.tape.trans hW.tape,hg'.output.trans hW.output,aaD hW.size hg'.size,fun i hi hne=>(hg'.block i (aa5 hi hW.size) (fun e=>hne (aaG e))).trans (hW.block i hi)⟩
 .by_cases e:i=j
  .subst e
   rw[atKey_put_same hmap (Ge i),Co.upd_same,Co.upd_same,Co.upd_same];rfl
  .rw[atKey_put_other (fun h=>e (Gf h)),Co.aV _ e,Co.aV _ e,Co.aV _ e]
   exact hat i
 .by_cases e:kl=kJ j
  .subst e
   rw[has_put_same hmap (Ge j)];exact⟨fun _=>⟨j,rfl,Co.eY _ _ _⟩,fun _=>rfl⟩
  .rw[has_put_other e,hhas]
   constructor
   .rintro⟨i,rfl,hi⟩
    exact⟨i,rfl,by rw[Co.dr _ (fun h=>e (by rw[h]))];exact hi⟩
   .rintro⟨i,rfl,hi⟩
    exact⟨i,rfl,by rwa[Co.dr _ (fun h=>e (by rw[h]))] at hi⟩
theorem CE (b n:Nat) (hs:Nat->Bool) (x y z:Nat->Nat) (j a1 a2 a3:Nat) (w:World) (h:PM w b n hs x y z) (hn:n<=4611686018427387904) (hj:j<=4611686018427387904) (h1:x j+a1<=4611686018427387904) (h2:y j+a2<=4611686018427387904) (h3:z j+a3<=4611686018427387904):
 Calls prog 259 #[.map (some b),.int .i64 (j:Int),.agg #[.int .i64 (a1:Int),.int .i64 (a2:Int),.int .i64 (a3:Int)]] w fun e w'=>e= .returned (.tuple #[])/\PM w' b (n+1) (Co.bS hs j true) (Co.upd x j (x j+a1)) (Co.upd y j (y j+a2)) (Co.upd z j (z j+a3))/\aq (fun k=>k=b) w w':=by
 have hlt:=h.lt;obtain⟨D,hD,hat,hhas⟩:=h;obtain⟨w1,hw1⟩:∃w1,w1=w.alloc (.cells #[.int .i64 (a1:Int),.int .i64 (a2:Int),.int .i64 (a3:Int)] 315):=⟨_,rfl⟩;have hown1:w1.ownsMap prog 3 fB b n D:=by rw[hw1];exact hD.alloc _
 have hkey:keyOf prog 3 (.int .i64 (j:Int))=some (kJ j):=keyOf_int_mk Tryz.underlying3 (Ef hj);obtain⟨v,ps,hrun,hv⟩:=hown1.lookup (t:=311) Ny Tryz.underlying311 (Qr w1) (yY 0 0 0) hkey;have e0:(DataW.agg [.lit (.int .i64 0),.lit (.int .i64 0),.lit (.int .i64 0)]:DataW Unit)=cD 0 0 0:=rfl;rw[e0,hat j] at hv;obtain⟨v1,v2,v3,rfl,bZ⟩:=oY hv;unfold cD at bZ;simp only[Prod.mk.injEq,DataW.agg.injEq,ac0,DataW.lit.injEq,Lit.int.injEq,true_and,and_true] at bZ;obtain⟨⟨k1,k2,k3⟩,-⟩:=bZ;subst k1 k2 k3;have q1:IntKind.i64.wrap ((x j:Int)+(a1:Int))=(x j:Int)+(a1:Int):=by rw[aam];omega
 have q2:IntKind.i64.wrap ((y j:Int)+(a2:Int))=(y j:Int)+(a2:Int):=by rw[aam];omega
 have q3:IntKind.i64.wrap ((z j:Int)+(a3:Int))=(z j:Int)+(a3:Int):=by rw[aam];omega
 rw[hw1] at hrun;have HP:Hid (PM w b n hs x y z):=⟨D,hD,hat,hhas⟩;clear hD hat hhas hv hw1 hown1 hkey e0;go_enter func259,ntmps259;go_wp2_with (at_mapUpdate;refine wW rfl _ _ _ rfl w _ b n hs x y z HP.out (by repeat (first|exact aae _ _|refine Below.setCell ?_ (by simp) _|refine ad6 ?_ (by first|(simp;done)|(simp;omega)) _)) hn j (x j+a1) (y j+a2) (z j+a3) hj rfl rfl rfl ?_;refine aaj ?_);refine ζ ?_;intro w' hp' hw';go_wp2
 go_end0
 exact⟨rfl,hp',hw'⟩
end
end Go.Proofs.YtdbjpbjocmcpkaaGreatDoor
