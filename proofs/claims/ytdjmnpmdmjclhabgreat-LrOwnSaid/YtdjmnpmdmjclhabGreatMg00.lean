import Derived.Below
import Derived.ChangeArms
import Derived.DataReads
import Derived.Deep.AppendLies
import Derived.Deep.QuietTactic
import Derived.Laws.AppendOwn
import Derived.Laws.Bits64
import Derived.Laws.BitsLemmas
import Derived.Laws.Sem
import Derived.Laws.World
import Derived.Lib.SliceRun
import Derived.RangeFuncBox
import Derived.RangeFuncCalls
import Derived.RangeFuncFrom
import Derived.RangeFuncRecord
import Derived.RangeFuncWrites
import Derived.SizedLaws
import Init
import Derived.Test.YtdjmnpmdmjclhabGreatProg
import Derived.WalkKit
import Derived.WalkSpells
import Derived.WalkLawsBesides
import Derived.Sort.Grow
import Derived.Deep.RegionHeld3
import Derived.Laws.AppendOwnNone
import Derived.Test.YtdjmnpmdmjclhabGreatRows
import Derived.ProofKit
import Derived.OpenShut
import Derived.Deep.DeepHandedRow
import Derived.Lib.LaidTab
namespace Go.Proofs.YtdjmnpmdmjclhabGreat
section
abbrev aac := @List.getElem?_eq_getElem
abbrev aad := @Nat.le_refl
abbrev aae := @Go.RowKit.Below.refl
abbrev aag := @List.mem_cons_self
abbrev aah := @List.mem_cons_of_mem
abbrev aai := @List.getD_eq_getElem?_getD
abbrev aaj := @List.mem_cons
abbrev aak := @Option.some.inj
abbrev aal := @List.mem_append
abbrev aam := @Array.getElem?_eq_some_iff
abbrev aao := @List.mem_singleton
abbrev aap := @Go.RowKit.Below.heap_alloc
abbrev aaq := @List.getElem?_set
abbrev aar := @List.length_cons
abbrev aas := @List.getElem?_eq_some_iff
abbrev aat := @List.getElem?_eq_none
abbrev aau := @Bool.false_eq_true
abbrev aax := @Nat.zero_le
abbrev aay := @List.getElem?_map
abbrev aaz := @List.mem_append_right
abbrev aaA := @List.length_append
abbrev aaB := @Go.RowKit.Hid.out
abbrev aaE := @List.nil_append
abbrev aaF := @Int.toNat_natCast
abbrev aaG := @List.mem_of_getElem?
abbrev aaH := @List.append_assoc
abbrev aaI := @List.getElem?_replicate
abbrev aaJ := @List.all_eq_true
abbrev aaM := @Go.World.size_alloc
abbrev aaN := @List.mem_append_left
abbrev aaO := @List.mem_range
abbrev aaP := @Bool.and_eq_true
abbrev aaR := @Ne.symm
abbrev aaS := @List.length_nil
abbrev aaT := @List.length_set
abbrev aaX := @List.getElem_mem
abbrev aaZ := @Int.tdiv_eq_ediv_of_nonneg
abbrev aa0 := @List.nodup_cons
abbrev aa1 := @Go.IntKind.wrap_i64
abbrev aa2 := @List.mem_map
abbrev aa3 := @List.length_map
abbrev aa4 := @List.pairwise_cons
abbrev aa5 := @List.nodup_append
abbrev aa6 := @List.ext_getElem?
abbrev aa7 := @Nat.lt_of_lt_of_le
abbrev aa8 := @Option.getD_some
abbrev aa9 := @Go.World.ownsRow.lt
abbrev abb := @Nat.le_trans
abbrev abe := @List.mem_filter
abbrev abf := @List.append_nil
abbrev abg := @List.length_reverse
abbrev abh := @List.pairwise_iff_getElem
abbrev abi := @List.cons_append
abbrev abj := @Go.World.ownsRow.cells
abbrev abk := @List.take_of_length_le
abbrev abl := @List.map_append
abbrev abm := @List.reverse_cons
abbrev abn := @List.length_singleton
abbrev abo := @Go.World.ownsRow.alloc
abbrev abu := @List.length_eq_zero_iff
abbrev abv := @Nat.zero_add
abbrev abw := @Classical.byContradiction
abbrev aby := @Go.World.putObj_heap_other
abbrev abA := @Array.replicate_succ
abbrev abB := @Array.replicate_zero
abbrev abE := @Int.le_refl
abbrev abI := @List.getElem?_append_left
abbrev abJ := @List.drop_eq_getElem_cons
abbrev abK := @List.append_toArray
abbrev abL := @List.take_add_one
abbrev abM := @List.count_pos_iff
abbrev abN := @List.pairwise_append
abbrev abO := @Array.all_eq_true_iff_forall_mem
abbrev abP := @List.dropWhile_cons_of_neg
abbrev abR := @List.size_toArray
abbrev abS := @List.push_toArray
abbrev abT := @List.map_congr_left
abbrev abU := @List.any_eq_true
abbrev abY := @List.mem_flatMap
abbrev abZ := @Go.World.news_of_block
abbrev ab0 := @Go.OwnFrom.and
abbrev ab1 := @Nat.lt_or_ge
abbrev ab2 := @List.getElem?_append_right
abbrev ab3 := @Int.tmod_eq_emod_of_nonneg
abbrev ab5 := @List.dropWhile_cons_of_pos
abbrev ab6 := @Go.KeepsFrom.refl
abbrev ab7 := @Bool.or_eq_true
abbrev ab8 := @List.getElem?_of_mem
abbrev ab9 := @List.mem_of_mem_take
abbrev acd := @List.mem_iff_getElem
abbrev ace := @List.map_cons
abbrev acf := @List.getElem?_range
abbrev acg := @List.take_length
abbrev acj := @Option.bind_some
abbrev ack := @List.dropWhile_sublist
abbrev acm := @Nat.lt_of_le_of_lt
abbrev acn := @Nat.mod_two_eq_zero_or_one
abbrev aco := @Array.toList_setIfInBounds
abbrev acp := @Go.RowKit.Below.size
abbrev acq := @List.getLastD_eq_getLast?
abbrev acr := @Go.RowKit.Below.trans
abbrev acs := @Int.toNat_of_nonneg
abbrev acy := @Go.Calls.quiet_of_same
abbrev acz := @List.takeWhile_append_dropWhile
abbrev acD := @List.filter_cons_of_pos
abbrev acE := @Option.bind_eq_some_iff
abbrev acF := @Go.Boxed.new
abbrev acG := @Go.Boxed.cell
abbrev acJ := @Go.CallsIn.inRound
abbrev acK := @List.append_of_mem
abbrev acL := @List.filter_append
abbrev acM := @Array.getElem?_eq_none
abbrev acN := @List.drop_of_length_le
abbrev acO := @Go.World.ownsRow_nil
abbrev acP := @Nat.sub_self
abbrev acR := @List.take_append_drop
abbrev acS := @List.flatMap_append
abbrev acT := @List.map_set
abbrev acU := @Nat.le_of_eq
abbrev acV := @Int.lt_or_le
abbrev ac0 := @Go.World.ownsRow_made
abbrev ac1 := @List.getLastD_cons
abbrev ac2 := @List.count_set
abbrev ac3 := @List.pairwise_singleton
abbrev ac4 := @List.filter_cons_of_neg
abbrev ac5 := @Go.DataW.trod_struct
abbrev ac6 := @Go.DataW.weights_mem_each
abbrev ac7 := @Int.ofNat.inj
abbrev ac8 := @List.take_prefix
abbrev ac9 := @Go.Lib.run_eql_slice_nil
abbrev ada := @List.mem_of_mem_head?
abbrev ade := @List.set_append_right
abbrev adf := @List.length_replicate
abbrev adg := @Int.le_trans
abbrev adh := @List.filter_nil
abbrev adi := @List.count_le_length
abbrev adj := @Go.World.cell?_of_block
abbrev adk := @Go.World.alloc_heap_new
abbrev adl := @List.eq_nil_iff_forall_not_mem
abbrev adn := @List.take_append_of_le_length
abbrev ado := @Go.World.grownBy_alloc
abbrev adq := @List.replicate_succ
abbrev adr := @List.nodup_nil
abbrev ads := @List.map_replicate
abbrev adt := @List.getElem?_take
abbrev adu := @List.setIfInBounds_toArray
abbrev adw := @Nat.lt_trichotomy
abbrev adx := @List.foldl_append
abbrev ady := @List.count_append
abbrev adz := @List.flatMap_cons
abbrev adA := @Go.Result.andThen_ok
abbrev adB := @List.mem_or_eq_of_mem_set
abbrev adC := @List.getElem?_eq_none_iff
abbrev adD := @List.map_nil
abbrev adF := @List.map_toArray
abbrev adG := @Go.IntKind.wrap_u64
abbrev adH := @Go.World.cell?_spot
abbrev adI := @List.range_succ
abbrev adJ := @List.take_take
end
section
namespace Nu
def dx (c:Int):Bool:=c==32||(c==9||c==13)
def isDigit (c:Int):Bool:=decide (48≤c)&&decide (c≤57)
def PS (f:Int→Bool) (g:Nat→Int) (n:Nat):Nat→Nat→Nat
 |0,p=>p
 |k+1,p=>if p<n∧f (g p)=true then PS f g n k (p+1) else p
def skip (f:Int→Bool) (g:Nat→Int) (n p:Nat):Nat:=PS f g n (n-p) p
def val (g:Nat→Int) (q:Nat):Nat→Int
 |0=>0
 |k+1=>10*val g q k+(g (q+k)-48)
structure Tok where
 kind:Int
 S5:Int
 fin:Int
 num:Int
def next (g:Nat→Int) (n p:Nat):Except (Nat×Int) (Tok×Nat):=
 if skip dx g n p=n then .ok (⟨3,n,n,0⟩,n)
 else if isDigit (g (skip dx g n p))=true then
  if 9<skip isDigit g n (skip dx g n p)-skip dx g n p∨(1<skip isDigit g n (skip dx g n p)-skip dx g n p∧g (skip dx g n p)=48) then .error (skip dx g n p,12)
  else .ok (⟨1,skip dx g n p,skip isDigit g n (skip dx g n p),val g (skip dx g n p) (skip isDigit g n (skip dx g n p)-skip dx g n p)⟩,skip isDigit g n (skip dx g n p))
 else if g (skip dx g n p)=10 then .ok (⟨2,skip dx g n p,skip dx g n p+1,0⟩,skip dx g n p+1)
 else .error (skip dx g n p,11)
end Nu
end
section
open Go.RowKit
theorem Nu.hid {p:Prop} (h:p):Hid p:=h
section
variable {w w':World} {b:Nat} {ao:Option Addr} {n cap p:Nat} {g:Nat→Int}
def dY (w:World) (B:Nat) (a b c d:Value):World:=(((w.setCell ⟨B,0,none⟩ a).setCell ⟨B,1,none⟩ b).setCell ⟨B,2,none⟩ c).setCell ⟨B,3,none⟩ d
theorem gW {B:Nat} {t:TypeId} {x0 x1 x2 x3:Value} (h:w.heap[B]? =some (.cells #[x0,x1,x2,x3] t (0,0))) (a b c d:Value):(dY w B a b c d).heap[B]? =some (.cells #[a,b,c,d] t (0,0)):=by
 have h1:=heap_setCell_same w B 0 _ t a h
 have h2:=heap_setCell_same _ B 1 _ t b h1
 have h3:=heap_setCell_same _ B 2 _ t c h2
 have h4:=heap_setCell_same _ B 3 _ t d h3
 unfold dY
 simpa using h4
theorem kR {B k:Nat} (hk:k≠B) (a b c d:Value):(dY w B a b c d).heap[k]? =w.heap[k]? :=by
 unfold dY
 rw[heap_setCell_other _ ⟨B,3,none⟩ k d hk,heap_setCell_other _ ⟨B,2,none⟩ k c hk,heap_setCell_other _ ⟨B,1,none⟩ k b hk,heap_setCell_other _ ⟨B,0,none⟩ k a hk]
end
end
section
namespace Si
def lt (a b:Int×Int):Prop:=a.1<b.1∨(a.1=b.1∧a.2<b.2)
instance (a b:Int×Int):Decidable (lt a b):=by unfold lt;infer_instance
def cf (a b:Int×Int):Int:=if a.1<b.1 then -1 else if b.1<a.1 then 1 else if a.2<b.2 then -1 else if b.2<a.2 then 1 else 0
theorem M6 {a b:Int×Int}:cf a b<0↔lt a b:=by
 unfold cf lt
 split
 ·simp;omega
 ·split
  ·simp;omega
  ·split
   ·simp;omega
   ·split
    ·simp;omega
    ·simp;omega
theorem lt_irrefl (a:Int×Int):¬lt a a:=by unfold lt;omega
theorem lt_trans {a b c:Int×Int} (h:lt a b) (k:lt b c):lt a c:=by unfold lt at *;omega
theorem N6 (a b:Int×Int):lt a b∨a=b∨lt b a:=by
 unfold lt
 by_cases h:a=b
 ·exact .inr (.inl h)
 ·have:a.1≠b.1∨a.2≠b.2:=by
   by_cases h1:a.1=b.1
   ·exact .inr fun h2=>h (Prod.ext h1 h2)
   ·exact .inl h1
  omega
theorem lt_asymm {a b:Int×Int} (h:lt a b):¬lt b a:=fun k=>lt_irrefl a (lt_trans h k)
theorem ZX {a b:Int×Int} (h:lt a b):a≠b:=fun e=>lt_irrefl a (by rw[e] at h ⊢;exact h)
def ok (n:Int) (e:Int×Int):Prop:=0≤e.1∧e.1<e.2∧e.2<n
structure Val (n:Int) (es:List (Int×Int)):Prop where
 lo:0≤n
 hi:n≤1048576
 few:es.length≤4194304
 each:∀(j:Nat) (p:Int×Int),es[j]? =some p→ok n p
 up:∀(j:Nat) (p q:Int×Int),es[j]? =some p→es[j+1]? =some q→lt p q
open Classical in
noncomputable def valid (n:Int) (es:List (Int×Int)):Bool:=decide (Val n es)
theorem bL {n:Int} {es:List (Int×Int)}:valid n es=true↔Val n es:=by unfold valid;exact @decide_eq_true_iff _ (Classical.propDecidable _)
theorem j9 {n:Int} {es:List (Int×Int)} (h:¬Val n es):valid n es=false:=by
 cases hv:valid n es
 ·rfl
 ·exact absurd (bL.1 hv) h
noncomputable def ends (n:Int) (es:List (Int×Int)) (h:Int):Int×Int×Bool:=
 if valid n es=true∧0≤h∧h<2*es.length then
  (if h%2=1 then ((es.getD (h/2).toNat (0,0)).2,(es.getD (h/2).toNat (0,0)).1,true) else ((es.getD (h/2).toNat (0,0)).1,(es.getD (h/2).toNat (0,0)).2,true))
 else (0,0,false)
def jQ (l:List Int) (v:Int):List Int:=l.set v.toNat (l.getD v.toNat 0+1)
def jz (n:Int):List (Int×Int)→List Int
 |es=>es.foldl (fun l e=>jQ (jQ l e.1) e.2) (List.replicate n.toNat 0)
def put:List (Int×Int)→Int×Int→List (Int×Int)
 |[],e=>[e]
 |x::l,e=>if lt x e then x::put l e else if x=e then x::l else e::x::l
end Si
end
section
open Go.RowKit Go.Sort
def vE (e:Int×Int):Value:= .agg #[.int .i64 e.1,.int .i64 e.2]
theorem new2 (W:World) (k:Nat) (hk:W.heap.size=k) (x y:Value) (t:TypeId):(W.alloc (.cells #[x,y] t)).cell? ⟨k,0,none⟩=some x∧(W.alloc (.cells #[x,y] t)).cell? ⟨k,1,none⟩=some y:=by
 subst hk
 constructor<;>simp
theorem Qk (W:World) (k:Nat) (hk:W.heap.size=k) (x y:Value) (t:TypeId):(W.alloc (.cells #[x,y] t)).drew.cell? ⟨k,0,none⟩=some x∧(W.alloc (.cells #[x,y] t)).drew.cell? ⟨k,1,none⟩=some y:=new2 W k hk x y t
theorem PT (W:World) (x y:Obj):((W.alloc x).alloc y).heap.size=W.heap.size+1+1:=by simp
def Si.p6 (x y:Int):Int:=if x<y then -1 else if y<x then 1 else 0
set_option maxHeartbeats 400000 in
theorem Jb (x y:Int) (w:World):Calls Tryz.prog 141 #[.int .i64 x,.int .i64 y] w fun e w'=>e= .returned (.int .i64 (Si.p6 x y))∧w'=w:=by
 unfold Si.p6
 by_cases h1:x<y
 ·rw[if_pos h1]
  go_enter Tryz.func141,Tryz.ntmps141
  go_wp2
  go_ret
  exact⟨rfl,rfl⟩
 ·rw[if_neg h1]
  by_cases h2:y<x
  ·rw[if_pos h2]
   go_enter Tryz.func141,Tryz.ntmps141
   go_wp2
   go_ret
   exact⟨rfl,rfl⟩
  ·rw[if_neg h2]
   go_enter Tryz.func141,Tryz.ntmps141
   go_wp2
   go_ret
   exact⟨rfl,rfl⟩
def Si.E8 (p q:Int):Int:=if p≠0 then p else q
theorem abz (a b:Int×Int):Si.cf a b=Si.E8 (Si.p6 a.1 b.1) (Si.p6 a.2 b.2):=by
 unfold Si.cf Si.p6 Si.E8
 by_cases h1:a.1<b.1
 ·simp[h1]
 ·by_cases h2:b.1<a.1
  ·simp[h1,h2]
  ·simp[h1,h2]
set_option maxHeartbeats 1000000 in
theorem UY (p q:Int) (W:World) (b:Nat) (h0:W.cell? ⟨b,0,none⟩=some (.int .i64 p)) (h1:W.cell? ⟨b,1,none⟩=some (.int .i64 q)):Calls Tryz.prog 140 #[.slice (some ⟨b,0,none⟩) 2 2] W fun e w'=>e= .returned (.int .i64 (Si.E8 p q))∧w'=W:=by
 unfold Si.E8
 by_cases hp:p=0
 ·subst hp
  rw[if_neg (by simp)]
  by_cases hq:q=0
  ·subst hq
   go_enter Tryz.func140,Tryz.ntmps140
   go_wp2
   refine wp_loop_rounds 3 ?_
   rw[rounds_succ]
   go_wp2
   rw[rounds_succ]
   go_wp2
   rw[rounds_succ]
   go_wp2
   go_ret
   exact⟨rfl,rfl⟩
  ·go_enter Tryz.func140,Tryz.ntmps140
   go_wp2
   refine wp_loop_rounds 3 ?_
   rw[rounds_succ]
   go_wp2
   rw[rounds_succ]
   go_wp2
   go_ret
   exact⟨rfl,rfl⟩
 ·rw[if_pos hp]
  go_enter Tryz.func140,Tryz.ntmps140
  go_wp2
  refine wp_loop_rounds 3 ?_
  rw[rounds_succ]
  go_wp2
  go_ret
  exact⟨rfl,rfl⟩
set_option maxRecDepth 100000 in
set_option maxHeartbeats 4000000 in
theorem FO (a b:Int×Int) (w:World):Calls Tryz.prog 113 #[vE a,vE b] w fun e w'=>e= .returned (.int .i64 (Si.cf a b))∧∃q os',w'=grow (w.drewN q) os':=by
 rw[abz]
 unfold vE
 go_enter Tryz.func113,Tryz.ntmps113
 go_wp2
 go_region_held3 (fun w'=>w'.cell? ⟨w.heap.size,0,none⟩=some (.int .i64 a.1)∧w'.cell? ⟨w.heap.size,1,none⟩=some (.int .i64 a.2)∧w'.cell? ⟨w.heap.size+1,0,none⟩=some (.int .i64 b.1)∧w'.cell? ⟨w.heap.size+1,1,none⟩=some (.int .i64 b.2))
  (go_keep)
  (first
    |(go_at_call 141;refine(Jb _ _ _).mono ?_;rintro e w' ⟨rfl,rfl⟩)
    |(go_at_call 140;refine(UY (Si.p6 a.1 b.1) (Si.p6 a.2 b.2) _ _ (Qk _ _ (PT _ _ _) _ _ _).1 (Qk _ _ (PT _ _ _) _ _ _).2).mono ?_;rintro e w' ⟨rfl,rfl⟩))
 go_wp2
 go_ret
 exact⟨rfl,1,_,by rw[alloc_eq_grow,alloc_eq_grow,grow_grow,alloc_eq_grow,grow_grow];rfl⟩
theorem yE (w:World) (q:Nat) (os:Array Obj):Below w.heap.size w (grow (w.drewN q) os):=by
 refine⟨rfl,rfl,rfl,by simp[grow],fun k hk=> ?_⟩
 simp[grow,Array.getElem?_append_left hk]
end
section
open Go.RowKit
def aQ (w:World) (ao:Option Addr) (es:List (Int×Int)):Prop:=
 ∀(j:Nat) (p:Int×Int),es[j]? =some p→∃b o:Nat,ao=some ⟨b,o,none⟩∧w.cell? ⟨b,o+j*2,none⟩=some (.int .i64 p.1)∧w.cell? ⟨b,o+j*2+1,none⟩=some (.int .i64 p.2)
theorem aQ.later {w w':World} {ao:Option Addr} {es:List (Int×Int)} (h:aQ w ao es) (hb:Below w.heap.size w w'):aQ w' ao es:=fun j p hj=>by
 obtain⟨b,o,e,h0,h1⟩:=h j p hj
 exact⟨b,o,e,(hb.cell (p:=⟨b,o+j*2,none⟩) (block_lt_of_cell h0)).trans h0,(hb.cell (p:=⟨b,o+j*2+1,none⟩) (block_lt_of_cell h1)).trans h1⟩
theorem aQ.nil (w:World) (ao:Option Addr):aQ w ao []:=fun j p hj=>by simp at hj
def bX (n:Int) (ao:Option Addr) (len cap:Nat):Value:= .agg #[.int .i64 n,.slice ao len cap]
end
section
open Go.RowKit
theorem Tryz.wW:(Tryz.prog.info? 33).map (fun i=>(i.zero,i.size,i.bytes))=some (some (.agg #[.int .i64 0,.int .i64 0]),2,16):=by kernel_rfl
def jm (ps:List (Int×Int)):List Value:=ps.flatMap fun p=>[.int .i64 p.1,.int .i64 p.2]
theorem I3 (ps:List (Int×Int)) (p:Int×Int):jm (ps++[p])=jm ps++[.int .i64 p.1,.int .i64 p.2]:=by simp[jm]
theorem nZ:∀ps:List (Int×Int),(jm ps).length=ps.length*2
 |[]=>rfl
 |p::ps=>by
  have:=nZ ps
  simp[jm] at this ⊢
  omega
theorem xC:∀(ps:List (Int×Int)) (j:Nat) (p:Int×Int),ps[j]? =some p→(jm ps)[j*2]? =some (.int .i64 p.1)∧(jm ps)[j*2+1]? =some (.int .i64 p.2)
 |[],j,p,h=>by simp at h
 |q::ps,0,p,h=>by
  simp at h
  subst h
  simp[jm]
 |q::ps,j+1,p,h=>by
  simp at h
  have:=xC ps j p h
  have e:(j+1)*2=j*2+1+1:=by omega
  rw[e]
  simpa[jm] using this
theorem abC (g j:Nat):((⟨g,0,none⟩:Addr).add j)=⟨g,j,none⟩:=by
 by_cases h:j=0
 ·simp[Addr.add,h]
 ·simp[Addr.add,h]
def fj (w:World) (B:Nat) (v:Value) (es:List (Int×Int)):Prop:=w.ownsRow B 33 2 v es.length (jm es)
theorem fj.form {w:World} {B:Nat} {v:Value} {es:List (Int×Int)} (h:fj w B v es):∃ao cap,v= .slice ao es.length cap∧es.length≤cap∧cap≤maxLen∧aQ w ao es∧(∀x,ao=some x→B≤x.block∧x.block<w.heap.size):=by
 have h':=h
 unfold fj at h'
 rcases h.2 with ⟨rfl,h0⟩|⟨g,cap,cur,rfl,hg,hh,hc,hm,_⟩
 ·refine⟨none,0,by rw[h0],by omega,aax _,fun j p hj=> ?_,fun x h=>by cases h⟩
  rw[abu.1 h0] at hj
  simp at hj
 ·refine⟨_,cap,rfl,hc,hm,fun j p hj=>⟨g,0,rfl,?_⟩,fun x h=>by cases h;exact⟨hg,lt_of_block hh⟩⟩
  have hcl:=abj h' (g:=g) rfl
  simp only[abC] at hcl
  obtain⟨h0,h1⟩:=xC es j p hj
  rw[abv]
  exact⟨hcl _ _ h0,hcl _ _ h1⟩
theorem fj.below {w w':World} {B A:Nat} {v:Value} {ps:List (Int×Int)} (h:fj w B v ps) (hb:Below A w w') (hA:w.heap.size≤A):fj w' B v ps:=by
 refine⟨h.1,?_⟩
 rcases h.2 with h|⟨g,cap,cur,e,hgB,hh,hr⟩
 ·exact .inl h
 ·exact .inr ⟨g,cap,cur,e,hgB,(hb.block g (by have:=lt_of_block hh;omega)).trans hh,hr⟩
theorem fj.alloc {w:World} {B:Nat} {v:Value} {ps:List (Int×Int)} (h:fj w B v ps) (o:Obj):fj (w.alloc o) B v ps:=abo h o
theorem fj.acZ {w:World} {B A b:Nat} {v:Value} {ps:List (Int×Int)} (h:fj w B v ps) (hA:A≤b∧b<B) (x y:Value):fj ((w.setCell ⟨b,0,none⟩ x).setCell ⟨b,1,none⟩ y) A v ps:=by
 refine⟨h.1,?_⟩
 rcases h.2 with h|⟨g,cap,cur,e,hgB,hh,hr⟩
 ·exact .inl h
 ·refine .inr ⟨g,cap,cur,e,by omega,?_,hr⟩
  rw[heap_setCell_other _ ⟨b,1,none⟩ g y (by simp;omega),heap_setCell_other _ ⟨b,0,none⟩ g x (by simp;omega)]
  exact hh
theorem Kj (W:World) (k:Nat) (hk:W.heap.size=k) (a b:Value) (t:TypeId):∀j u,[a,b][j]? =some u→(W.alloc (.cells #[a,b] t)).cell? ((⟨k,0,none⟩:Addr).add j)=some u:=by
 subst hk
 exact abZ (cs:= #[a,b]) (t:=t) (fr:=(0,0)) (heap_alloc_new W _)
end
section
open Go.RowKit Go.Sort
namespace Si
def rG (n:Int) (es:List (Int×Int)) (k:Nat) (l:Int×Int):Prop:=
 (∀(j:Nat) (p:Int×Int),j<k→es[j]? =some p→ok n p)∧(∀(j:Nat) (p q:Int×Int),j+1<k→es[j]? =some p→es[j+1]? =some q→lt p q)∧((k=0∧l=(0,0))∨∃k',k=k'+1∧es[k']? =some l)
theorem rG.start (n:Int) (es:List (Int×Int)):rG n es 0 (0,0):=⟨fun j p h=>by omega,fun j p q h=>by omega,.inl ⟨rfl,rfl⟩⟩
theorem rG.step {n:Int} {es:List (Int×Int)} {k:Nat} {l p:Int×Int} (h:rG n es k l) (hp:es[k]? =some p) (ho:ok n p) (hl:lt l p):rG n es (k+1) p:=by
 refine⟨fun j q hj hq=> ?_,fun j q r hj hq hr=> ?_,.inr ⟨k,rfl,hp⟩⟩
 ·by_cases hjk:j=k
  ·subst hjk;rw[hp] at hq;cases hq;exact ho
  ·exact h.1 j q (by omega) hq
 ·by_cases hjk:j+1=k
  ·subst hjk
   rw[hp] at hr
   cases hr
   rcases h.2.2 with ⟨h0,_⟩|⟨k',hk,hl'⟩
   ·omega
   ·obtain rfl:j=k':=by omega
    rw[hl'] at hq
    cases hq
    exact hl
  ·exact h.2.1 j q r (by omega) hq hr
theorem rG.must {n:Int} {es:List (Int×Int)} {k:Nat} {l p:Int×Int} (h:rG n es k l) (hv:Val n es) (hp:es[k]? =some p):ok n p∧lt l p:=by
 have ho:=hv.each k p hp
 refine⟨ho,?_⟩
 rcases h.2.2 with ⟨rfl,rfl⟩|⟨k',rfl,hl⟩
 ·unfold ok at ho
  unfold lt
  dsimp only
  omega
 ·exact hv.up k' l p hl hp
theorem rG.done {n:Int} {es:List (Int×Int)} {l:Int×Int} (h:rG n es es.length l) (h0:0≤n) (h1:n≤1048576) (h2:es.length≤4194304):Val n es:=by
 have lim:∀(j:Nat) (p:Int×Int),es[j]? =some p→j<es.length:=fun j p hj=>by
  rcases ab1 j es.length with hl|hl
  ·exact hl
  ·rw[aat hl] at hj;cases hj
 exact⟨h0,h1,h2,fun j p hj=>h.1 j p (lim j p hj) hj,fun j p q hp hq=>h.2.1 j p q (lim _ _ hq) hp hq⟩
end Si
theorem ay {w:World} {b:Nat} {t:TypeId} {x y:Value} (h:w.heap[b]? =some (.cells #[x,y] t (0,0))):w.cell? ⟨b,0,none⟩=some x∧w.cell? ⟨b,1,none⟩=some y∧∀i,w.frozen? ⟨b,i,none⟩=false:=by
 refine⟨by simp[World.cell?,h],by simp[World.cell?,h],fun i=>by simp[World.frozen?,h]⟩
theorem gD {w:World} {b:Nat} {t:TypeId} {x y:Value} (h:w.heap[b]? =some (.cells #[x,y] t (0,0))) (x' y':Value):((w.setCell ⟨b,0,none⟩ x').setCell ⟨b,1,none⟩ y').heap[b]? =some (.cells #[x',y'] t (0,0)):=by
 have h1:=heap_setCell_same w b 0 _ t x' h
 have h2:=heap_setCell_same _ b 1 _ t y' h1
 simpa using h2
theorem eG {w:World} {b k:Nat} (hk:k≠b) (x' y':Value):((w.setCell ⟨b,0,none⟩ x').setCell ⟨b,1,none⟩ y').heap[k]? =w.heap[k]? :=by
 rw[heap_setCell_other _ ⟨b,1,none⟩ k y' hk,heap_setCell_other _ ⟨b,0,none⟩ k x' hk]
set_option maxRecDepth 100000 in
set_option maxHeartbeats 4000000 in
theorem JK (n:Int) (ao:Option Addr) (cap:Nat) (es:List (Int×Int)) (w:World) (he:aQ w ao es) (hl:es.length≤4611686018427387904):
 Calls Tryz.prog 86 #[bX n ao es.length cap] w fun e w'=>e= .returned (.bool (Si.valid n es))∧Below w.heap.size w w':=by
 have HE:=Nu.hid he
 clear he
 unfold bX
 by_cases h1:n<0
 ·have hv:=Si.j9 (n:=n) (es:=es) (fun h=>by have:=h.lo;omega)
  rw[hv]
  go_enter Tryz.func86,Tryz.ntmps86
  go_wp2
  go_ret
  exact⟨rfl,(aae _ _).alloc (aad _) _⟩
 ·by_cases h2:1048576<n
  ·have hv:=Si.j9 (n:=n) (es:=es) (fun h=>by have:=h.hi;omega)
   rw[hv]
   go_enter Tryz.func86,Tryz.ntmps86
   go_wp2
   go_ret
   exact⟨rfl,(aae _ _).alloc (aad _) _⟩
  ·by_cases h3:4194304<(es.length:Int)
   ·have hv:=Si.j9 (n:=n) (es:=es) (fun h=>by have:=h.few;omega)
    rw[hv]
    go_enter Tryz.func86,Tryz.ntmps86
    go_wp2
    go_ret
    exact⟨rfl,(aae _ _).alloc (aad _) _⟩
   ·go_enter Tryz.func86,Tryz.ntmps86
    go_wp2
    go_loopw [23] (fun c wr=>∃(k:Nat) (l:Int×Int),k≤es.length∧c= .int .i64 k∧Si.rG n es k l∧wr.heap[w.heap.size]? =some (.cells #[.int .i64 n,.slice ao es.length cap] 24 (0,0))∧wr.heap[w.heap.size+1]? =some (.cells #[.int .i64 l.1,.int .i64 l.2] 33 (0,0))∧Below w.heap.size w wr) (fun c _=>es.length-(intOf c).toNat)
    case atStart=>
     refine⟨0,(0,0),aax _,rfl,Si.rG.start n es,?_,?_,((aae _ _).alloc (aad _) _).alloc (by simp) _⟩
     ·rw[aap _ _ _ (by simp)]
      exact heap_alloc_new w _
     ·have:=heap_alloc_new (w.alloc (.cells #[.int .i64 n,.slice ao es.length cap] 24)) (.cells #[.int .i64 0,.int .i64 0] 33)
      simpa using this
    case round=>
     obtain⟨k,l,hk,rfl,eP,hgb,hlb,hb⟩:=hrel
     by_cases hlt:k<es.length
     ·have lV:(k:Int)<(es.length:Int):=by omega
      have hk0:(0:Int)≤(k:Int):=by omega
      obtain⟨p,hp⟩:∃p,es[k]? =some p:=⟨_,aac hlt⟩
      obtain⟨b,o,rfl,c0,c1⟩:=(HE.out.later hb) k p hp
      obtain⟨g0,-,-⟩:=ay hgb
      obtain⟨l0,l1,lf⟩:=ay hlb
      have hsz:=lt_of_block hlb
      have QG:=lt_of_block hgb
      have hbl:b<wr.heap.size:=block_lt_of_cell c0
      have zG:=Nu.hid eP
      have HP:=Nu.hid hp
      have HGB:=Nu.hid hgb
      have HLB:=Nu.hid hlb
      have HB:=Nu.hid hb
      clear eP hp hgb hlb hb
      by_cases q1:p.1<0
      ·have hv:=Si.j9 (n:=n) (es:=es) (fun h=>by have:=(zG.out.must h HP.out).1.1;omega)
       go_wp2
       go_ret
       exact⟨by first|rfl|exact congrArg (fun b=>Ending.returned (.bool b)) hv.symm,HB.out.alloc (by omega) _⟩
      ·by_cases q2:p.1<p.2
       ·by_cases q3:p.2<n
        ·have hca:=fun W=>FO l p W
         unfold vE at hca
         have ni:=Nu.hid hca
         clear hca
         by_cases q4:Si.lt l p
         ·have OA:=Si.M6.2 q4
          generalize Si.cf l p=r at ni OA
          go_wp2_with (go_at_call 113;refine(ni.out _).mono ?_;rintro e w' ⟨rfl,hgr⟩;refine aaB ?_)
          refine Nu.hid ?_
          obtain⟨qn,os',rfl⟩:=hgr
          have hb1:=yE (wr.alloc (.cells #[.int .i64 p.1,.int .i64 p.2] 33)) qn os'
          have hb2:Below wr.heap.size wr (grow ((wr.alloc (.cells #[.int .i64 p.1,.int .i64 p.2] 33)).drewN qn) os'):=((aae _ _).alloc (aad _) _).trans (hb1.mono (by simp))
          have hnew:(grow ((wr.alloc (.cells #[.int .i64 p.1,.int .i64 p.2] 33)).drewN qn) os').heap[wr.heap.size]? =some (.cells #[.int .i64 p.1,.int .i64 p.2] 33 (0,0)):=(hb1.block _ (by simp)).trans (heap_alloc_new wr _)
          generalize grow ((wr.alloc (.cells #[.int .i64 p.1,.int .i64 p.2] 33)).drewN qn) os'=w2 at hb2 hnew ⊢
          have Zb:=Nu.hid ((hb2.block _ hsz).trans HLB.out)
          have ag9:=Nu.hid ((hb2.block _ QG).trans HGB.out)
          obtain⟨m0,m1,mf⟩:=ay Zb.out
          obtain⟨n0,n1,-⟩:=ay hnew
          have A8:=hb2.size
          have ct:=Nu.hid (HB.out.trans (hb2.mono (by omega)))
          clear hb1 hb2 hnew c0 c1 g0 l0 l1 lf
          go_wp2
          go_roundw
          case rel=>exact⟨k+1,p,by omega,by go_num,zG.out.step HP.out ⟨by omega,q2,q3⟩ q4,(eG (by omega) _ _).trans ag9.out,gD Zb.out _ _,(ct.out.setCell (by simp) _).setCell (by simp) _⟩
          case measure=>simp[intOf];omega
         ·have hv:=Si.j9 (n:=n) (es:=es) (fun h=>q4 (zG.out.must h HP.out).2)
          have OA:¬(Si.cf l p<0):=fun h=>q4 (Si.M6.1 h)
          generalize Si.cf l p=r at ni OA
          go_wp2_with (go_at_call 113;refine(ni.out _).mono ?_;rintro e w' ⟨rfl,hgr⟩;refine aaB ?_)
          refine Nu.hid ?_
          obtain⟨qn,os',rfl⟩:=hgr
          have hb1:=yE (wr.alloc (.cells #[.int .i64 p.1,.int .i64 p.2] 33)) qn os'
          generalize grow ((wr.alloc (.cells #[.int .i64 p.1,.int .i64 p.2] 33)).drewN qn) os'=w2 at hb1 ⊢
          have ct:=Nu.hid ((HB.out.alloc (by omega) _).trans (hb1.mono (by simp;omega)))
          clear hb1
          go_wp2
          go_ret
          exact⟨by first|rfl|exact congrArg (fun b=>Ending.returned (.bool b)) hv.symm,ct.out⟩
        ·have hv:=Si.j9 (n:=n) (es:=es) (fun h=>by have:=(zG.out.must h HP.out).1.2.2;omega)
         go_wp2
         go_ret
         exact⟨by first|rfl|exact congrArg (fun b=>Ending.returned (.bool b)) hv.symm,HB.out.alloc (by omega) _⟩
       ·have hv:=Si.j9 (n:=n) (es:=es) (fun h=>by have:=(zG.out.must h HP.out).1.2.1;omega)
        go_wp2
        go_ret
        exact⟨by first|rfl|exact congrArg (fun b=>Ending.returned (.bool b)) hv.symm,HB.out.alloc (by omega) _⟩
     ·obtain rfl:k=es.length:=by omega
      have hv:=Si.bL.2 (eP.done (by omega) (by omega) (by omega))
      have HB:=Nu.hid hb
      clear hb eP hgb hlb
      go_wp2
      go_ret
      exact⟨by first|rfl|exact congrArg (fun b=>Ending.returned (.bool b)) hv.symm,HB.out⟩
end
section
open Go.ChangeShapes Go.WideShapes Go.ChangeAt Go.RowKit
theorem own:ownKnob Tryz.prog.godebug=none:=by kernel_rfl
theorem laidOut:laidOutB Tryz.prog=true:=by kernel_rfl
theorem Ep:Tryz.prog.cellsOf 3=1:=by kernel_rfl
theorem Er:Tryz.prog.bytesOf 3=8:=by kernel_rfl
noncomputable def settled (os:Os):World:=World.holding Tryz.prog os ⟨#[],#[],[]⟩
def rJ (k:IntKind) (bytes:Nat) (w:World) (a:Option Addr) (len cap:Nat) (zs:List Int):Prop:=
 (a=none∧len=0∧cap=0∧zs=[])∨
 ∃x,a=some x∧len≤cap∧cap*bytes≤140737488351232∧zs.length=cap∧(∀i,i<zs.length→w.cell? (x.add i)=some (.int k (zs.getD i 0)))∧∀n∈zs,(Lit.int k n).wf=true
theorem rJ.take {k:IntKind} {bytes:Nat} {w:World} {a:Option Addr} {len cap:Nat} {zs:List Int} (h:rJ k bytes w a len cap zs):(zs.take len).length=len:=by
 rcases h with ⟨_,rfl,_,rfl⟩|⟨_,_,hl,_,hz,_⟩
 ·rfl
 ·simp;omega
theorem rJ.small {k:IntKind} {bytes:Nat} {w:World} {a:Option Addr} {len cap:Nat} {zs:List Int} (h:rJ k bytes w a len cap zs):len*bytes≤140737488351232:=by
 rcases h with ⟨_,rfl,_,rfl⟩|⟨_,_,hl,hm,_⟩
 ·simp
 ·exact abb (Nat.mul_le_mul_right bytes hl) hm
theorem EK {ops:Array Oper} {rest:List Oper} {o:Oper} {a:Act} {Q:Exit→Act→World→Prop} (hgd:o.guard=none) (s x:Operand) (t:TypeId)
 (ho:o.op= .call { callee:= .builtin .append,args:= #[s,x],argTypes:= #[t,t] }) (e:TypeId) (k:IntKind) (i0:TypeInfo) (bytes:Nat) (hu:Tryz.prog.underlying t=some (.slice e)) (hi:Tryz.prog.info? e=some i0)
 (hz0:i0.zero=some (.int k 0)) (hz1:i0.size=1) (hz2:i0.bytes=bytes) (hpos:0<bytes) (W:World) (ao:Option Addr) (len cap:Nat) (zs:List Int) (hs:a.eval s= .slice (some ⟨W.heap.size,0,none⟩) 0 0) (hx:a.eval x= .slice ao len cap)
 (hrow:rJ k bytes W ao len cap zs)
 (h:∀gb c w',w'.ownsRow W.heap.size e 1 (.slice (some ⟨gb,0,none⟩) len c) len ((zs.take len).map (Value.int k))→W.heap.size≤gb→gb<w'.heap.size→len≤c→Below W.heap.size W w'→wpList Tryz.prog ops Q rest (a.put o.dst (.slice (some ⟨gb,0,none⟩) len c)) w'):
 wpList Tryz.prog ops Q (o::rest) a (W.alloc (.cells #[] e)):=by
 have gH:(W.alloc (.cells #[] e)).ownsRow W.heap.size e 1 (.slice (some ⟨W.heap.size,0,none⟩) 0 0) 0 []:=ac0 W #[] 0 (aad _) (aax _) rfl
 have hb0:Below W.heap.size W (W.alloc (.cells #[] e)):=(aae _ _).alloc (aad _) _
 have kB:=hrow.take
 have hsm:=hrow.small
 rcases hrow with ⟨rfl,rfl,rfl,rfl⟩|⟨y,rfl,hl,hm,hz,hc,hw⟩
 ·refine wpList_append_own_none hgd s x t ho W.heap.size e i0 1 hu hi _ 0 [] hs gH hx ?_
  exact h _ _ _ gH (aad _) (by simp) (aad _) hb0
 ·have hlb:len≤140737488351232:=abb (Nat.le_mul_of_pos_right len hpos) hsm
  refine wpList_append_own _ hgd s x t ho W.heap.size e i0 (.int k 0) 1 bytes hu hi hz0 hz1 hz2 rfl (by decide) _ 0 [] hs gH y len cap ((zs.take len).map (Value.int k)) hx (by rw[aa3,kB];omega) ?_ (ints_oneCell k _) (by unfold maxLen;omega) (by rw[abv];omega) (by simp) ?_
  ·intro j u hj
   rw[aay,adt] at hj
   by_cases hjl:j<len
   ·rw[if_pos hjl] at hj
    have hlt:j<zs.length:=by omega
    rw[aac hlt] at hj
    simp at hj
    subst hj
    have hcj:=hc j hlt
    rw[aai,aac hlt] at hcj
    exact(ado W _ none).cell hcj (by simp)
   ·rw[if_neg hjl] at hj
    simp at hj
  ·intro v' w' hown' hg hiff
   rw[abv,aaE] at hown'
   rcases hown'.2 with ⟨hnil,_⟩|⟨gb,c,cur,rfl,hgb,hh,hlc,_⟩
   ·have:=(hiff.1 hnil).1
    cases this
   ·exact h gb c w' hown' hgb (lt_of_block hh) hlc (hb0.grown hg (by simp) (fun q hq=>by cases hq;exact aad _))
end
section
open Go.RowKit Go.Sort
theorem CH {ops:Array Oper} {rest:List Oper} {o:Oper} {a:Act} {Q:Exit→Act→World→Prop} (hgd:o.guard=none) (s x:Operand)
 (ho:o.op= .call { callee:= .builtin .append,args:= #[s,x],argTypes:= #[22,22] }) (W:World) (ao:Option Addr) (cap:Nat) (es:List (Int×Int)) (hs:a.eval s= .slice (some ⟨W.heap.size,0,none⟩) 0 0) (hx:a.eval x= .slice ao es.length cap)
 (he:aQ W ao es) (hn:ao=none→cap=0) (hl:es.length*16≤140737488355328)
 (h:∀gb c w',fj w' W.heap.size (.slice (some ⟨gb,0,none⟩) es.length c) es→W.heap.size≤gb→gb<w'.heap.size→Below W.heap.size W w'→wpList Tryz.prog ops Q rest (a.put o.dst (.slice (some ⟨gb,0,none⟩) es.length c)) w'):
 wpList Tryz.prog ops Q (o::rest) a (W.alloc (.cells #[] 33)):=by
 obtain⟨i0,hi,hz0,hz1,hz2⟩:=info_parts Tryz.wW
 have gH:(W.alloc (.cells #[] 33)).ownsRow W.heap.size 33 2 (.slice (some ⟨W.heap.size,0,none⟩) 0 0) 0 []:=ac0 W #[] 0 (aad _) (aax _) rfl
 have hb0:Below W.heap.size W (W.alloc (.cells #[] 33)):=(aae _ _).alloc (aad _) _
 cases ao with
 |none=>
  have hes:es=[]:=by
   cases es with
   |nil=>rfl
   |cons p es=>
    obtain⟨b,o,e,_⟩:=he 0 p rfl
    cases e
  subst hes
  obtain rfl:=hn rfl
  refine wpList_append_own_none hgd s x 22 ho W.heap.size 33 i0 2 Tryz.underlying22 hi _ 0 [] hs gH hx ?_
  exact h _ _ _ gH (aad _) (by simp) hb0
 |some y=>
  refine wpList_append_own _ hgd s x 22 ho W.heap.size 33 i0 (.agg #[.int .i64 0,.int .i64 0]) 2 16 Tryz.underlying22 hi hz0 hz1 hz2 rfl (by decide) _ 0 [] hs gH y es.length cap (jm es) hx (nZ es) ?_ ?_ (by unfold maxLen;omega) (by omega) (by simp) ?_
  ·intro j u hj
   have hjl:=(aas.1 hj).1
   rw[nZ] at hjl
   obtain⟨p,hp⟩:∃p,es[j/2]? =some p:=⟨_,aac (by omega)⟩
   obtain⟨b,o,e,c0,c1⟩:=he (j/2) p hp
   cases e
   obtain⟨f0,f1⟩:=xC es (j/2) p hp
   have ea:((⟨b,o,none⟩:Addr).add j)=⟨b,o+j,none⟩:=by
    by_cases h0:j=0<;>simp[Addr.add,h0]
   rw[ea]
   by_cases hm:j%2=0
   ·have e:j/2*2=j:=by omega
    rw[e] at f0 c0
    rw[f0] at hj
    cases hj
    exact(hb0.cell (p:=⟨b,o+j,none⟩) (block_lt_of_cell c0)).trans c0
   ·have e:j/2*2+1=j:=by omega
    rw[e] at f1
    have e3:o+j/2*2+1=o+j:=by omega
    rw[e3] at c1
    rw[f1] at hj
    cases hj
    exact(hb0.cell (p:=⟨b,o+j,none⟩) (block_lt_of_cell c1)).trans c1
  ·intro u hu
   unfold jm at hu
   obtain⟨p,_,hp⟩:=abY.1 hu
   simp at hp
   rcases hp with rfl|rfl<;>rfl
  ·intro v' w' hown' hg hiff
   rw[abv,aaE] at hown'
   rcases hown'.2 with ⟨hnil,_⟩|⟨gb,c,cur,rfl,hgb,hh,hlc,_⟩
   ·have:=(hiff.1 hnil).1
    cases this
   ·exact h gb c w' hown' hgb (lt_of_block hh) (hb0.grown hg (by simp) (fun q hq=>by cases hq;exact aad _))
set_option maxRecDepth 100000 in
set_option maxHeartbeats 4000000 in
theorem GV (n:Int) (ao:Option Addr) (ca:Nat) (es:List (Int×Int)) (w:World) (he:aQ w ao es) (hn:ao=none→ca=0) (hl:es.length*16≤140737488355328):
 Calls Tryz.prog 8 #[bX n ao es.length ca] w fun e w'=>∃gb c,e= .returned (.agg #[.int .i64 n,.slice (some ⟨gb,0,none⟩) es.length c])∧fj w' w.heap.size (.slice (some ⟨gb,0,none⟩) es.length c) es∧Below w.heap.size w w':=by
 obtain⟨W,hW⟩:∃W,W=(w.alloc (.cells #[.int .i64 n,.slice ao es.length ca] 24)).alloc (.cells #[.int .i64 0,.slice none 0 0] 24):=⟨_,rfl⟩
 have hB0:Below w.heap.size w W:=by rw[hW];exact((aae _ _).alloc (aad _) _).alloc (by simp) _
 have hsz:W.heap.size=w.heap.size+2:=by rw[hW];simp
 have g1:W.heap[w.heap.size]? =some (.cells #[.int .i64 n,.slice ao es.length ca] 24 (0,0)):=by
  rw[hW,aap _ _ _ (by simp)]
  exact heap_alloc_new w _
 have g2:W.heap[w.heap.size+1]? =some (.cells #[.int .i64 0,.slice none 0 0] 24 (0,0)):=by
  rw[hW]
  have:=heap_alloc_new (w.alloc (.cells #[.int .i64 n,.slice ao es.length ca] 24)) (.cells #[.int .i64 0,.slice none 0 0] 24)
  simpa using this
 have HE:=Nu.hid (he.later hB0)
 have cZ:=Nu.hid hB0
 have nh:=Nu.hid g1
 have iN:=Nu.hid g2
 have HN:=Nu.hid hn
 have vS:=Nu.hid hsz
 clear he hB0 hsz g1 g2 hn
 unfold bX
 go_enter Tryz.func8,Tryz.ntmps8
 go_wp2_with (at_builtin;rw[←hW];refine aaB ?_)
 refine Nu.hid ?_
 refine CH rfl _ _ rfl W ao ca es (by show Value.slice (some ⟨w.heap.size+1+1,0,none⟩) 0 0=_;rw[vS.out]) rfl HE.out HN.out hl ?_
 intro gb c w1 hown hgb hlt hb
 have Vd:=vS.out
 have k1:=(hb.block _ (by omega)).trans nh.out
 have k2:=(hb.block _ (by omega)).trans iN.out
 obtain⟨a0,a1,af⟩:=ay k1
 obtain⟨b0,b1,bf⟩:=ay k2
 have k3:(w1.setCell ⟨w.heap.size,1,none⟩ (.slice (some ⟨gb,0,none⟩) es.length c)).heap[w.heap.size]? =some (.cells #[.int .i64 n,.slice (some ⟨gb,0,none⟩) es.length c] 24 (0,0)):=by
  rw[heap_setCell_same w1 w.heap.size 1 _ _ _ k1]
  simp
 have k4:(w1.setCell ⟨w.heap.size,1,none⟩ (.slice (some ⟨gb,0,none⟩) es.length c)).heap[w.heap.size+1]? =some (.cells #[.int .i64 0,.slice none 0 0] 24 (0,0)):=(heap_setCell_other w1 ⟨w.heap.size,1,none⟩ (w.heap.size+1) _ (by show w.heap.size+1≠w.heap.size;omega)).trans k2
 obtain⟨e0,e1,ef⟩:=ay k3
 obtain⟨f0,f1,ff⟩:=ay k4
 have hgr:=gD k4 (.int .i64 n) (.slice (some ⟨gb,0,none⟩) es.length c)
 obtain⟨r0,r1,-⟩:=ay hgr
 have hown1:fj (w1.setCell ⟨w.heap.size,1,none⟩ (.slice (some ⟨gb,0,none⟩) es.length c)) (w.heap.size+2) (.slice (some ⟨gb,0,none⟩) es.length c) es:=by
  rw[Vd] at hown
  refine⟨hown.1,?_⟩
  rcases hown.2 with h|⟨g,cap,cur,e,hgB,hh,hr⟩
  ·exact .inl h
  ·exact .inr ⟨g,cap,cur,e,hgB,(heap_setCell_other w1 ⟨w.heap.size,1,none⟩ g _ (by show g≠w.heap.size;omega)).trans hh,hr⟩
 have yO:=Nu.hid (hown1.acZ (A:=w.heap.size) (b:=w.heap.size+1) (by omega) (.int .i64 n) (.slice (some ⟨gb,0,none⟩) es.length c))
 have oY:=Nu.hid ((((cZ.out.trans (hb.mono cZ.out.size)).setCell (p:=⟨w.heap.size,1,none⟩) (aad _) (.slice (some ⟨gb,0,none⟩) es.length c)).setCell (p:=⟨w.heap.size+1,0,none⟩) (by show w.heap.size≤w.heap.size+1;omega) (.int .i64 n)).setCell (p:=⟨w.heap.size+1,1,none⟩) (by show w.heap.size≤w.heap.size+1;omega) (.slice (some ⟨gb,0,none⟩) es.length c))
 have HR0:=Nu.hid r0
 have uC:=Nu.hid r1
 clear hown hb k1 k2 k3 k4 hgr hown1 r0 r1 Vd hW
 go_wp2
 refine bodyPost_ret (v:= .agg #[.int .i64 n,.slice (some ⟨gb,0,none⟩) es.length c]) (by simp[results,Tryz.results8,go_sem,HR0.out,uC.out]) rfl ?_
 exact⟨gb,c,rfl,yO.out,oY.out⟩
end
end Go.Proofs.YtdjmnpmdmjclhabGreat
