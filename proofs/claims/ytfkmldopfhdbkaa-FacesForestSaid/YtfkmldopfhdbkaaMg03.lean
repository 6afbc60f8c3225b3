import Derived.Test.YtfkmldopfhdbkaaMg01
import Derived.Test.YtfkmldopfhdbkaaMg02
import Derived.Test.YtfkmldopfhdbkaaProg
import Derived.Test.YtfkmldopfhdbkaaMg00
import Derived.WalkKit
import Derived.WalkSpells
import Derived.WalkLawsBesides
import Derived.Laws.OwnMore
/-
  Faces, pure: edge by edge from the vertices to the faces: Euler's formula and its parity.
-/
namespace Go.Proofs.Ytfkmldopfhdbkaa
namespace Fa
open Pl Co

/-- The first k edges are gone over. -/
def phi (f : Nat → Nat) (k : Nat) : Nat → Nat := fun h => if h < 2 * k then f (Cs.twin h) else f h

theorem phi_zero (f : Nat → Nat) : phi f 0 = f := by
  funext h
  unfold phi
  rw [if_neg (by omega)]
theorem twin_even (k : Nat) : Cs.twin (2 * k) = 2 * k + 1 := by unfold Cs.twin; rw [if_pos (by omega)]
theorem twin_odd (k : Nat) : Cs.twin (2 * k + 1) = 2 * k := by unfold Cs.twin; rw [if_neg (by omega)]; omega
theorem twin_twin (h : Nat) : Cs.twin (Cs.twin h) = h := by
  unfold Cs.twin
  split <;> split <;> omega
theorem phi_succ (f : Nat → Nat) (k : Nat) : phi f (k + 1) = swp (phi f k) (2 * k) (2 * k + 1) := by
  funext h
  show (if h < 2 * (k + 1) then f (Cs.twin h) else f h) = if h = 2 * k then (if 2 * k + 1 < 2 * k then f (Cs.twin (2 * k + 1)) else f (2 * k + 1)) else if h = 2 * k + 1 then (if 2 * k < 2 * k then f (Cs.twin (2 * k)) else f (2 * k)) else (if h < 2 * k then f (Cs.twin h) else f h)
  by_cases h1 : h = 2 * k
  · subst h1
    rw [if_pos (by omega), if_pos rfl, if_neg (by omega), twin_even]
  · by_cases h2 : h = 2 * k + 1
    · subst h2
      rw [if_pos (by omega), if_neg (by omega), if_pos rfl, if_neg (by omega), twin_odd]
    · rw [if_neg h1, if_neg h2]
      by_cases h3 : h < 2 * k
      · rw [if_pos (by omega), if_pos h3]
      · rw [if_neg (by omega), if_neg h3]

section
variable {M : Nat} {f : Nat → Nat}

theorem phi_per (h : Per (2 * M) f) : ∀ k, k ≤ M → Per (2 * M) (phi f k)
  | 0, _ => by rw [phi_zero]; exact h
  | k + 1, hk => by
    rw [phi_succ]
    exact (phi_per h k (by omega)).swp (by omega) (by omega)

/-- What neither a turn nor a twin changes. -/
theorem phi_keep {p : Nat → Bool} (h1 : ∀ x, x < 2 * M → p (f x) = p x) (h2 : ∀ x, x < 2 * M → p (Cs.twin x) = p x) (k : Nat) {x : Nat} (hx : x < 2 * M) : p (phi f k x) = p x := by
  unfold phi
  split
  · rw [h1 _ (Cs.twin_lt hx), h2 x hx]
  · exact h1 x hx

theorem parity (hf : Per (2 * M) f) {p : Nat → Bool} (h1 : ∀ x, x < 2 * M → p (f x) = p x) (h2 : ∀ x, x < 2 * M → p (Cs.twin x) = p x) {m0 : Nat → Nat} (h0 : Orb (2 * M) f m0) :
    ∀ (k : Nat), k ≤ M → ∀ m, Orb (2 * M) (phi f k) m → (nf (2 * M) m p + nf (2 * M) m0 p + cntTo (fun e => p (2 * e)) k) % 2 = 0
  | 0, _, m, hm => by
    rw [phi_zero] at hm
    have : nf (2 * M) m p = nf (2 * M) m0 p := cntTo_congr _ fun i hi => by rw [hm.unique h0 hi]
    unfold cntTo
    omega
  | k + 1, hk, m, hm => by
    have hq := phi_per hf k (by omega)
    obtain ⟨m1, hm1⟩ := orb_ex hq
    have ih := parity hf h1 h2 h0 k (by omega) m1 hm1
    rw [phi_succ] at hm
    have e2 : p (2 * k) = p (2 * k + 1) := by
      have := h2 (2 * k) (by omega)
      rw [twin_even] at this
      exact this.symm
    have hs := nf_swp (p := p) hq hm1 hm (by omega) (by omega) (by omega) (fun x hx => phi_keep h1 h2 k hx) e2
    have e3 : cntTo (fun e => p (2 * e)) (k + 1) = cntTo (fun e => p (2 * e)) k + if p (2 * k) = true then 1 else 0 := rfl
    rw [e3]
    rcases hs with ⟨_, hs⟩ | ⟨_, hs⟩ <;> split at hs <;> rename_i hc <;> simp only [hc, if_true, if_false, Bool.false_eq_true] <;> omega
end

section
variable {N : Nat} {es : List (Int × Int)} {f : Nat → Nat}

/-- What the first k edges join. -/
def G (N : Nat) (es : List (Int × Int)) (k : Nat) : Nat → Nat := joins N (es.take k) (fun x => x)

theorem G_succ {k : Nat} {p : Int × Int} (h : es[k]? = some p) : G N es (k + 1) = joinI N (G N es k) p.1 p.2 := by
  unfold G
  have : es.take (k + 1) = es.take k ++ [p] := by
    rw [List.take_add_one, h]
    rfl
  rw [this, joins_snoc]
theorem G_gen (k : Nat) : Gen N (es.take k) (G N es k) := gen_joins N _
theorem G_norm (k : Nat) : Norm N (G N es k) := (G_gen k).norm

theorem fr_in (hv : Si.Val N es) {h : Nat} (hh : h < 2 * es.length) : Cs.fr es h < N := by
  have hl : h / 2 < es.length := by omega
  have he : es[h / 2]? = some es[h / 2] := by simp [hl]
  have ok := hv.each _ _ he
  unfold Si.ok at ok
  unfold Cs.fr
  rw [List.getD_eq_getElem?_getD, he]
  split <;> simp <;> omega

theorem G_twin (hv : Si.Val N es) {k h : Nat} (hk : k ≤ es.length) (hh : h < 2 * k) : G N es k (Cs.fr es (Cs.twin h)) = G N es k (Cs.fr es h) := by
  have hl : h / 2 < es.length := by omega
  have he : es[h / 2]? = some es[h / 2] := by simp [hl]
  have ok := hv.each _ _ he
  unfold Si.ok at ok
  have hm : es[h / 2] ∈ es.take k := by
    refine List.mem_of_getElem? (i := h / 2) ?_
    rw [List.getElem?_take, if_pos (by omega), he]
  have := (G_gen (N := N) (es := es) k).meets _ hm (by unfold isIn; omega) (by unfold isIn; omega)
  rcases Nat.mod_two_eq_zero_or_one h with h2 | h2
  · have e : h = 2 * (h / 2) := by omega
    rw [e, twin_even, (Cs.fr_even he).1, (Cs.fr_odd he).1]
    exact this.symm
  · have e : h = 2 * (h / 2) + 1 := by omega
    rw [e, twin_odd, (Cs.fr_even he).1, (Cs.fr_odd he).1]
    exact this

/-- Euler's formula, edge by edge. -/
theorem chain (hv : Si.Val N es) (hf : Per (2 * es.length) f) (hfr : ∀ x, x < 2 * es.length → Cs.fr es (f x) = Cs.fr es x) {m0 : Nat → Nat} (h0 : Orb (2 * es.length) f m0) {i : Nat} (hi : cnt (2 * es.length) m0 + i = N) :
    ∀ (k : Nat), k ≤ es.length → ∀ m, Orb (2 * es.length) (phi f k) m → ∃ g, cnt (2 * es.length) m + i + N + 2 * g = 2 * cnt N (G N es k) + k ∧ g + N ≤ k + cnt N (G N es k)
  | 0, _, m, hm => by
    rw [phi_zero] at hm
    have : cnt (2 * es.length) m = cnt (2 * es.length) m0 := cntTo_congr _ fun i hi => by rw [hm.unique h0 hi]
    have e : cnt N (G N es 0) = N := by
      unfold G
      simp only [List.take_zero, joins, List.foldl_nil]
      exact cnt_id N
    exact ⟨0, by omega, by omega⟩
  | k + 1, hk, m, hm => by
    have hq := phi_per hf k (by omega)
    obtain ⟨m1, hm1⟩ := orb_ex hq
    obtain ⟨g, ih1, ih2⟩ := chain hv hf hfr h0 hi k (by omega) m1 hm1
    rw [phi_succ] at hm
    have hs := nf_swp (p := fun _ => true) hq hm1 hm (by omega) (by omega) (by omega) (fun x hx => rfl) rfl
    rw [nf_true, nf_true, if_pos rfl] at hs
    have he : es[k]? = some es[k] := by simp
    have ok := hv.each _ _ he
    unfold Si.ok at ok
    have ia : isIn N es[k].1 := by unfold isIn; omega
    have ib : isIn N es[k].2 := by unfold isIn; omega
    rw [G_succ he]
    unfold Co.joinI
    by_cases hc : G N es k es[k].1.toNat = G N es k es[k].2.toNat
    · rw [if_neg (by rw [apart_iff]; rintro ⟨_, _, h⟩; exact h hc)]
      rcases hs with ⟨_, hs⟩ | ⟨_, hs⟩
      · exact ⟨g + 1, by omega, by omega⟩
      · exact ⟨g, by omega, by omega⟩
    · rw [if_pos (apart_iff.2 ⟨ia, ib, hc⟩)]
      have hj := cnt_join (G_norm (N := N) (es := es) k) (isIn_lt ia) (isIn_lt ib) hc
      have hne : m1 (2 * k) ≠ m1 (2 * k + 1) := fun e => by
        obtain ⟨j, hj⟩ := (hm1.iff (2 * k) (2 * k + 1) (by omega) (by omega)).1 e
        have := it_keep (p := fun h => G N es k (Cs.fr es h)) hq.lt (fun x hx => by
          show G N es k (Cs.fr es (phi f k x)) = G N es k (Cs.fr es x)
          unfold phi
          split
          · rename_i hx2
            rw [hfr _ (Cs.twin_lt hx), G_twin hv (by omega) hx2]
          · rw [hfr x hx]) j (x := 2 * k) (by omega)
        rw [hj] at this
        simp only [(Cs.fr_even he).1, (Cs.fr_odd he).1] at this
        exact hc this.symm
      rcases hs with ⟨_, hs⟩ | ⟨hc2, _⟩
      · exact ⟨g, by omega, by omega⟩
      · exact absurd hc2 hne
end

end Fa
end Go.Proofs.Ytfkmldopfhdbkaa

/-
  Memory: the words by which the walks say what lies where, and their small laws.
-/
namespace Go.Proofs.Ytfkmldopfhdbkaa
open Go.RowKit

theorem Nu.hid {p : Prop} (h : p) : Hid p := h

/-- The bytes g 0 .. g (n - 1) lie at ao. -/
def HasText (w : World) (ao : Option Addr) (n : Nat) (g : Nat → Int) : Prop :=
  ∀ i, i < n → (0 ≤ g i ∧ g i ≤ 255) ∧ ∃ tb to, ao = some ⟨tb, to, none⟩ ∧ w.cell? ⟨tb, to + i, none⟩ = some (.int .u8 (g i))

def Apart (ao : Option Addr) (b : Nat) : Prop := ∀ x, ao = some x → x.block ≠ b

section
variable {w w' : World} {b : Nat} {ao : Option Addr} {n cap p : Nat} {g : Nat → Int}

theorem grownBy_setCell {w0 : World} (h : w0.grownBy w (some b)) (i : Nat) (v : Value) : w0.grownBy (w.setCell ⟨b, i, none⟩ v) (some b) := by
  refine ⟨h.os, h.tape, h.output, by simpa using h.size, fun k hk hne => ?_⟩
  rw [heap_setCell_other w ⟨b, i, none⟩ k v (fun e => hne (by rw [e])), h.block k hk hne]
theorem grownBy_trans {w0 w1 w2 : World} {r : Option Nat} (h : w0.grownBy w1 r) (k : w1.grownBy w2 r) : w0.grownBy w2 r :=
  ⟨k.os.trans h.os, k.tape.trans h.tape, k.output.trans h.output, Nat.le_trans h.size k.size, fun i hi hne => (k.block i (Nat.lt_of_lt_of_le hi h.size) hne).trans (h.block i hi hne)⟩
theorem grownBy_drewN {w0 : World} {r : Option Nat} (h : w0.grownBy w r) (k : Nat) : w0.grownBy (w.drewN k) r := ⟨h.os, h.tape, h.output, h.size, h.block⟩
theorem grownBy_drew {w0 : World} {r : Option Nat} (h : w0.grownBy w r) : w0.grownBy w.drew r := ⟨h.os, h.tape, h.output, h.size, h.block⟩
theorem grownBy_alloc' {w0 : World} {r : Option Nat} (h : w0.grownBy w r) (o : Obj) : w0.grownBy (w.alloc o) r := grownBy_trans h (World.grownBy_alloc w o r)

/-- Four stores into block B. -/
def put4 (w : World) (B : Nat) (a b c d : Value) : World := (((w.setCell ⟨B, 0, none⟩ a).setCell ⟨B, 1, none⟩ b).setCell ⟨B, 2, none⟩ c).setCell ⟨B, 3, none⟩ d
theorem put4_heap {B : Nat} {t : TypeId} {x0 x1 x2 x3 : Value} (h : w.heap[B]? = some (.cells #[x0, x1, x2, x3] t (0, 0))) (a b c d : Value) : (put4 w B a b c d).heap[B]? = some (.cells #[a, b, c, d] t (0, 0)) := by
  have h1 := heap_setCell_same w B 0 _ t a h
  have h2 := heap_setCell_same _ B 1 _ t b h1
  have h3 := heap_setCell_same _ B 2 _ t c h2
  have h4 := heap_setCell_same _ B 3 _ t d h3
  unfold put4
  simpa using h4
theorem put4_other {B k : Nat} (hk : k ≠ B) (a b c d : Value) : (put4 w B a b c d).heap[k]? = w.heap[k]? := by
  unfold put4
  rw [heap_setCell_other _ ⟨B, 3, none⟩ k d hk, heap_setCell_other _ ⟨B, 2, none⟩ k c hk, heap_setCell_other _ ⟨B, 1, none⟩ k b hk, heap_setCell_other _ ⟨B, 0, none⟩ k a hk]
theorem put4_size (B : Nat) (a b c d : Value) : (put4 w B a b c d).heap.size = w.heap.size := by simp [put4]
theorem grownBy_put4 {w0 : World} {r : Option Nat} (h : w0.grownBy w r) {B : Nat} (hB : w0.heap.size ≤ B) (x0 x1 x2 x3 : Value) : w0.grownBy (put4 w B x0 x1 x2 x3) r :=
  ⟨h.os, h.tape, h.output, by rw [put4_size]; exact h.size, fun k hk hne => (put4_other (by omega) x0 x1 x2 x3).trans (h.block k hk hne)⟩

theorem HasText.grown (h : HasText w ao n g) (hg : w.grownBy w' (some b)) (ha : Apart ao b) : HasText w' ao n g := by
  intro i hi
  obtain ⟨hb, tb, to, e, hc⟩ := h i hi
  exact ⟨hb, tb, to, e, hg.cell hc (by simpa using ha _ e)⟩
theorem HasText.alloc (h : HasText w ao n g) (o : Obj) : HasText (w.alloc o) ao n g := by
  intro i hi
  obtain ⟨hb, tb, to, e, hc⟩ := h i hi
  exact ⟨hb, tb, to, e, (World.grownBy_alloc w o none).cell hc (by simp)⟩
theorem HasText.drewN (h : HasText w ao n g) (k : Nat) : HasText (w.drewN k) ao n g := h
theorem HasText.grown0 (h : HasText w ao n g) (hg : w.grownBy w' none) : HasText w' ao n g := by
  intro i hi
  obtain ⟨hb, tb, to, e, hc⟩ := h i hi
  exact ⟨hb, tb, to, e, hg.cell hc (by simp)⟩
theorem HasText.later (h : HasText w ao n g) (hg : Below w.heap.size w w') : HasText w' ao n g := by
  intro i hi
  obtain ⟨hb, tb, to, e, hc⟩ := h i hi
  exact ⟨hb, tb, to, e, (hg.cell (p := ⟨tb, to + i, none⟩) (block_lt_of_cell hc)).trans hc⟩
theorem HasText.below {B : Nat} (h : HasText w ao n g) (hg : Below B w w') (ha : ∀ x, ao = some x → x.block < B) : HasText w' ao n g := by
  intro i hi
  obtain ⟨hb, tb, to, e, hc⟩ := h i hi
  exact ⟨hb, tb, to, e, (hg.cell (p := ⟨tb, to + i, none⟩) (show tb < B from ha _ e)).trans hc⟩
end

end Go.Proofs.Ytfkmldopfhdbkaa

/-
  Where half-edges begin and lead, as ints; the twin by its bits (pure).
-/
namespace Go.Proofs.Ytfkmldopfhdbkaa
open Go.RowKit

/-- What leaves a number, as ints. -/
def Cs.outZ (n : Nat) (es : List (Int × Int)) (x : Int) : List Int := (Cs.outI n es x).map fun i : Nat => (i : Int)

theorem Cs.outZ_len {n : Nat} {es : List (Int × Int)} {x : Int} : (Cs.outZ n es x).length = (Cs.outI n es x).length := by simp [Cs.outZ]

/-- What From answers. -/
def Cs.frI (es : List (Int × Int)) (x : Int) : Int := if 0 ≤ x ∧ x < 2 * (es.length : Int) then (Cs.fr es x.toNat : Int) else -1
/-- What To answers. -/
def Cs.toI (es : List (Int × Int)) (x : Int) : Int := if 0 ≤ x ∧ x < 2 * (es.length : Int) then (Cs.to es x.toNat : Int) else -1

theorem Cs.frI_in {es : List (Int × Int)} {i : Nat} (h : i < 2 * es.length) : Cs.frI es i = (Cs.fr es i : Int) := by
  unfold Cs.frI
  rw [if_pos (by omega)]
  simp
theorem Cs.toI_in {es : List (Int × Int)} {i : Nat} (h : i < 2 * es.length) : Cs.toI es i = (Cs.to es i : Int) := by
  unfold Cs.toI
  rw [if_pos (by omega)]
  simp
theorem Cs.frI_no {es : List (Int × Int)} {x : Int} (h : ¬ (0 ≤ x ∧ x < 2 * (es.length : Int))) : Cs.frI es x = -1 := by unfold Cs.frI; rw [if_neg h]
theorem Cs.toI_no {es : List (Int × Int)} {x : Int} (h : ¬ (0 ≤ x ∧ x < 2 * (es.length : Int))) : Cs.toI es x = -1 := by unfold Cs.toI; rw [if_neg h]

theorem Cs.nat_xor_one (u : Nat) : u ^^^ 1 = Cs.twin u := by
  have h1 : (u ^^^ 1) / 2 = u / 2 := by rw [Nat.xor_div_two]; simp
  have h2 : (u ^^^ 1) % 2 = (u + 1) % 2 := by
    have := Nat.xor_mod_two_pow (a := u) (b := 1) (n := 1)
    simp at this
    rw [this]
    rcases Nat.mod_two_eq_zero_or_one u with h | h <;> rw [h] <;> simp <;> omega
  unfold Cs.twin
  split <;> omega

theorem Cs.xor_twin (u : Nat) (hu : u < 4611686018427387904) : bits .xor .i64 (u : Int) 1 = (Cs.twin u : Int) := by
  have h1 : (BitVec.ofInt 64 (u : Int)).toNat = u := by
    rw [BitVec.ofInt_natCast, BitVec.toNat_ofNat]; exact Nat.mod_eq_of_lt (by omega)
  have h2 : (BitVec.ofInt 64 (1 : Int)).toNat = 1 := by decide
  show IntKind.i64.wrap ((BitVec.ofInt 64 (u : Int) ^^^ BitVec.ofInt 64 (1 : Int)).toNat : Int) = _
  have h3 := Cs.nat_xor_one u
  have h4 : Cs.twin u ≤ u + 1 := by unfold Cs.twin; split <;> omega
  rw [BitVec.toNat_xor, h1, h2, IntKind.wrap_i64, h3]
  omega

end Go.Proofs.Ytfkmldopfhdbkaa

/-
  Rotations, pure: what Check finds first.
-/
namespace Go.Proofs.Ytfkmldopfhdbkaa
namespace Ro

/-- h is a half-edge that leaves v. -/
def lv (es : List (Int × Int)) (h : Int) (v : Nat) : Bool := decide (0 ≤ h) && decide (h < 2 * (es.length : Int)) && (Cs.frI es h == (v : Int))

/-- What is wrong first among the elements of v's list, pre ahead of them: 111, 112, or 0. -/
def elt (es : List (Int × Int)) (v : Nat) : List Int → List Int → Int
  | _, [] => 0
  | pre, h :: t => if lv es h v then (if h ∈ pre then 112 else elt es v (pre ++ [h]) t) else 111

/-- How many half-edges leave v. -/
def deg (es : List (Int × Int)) (v : Nat) : Nat := (Cs.out es v (2 * es.length)).length

/-- What is wrong at v. -/
def vtx (es : List (Int × Int)) (v : Nat) (l : List Int) : Int := if elt es v [] l ≠ 0 then elt es v [] l else if l.length < deg es v then 113 else 0

/-- What is wrong first, from vertex v on: the vertex, the number. -/
def chk (es : List (Int × Int)) : Nat → List (List Int) → Nat × Int
  | _, [] => (0, 0)
  | v, l :: ls => if vtx es v l ≠ 0 then (v, vtx es v l) else chk es (v + 1) ls

/-- What Check answers. -/
noncomputable def check (n : Int) (es : List (Int × Int)) (ls : List (List Int)) : Nat × Int := if Si.valid n es = true then (if (ls.length : Int) ≠ n then (0, 110) else chk es 0 ls) else (0, 1)

end Ro
end Go.Proofs.Ytfkmldopfhdbkaa

/-
  Lists of truths in blocks of their own.
-/
namespace Go.Proofs.Ytfkmldopfhdbkaa
open Go.RowKit

theorem Try.infoBool : (Try.prog.info? 4).map (fun i => (i.zero, i.size, i.bytes)) = some (some (.bool false), 1, 1) := by kernel_rfl

def Co.updB (f : Nat → Bool) (x : Nat) (y : Bool) : Nat → Bool := fun i => if i = x then y else f i
theorem Co.updB_same (f : Nat → Bool) (x : Nat) (y : Bool) : Co.updB f x y x = y := by simp [Co.updB]
theorem Co.updB_other (f : Nat → Bool) {x i : Nat} {y : Bool} (h : i ≠ x) : Co.updB f x y i = f i := by simp [Co.updB, h]

/-- The first n values of f. -/
def Co.bools (n : Nat) (f : Nat → Bool) : List Value := (List.range n).map fun i => Value.bool (f i)

/-- Block g holds the first n values of f. -/
def BoolsIn (w : World) (g n : Nat) (f : Nat → Bool) : Prop := w.heap[g]? = some (.cells (Co.bools n f).toArray 4 (0, 0))

section
variable {w w' : World} {g n : Nat} {f : Nat → Bool}
theorem Co.bools_at {i : Nat} (hi : i < n) : (Co.bools n f)[i]? = some (.bool (f i)) := by
  unfold Co.bools
  rw [List.getElem?_map, List.getElem?_range hi]
  rfl
theorem BoolsIn.lt (h : BoolsIn w g n f) : g < w.heap.size := lt_of_block h
theorem BoolsIn.cell (h : BoolsIn w g n f) {i : Nat} (hi : i < n) : w.cell? ⟨g, i, none⟩ = some (.bool (f i)) := by
  unfold BoolsIn at h
  have := Co.bools_at (f := f) hi
  simp [World.cell?, h, this]
theorem BoolsIn.free (h : BoolsIn w g n f) (i : Nat) : w.frozen? ⟨g, i, none⟩ = false := by
  unfold BoolsIn at h
  simp [World.frozen?, h]
theorem BoolsIn.set (h : BoolsIn w g n f) (i : Nat) (y : Bool) : BoolsIn (w.setCell ⟨g, i, none⟩ (.bool y)) g n (Co.updB f i y) := by
  unfold BoolsIn at h ⊢
  rw [heap_setCell_same w g i _ _ _ h, List.setIfInBounds_toArray]
  congr 2
  congr 1
  refine List.ext_getElem? fun j => ?_
  rw [List.getElem?_set]
  by_cases hj : j < n
  · rw [Co.bools_at hj, Co.bools_at hj]
    by_cases e : i = j
    · subst e
      rw [if_pos rfl, if_pos (by simp [Co.bools]; exact hj), Co.updB_same]
    · rw [if_neg e, Co.updB_other _ (Ne.symm e)]
  · rw [List.getElem?_eq_none (by simp [Co.bools]; omega), List.getElem?_eq_none (by simp [Co.bools]; omega)]
    by_cases e : i = j
    · rw [if_pos e, if_neg (by simp [Co.bools]; omega)]
    · rw [if_neg e]
theorem BoolsIn.same (h : BoolsIn w g n f) (hb : w'.heap[g]? = w.heap[g]?) : BoolsIn w' g n f := hb.trans h
theorem BoolsIn.later (h : BoolsIn w g n f) (hb : Below w.heap.size w w') : BoolsIn w' g n f := (hb.block g h.lt).trans h
theorem made_bools {W : World} {k : Nat} (h : W.heap.size = k) (n : Nat) : BoolsIn (W.alloc (.cells (madeCells #[.bool false] n) 4)) k n (fun _ => false) := by
  subst h
  unfold BoolsIn
  rw [heap_alloc_new]
  congr 2
  apply Array.ext'
  rw [toList_madeCells_one]
  refine List.ext_getElem? fun j => ?_
  by_cases hj : j < n
  · rw [Co.bools_at hj]; simp [hj]
  · rw [List.getElem?_eq_none (by simp; omega), List.getElem?_eq_none (by simp [Co.bools]; omega)]
end

end Go.Proofs.Ytfkmldopfhdbkaa

/-
  Rotations, pure: what stood, and Check step by step.
-/
namespace Go.Proofs.Ytfkmldopfhdbkaa
namespace Ro

/-- What stood: f tells just the half-edges of D, which leave vertices below v, and those of pre, which leave v. -/
structure Sd (es : List (Int × Int)) (f : Nat → Bool) (v : Nat) (D pre : List Int) : Prop where
  tell : ∀ j : Nat, f j = true ↔ (j : Int) ∈ D ∨ (j : Int) ∈ pre
  low : ∀ x ∈ D, ∃ u : Nat, u < v ∧ lv es x u = true
  here : ∀ x ∈ pre, lv es x v = true

theorem lv_one {es : List (Int × Int)} {x : Int} {u v : Nat} (h : lv es x u = true) (h2 : lv es x v = true) : u = v := by
  unfold lv at h h2
  simp at h h2
  omega

theorem lv_nat {es : List (Int × Int)} {x : Int} {v : Nat} (h : lv es x v = true) : ∃ j : Nat, x = (j : Int) ∧ j < 2 * es.length ∧ Cs.fr es j = v := by
  unfold lv at h
  simp at h
  obtain ⟨j, rfl⟩ : ∃ j : Nat, x = (j : Int) := ⟨x.toNat, by omega⟩
  have hj : j < 2 * es.length := by omega
  rw [Cs.frI_in hj] at h
  exact ⟨j, rfl, hj, by omega⟩

theorem lv_of {es : List (Int × Int)} {j v : Nat} (hj : j < 2 * es.length) (h : Cs.fr es j = v) : lv es (j : Int) v = true := by
  unfold lv
  rw [Cs.frI_in hj]
  simp
  omega

theorem Sd.start (es : List (Int × Int)) : Sd es (fun _ => false) 0 [] [] := ⟨fun j => by simp, fun x hx => by simp at hx, fun x hx => by simp at hx⟩

theorem Sd.twice {es : List (Int × Int)} {f : Nat → Bool} {v j : Nat} {D pre : List Int} (h : Sd es f v D pre) (hl : lv es (j : Int) v = true) : f j = true ↔ (j : Int) ∈ pre := by
  rw [h.tell]
  constructor
  · rintro (h1 | h1)
    · obtain ⟨u, hu, h2⟩ := h.low _ h1
      have := lv_one hl h2
      omega
    · exact h1
  · exact Or.inr

theorem Sd.put {es : List (Int × Int)} {f : Nat → Bool} {v j : Nat} {D pre : List Int} (h : Sd es f v D pre) (hl : lv es (j : Int) v = true) : Sd es (Co.updB f j true) v D (pre ++ [(j : Int)]) := by
  refine ⟨fun i => ?_, h.low, fun x hx => ?_⟩
  · by_cases e : i = j
    · subst e
      rw [Co.updB_same]
      simp
    · rw [Co.updB_other _ e, h.tell]
      have e2 : ¬ (i : Int) = (j : Int) := by omega
      simp [e2]
  · rcases List.mem_append.1 hx with h1 | h1
    · exact h.here x h1
    · obtain rfl := List.mem_singleton.1 h1
      exact hl

theorem Sd.next {es : List (Int × Int)} {f : Nat → Bool} {v : Nat} {D pre : List Int} (h : Sd es f v D pre) : Sd es f (v + 1) (D ++ pre) [] := by
  refine ⟨fun i => ?_, fun x hx => ?_, fun x hx => by simp at hx⟩
  · rw [h.tell]
    simp
  · rcases List.mem_append.1 hx with h1 | h1
    · obtain ⟨u, hu, h2⟩ := h.low x h1
      exact ⟨u, by omega, h2⟩
    · exact ⟨v, by omega, h.here x h1⟩

section
variable {es : List (Int × Int)} {v : Nat} {pre t : List Int} {h : Int}
theorem elt_half (hl : lv es h v = false) : elt es v pre (h :: t) = 111 := by simp [elt, hl]
theorem elt_twice (hl : lv es h v = true) (hp : h ∈ pre) : elt es v pre (h :: t) = 112 := by simp [elt, hl, hp]
theorem elt_on (hl : lv es h v = true) (hp : h ∉ pre) : elt es v pre (h :: t) = elt es v (pre ++ [h]) t := by simp [elt, hl, hp]
end

theorem chk_bad {es : List (Int × Int)} {k : Nat} {l : List Int} {ls : List (List Int)} {c : Int} (h : vtx es k l = c) (hc : c ≠ 0) : chk es k (l :: ls) = (k, c) := by
  unfold chk
  rw [h, if_pos hc]
theorem chk_on {es : List (Int × Int)} {k : Nat} {l : List Int} {ls : List (List Int)} (h : vtx es k l = 0) : chk es k (l :: ls) = chk es (k + 1) ls := by
  conv => lhs; unfold chk
  rw [h, if_neg (by simp)]

theorem vtx_elt {es : List (Int × Int)} {k : Nat} {l : List Int} {c : Int} (h : elt es k [] l = c) (hc : c ≠ 0) : vtx es k l = c := by
  unfold vtx
  rw [h, if_pos hc]
theorem vtx_missing {es : List (Int × Int)} {k : Nat} {l : List Int} (h : elt es k [] l = 0) (hd : l.length < deg es k) : vtx es k l = 113 := by
  unfold vtx
  rw [h, if_neg (by simp), if_pos hd]
theorem vtx_ok {es : List (Int × Int)} {k : Nat} {l : List Int} (h : elt es k [] l = 0) (hd : ¬ l.length < deg es k) : vtx es k l = 0 := by
  unfold vtx
  rw [h, if_neg (by simp), if_neg hd]

theorem chk_zero {es : List (Int × Int)} : ∀ {k : Nat} {ls : List (List Int)}, (chk es k ls).2 = 0 → (chk es k ls).1 = 0
  | _, [], _ => rfl
  | k, l :: ls, h => by
    unfold chk at h ⊢
    split at h
    · rename_i hc
      exact absurd h hc
    · rename_i hc
      rw [if_neg hc]
      exact chk_zero h

theorem check_zero {n : Int} {es : List (Int × Int)} {ls : List (List Int)} (h : (check n es ls).2 = 0) : (check n es ls).1 = 0 := by
  unfold check at h ⊢
  split at h
  · rename_i h1
    rw [if_pos h1]
    split at h
    · cases h
    · rename_i h2
      rw [if_neg h2]
      exact chk_zero h
  · cases h

theorem drop_cons {α : Type} {l : List α} {i : Nat} {x : α} (h : l[i]? = some x) : l.drop i = x :: l.drop (i + 1) := by
  obtain ⟨hi, rfl⟩ := List.getElem?_eq_some_iff.1 h
  exact List.drop_eq_getElem_cons hi
theorem take_snoc' {α : Type} {l : List α} {i : Nat} {x : α} (h : l[i]? = some x) : l.take (i + 1) = l.take i ++ [x] := by
  rw [List.take_add_one, h]
  rfl

end Ro
end Go.Proofs.Ytfkmldopfhdbkaa

/-
  Rotations, pure: what Next gives, and what a rotation is.
-/
namespace Go.Proofs.Ytfkmldopfhdbkaa
namespace Ro

/-- The first k elements of a list have been gone by: each has the one behind it. -/
def row (l : List Int) : Nat → List Int → List Int
  | 0, acc => acc
  | k + 1, acc => (row l k acc).set (l.getD k 0).toNat (l.getD ((k + 1) % l.length) 0)

/-- The first k lists have been gone by. -/
def nx (ls : List (List Int)) : Nat → List Int → List Int
  | 0, acc => acc
  | k + 1, acc => row (ls.getD k []) (ls.getD k []).length (nx ls k acc)

/-- What Next answers. -/
def nextL (es : List (Int × Int)) (ls : List (List Int)) : List Int := nx ls ls.length (List.replicate (2 * es.length) 0)

theorem row_len (l : List Int) : ∀ k acc, (row l k acc).length = acc.length
  | 0, _ => rfl
  | k + 1, acc => by
    unfold row
    rw [List.length_set, row_len l k]
theorem nx_len (ls : List (List Int)) : ∀ k acc, (nx ls k acc).length = acc.length
  | 0, _ => rfl
  | k + 1, acc => by
    unfold nx
    rw [row_len, nx_len ls k]
theorem nextL_len (es : List (Int × Int)) (ls : List (List Int)) : (nextL es ls).length = 2 * es.length := by
  unfold nextL
  rw [nx_len]
  simp

/-- Nothing wrong among the elements: they leave v, each stands once. -/
theorem elt_ok {es : List (Int × Int)} {v : Nat} : ∀ {t pre : List Int}, elt es v pre t = 0 → (∀ x ∈ t, lv es x v = true) ∧ t.Nodup ∧ ∀ x ∈ t, x ∉ pre
  | [], pre, _ => ⟨fun x hx => by simp at hx, List.nodup_nil, fun x hx => by simp at hx⟩
  | h :: t, pre, h0 => by
    cases hl : lv es h v with
    | false => rw [elt_half hl] at h0; cases h0
    | true =>
      by_cases hp : h ∈ pre
      · rw [elt_twice hl hp] at h0; cases h0
      · rw [elt_on hl hp] at h0
        obtain ⟨i1, i2, i3⟩ := elt_ok h0
        refine ⟨fun x hx => ?_, ?_, fun x hx => ?_⟩
        · rcases List.mem_cons.1 hx with rfl | hx
          · exact hl
          · exact i1 x hx
        · rw [List.nodup_cons]
          exact ⟨fun hm => i3 h hm (by simp), i2⟩
        · rcases List.mem_cons.1 hx with rfl | hx
          · exact hp
          · intro hm
            exact i3 x hx (by simp [hm])

theorem elt_of {es : List (Int × Int)} {v : Nat} : ∀ {t pre : List Int}, (∀ x ∈ t, lv es x v = true) → t.Nodup → (∀ x ∈ t, x ∉ pre) → elt es v pre t = 0
  | [], _, _, _, _ => rfl
  | h :: t, pre, h1, h2, h3 => by
    rw [List.nodup_cons] at h2
    rw [elt_on (h1 h (by simp)) (h3 h (by simp))]
    refine elt_of (fun x hx => h1 x (by simp [hx])) h2.2 fun x hx hm => ?_
    rcases List.mem_append.1 hm with h4 | h4
    · exact h3 x (by simp [hx]) h4
    · rw [List.mem_singleton] at h4
      subst h4
      exact h2.1 hx

/-- l is a list of v in a rotation: those that leave v, each once. -/
structure IsRot (es : List (Int × Int)) (v : Nat) (l : List Int) : Prop where
  lv : ∀ x ∈ l, lv es x v = true
  once : l.Nodup
  all : deg es v ≤ l.length

theorem vtx_iff {es : List (Int × Int)} {v : Nat} {l : List Int} : vtx es v l = 0 ↔ IsRot es v l := by
  constructor
  · intro h
    unfold vtx at h
    split at h
    · rename_i h1; exact absurd h h1
    · rename_i h1
      have h1 : elt es v [] l = 0 := by simpa using h1
      obtain ⟨a, b, -⟩ := elt_ok h1
      split at h
      · cases h
      · exact ⟨a, b, by omega⟩
  · intro h
    exact vtx_ok (elt_of h.lv h.once fun x _ hx => by simp at hx) (by have := h.all; omega)

theorem chk_iff {es : List (Int × Int)} : ∀ {k : Nat} {ls : List (List Int)}, (chk es k ls).2 = 0 ↔ ∀ v l, ls[v]? = some l → IsRot es (k + v) l
  | k, [] => by simp [chk]
  | k, l :: ls => by
    by_cases h0 : vtx es k l = 0
    · rw [chk_on h0, chk_iff]
      constructor
      · intro h v m hm
        cases v with
        | zero => simp at hm; subst hm; exact vtx_iff.1 h0
        | succ v =>
          have := h v m (by simpa using hm)
          rwa [show k + 1 + v = k + (v + 1) by omega] at this
      · intro h v m hm
        have := h (v + 1) m (by simpa using hm)
        rwa [show k + (v + 1) = k + 1 + v by omega] at this
    · rw [chk_bad rfl h0]
      constructor
      · intro h; exact absurd h h0
      · intro h
        have := h 0 l rfl
        exact absurd (vtx_iff.2 this) h0

/-- ls is a rotation of the graph. -/
structure Rot (n : Int) (es : List (Int × Int)) (ls : List (List Int)) : Prop where
  val : Si.valid n es = true
  len : (ls.length : Int) = n
  each : ∀ v l, ls[v]? = some l → IsRot es v l

theorem check_iff {n : Int} {es : List (Int × Int)} {ls : List (List Int)} : (check n es ls).2 = 0 ↔ Rot n es ls := by
  unfold check
  constructor
  · intro h
    split at h
    · rename_i hv
      split at h
      · cases h
      · rename_i hl
        have hl : (ls.length : Int) = n := by omega
        have := chk_iff.1 h
        exact ⟨hv, hl, fun v l hvl => by have := this v l hvl; rwa [Nat.zero_add] at this⟩
    · cases h
  · intro h
    rw [if_pos h.val, if_neg (by have := h.len; omega), chk_iff]
    intro v l hvl
    rw [Nat.zero_add]
    exact h.each v l hvl

theorem Rot.half {n : Int} {es : List (Int × Int)} {ls : List (List Int)} (h : Rot n es ls) {v i : Nat} {l : List Int} {x : Int} (hl : ls[v]? = some l) (hx : l[i]? = some x) : ∃ j : Nat, x = (j : Int) ∧ j < 2 * es.length ∧ Cs.fr es j = v :=
  lv_nat ((h.each v l hl).lv x (List.mem_of_getElem? hx))

end Ro
end Go.Proofs.Ytfkmldopfhdbkaa
