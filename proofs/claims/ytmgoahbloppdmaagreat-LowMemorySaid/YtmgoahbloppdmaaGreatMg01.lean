import Derived.Test.YtmgoahbloppdmaaGreatMg00
import Derived.Test.YtmgoahbloppdmaaGreatProg
import Derived.WalkKit
import Derived.WalkSpells
import Derived.WalkLawsBesides
import Derived.Sort.Grow
import Derived.Deep.RegionHeld3
import Derived.Laws.OwnMore
/-
  The depth-first walk, pure: as a relation, by half-edges that are still to be looked at; it has one answer.
-/
namespace Go.Proofs.YtmgoahbloppdmaaGreat
namespace Df

/-- A walk under way: parents, heights (-1: not reached), order, orientation (-1: not walked). -/
structure St where
  par : List Int
  hei : List Int
  ord : List Int
  ori : List Int
deriving DecidableEq

abbrev St.height (s : St) (v : Nat) : Int := s.hei.getD v (-1)
abbrev St.dir (s : St) (e : Nat) : Int := s.ori.getD e (-1)
/-- How many edges have not been walked. -/
abbrev St.left (s : St) : Nat := s.ori.count (-1)

def St.reach (s : St) (v : Nat) (h height : Int) : St := ⟨s.par.set v h, s.hei.set v height, s.ord ++ [(v : Int)], s.ori⟩
def St.mark (s : St) (h : Nat) : St := ⟨s.par, s.hei, s.ord, s.ori.set (h / 2) (h : Int)⟩
/-- The half-edge h is walked to a vertex that is new. -/
def St.go (es : List (Int × Int)) (s : St) (h : Nat) : St := (s.mark h).reach (Cs.to es h) h (s.height (Cs.fr es h) + 1)

/-- From s, with the half-edges L of one vertex still to be looked at, the walk comes to s' (k: how much is done). -/
inductive R (es : List (Int × Int)) : Nat → St → List Nat → St → Prop
  | nil (s : St) : R es 0 s [] s
  | old {k : Nat} {s s' : St} {h : Nat} {L : List Nat} (hw : s.dir (h / 2) ≠ -1) (hr : R es k s L s') : R es (k + 1) s (h :: L) s'
  | back {k : Nat} {s s' : St} {h : Nat} {L : List Nat} (hw : s.dir (h / 2) = -1) (hv : s.height (Cs.to es h) ≠ -1) (hr : R es k (s.mark h) L s') : R es (k + 1) s (h :: L) s'
  | tree {j k : Nat} {s s1 s' : St} {h : Nat} {L : List Nat} (hw : s.dir (h / 2) = -1) (hv : s.height (Cs.to es h) = -1) (h1 : R es j (s.go es h) (Cs.out es (Cs.to es h) (2 * es.length)) s1) (h2 : R es k s1 L s') : R es (j + k + 2) s (h :: L) s'

theorem R.unique {es : List (Int × Int)} {k : Nat} {s s' : St} {L : List Nat} (h : R es k s L s') : ∀ {k' : Nat} {s'' : St}, R es k' s L s'' → k = k' ∧ s' = s'' := by
  induction h with
  | nil s => intro k' s'' h; cases h; exact ⟨rfl, rfl⟩
  | old hw hr ih =>
    intro k' s'' h
    cases h with
    | old hw' hr' => obtain ⟨rfl, rfl⟩ := ih hr'; exact ⟨rfl, rfl⟩
    | back hw' => exact absurd hw' hw
    | tree hw' => exact absurd hw' hw
  | back hw hv hr ih =>
    intro k' s'' h
    cases h with
    | old hw' => exact absurd hw hw'
    | back hw' hv' hr' => obtain ⟨rfl, rfl⟩ := ih hr'; exact ⟨rfl, rfl⟩
    | tree hw' hv' => exact absurd hv' hv
  | tree hw hv h1 h2 ih1 ih2 =>
    intro k' s'' h
    cases h with
    | old hw' => exact absurd hw hw'
    | back hw' hv' => exact absurd hv hv'
    | tree hw' hv' h1' h2' =>
      obtain ⟨rfl, rfl⟩ := ih1 h1'
      obtain ⟨rfl, rfl⟩ := ih2 h2'
      exact ⟨rfl, rfl⟩

/-- What is so of every walk under way; r: how many roots may have been reached. -/
structure Bd (n : Nat) (es : List (Int × Int)) (r : Nat) (s : St) : Prop where
  lp : s.par.length = n
  lh : s.hei.length = n
  lo : s.ori.length = es.length
  ho : ∀ e, e < es.length → s.dir e = -1 ∨ (s.dir e = 2 * (e : Int) ∨ s.dir e = 2 * (e : Int) + 1)
  hh : ∀ v, v < n → -1 ≤ s.height v ∧ s.height v + (s.left : Int) ≤ es.length
  hr : s.ord.length + s.left ≤ es.length + r
  hp : ∀ v, v < n → -1 ≤ s.par.getD v 0 ∧ s.par.getD v 0 < 2 * (es.length : Int)
  hu : ∀ v, v < n → s.height v = -1 → s.par.getD v 0 = -1
  hd : ∀ x ∈ s.ord, 0 ≤ x ∧ x < (n : Int)

section
variable {n r : Nat} {es : List (Int × Int)} {s s' : St} {h v : Nat}

theorem Bd.few (b : Bd n es r s) : s.left ≤ es.length := by
  have := List.count_le_length (a := (-1 : Int)) (l := s.ori)
  rw [b.lo] at this
  exact this

theorem left_mark (b : Bd n es r s) (hh : h < 2 * es.length) (hw : s.dir (h / 2) = -1) : (s.mark h).left + 1 = s.left := by
  have hl : h / 2 < s.ori.length := by rw [b.lo]; omega
  have e : s.ori[h / 2] = -1 := by
    have := hw
    unfold St.dir at this
    rw [List.getD_eq_getElem?_getD, List.getElem?_eq_getElem hl] at this
    exact this
  have hpos : 0 < s.ori.count (-1) := List.count_pos_iff.2 (by rw [← e]; exact List.getElem_mem hl)
  unfold St.left St.mark
  dsimp only
  rw [List.count_set hl, e, if_pos (by decide), if_neg (by simp)]
  omega

theorem dir_mark (b : Bd n es r s) (hh : h < 2 * es.length) (e : Nat) : (s.mark h).dir e = if e = h / 2 then (h : Int) else s.dir e := by
  have hl : h / 2 < s.ori.length := by rw [b.lo]; omega
  unfold St.dir St.mark
  dsimp only
  rw [List.getD_eq_getElem?_getD, List.getElem?_set]
  by_cases e1 : h / 2 = e
  · rw [if_pos e1, if_pos hl, if_pos e1.symm]; rfl
  · rw [if_neg e1, if_neg (fun e2 => e1 e2.symm), List.getD_eq_getElem?_getD]

theorem Bd.mark (b : Bd n es r s) (hl : h < 2 * es.length) (hw : s.dir (h / 2) = -1) : Bd n es r (s.mark h) := by
  have hm := left_mark b hl hw
  refine ⟨b.lp, b.lh, by simp [St.mark, b.lo], fun e he => ?_, fun v hv => ?_, ?_, b.hp, b.hu, b.hd⟩
  · rw [dir_mark b hl]
    by_cases e1 : e = h / 2
    · rw [if_pos e1]; omega
    · rw [if_neg e1]; exact b.ho e he
  · have := b.hh v hv
    exact ⟨this.1, by show s.height v + ((s.mark h).left : Int) ≤ _; omega⟩
  · have := b.hr
    show s.ord.length + (s.mark h).left ≤ _
    omega

theorem height_reach (b : Bd n es r s) (hv : v < n) (x y : Int) (u : Nat) : (s.reach v x y).height u = if u = v then y else s.height u := by
  have hl : v < s.hei.length := by rw [b.lh]; omega
  unfold St.height St.reach
  dsimp only
  rw [List.getD_eq_getElem?_getD, List.getElem?_set]
  by_cases e1 : v = u
  · rw [if_pos e1, if_pos hl, if_pos e1.symm]; rfl
  · rw [if_neg e1, if_neg (fun e2 => e1 e2.symm), List.getD_eq_getElem?_getD]

theorem par_reach (b : Bd n es r s) (hv : v < n) (x y : Int) (u : Nat) : (s.reach v x y).par.getD u 0 = if u = v then x else s.par.getD u 0 := by
  have hl : v < s.par.length := by rw [b.lp]; omega
  unfold St.reach
  dsimp only
  rw [List.getD_eq_getElem?_getD, List.getElem?_set]
  by_cases e1 : v = u
  · rw [if_pos e1, if_pos hl, if_pos e1.symm]; rfl
  · rw [if_neg e1, if_neg (fun e2 => e1 e2.symm), List.getD_eq_getElem?_getD]

theorem Bd.reach {r' : Nat} (b : Bd n es r s) (hv : v < n) {x y : Int} (hx : -1 ≤ x ∧ x < 2 * (es.length : Int)) (hy : 0 ≤ y) (hy2 : y + (s.left : Int) ≤ es.length) (hr : s.ord.length + 1 + s.left ≤ es.length + r') : Bd n es r' (s.reach v x y) := by
  refine ⟨by simp [St.reach, b.lp], by simp [St.reach, b.lh], b.lo, b.ho, fun u hu => ?_, ?_, fun u hu => ?_, fun u hu hn => ?_, fun z hz => ?_⟩
  · rw [height_reach b hv]
    show _ ∧ _ + (s.left : Int) ≤ _
    by_cases e : u = v
    · rw [if_pos e]; omega
    · rw [if_neg e]; exact b.hh u hu
  · show (s.ord ++ [(v : Int)]).length + s.left ≤ _
    rw [List.length_append, List.length_singleton]
    exact hr
  · rw [par_reach b hv]
    by_cases e : u = v
    · rw [if_pos e]; exact hx
    · rw [if_neg e]; exact b.hp u hu
  · rw [height_reach b hv] at hn
    by_cases e : u = v
    · rw [if_pos e] at hn; omega
    · rw [if_neg e] at hn
      rw [par_reach b hv, if_neg e]
      exact b.hu u hu hn
  · have hz' : z ∈ s.ord ++ [(v : Int)] := hz
    rcases List.mem_append.1 hz' with h | h
    · exact b.hd z h
    · rw [List.mem_singleton] at h
      subst h
      omega

theorem Bd.root (b : Bd n es r s) (hv : v < n) : Bd n es (r + 1) (s.reach v (-1) 0) := by
  have := b.few
  have := b.hr
  exact b.reach hv (by omega) (by omega) (by omega) (by omega)

theorem Bd.go (b : Bd n es r s) (hval : Si.Val n es) (hl : h < 2 * es.length) (hw : s.dir (h / 2) = -1) : Bd n es r (s.go es h) := by
  have hm := left_mark b hl hw
  have hb := b.mark hl hw
  obtain ⟨hf, ht⟩ := Cs.half_lt hval hl
  have h1 := b.hh _ hf
  have h2 := b.hr
  have e : (s.mark h).ord = s.ord := rfl
  unfold St.go
  exact hb.reach ht (by omega) (by omega) (by omega) (by rw [e]; omega)

/-- What leaves a vertex is a half-edge. -/
theorem out_half {v k : Nat} : ∀ x ∈ Cs.out es v k, x < k := fun x hx => by
  obtain ⟨j, hj⟩ := List.getElem?_of_mem hx
  exact (Cs.out_of hj).1

/-- The walk keeps it. -/
theorem R.bd {k : Nat} {L : List Nat} (hval : Si.Val n es) (h : R es k s L s') : (∀ x ∈ L, x < 2 * es.length) → Bd n es r s → Bd n es r s' := by
  induction h with
  | nil s => exact fun _ b => b
  | old hw hr ih => exact fun hl b => ih (fun x hx => hl x (List.mem_cons_of_mem _ hx)) b
  | back hw hv hr ih => exact fun hl b => ih (fun x hx => hl x (List.mem_cons_of_mem _ hx)) (b.mark (hl _ List.mem_cons_self) hw)
  | tree hw hv h1 h2 ih1 ih2 => exact fun hl b => ih2 (fun x hx => hl x (List.mem_cons_of_mem _ hx)) (ih1 out_half (b.go hval (hl _ List.mem_cons_self) hw))

/-- There is an end. -/
theorem total (hval : Si.Val n es) : ∀ (u : Nat) (L : List Nat) (s : St), s.left ≤ u → Bd n es r s → (∀ x ∈ L, x < 2 * es.length) → ∃ k s', R es k s L s' ∧ s'.left ≤ s.left := by
  intro u
  induction u with
  | zero =>
    intro L
    induction L with
    | nil => exact fun s _ _ _ => ⟨0, s, .nil s, Nat.le_refl _⟩
    | cons h L ih =>
      intro s hu b hl
      by_cases hw : s.dir (h / 2) = -1
      · have := left_mark b (hl h List.mem_cons_self) hw
        omega
      · obtain ⟨k, s', h1, h2⟩ := ih s hu b (fun x hx => hl x (List.mem_cons_of_mem _ hx))
        exact ⟨k + 1, s', .old hw h1, h2⟩
  | succ u ihu =>
    intro L
    induction L with
    | nil => exact fun s _ _ _ => ⟨0, s, .nil s, Nat.le_refl _⟩
    | cons h L ih =>
      intro s hu b hl
      have hh := hl h List.mem_cons_self
      have hL : ∀ x ∈ L, x < 2 * es.length := fun x hx => hl x (List.mem_cons_of_mem _ hx)
      by_cases hw : s.dir (h / 2) = -1
      · have hm := left_mark b hh hw
        by_cases hv : s.height (Cs.to es h) = -1
        · have hle : (s.go es h).left = (s.mark h).left := rfl
          obtain ⟨j, s1, h1, h2⟩ := ihu (Cs.out es (Cs.to es h) (2 * es.length)) (s.go es h) (by omega) (b.go hval hh hw) out_half
          obtain ⟨k, s', h3, h4⟩ := ihu L s1 (by omega) (h1.bd hval out_half (b.go hval hh hw)) hL
          exact ⟨_, s', .tree hw hv h1 h3, by omega⟩
        · obtain ⟨k, s', h1, h2⟩ := ihu L (s.mark h) (by omega) (b.mark hh hw) hL
          exact ⟨_, s', .back hw hv h1, by omega⟩
      · obtain ⟨k, s', h1, h2⟩ := ih s hu b hL
        exact ⟨k + 1, s', .old hw h1, h2⟩
end

/-- Ahead of all. -/
def St.start (n m : Nat) : St := ⟨List.replicate n (-1), List.replicate n (-1), [], List.replicate m (-1)⟩

theorem start_bd (n : Nat) (es : List (Int × Int)) : Bd n es 0 (St.start n es.length) := by
  have hc : (St.start n es.length).left = es.length := by unfold St.left St.start; simp
  have hg : ∀ (m v : Nat), (List.replicate m (-1 : Int)).getD v (-1) = -1 := fun m v => by
    rw [List.getD_eq_getElem?_getD, List.getElem?_replicate]
    split <;> rfl
  refine ⟨by simp [St.start], by simp [St.start], by simp [St.start], fun e _ => .inl (hg _ e), fun v _ => ?_, ?_, fun v hv => ?_, fun v hv _ => ?_, fun x hx => ?_⟩
  · have : (St.start n es.length).height v = -1 := hg n v
    rw [this, hc]
    omega
  · rw [hc]; simp [St.start]
  · have : (St.start n es.length).par.getD v 0 = -1 := by simp [St.start, List.getD_eq_getElem?_getD, hv]
    rw [this]
    omega
  · simp [St.start, List.getD_eq_getElem?_getD, hv]
  · simp [St.start] at hx

/-- The walk from all vertices below i that were not reached. -/
inductive Wk (n : Nat) (es : List (Int × Int)) : Nat → St → Prop
  | zero : Wk n es 0 (St.start n es.length)
  | pass {i : Nat} {s : St} (h : Wk n es i s) (hv : s.height i ≠ -1) : Wk n es (i + 1) s
  | walk {i k : Nat} {s s' : St} (h : Wk n es i s) (hv : s.height i = -1) (hr : R es k (s.reach i (-1) 0) (Cs.out es i (2 * es.length)) s') : Wk n es (i + 1) s'

theorem Wk.unique {n : Nat} {es : List (Int × Int)} {i : Nat} {s : St} (h : Wk n es i s) : ∀ {s' : St}, Wk n es i s' → s = s' := by
  induction h with
  | zero => intro s' h; cases h; rfl
  | pass h hv ih =>
    intro s' h'
    cases h' with
    | pass h'' hv' => exact ih h''
    | walk h'' hv' hr =>
      obtain rfl := ih h''
      exact absurd hv' hv
  | walk h hv hr ih =>
    intro s' h'
    cases h' with
    | pass h'' hv' =>
      obtain rfl := ih h''
      exact absurd hv hv'
    | walk h'' hv' hr' =>
      obtain rfl := ih h''
      exact (hr.unique hr').2

theorem Wk.bd {n : Nat} {es : List (Int × Int)} (hval : Si.Val n es) {i : Nat} {s : St} (h : Wk n es i s) : i ≤ n → Bd n es i s := by
  induction h with
  | zero => exact fun _ => start_bd n es
  | pass h hv ih =>
    intro hi
    have b := ih (by omega)
    exact ⟨b.lp, b.lh, b.lo, b.ho, b.hh, by have := b.hr; omega, b.hp, b.hu, b.hd⟩
  | walk h hv hr ih => exact fun hi => hr.bd hval out_half ((ih (by omega)).root (by omega))

/-- The walk of a valid graph. -/
theorem Wk.ex {n : Nat} {es : List (Int × Int)} (hval : Si.Val n es) : ∀ i, i ≤ n → ∃ s, Wk n es i s := by
  intro i
  induction i with
  | zero => exact fun _ => ⟨_, .zero⟩
  | succ i ih =>
    intro hi
    obtain ⟨s, h⟩ := ih (by omega)
    by_cases hv : s.height i = -1
    · obtain ⟨k, s', hr, _⟩ := total hval (s.reach i (-1) 0).left (Cs.out es i (2 * es.length)) (s.reach i (-1) 0) (Nat.le_refl _) ((h.bd hval (by omega)).root (by omega)) out_half
      exact ⟨s', .walk h hv hr⟩
    · exact ⟨s, .pass h hv⟩

end Df
end Go.Proofs.YtmgoahbloppdmaaGreat

/-
  Memory: the words by which the walks say what lies where, and their small laws.
-/
namespace Go.Proofs.YtmgoahbloppdmaaGreat
open Go.RowKit

theorem Nu.hid {p : Prop} (h : p) : Hid p := h

/-- The bytes g 0 .. g (n - 1) lie at ao. -/
def HasText (w : World) (ao : Option Addr) (n : Nat) (g : Nat → Int) : Prop :=
  ∀ i, i < n → (0 ≤ g i ∧ g i ≤ 255) ∧ ∃ tb to, ao = some ⟨tb, to, none⟩ ∧ w.cell? ⟨tb, to + i, none⟩ = some (.int .u8 (g i))

def Apart (ao : Option Addr) (b : Nat) : Prop := ∀ x, ao = some x → x.block ≠ b

section
variable {w w' : World} {b : Nat} {ao : Option Addr} {n cap p : Nat} {g : Nat → Int}

theorem grownBy_setCell {w0 : World} (h : w0.grownBy w (some b)) (i : Nat) (v : Value) : w0.grownBy (w.setCell ⟨b, i, none⟩ v) (some b) := by
  refine ⟨h.os, h.tape, h.output, by simpa using h.size, fun k hk hne => ?_⟩
  rw [heap_setCell_other w ⟨b, i, none⟩ k v (fun e => hne (by rw [e])), h.block k hk hne]
theorem grownBy_trans {w0 w1 w2 : World} {r : Option Nat} (h : w0.grownBy w1 r) (k : w1.grownBy w2 r) : w0.grownBy w2 r :=
  ⟨k.os.trans h.os, k.tape.trans h.tape, k.output.trans h.output, Nat.le_trans h.size k.size, fun i hi hne => (k.block i (Nat.lt_of_lt_of_le hi h.size) hne).trans (h.block i hi hne)⟩
theorem grownBy_drewN {w0 : World} {r : Option Nat} (h : w0.grownBy w r) (k : Nat) : w0.grownBy (w.drewN k) r := ⟨h.os, h.tape, h.output, h.size, h.block⟩
theorem grownBy_drew {w0 : World} {r : Option Nat} (h : w0.grownBy w r) : w0.grownBy w.drew r := ⟨h.os, h.tape, h.output, h.size, h.block⟩
theorem grownBy_alloc' {w0 : World} {r : Option Nat} (h : w0.grownBy w r) (o : Obj) : w0.grownBy (w.alloc o) r := grownBy_trans h (World.grownBy_alloc w o r)

/-- Four stores into block B. -/
def put4 (w : World) (B : Nat) (a b c d : Value) : World := (((w.setCell ⟨B, 0, none⟩ a).setCell ⟨B, 1, none⟩ b).setCell ⟨B, 2, none⟩ c).setCell ⟨B, 3, none⟩ d
theorem put4_heap {B : Nat} {t : TypeId} {x0 x1 x2 x3 : Value} (h : w.heap[B]? = some (.cells #[x0, x1, x2, x3] t (0, 0))) (a b c d : Value) : (put4 w B a b c d).heap[B]? = some (.cells #[a, b, c, d] t (0, 0)) := by
  have h1 := heap_setCell_same w B 0 _ t a h
  have h2 := heap_setCell_same _ B 1 _ t b h1
  have h3 := heap_setCell_same _ B 2 _ t c h2
  have h4 := heap_setCell_same _ B 3 _ t d h3
  unfold put4
  simpa using h4
theorem put4_other {B k : Nat} (hk : k ≠ B) (a b c d : Value) : (put4 w B a b c d).heap[k]? = w.heap[k]? := by
  unfold put4
  rw [heap_setCell_other _ ⟨B, 3, none⟩ k d hk, heap_setCell_other _ ⟨B, 2, none⟩ k c hk, heap_setCell_other _ ⟨B, 1, none⟩ k b hk, heap_setCell_other _ ⟨B, 0, none⟩ k a hk]
theorem put4_size (B : Nat) (a b c d : Value) : (put4 w B a b c d).heap.size = w.heap.size := by simp [put4]
theorem grownBy_put4 {w0 : World} {r : Option Nat} (h : w0.grownBy w r) {B : Nat} (hB : w0.heap.size ≤ B) (x0 x1 x2 x3 : Value) : w0.grownBy (put4 w B x0 x1 x2 x3) r :=
  ⟨h.os, h.tape, h.output, by rw [put4_size]; exact h.size, fun k hk hne => (put4_other (by omega) x0 x1 x2 x3).trans (h.block k hk hne)⟩

theorem HasText.grown (h : HasText w ao n g) (hg : w.grownBy w' (some b)) (ha : Apart ao b) : HasText w' ao n g := by
  intro i hi
  obtain ⟨hb, tb, to, e, hc⟩ := h i hi
  exact ⟨hb, tb, to, e, hg.cell hc (by simpa using ha _ e)⟩
theorem HasText.alloc (h : HasText w ao n g) (o : Obj) : HasText (w.alloc o) ao n g := by
  intro i hi
  obtain ⟨hb, tb, to, e, hc⟩ := h i hi
  exact ⟨hb, tb, to, e, (World.grownBy_alloc w o none).cell hc (by simp)⟩
theorem HasText.drewN (h : HasText w ao n g) (k : Nat) : HasText (w.drewN k) ao n g := h
theorem HasText.grown0 (h : HasText w ao n g) (hg : w.grownBy w' none) : HasText w' ao n g := by
  intro i hi
  obtain ⟨hb, tb, to, e, hc⟩ := h i hi
  exact ⟨hb, tb, to, e, hg.cell hc (by simp)⟩
theorem HasText.later (h : HasText w ao n g) (hg : Below w.heap.size w w') : HasText w' ao n g := by
  intro i hi
  obtain ⟨hb, tb, to, e, hc⟩ := h i hi
  exact ⟨hb, tb, to, e, (hg.cell (p := ⟨tb, to + i, none⟩) (block_lt_of_cell hc)).trans hc⟩
theorem HasText.below {B : Nat} (h : HasText w ao n g) (hg : Below B w w') (ha : ∀ x, ao = some x → x.block < B) : HasText w' ao n g := by
  intro i hi
  obtain ⟨hb, tb, to, e, hc⟩ := h i hi
  exact ⟨hb, tb, to, e, (hg.cell (p := ⟨tb, to + i, none⟩) (show tb < B from ha _ e)).trans hc⟩
end

end Go.Proofs.YtmgoahbloppdmaaGreat

/-
  The order of edges as the program asks it: cmp.Compare, cmp.Or, compare; as the document does: Less.
-/
namespace Go.Proofs.YtmgoahbloppdmaaGreat
open Go.RowKit Go.Sort

/-- An edge as a value. -/
def edgeVal (e : Int × Int) : Value := .agg #[.int .i64 e.1, .int .i64 e.2]

theorem new2 (W : World) (k : Nat) (hk : W.heap.size = k) (x y : Value) (t : TypeId) : (W.alloc (.cells #[x, y] t)).cell? ⟨k, 0, none⟩ = some x ∧ (W.alloc (.cells #[x, y] t)).cell? ⟨k, 1, none⟩ = some y := by
  subst hk
  constructor <;> simp

theorem new2d (W : World) (k : Nat) (hk : W.heap.size = k) (x y : Value) (t : TypeId) : (W.alloc (.cells #[x, y] t)).drew.cell? ⟨k, 0, none⟩ = some x ∧ (W.alloc (.cells #[x, y] t)).drew.cell? ⟨k, 1, none⟩ = some y := new2 W k hk x y t

theorem size2 (W : World) (x y : Obj) : ((W.alloc x).alloc y).heap.size = W.heap.size + 1 + 1 := by simp

def Si.cmpInt (x y : Int) : Int := if x < y then -1 else if y < x then 1 else 0

set_option maxHeartbeats 400000 in
theorem cmpInt_any (x y : Int) (w : World) : Calls Tryz.prog 107 #[.int .i64 x, .int .i64 y] w fun e w' => e = .returned (.int .i64 (Si.cmpInt x y)) ∧ w' = w := by
  unfold Si.cmpInt
  by_cases h1 : x < y
  · rw [if_pos h1]
    go_enter Tryz.func107, Tryz.ntmps107
    go_wp2
    go_ret
    exact ⟨rfl, rfl⟩
  · rw [if_neg h1]
    by_cases h2 : y < x
    · rw [if_pos h2]
      go_enter Tryz.func107, Tryz.ntmps107
      go_wp2
      go_ret
      exact ⟨rfl, rfl⟩
    · rw [if_neg h2]
      go_enter Tryz.func107, Tryz.ntmps107
      go_wp2
      go_ret
      exact ⟨rfl, rfl⟩

def Si.orInt (p q : Int) : Int := if p ≠ 0 then p else q

theorem cf_or (a b : Int × Int) : Si.cf a b = Si.orInt (Si.cmpInt a.1 b.1) (Si.cmpInt a.2 b.2) := by
  unfold Si.cf Si.cmpInt Si.orInt
  by_cases h1 : a.1 < b.1
  · simp [h1]
  · by_cases h2 : b.1 < a.1
    · simp [h1, h2]
    · simp [h1, h2]

set_option maxHeartbeats 1000000 in
theorem or_any (p q : Int) (W : World) (b : Nat) (h0 : W.cell? ⟨b, 0, none⟩ = some (.int .i64 p)) (h1 : W.cell? ⟨b, 1, none⟩ = some (.int .i64 q)) : Calls Tryz.prog 106 #[.slice (some ⟨b, 0, none⟩) 2 2] W fun e w' => e = .returned (.int .i64 (Si.orInt p q)) ∧ w' = W := by
  unfold Si.orInt
  by_cases hp : p = 0
  · subst hp
    rw [if_neg (by simp)]
    by_cases hq : q = 0
    · subst hq
      go_enter Tryz.func106, Tryz.ntmps106
      go_wp2
      refine wp_loop_rounds 3 ?_
      rw [rounds_succ]
      go_wp2
      rw [rounds_succ]
      go_wp2
      rw [rounds_succ]
      go_wp2
      go_ret
      exact ⟨rfl, rfl⟩
    · go_enter Tryz.func106, Tryz.ntmps106
      go_wp2
      refine wp_loop_rounds 3 ?_
      rw [rounds_succ]
      go_wp2
      rw [rounds_succ]
      go_wp2
      go_ret
      exact ⟨rfl, rfl⟩
  · rw [if_pos hp]
    go_enter Tryz.func106, Tryz.ntmps106
    go_wp2
    refine wp_loop_rounds 3 ?_
    rw [rounds_succ]
    go_wp2
    go_ret
    exact ⟨rfl, rfl⟩

set_option maxRecDepth 100000 in
set_option maxHeartbeats 4000000 in
theorem compare_any (a b : Int × Int) (w : World) : Calls Tryz.prog 90 #[edgeVal a, edgeVal b] w fun e w' => e = .returned (.int .i64 (Si.cf a b)) ∧ ∃ q os', w' = grow (w.drewN q) os' := by
  rw [cf_or]
  unfold edgeVal
  go_enter Tryz.func90, Tryz.ntmps90
  go_wp2
  go_region_held3 (fun w' => w'.cell? ⟨w.heap.size, 0, none⟩ = some (.int .i64 a.1) ∧ w'.cell? ⟨w.heap.size, 1, none⟩ = some (.int .i64 a.2) ∧ w'.cell? ⟨w.heap.size + 1, 0, none⟩ = some (.int .i64 b.1) ∧ w'.cell? ⟨w.heap.size + 1, 1, none⟩ = some (.int .i64 b.2))
    (go_keep)
    (first
      | (go_at_call 107; refine (cmpInt_any _ _ _).mono ?_; rintro e w' ⟨rfl, rfl⟩)
      | (go_at_call 106; refine (or_any (Si.cmpInt a.1 b.1) (Si.cmpInt a.2 b.2) _ _ (new2d _ _ (size2 _ _ _) _ _ _).1 (new2d _ _ (size2 _ _ _) _ _ _).2).mono ?_; rintro e w' ⟨rfl, rfl⟩))
  go_wp2
  go_ret
  exact ⟨rfl, 1, _, by rw [alloc_eq_grow, alloc_eq_grow, grow_grow, alloc_eq_grow, grow_grow]; rfl⟩

theorem grow_below (w : World) (q : Nat) (os : Array Obj) : Below w.heap.size w (grow (w.drewN q) os) := by
  refine ⟨rfl, rfl, rfl, by simp [grow], fun k hk => ?_⟩
  simp [grow, Array.getElem?_append_left hk]

end Go.Proofs.YtmgoahbloppdmaaGreat

/-
  Edges and graphs in memory.
-/
namespace Go.Proofs.YtmgoahbloppdmaaGreat
open Go.RowKit

/-- The edges es lie at ao. -/
def EdgesAt (w : World) (ao : Option Addr) (es : List (Int × Int)) : Prop :=
  ∀ (j : Nat) (p : Int × Int), es[j]? = some p → ∃ b o : Nat, ao = some ⟨b, o, none⟩ ∧ w.cell? ⟨b, o + j * 2, none⟩ = some (.int .i64 p.1) ∧ w.cell? ⟨b, o + j * 2 + 1, none⟩ = some (.int .i64 p.2)

theorem EdgesAt.later {w w' : World} {ao : Option Addr} {es : List (Int × Int)} (h : EdgesAt w ao es) (hb : Below w.heap.size w w') : EdgesAt w' ao es := fun j p hj => by
  obtain ⟨b, o, e, h0, h1⟩ := h j p hj
  exact ⟨b, o, e, (hb.cell (p := ⟨b, o + j * 2, none⟩) (block_lt_of_cell h0)).trans h0, (hb.cell (p := ⟨b, o + j * 2 + 1, none⟩) (block_lt_of_cell h1)).trans h1⟩

theorem EdgesAt.nil (w : World) (ao : Option Addr) : EdgesAt w ao [] := fun j p hj => by simp at hj

/-- A graph as a value. -/
def graphVal (n : Int) (ao : Option Addr) (len cap : Nat) : Value := .agg #[.int .i64 n, .slice ao len cap]

end Go.Proofs.YtmgoahbloppdmaaGreat

/-
  A block of numbers that a call makes.
-/
namespace Go.Proofs.YtmgoahbloppdmaaGreat
open Go.RowKit

theorem Tryz.infoNum : (Tryz.prog.info? 3).map (fun i => (i.zero, i.size, i.bytes)) = some (some (.int .i64 0), 1, 8) := by kernel_rfl

/-- Block g holds just the numbers l. -/
def IntsBlk (w : World) (g : Nat) (l : List Int) : Prop := w.heap[g]? = some (.cells (l.map (Value.int .i64)).toArray 3 (0, 0))

section
variable {w w' : World} {g : Nat} {l : List Int}
theorem IntsBlk.lt (h : IntsBlk w g l) : g < w.heap.size := lt_of_block h
theorem IntsBlk.cell (h : IntsBlk w g l) {i : Nat} {x : Int} (hx : l[i]? = some x) : w.cell? ⟨g, i, none⟩ = some (.int .i64 x) := by
  unfold IntsBlk at h
  simp [World.cell?, h, hx]
theorem IntsBlk.free (h : IntsBlk w g l) (i : Nat) : w.frozen? ⟨g, i, none⟩ = false := by
  unfold IntsBlk at h
  simp [World.frozen?, h]
theorem IntsBlk.set (h : IntsBlk w g l) (i : Nat) (x : Int) : IntsBlk (w.setCell ⟨g, i, none⟩ (.int .i64 x)) g (l.set i x) := by
  unfold IntsBlk at h ⊢
  rw [heap_setCell_same w g i _ _ _ h]
  simp [List.map_set]
theorem IntsBlk.below {B : Nat} (h : IntsBlk w g l) (hb : Below B w w') (hB : g < B) : IntsBlk w' g l := (hb.block g hB).trans h
theorem IntsBlk.later (h : IntsBlk w g l) (hb : Below w.heap.size w w') : IntsBlk w' g l := (hb.block g h.lt).trans h
theorem IntsBlk.alloc (h : IntsBlk w g l) (o : Obj) : IntsBlk (w.alloc o) g l := (Below.heap_alloc w o g h.lt).trans h
end

theorem made_zeros (n : Nat) : (madeCells #[.int .i64 0] n).toList = (List.replicate n (0 : Int)).map (Value.int .i64) := by
  rw [toList_madeCells_one, List.map_replicate]

/-- A list that was made at its full length. -/
theorem ints_of_row {w : World} {B g n : Nat} {xs : List Int} (h : w.ownsRow B 3 1 (.slice (some ⟨g, 0, none⟩) n n) n (xs.map (Value.int .i64))) : IntsBlk w g xs := by
  rcases h.2 with ⟨h, _⟩ | ⟨g', cap, cur, e, _, hh, _, _, hs, ht⟩
  · cases h
  cases e
  have e1 : cur.toList = xs.map (Value.int .i64) := by
    rw [← ht]
    exact (List.take_of_length_le (by simp; omega)).symm
  unfold IntsBlk
  rw [hh, ← e1]

end Go.Proofs.YtmgoahbloppdmaaGreat

/-
  Lists of ints in blocks of their own; which blocks a call writes.
-/
namespace Go.Proofs.YtmgoahbloppdmaaGreat
open Go.RowKit

/-- Block g begins with the numbers l. -/
def IntsIn (w : World) (g : Nat) (l : List Int) : Prop := ∃ rest : List Value, w.heap[g]? = some (.cells (l.map (Value.int .i64) ++ rest).toArray 3 (0, 0))

section
variable {w w' : World} {g : Nat} {l : List Int}
theorem IntsIn.lt (h : IntsIn w g l) : g < w.heap.size := by
  obtain ⟨rest, h⟩ := h
  exact lt_of_block h
theorem IntsIn.cell (h : IntsIn w g l) {i : Nat} {x : Int} (hx : l[i]? = some x) : w.cell? ⟨g, i, none⟩ = some (.int .i64 x) := by
  obtain ⟨rest, h⟩ := h
  have hl := (List.getElem?_eq_some_iff.1 hx).1
  have : (l.map (Value.int .i64) ++ rest)[i]? = some (.int .i64 x) := by
    rw [List.getElem?_append_left (by simpa using hl), List.getElem?_map, hx]
    rfl
  simp [World.cell?, h]
  simpa using this
theorem IntsIn.free (h : IntsIn w g l) (i : Nat) : w.frozen? ⟨g, i, none⟩ = false := by
  obtain ⟨rest, h⟩ := h
  simp [World.frozen?, h]
theorem IntsIn.set (h : IntsIn w g l) {i : Nat} (hi : i < l.length) (x : Int) : IntsIn (w.setCell ⟨g, i, none⟩ (.int .i64 x)) g (l.set i x) := by
  obtain ⟨rest, h⟩ := h
  refine ⟨rest, ?_⟩
  rw [heap_setCell_same w g i _ _ _ h]
  have e : ((l.map (Value.int .i64) ++ rest).toArray.setIfInBounds i (.int .i64 x)) = ((l.set i x).map (Value.int .i64) ++ rest).toArray := by
    rw [List.setIfInBounds_toArray, List.set_append_left _ _ (by simpa using hi), List.map_set]
  rw [e]
theorem IntsIn.other (h : IntsIn w g l) {b i : Nat} (hb : g ≠ b) (x : Value) : IntsIn (w.setCell ⟨b, i, none⟩ x) g l := by
  obtain ⟨rest, h⟩ := h
  exact ⟨rest, (heap_setCell_other w ⟨b, i, none⟩ g x hb).trans h⟩
theorem IntsIn.later (h : IntsIn w g l) (hb : Below w.heap.size w w') : IntsIn w' g l := by
  have hl := h.lt
  obtain ⟨rest, h⟩ := h
  exact ⟨rest, (hb.block g hl).trans h⟩
theorem IntsIn.alloc (h : IntsIn w g l) (o : Obj) : IntsIn (w.alloc o) g l := by
  have hl := h.lt
  obtain ⟨rest, h⟩ := h
  exact ⟨rest, (Below.heap_alloc w o g hl).trans h⟩
theorem IntsIn.drew (h : IntsIn w g l) : IntsIn w.drew g l := h
theorem IntsIn.drewN (h : IntsIn w g l) (k : Nat) : IntsIn (w.drewN k) g l := h
theorem IntsBlk.ins (h : IntsBlk w g l) : IntsIn w g l := ⟨[], by rw [List.append_nil]; exact h⟩
end

/-- A row of one's own as a block of ints. -/
theorem ints_in_row {w : World} {B g n c : Nat} {xs : List Int} (h : w.ownsRow B 3 1 (.slice (some ⟨g, 0, none⟩) n c) n (xs.map (Value.int .i64))) : IntsIn w g xs := by
  rcases h.2 with ⟨h, _⟩ | ⟨g', cap, cur, e, _, hh, _, _, hs, ht⟩
  · cases h
  cases e
  refine ⟨cur.toList.drop (n * 1), ?_⟩
  rw [← ht, List.take_append_drop]
  exact hh

/-- Only blocks of S are written, and new ones. -/
structure Wrote (S : Nat → Prop) (w w' : World) : Prop where
  os : w'.os = w.os
  tape : w'.tape = w.tape
  output : w'.output = w.output
  size : w.heap.size ≤ w'.heap.size
  block : ∀ k, k < w.heap.size → ¬ S k → w'.heap[k]? = w.heap[k]?

section
variable {S : Nat → Prop} {w w' w0 : World}
theorem Wrote.refl (S : Nat → Prop) (w : World) : Wrote S w w := ⟨rfl, rfl, rfl, Nat.le_refl _, fun _ _ _ => rfl⟩
theorem Wrote.trans (h : Wrote S w0 w) (k : Wrote S w w') : Wrote S w0 w' :=
  ⟨k.os.trans h.os, k.tape.trans h.tape, k.output.trans h.output, Nat.le_trans h.size k.size, fun i hi hn => (k.block i (Nat.lt_of_lt_of_le hi h.size) hn).trans (h.block i hi hn)⟩
theorem Wrote.setCell (h : Wrote S w0 w) {b i : Nat} (hb : S b) (x : Value) : Wrote S w0 (w.setCell ⟨b, i, none⟩ x) :=
  ⟨h.os, h.tape, h.output, by simpa using h.size, fun k hk hn => (heap_setCell_other w ⟨b, i, none⟩ k x (fun e => hn (by rw [e]; exact hb))).trans (h.block k hk hn)⟩
theorem Wrote.drew (h : Wrote S w0 w) : Wrote S w0 w.drew := ⟨h.os, h.tape, h.output, h.size, h.block⟩
theorem Wrote.drewN (h : Wrote S w0 w) (k : Nat) : Wrote S w0 (w.drewN k) := ⟨h.os, h.tape, h.output, h.size, h.block⟩
theorem Wrote.later (h : Wrote S w0 w) (hb : Below w.heap.size w w') : Wrote S w0 w' :=
  ⟨hb.os.trans h.os, hb.tape.trans h.tape, hb.output.trans h.output, Nat.le_trans h.size hb.size, fun k hk hn => (hb.block k (Nat.lt_of_lt_of_le hk h.size)).trans (h.block k hk hn)⟩
theorem Wrote.alloc (h : Wrote S w0 w) (o : Obj) : Wrote S w0 (w.alloc o) := h.later ((Below.refl _ _).alloc (Nat.le_refl _) o)
theorem Wrote.below {B : Nat} (h : Wrote S w w') (hB : B ≤ w.heap.size) (hS : ∀ k, S k → B ≤ k) : Below B w w' :=
  ⟨h.os, h.tape, h.output, h.size, fun k hk => h.block k (Nat.lt_of_lt_of_le hk hB) (fun hs => by have := hS k hs; omega)⟩
theorem Wrote.ints {g : Nat} {l : List Int} (h : Wrote S w w') (hi : IntsIn w g l) (hg : ¬ S g) : IntsIn w' g l := by
  have hl := hi.lt
  obtain ⟨rest, hi⟩ := hi
  exact ⟨rest, (h.block g hl hg).trans hi⟩
theorem Wrote.mono {S' : Nat → Prop} (h : Wrote S w w') (hS : ∀ k, k < w.heap.size → S k → S' k) : Wrote S' w w' :=
  ⟨h.os, h.tape, h.output, h.size, fun k hk hn => h.block k hk (fun hs => hn (hS k hk hs))⟩
end

end Go.Proofs.YtmgoahbloppdmaaGreat
