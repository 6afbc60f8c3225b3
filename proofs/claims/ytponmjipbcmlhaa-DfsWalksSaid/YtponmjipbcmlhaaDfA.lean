/-
  The depth-first walk, pure: as a relation, by half-edges that are still to be looked at; it has one answer.
-/
import Derived.Test.YtponmjipbcmlhaaCsA
namespace Go.Proofs.Ytponmjipbcmlhaa
namespace Df

/-- A walk under way: parents, heights (-1: not reached), order, orientation (-1: not walked). -/
structure St where
  par : List Int
  hei : List Int
  ord : List Int
  ori : List Int
deriving DecidableEq

abbrev St.height (s : St) (v : Nat) : Int := s.hei.getD v (-1)
abbrev St.dir (s : St) (e : Nat) : Int := s.ori.getD e (-1)
/-- How many edges have not been walked. -/
abbrev St.left (s : St) : Nat := s.ori.count (-1)

def St.reach (s : St) (v : Nat) (h height : Int) : St := ⟨s.par.set v h, s.hei.set v height, s.ord ++ [(v : Int)], s.ori⟩
def St.mark (s : St) (h : Nat) : St := ⟨s.par, s.hei, s.ord, s.ori.set (h / 2) (h : Int)⟩
/-- The half-edge h is walked to a vertex that is new. -/
def St.go (es : List (Int × Int)) (s : St) (h : Nat) : St := (s.mark h).reach (Cs.to es h) h (s.height (Cs.fr es h) + 1)

/-- From s, with the half-edges L of one vertex still to be looked at, the walk comes to s' (k: how much is done). -/
inductive R (es : List (Int × Int)) : Nat → St → List Nat → St → Prop
  | nil (s : St) : R es 0 s [] s
  | old {k : Nat} {s s' : St} {h : Nat} {L : List Nat} (hw : s.dir (h / 2) ≠ -1) (hr : R es k s L s') : R es (k + 1) s (h :: L) s'
  | back {k : Nat} {s s' : St} {h : Nat} {L : List Nat} (hw : s.dir (h / 2) = -1) (hv : s.height (Cs.to es h) ≠ -1) (hr : R es k (s.mark h) L s') : R es (k + 1) s (h :: L) s'
  | tree {j k : Nat} {s s1 s' : St} {h : Nat} {L : List Nat} (hw : s.dir (h / 2) = -1) (hv : s.height (Cs.to es h) = -1) (h1 : R es j (s.go es h) (Cs.out es (Cs.to es h) (2 * es.length)) s1) (h2 : R es k s1 L s') : R es (j + k + 2) s (h :: L) s'

theorem R.unique {es : List (Int × Int)} {k : Nat} {s s' : St} {L : List Nat} (h : R es k s L s') : ∀ {k' : Nat} {s'' : St}, R es k' s L s'' → k = k' ∧ s' = s'' := by
  induction h with
  | nil s => intro k' s'' h; cases h; exact ⟨rfl, rfl⟩
  | old hw hr ih =>
    intro k' s'' h
    cases h with
    | old hw' hr' => obtain ⟨rfl, rfl⟩ := ih hr'; exact ⟨rfl, rfl⟩
    | back hw' => exact absurd hw' hw
    | tree hw' => exact absurd hw' hw
  | back hw hv hr ih =>
    intro k' s'' h
    cases h with
    | old hw' => exact absurd hw hw'
    | back hw' hv' hr' => obtain ⟨rfl, rfl⟩ := ih hr'; exact ⟨rfl, rfl⟩
    | tree hw' hv' => exact absurd hv' hv
  | tree hw hv h1 h2 ih1 ih2 =>
    intro k' s'' h
    cases h with
    | old hw' => exact absurd hw hw'
    | back hw' hv' => exact absurd hv hv'
    | tree hw' hv' h1' h2' =>
      obtain ⟨rfl, rfl⟩ := ih1 h1'
      obtain ⟨rfl, rfl⟩ := ih2 h2'
      exact ⟨rfl, rfl⟩

/-- What is so of every walk under way; r: how many roots may have been reached. -/
structure Bd (n : Nat) (es : List (Int × Int)) (r : Nat) (s : St) : Prop where
  lp : s.par.length = n
  lh : s.hei.length = n
  lo : s.ori.length = es.length
  ho : ∀ e, e < es.length → s.dir e = -1 ∨ (s.dir e = 2 * (e : Int) ∨ s.dir e = 2 * (e : Int) + 1)
  hh : ∀ v, v < n → -1 ≤ s.height v ∧ s.height v + (s.left : Int) ≤ es.length
  hr : s.ord.length + s.left ≤ es.length + r
  hp : ∀ v, v < n → -1 ≤ s.par.getD v 0 ∧ s.par.getD v 0 < 2 * (es.length : Int)
  hu : ∀ v, v < n → s.height v = -1 → s.par.getD v 0 = -1
  hd : ∀ x ∈ s.ord, 0 ≤ x ∧ x < (n : Int)

section
variable {n r : Nat} {es : List (Int × Int)} {s s' : St} {h v : Nat}

theorem Bd.few (b : Bd n es r s) : s.left ≤ es.length := by
  have := List.count_le_length (a := (-1 : Int)) (l := s.ori)
  rw [b.lo] at this
  exact this

theorem left_mark (b : Bd n es r s) (hh : h < 2 * es.length) (hw : s.dir (h / 2) = -1) : (s.mark h).left + 1 = s.left := by
  have hl : h / 2 < s.ori.length := by rw [b.lo]; omega
  have e : s.ori[h / 2] = -1 := by
    have := hw
    unfold St.dir at this
    rw [List.getD_eq_getElem?_getD, List.getElem?_eq_getElem hl] at this
    exact this
  have hpos : 0 < s.ori.count (-1) := List.count_pos_iff.2 (by rw [← e]; exact List.getElem_mem hl)
  unfold St.left St.mark
  dsimp only
  rw [List.count_set hl, e, if_pos (by decide), if_neg (by simp)]
  omega

theorem dir_mark (b : Bd n es r s) (hh : h < 2 * es.length) (e : Nat) : (s.mark h).dir e = if e = h / 2 then (h : Int) else s.dir e := by
  have hl : h / 2 < s.ori.length := by rw [b.lo]; omega
  unfold St.dir St.mark
  dsimp only
  rw [List.getD_eq_getElem?_getD, List.getElem?_set]
  by_cases e1 : h / 2 = e
  · rw [if_pos e1, if_pos hl, if_pos e1.symm]; rfl
  · rw [if_neg e1, if_neg (fun e2 => e1 e2.symm), List.getD_eq_getElem?_getD]

theorem Bd.mark (b : Bd n es r s) (hl : h < 2 * es.length) (hw : s.dir (h / 2) = -1) : Bd n es r (s.mark h) := by
  have hm := left_mark b hl hw
  refine ⟨b.lp, b.lh, by simp [St.mark, b.lo], fun e he => ?_, fun v hv => ?_, ?_, b.hp, b.hu, b.hd⟩
  · rw [dir_mark b hl]
    by_cases e1 : e = h / 2
    · rw [if_pos e1]; omega
    · rw [if_neg e1]; exact b.ho e he
  · have := b.hh v hv
    exact ⟨this.1, by show s.height v + ((s.mark h).left : Int) ≤ _; omega⟩
  · have := b.hr
    show s.ord.length + (s.mark h).left ≤ _
    omega

theorem height_reach (b : Bd n es r s) (hv : v < n) (x y : Int) (u : Nat) : (s.reach v x y).height u = if u = v then y else s.height u := by
  have hl : v < s.hei.length := by rw [b.lh]; omega
  unfold St.height St.reach
  dsimp only
  rw [List.getD_eq_getElem?_getD, List.getElem?_set]
  by_cases e1 : v = u
  · rw [if_pos e1, if_pos hl, if_pos e1.symm]; rfl
  · rw [if_neg e1, if_neg (fun e2 => e1 e2.symm), List.getD_eq_getElem?_getD]

theorem par_reach (b : Bd n es r s) (hv : v < n) (x y : Int) (u : Nat) : (s.reach v x y).par.getD u 0 = if u = v then x else s.par.getD u 0 := by
  have hl : v < s.par.length := by rw [b.lp]; omega
  unfold St.reach
  dsimp only
  rw [List.getD_eq_getElem?_getD, List.getElem?_set]
  by_cases e1 : v = u
  · rw [if_pos e1, if_pos hl, if_pos e1.symm]; rfl
  · rw [if_neg e1, if_neg (fun e2 => e1 e2.symm), List.getD_eq_getElem?_getD]

theorem Bd.reach {r' : Nat} (b : Bd n es r s) (hv : v < n) {x y : Int} (hx : -1 ≤ x ∧ x < 2 * (es.length : Int)) (hy : 0 ≤ y) (hy2 : y + (s.left : Int) ≤ es.length) (hr : s.ord.length + 1 + s.left ≤ es.length + r') : Bd n es r' (s.reach v x y) := by
  refine ⟨by simp [St.reach, b.lp], by simp [St.reach, b.lh], b.lo, b.ho, fun u hu => ?_, ?_, fun u hu => ?_, fun u hu hn => ?_, fun z hz => ?_⟩
  · rw [height_reach b hv]
    show _ ∧ _ + (s.left : Int) ≤ _
    by_cases e : u = v
    · rw [if_pos e]; omega
    · rw [if_neg e]; exact b.hh u hu
  · show (s.ord ++ [(v : Int)]).length + s.left ≤ _
    rw [List.length_append, List.length_singleton]
    exact hr
  · rw [par_reach b hv]
    by_cases e : u = v
    · rw [if_pos e]; exact hx
    · rw [if_neg e]; exact b.hp u hu
  · rw [height_reach b hv] at hn
    by_cases e : u = v
    · rw [if_pos e] at hn; omega
    · rw [if_neg e] at hn
      rw [par_reach b hv, if_neg e]
      exact b.hu u hu hn
  · have hz' : z ∈ s.ord ++ [(v : Int)] := hz
    rcases List.mem_append.1 hz' with h | h
    · exact b.hd z h
    · rw [List.mem_singleton] at h
      subst h
      omega

theorem Bd.root (b : Bd n es r s) (hv : v < n) : Bd n es (r + 1) (s.reach v (-1) 0) := by
  have := b.few
  have := b.hr
  exact b.reach hv (by omega) (by omega) (by omega) (by omega)

theorem Bd.go (b : Bd n es r s) (hval : Si.Val n es) (hl : h < 2 * es.length) (hw : s.dir (h / 2) = -1) : Bd n es r (s.go es h) := by
  have hm := left_mark b hl hw
  have hb := b.mark hl hw
  obtain ⟨hf, ht⟩ := Cs.half_lt hval hl
  have h1 := b.hh _ hf
  have h2 := b.hr
  have e : (s.mark h).ord = s.ord := rfl
  unfold St.go
  exact hb.reach ht (by omega) (by omega) (by omega) (by rw [e]; omega)

/-- What leaves a vertex is a half-edge. -/
theorem out_half {v k : Nat} : ∀ x ∈ Cs.out es v k, x < k := fun x hx => by
  obtain ⟨j, hj⟩ := List.getElem?_of_mem hx
  exact (Cs.out_of hj).1

/-- The walk keeps it. -/
theorem R.bd {k : Nat} {L : List Nat} (hval : Si.Val n es) (h : R es k s L s') : (∀ x ∈ L, x < 2 * es.length) → Bd n es r s → Bd n es r s' := by
  induction h with
  | nil s => exact fun _ b => b
  | old hw hr ih => exact fun hl b => ih (fun x hx => hl x (List.mem_cons_of_mem _ hx)) b
  | back hw hv hr ih => exact fun hl b => ih (fun x hx => hl x (List.mem_cons_of_mem _ hx)) (b.mark (hl _ List.mem_cons_self) hw)
  | tree hw hv h1 h2 ih1 ih2 => exact fun hl b => ih2 (fun x hx => hl x (List.mem_cons_of_mem _ hx)) (ih1 out_half (b.go hval (hl _ List.mem_cons_self) hw))

/-- There is an end. -/
theorem total (hval : Si.Val n es) : ∀ (u : Nat) (L : List Nat) (s : St), s.left ≤ u → Bd n es r s → (∀ x ∈ L, x < 2 * es.length) → ∃ k s', R es k s L s' ∧ s'.left ≤ s.left := by
  intro u
  induction u with
  | zero =>
    intro L
    induction L with
    | nil => exact fun s _ _ _ => ⟨0, s, .nil s, Nat.le_refl _⟩
    | cons h L ih =>
      intro s hu b hl
      by_cases hw : s.dir (h / 2) = -1
      · have := left_mark b (hl h List.mem_cons_self) hw
        omega
      · obtain ⟨k, s', h1, h2⟩ := ih s hu b (fun x hx => hl x (List.mem_cons_of_mem _ hx))
        exact ⟨k + 1, s', .old hw h1, h2⟩
  | succ u ihu =>
    intro L
    induction L with
    | nil => exact fun s _ _ _ => ⟨0, s, .nil s, Nat.le_refl _⟩
    | cons h L ih =>
      intro s hu b hl
      have hh := hl h List.mem_cons_self
      have hL : ∀ x ∈ L, x < 2 * es.length := fun x hx => hl x (List.mem_cons_of_mem _ hx)
      by_cases hw : s.dir (h / 2) = -1
      · have hm := left_mark b hh hw
        by_cases hv : s.height (Cs.to es h) = -1
        · have hle : (s.go es h).left = (s.mark h).left := rfl
          obtain ⟨j, s1, h1, h2⟩ := ihu (Cs.out es (Cs.to es h) (2 * es.length)) (s.go es h) (by omega) (b.go hval hh hw) out_half
          obtain ⟨k, s', h3, h4⟩ := ihu L s1 (by omega) (h1.bd hval out_half (b.go hval hh hw)) hL
          exact ⟨_, s', .tree hw hv h1 h3, by omega⟩
        · obtain ⟨k, s', h1, h2⟩ := ihu L (s.mark h) (by omega) (b.mark hh hw) hL
          exact ⟨_, s', .back hw hv h1, by omega⟩
      · obtain ⟨k, s', h1, h2⟩ := ih s hu b hL
        exact ⟨k + 1, s', .old hw h1, h2⟩
end

/-- Ahead of all. -/
def St.start (n m : Nat) : St := ⟨List.replicate n (-1), List.replicate n (-1), [], List.replicate m (-1)⟩

theorem start_bd (n : Nat) (es : List (Int × Int)) : Bd n es 0 (St.start n es.length) := by
  have hc : (St.start n es.length).left = es.length := by unfold St.left St.start; simp
  have hg : ∀ (m v : Nat), (List.replicate m (-1 : Int)).getD v (-1) = -1 := fun m v => by
    rw [List.getD_eq_getElem?_getD, List.getElem?_replicate]
    split <;> rfl
  refine ⟨by simp [St.start], by simp [St.start], by simp [St.start], fun e _ => .inl (hg _ e), fun v _ => ?_, ?_, fun v hv => ?_, fun v hv _ => ?_, fun x hx => ?_⟩
  · have : (St.start n es.length).height v = -1 := hg n v
    rw [this, hc]
    omega
  · rw [hc]; simp [St.start]
  · have : (St.start n es.length).par.getD v 0 = -1 := by simp [St.start, List.getD_eq_getElem?_getD, hv]
    rw [this]
    omega
  · simp [St.start, List.getD_eq_getElem?_getD, hv]
  · simp [St.start] at hx

/-- The walk from all vertices below i that were not reached. -/
inductive Wk (n : Nat) (es : List (Int × Int)) : Nat → St → Prop
  | zero : Wk n es 0 (St.start n es.length)
  | pass {i : Nat} {s : St} (h : Wk n es i s) (hv : s.height i ≠ -1) : Wk n es (i + 1) s
  | walk {i k : Nat} {s s' : St} (h : Wk n es i s) (hv : s.height i = -1) (hr : R es k (s.reach i (-1) 0) (Cs.out es i (2 * es.length)) s') : Wk n es (i + 1) s'

theorem Wk.unique {n : Nat} {es : List (Int × Int)} {i : Nat} {s : St} (h : Wk n es i s) : ∀ {s' : St}, Wk n es i s' → s = s' := by
  induction h with
  | zero => intro s' h; cases h; rfl
  | pass h hv ih =>
    intro s' h'
    cases h' with
    | pass h'' hv' => exact ih h''
    | walk h'' hv' hr =>
      obtain rfl := ih h''
      exact absurd hv' hv
  | walk h hv hr ih =>
    intro s' h'
    cases h' with
    | pass h'' hv' =>
      obtain rfl := ih h''
      exact absurd hv hv'
    | walk h'' hv' hr' =>
      obtain rfl := ih h''
      exact (hr.unique hr').2

theorem Wk.bd {n : Nat} {es : List (Int × Int)} (hval : Si.Val n es) {i : Nat} {s : St} (h : Wk n es i s) : i ≤ n → Bd n es i s := by
  induction h with
  | zero => exact fun _ => start_bd n es
  | pass h hv ih =>
    intro hi
    have b := ih (by omega)
    exact ⟨b.lp, b.lh, b.lo, b.ho, b.hh, by have := b.hr; omega, b.hp, b.hu, b.hd⟩
  | walk h hv hr ih => exact fun hi => hr.bd hval out_half ((ih (by omega)).root (by omega))

/-- The walk of a valid graph. -/
theorem Wk.ex {n : Nat} {es : List (Int × Int)} (hval : Si.Val n es) : ∀ i, i ≤ n → ∃ s, Wk n es i s := by
  intro i
  induction i with
  | zero => exact fun _ => ⟨_, .zero⟩
  | succ i ih =>
    intro hi
    obtain ⟨s, h⟩ := ih (by omega)
    by_cases hv : s.height i = -1
    · obtain ⟨k, s', hr, _⟩ := total hval (s.reach i (-1) 0).left (Cs.out es i (2 * es.length)) (s.reach i (-1) 0) (Nat.le_refl _) ((h.bd hval (by omega)).root (by omega)) out_half
      exact ⟨s', .walk h hv hr⟩
    · exact ⟨s, .pass h hv⟩

end Df
end Go.Proofs.Ytponmjipbcmlhaa
