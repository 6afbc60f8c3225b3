import Derived.Test.YtdhaaodalchpkaaSiValid
import Derived.Test.YtdhaaodalchpkaaMgB
import Derived.Test.YtdhaaodalchpkaaMgA
/-
  How often each vertex is an end.
-/
namespace Go.Proofs.Ytdhaaodalchpkaa
open Go.RowKit

namespace Si
theorem bump_length (l : List Int) (v : Int) : (bump l v).length = l.length := by simp [bump]

theorem degs_snoc (n : Int) (es : List (Int × Int)) (p : Int × Int) : degs n (es ++ [p]) = bump (bump (degs n es) p.1) p.2 := by simp [degs, List.foldl_append]

theorem degs_length (n : Int) (es : List (Int × Int)) : (degs n es).length = n.toNat := by
  unfold degs
  suffices h : ∀ (es : List (Int × Int)) (l : List Int), (es.foldl (fun l e => bump (bump l e.1) e.2) l).length = l.length by rw [h]; simp
  intro es
  induction es with
  | nil => intro l; rfl
  | cons e es ih => intro l; rw [List.foldl_cons, ih, bump_length, bump_length]

/-- All numbers lie between 0 and m. -/
def Upto (m : Int) (l : List Int) : Prop := ∀ (j : Nat) (x : Int), l[j]? = some x → 0 ≤ x ∧ x ≤ m

theorem Upto.bump {m : Int} {l : List Int} (h : Upto m l) (v : Int) : Upto (m + 1) (bump l v) := by
  intro j x hx
  unfold Si.bump at hx
  rw [List.getElem?_set] at hx
  by_cases hv : v.toNat = j
  · rw [if_pos hv] at hx
    split at hx
    · cases hx
      rename_i hl
      have e : l[v.toNat]? = some l[v.toNat] := List.getElem?_eq_getElem hl
      have := h _ _ e
      rw [List.getD_eq_getElem?_getD, e]
      dsimp only [Option.getD_some]
      omega
    · cases hx
  · rw [if_neg hv] at hx
    have := h j x hx
    omega

theorem degs_upto (n : Int) (es : List (Int × Int)) : Upto (2 * es.length) (degs n es) := by
  unfold degs
  suffices h : ∀ (es : List (Int × Int)) (l : List Int) (m : Int), Upto m l → Upto (m + 2 * es.length) (es.foldl (fun l e => Si.bump (Si.bump l e.1) e.2) l) by
    have := h es (List.replicate n.toNat 0) 0 (fun j x hx => by
      rw [List.getElem?_replicate] at hx
      split at hx
      · cases hx; omega
      · cases hx)
    simpa using this
  intro es
  induction es with
  | nil => intro l m h; simpa using h
  | cons e es ih =>
    intro l m h
    have := ih _ _ ((h.bump e.1).bump e.2)
    rw [List.foldl_cons]
    have e1 : m + 2 * ((e :: es).length : Int) = m + 1 + 1 + 2 * (es.length : Int) := by simp; omega
    rw [e1]
    exact this
end Si

end Go.Proofs.Ytdhaaodalchpkaa

/-
  How many edges each vertex has, as the program and as the document count them.
-/
namespace Go.Proofs.Ytdhaaodalchpkaa
open Go.RowKit Go.Sort

def DegPost (n : Int) (es : List (Int × Int)) (w : World) (e : Ending) (w' : World) : Prop :=
  ((Si.valid n es = true ∧ ∃ g m : Nat, n = (m : Int) ∧ e = .returned (.tuple #[.slice (some ⟨g, 0, none⟩) m m, .int .i64 0]) ∧ w.heap.size ≤ g ∧ IntsBlk w' g (Si.degs n es)) ∨ (Si.valid n es = false ∧ e = .returned (.tuple #[.slice none 0 0, .int .i64 1]))) ∧ Below w.heap.size w w'

theorem Si.bump_at {l : List Int} {u : Nat} {x : Int} (h : l[u]? = some x) : Si.bump l (u : Int) = l.set u (x + 1) := by
  unfold Si.bump
  rw [Int.toNat_natCast, List.getD_eq_getElem?_getD, h]
  rfl

set_option maxRecDepth 100000 in
set_option maxHeartbeats 8000000 in
theorem degrees_any (n : Int) (ao : Option Addr) (cap : Nat) (es : List (Int × Int)) (w : World) (he : EdgesAt w ao es) (hl : es.length ≤ 4611686018427387904) :
    Calls Try.prog 39 #[graphVal n ao es.length cap] w (DegPost n es w) := by
  obtain ⟨i0, hi, hz0, hz1, hz2⟩ := info_parts Try.infoNum
  have HE := Nu.hid he
  have hva := fun W (hb : Below w.heap.size w W) => valid_any n ao cap es W (he.later hb) hl
  unfold graphVal at hva ⊢
  have HVA := Nu.hid hva
  clear he hva
  have hbw0 : Below w.heap.size w (w.alloc (.cells #[.int .i64 n, .slice ao es.length cap] 24)) := (Below.refl _ _).alloc (Nat.le_refl _) _
  have HBW0 := Nu.hid hbw0
  clear hbw0
  cases hv : Si.valid n es with
  | false =>
    rw [hv] at HVA
    have HV := Nu.hid hv
    clear hv
    go_enter Try.func39, Try.ntmps39
    go_wp2_with (go_at_call 54; refine (HVA.out _ HBW0.out).mono ?_; rintro e w' ⟨rfl, hb⟩; refine Hid.out ?_)
    refine Nu.hid ?_
    have HB := Nu.hid (HBW0.out.trans (hb.mono HBW0.out.size))
    clear hb
    go_wp2
    go_ret2
    exact ⟨.inr ⟨HV.out, rfl⟩, HB.out⟩
  | true =>
    rw [hv] at HVA
    have hval := Si.valid_iff.1 hv
    have hfew := hval.few
    have hlo := hval.lo
    have hhi := hval.hi
    obtain ⟨m, rfl⟩ : ∃ m : Nat, n = (m : Int) := ⟨n.toNat, by omega⟩
    have HVAL := Nu.hid hval
    have HV := Nu.hid hv
    clear hval hv
    go_enter Try.func39, Try.ntmps39
    go_wp2_with (go_at_call 54; refine (HVA.out _ HBW0.out).mono ?_; rintro e w' ⟨rfl, hb⟩; refine Hid.out ?_)
    refine Nu.hid ?_
    have hG : w'.heap[w.heap.size]? = some (.cells #[.int .i64 m, .slice ao es.length cap] 24 (0, 0)) := (hb.block _ (by simp)).trans (heap_alloc_new w _)
    have HB := Nu.hid (HBW0.out.trans (hb.mono HBW0.out.size))
    have hsG := lt_of_block hG
    obtain ⟨g0, g1, -⟩ := pair_cells hG
    clear hb hG
    go_wp2_with (at_make; refine wpList_make_full _ rfl _ _ 36 rfl w'.heap.size 3 i0 (.int .i64 0) 1 Try.underlying36 hi hz0 hz1 _ _ _ _ m rfl rfl rfl rfl (by rw [hz2]; omega) (by unfold maxLen; omega) (Nat.le_refl _) ?_; refine Hid.out ?_)
    refine Nu.hid ?_
    intro w2 hrow hg2
    rw [made_zeros] at hrow
    have hik := ints_of_row hrow
    have hb2 : Below w'.heap.size w' w2 := (Below.refl _ _).grown hg2 (Nat.le_refl _) (fun j hj => by cases hj)
    have HB2 := Nu.hid (HB.out.trans (hb2.mono HB.out.size))
    have k1 := (hb2.cell (p := ⟨w.heap.size, 1, none⟩) hsG).trans g1
    have hs2 : w'.heap.size < w2.heap.size := hik.lt
    have HIK : Hid (IntsBlk w2 w'.heap.size (Si.degs m [])) := by
      show IntsBlk _ _ _
      have : Si.degs m [] = List.replicate m 0 := by simp [Si.degs]
      rw [this]
      exact hik
    have hwg : w.heap.size ≤ w'.heap.size := by omega
    have hsG2 : w.heap.size < w2.heap.size := by omega
    clear hrow hg2 hb2 hik g0 g1
    go_wp2
    go_loopw [16] (fun c wr => ∃ (k : Nat) (l : List Int), k ≤ es.length ∧ c = .int .i64 k ∧ l = Si.degs m (es.take k) ∧ IntsBlk wr w'.heap.size l ∧ Below w.heap.size w wr) (fun c _ => es.length - (intOf c).toNat)
    case atStart => exact ⟨0, _, Nat.zero_le _, rfl, by simp, HIK.out, HB2.out⟩
    case round =>
      obtain ⟨k, l, hk, rfl, hl0, hik, hb⟩ := hrel
      have hsw := hik.lt
      have hs0 := hb.size
      have hll : l.length = m := by rw [hl0, Si.degs_length]; simp
      have hup : Si.Upto (2 * k) l := by
        rw [hl0]
        have := Si.degs_upto m (es.take k)
        have e : (es.take k).length = k := by simp; omega
        rw [e] at this
        exact this
      have HIKR := Nu.hid hik
      have HB3 := Nu.hid hb
      have HL0 := Nu.hid hl0
      clear hl0
      by_cases hlt : k < es.length
      · have hlti : (k : Int) < (es.length : Int) := by omega
        have hk0 : (0 : Int) ≤ (k : Int) := by omega
        obtain ⟨p, hp⟩ : ∃ p, es[k]? = some p := ⟨_, List.getElem?_eq_getElem hlt⟩
        obtain ⟨b, o, rfl, c0, c1⟩ := (HE.out.later hb) k p hp
        have hbl : b < wr.heap.size := block_lt_of_cell c0
        have hsn : Si.degs m (es.take (k + 1)) = Si.bump (Si.bump l p.1) p.2 := by rw [Si.take_snoc hp, Si.degs_snoc, ← HL0.out]
        have hok := HVAL.out.each k p hp
        unfold Si.ok at hok
        obtain ⟨pu, pv⟩ := p
        dsimp only at c0 c1 hsn hok
        obtain ⟨u, rfl⟩ : ∃ u : Nat, pu = (u : Int) := ⟨pu.toNat, by omega⟩
        obtain ⟨v, rfl⟩ : ∃ v : Nat, pv = (v : Int) := ⟨pv.toNat, by omega⟩
        obtain ⟨x, hx⟩ : ∃ x, l[u]? = some x := ⟨_, List.getElem?_eq_getElem (by omega)⟩
        obtain ⟨y, hy⟩ : ∃ y, l[v]? = some y := ⟨_, List.getElem?_eq_getElem (by omega)⟩
        have hxb := hup u x hx
        have hyb := hup v y hy
        have hne : u ≠ v := by omega
        have hsn2 : Si.degs m (es.take (k + 1)) = (l.set u (x + 1)).set v (y + 1) := by
          rw [hsn, Si.bump_at hx, Si.bump_at (x := y) (by rw [List.getElem?_set, if_neg hne]; exact hy)]
        have HSN := Nu.hid hsn2
        have hcx := hik.cell hx
        have hcy := hik.cell hy
        have hfr := hik.free
        have hi1 := hik.set u (x + 1)
        have hcy1 := hi1.cell (i := v) (x := y) (by rw [List.getElem?_set, if_neg hne]; exact hy)
        have hfr1 := hi1.free
        have HI2 := Nu.hid ((hi1.set v (y + 1)).alloc (.cells #[.int .i64 u, .int .i64 v] 57))
        have u0 : (0 : Int) ≤ (u : Int) := by omega
        have v0 : (0 : Int) ≤ (v : Int) := by omega
        have um : (u : Int) < (m : Int) := by omega
        have vm : (v : Int) < (m : Int) := by omega
        clear hsn hsn2 hup hok hx hy hb hik hi1 hp
        go_wp2
        go_roundw
        case rel => exact ⟨k + 1, _, by omega, by go_num, HSN.out.symm, HI2.out, ((HB3.out.setCell (by simp; omega) _).setCell (by simp; omega) _).alloc (by simp; omega) _⟩
        case measure => simp [intOf]; omega
      · have hd : ¬ ((k : Int) < (es.length : Int)) := by omega
        have hle : l = Si.degs m es := by rw [HL0.out, List.take_of_length_le (by omega)]
        have HLE := Nu.hid hle
        clear hle hb hik hup
        go_wp2
        go_ret2
        refine ⟨.inl ⟨HV.out, w'.heap.size, m, rfl, rfl, hwg, ?_⟩, HB3.out⟩
        rw [← HLE.out]
        exact HIKR.out

theorem cell_other {w : World} {g i b o : Nat} (h : b ≠ g) (x : Value) : (w.setCell ⟨g, i, none⟩ x).cell? ⟨b, o, none⟩ = w.cell? ⟨b, o, none⟩ := by
  simp [World.cell?, heap_setCell_other w ⟨g, i, none⟩ b x h]

end Go.Proofs.Ytdhaaodalchpkaa

/-
  Degrees are how many half-edges leave (pure).
-/
namespace Go.Proofs.Ytdhaaodalchpkaa
open Go.RowKit

/-- How often each vertex is an end. -/
theorem Cs.degs_out {n : Nat} {es : List (Int × Int)} (hv : Si.Val n es) : ∀ k, k ≤ es.length → ∀ v, v < n → (Si.degs n (es.take k))[v]? = some ((Cs.out es v (2 * k)).length : Int) := by
  intro k
  induction k with
  | zero => intro _ v hv; simp [Si.degs, Cs.out, hv]
  | succ k ih =>
    intro hk v hvn
    obtain ⟨q, hq⟩ : ∃ q, es[k]? = some q := ⟨_, List.getElem?_eq_getElem (by omega)⟩
    have hok := hv.each k q hq
    unfold Si.ok at hok
    obtain ⟨qu, qv⟩ := q
    dsimp only at hok
    obtain ⟨a, rfl⟩ : ∃ u : Nat, qu = (u : Int) := ⟨qu.toNat, by omega⟩
    obtain ⟨b, rfl⟩ : ∃ v : Nat, qv = (v : Int) := ⟨qv.toNat, by omega⟩
    obtain ⟨e1, -⟩ := Cs.fr_even hq
    obtain ⟨e3, -⟩ := Cs.fr_odd hq
    dsimp only [Int.toNat_natCast] at e1 e3
    have h1 := ih (by omega) a (by omega)
    have h2 := ih (by omega) b (by omega)
    rw [Si.take_snoc hq, Si.degs_snoc]
    have hne : a ≠ b := by omega
    rw [Si.bump_at h1, Si.bump_at (x := ((Cs.out es b (2 * k)).length : Int)) (by rw [List.getElem?_set, if_neg hne]; exact h2)]
    have e : 2 * (k + 1) = 2 * k + 1 + 1 := by omega
    have hl := Si.degs_length n (es.take k)
    rw [e, Cs.out_len_succ, Cs.out_len_succ, e1, e3, List.getElem?_set]
    by_cases hb : b = v
    · subst hb
      rw [if_pos rfl, if_pos (by simp; omega), if_neg hne, if_pos rfl]
      congr 1
    · rw [if_neg hb, if_neg hb, List.getElem?_set]
      by_cases ha : a = v
      · subst ha
        rw [if_pos rfl, if_pos (by omega), if_pos rfl]
        congr 1
      · rw [if_neg ha, if_neg ha, ih (by omega) v hvn]
        rfl

end Go.Proofs.Ytdhaaodalchpkaa
