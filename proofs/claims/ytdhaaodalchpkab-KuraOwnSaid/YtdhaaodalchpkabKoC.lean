/-
  What KuraOwn wants beside: how long lists are; the copy with room behind it.
-/
import Derived.Test.YtdhaaodalchpkabMgS
import Derived.Test.YtdhaaodalchpkabKoT
import Derived.Test.YtdhaaodalchpkabMgT
namespace Go.Proofs.Ytdhaaodalchpkab
open Go.RowKit Go.Sort

namespace Ku
theorem rows_len {n : Int} {es : List (Int × Int)} (hv : Si.Val n es) : ∀ l ∈ rows es hv es.length, l.length ≤ 8388609 := fun l hl => by
  have hf := hv.few
  obtain ⟨t, ht⟩ := List.getElem?_of_mem hl
  obtain ⟨c, hc, rfl⟩ := rows_at ht
  have hcn := chs_cn (Nat.le_refl _) (List.mem_of_getElem? hc)
  have h1 := few_below hcn.nd0 hcn.lt
  have h3 : (gs es hv).M = 2 * es.length := rfl
  rw [h3] at h1
  rw [ZL_length, vs_length hcn.ne]
  omega
theorem kc_len (n : Int) (es : List (Int × Int)) : (kc n es).1.length ≤ 4194304 ∧ ∀ l ∈ (kc n es).1, l.length ≤ 8388609 := by
  unfold kc
  by_cases hv : Si.Val n es
  · rw [dif_pos hv]
    exact ⟨(rows_small hv).1, rows_len hv⟩
  · rw [dif_neg hv]
    exact ⟨by simp, fun l hl => by simp at hl⟩
theorem kr_len (n : Int) (es : List (Int × Int)) : ∀ l ∈ (kr n es).2.2.1, l.length ≤ 8388609 := by
  unfold kr
  by_cases hv : Si.Val n es
  · rw [dif_pos hv]
    have hpath : ∀ p, (pathOf (rows es hv es.length) p).length ≤ 8388609 := fun p => by
      unfold pathOf fromL
      have : ((rows es hv es.length).getD ((idx (rows es hv es.length) p).getD 0) []).length ≤ 8388609 := by
        rw [List.getD_eq_getElem?_getD]
        cases h : (rows es hv es.length)[(idx (rows es hv es.length) p).getD 0]? with
        | none => simp
        | some l => exact rows_len hv l (List.mem_of_getElem? h)
      split
      · exact this
      · rw [List.length_reverse]
        exact this
    have hk : ∀ (kd : Int) (br : List Int) (ps : List (Int × Int)) x, kur (rows es hv es.length) kd br ps = some x → ∀ l ∈ x.2.2, l.length ≤ 8388609 := fun kd br ps x hx => by
      unfold kur at hx
      split at hx
      · cases hx
        intro l hl
        obtain ⟨p, _, rfl⟩ := List.mem_map.1 hl
        exact hpath p
      · cases hx
    cases hx : recA (rows es hv es.length) es n.toNat with
    | none => exact fun l hl => by simp at hl
    | some x =>
      unfold recA at hx
      split at hx
      · exact hk _ _ _ x hx
      · split at hx
        · exact hk _ _ _ x hx
        · cases hx
  · rw [dif_neg hv]
    exact fun l hl => by simp at hl
end Ku

namespace lawKO
/-- The graph that came in, the copy with room behind it. -/
structure Ho15 (w : World) (n : Int) (ao : Option Addr) (ca : Nat) (es : List (Int × Int)) (bh gf cf B : Nat) (W : World) : Prop where
  g : Gr15 w n ao ca es W
  box : W.heap[bh]? = some (.cells #[.int .i64 n, .slice (some ⟨gf, 0, none⟩) es.length cf] 24 (0, 0))
  fu : OwnE W B (.slice (some ⟨gf, 0, none⟩) (es.length + 1) cf) (es ++ [(-1, -2)])

section
variable {w W W' : World} {n : Int} {ao : Option Addr} {ca : Nat} {es : List (Int × Int)} {bh gf cf B : Nat}
theorem Ho15.later (h : Ho15 w n ao ca es bh gf cf B W) (hb : Below W.heap.size W W') : Ho15 w n ao ca es bh gf cf B W' :=
  ⟨h.g.later hb, (hb.block _ (lt_of_block h.box)).trans h.box, h.fu.below hb (Nat.le_refl _)⟩
theorem Ho15.cells (h : Ho15 w n ao ca es bh gf cf B W) : W.cell? ⟨bh, 0, none⟩ = some (.int .i64 n) ∧ W.cell? ⟨bh, 1, none⟩ = some (.slice (some ⟨gf, 0, none⟩) es.length cf) := by
  obtain ⟨x0, x1, -⟩ := pair_cells h.box
  exact ⟨x0, x1⟩
theorem Ho15.all (h : Ho15 w n ao ca es bh gf cf B W) : EdgesAt W (some ⟨gf, 0, none⟩) (es ++ [(-1, -2)]) := by
  obtain ⟨a, c, e, _, _, h1, _⟩ := h.fu.form
  injection e with e1 e2 e3
  rw [e1]
  exact h1
theorem Ho15.edges (h : Ho15 w n ao ca es bh gf cf B W) : EdgesAt W (some ⟨gf, 0, none⟩) es := fun j p hj => h.all j p (by rw [List.getElem?_append_left (List.getElem?_eq_some_iff.1 hj).1]; exact hj)
end
theorem field_edges (x0 : Value) (a : Option Addr) (m c : Nat) (W : World) : (Instr.field 24 (.agg #[x0, .slice a m c]) 1).run Try.prog W = .ok (.slice a m c) W := by kernel_rfl
theorem ints_wrote {S : Nat → Prop} {V U : World} {ao : Option Addr} {l : List Int} (h : Wrote S V U) (hi : IntsAt V ao l) (hn : ∀ b o, ao = some ⟨b, o, none⟩ → ¬ S b) : IntsAt U ao l := fun j x hj => by
  obtain ⟨b, o, rfl, hc⟩ := hi j x hj
  exact ⟨b, o, rfl, (World.cell?_of_block (a := ⟨b, o + j, none⟩) (h.block b (block_lt_of_cell hc) (hn b o rfl))).trans hc⟩
theorem in_parts {A B C : List Value} {b : Nat} (h : inV (A ++ B ++ C) b) : inV A b ∨ inV B b ∨ inV C b := by
  obtain ⟨u, x, hu, hb⟩ := h
  have hm := List.mem_of_getElem? hu
  rcases List.mem_append.1 hm with hm | hm
  · rcases List.mem_append.1 hm with hm | hm
    · obtain ⟨j, hj⟩ := List.getElem?_of_mem hm
      exact .inl ⟨j, x, hj, hb⟩
    · obtain ⟨j, hj⟩ := List.getElem?_of_mem hm
      exact .inr (.inl ⟨j, x, hj, hb⟩)
  · obtain ⟨j, hj⟩ := List.getElem?_of_mem hm
    exact .inr (.inr ⟨j, x, hj, hb⟩)
theorem in_one {y : Value} {b : Nat} (h : inV [y] b) : y.ownBlock = some b := by
  obtain ⟨u, x, hu, hb⟩ := h
  have hm := List.mem_singleton.1 (List.mem_of_getElem? hu)
  rw [← hm]
  exact hb
end lawKO
end Go.Proofs.Ytdhaaodalchpkab
