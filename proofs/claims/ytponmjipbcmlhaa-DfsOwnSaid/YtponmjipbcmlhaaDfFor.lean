/-
  Forests wherever they lie; the document's own Copy of one.
-/
import Derived.Test.YtponmjipbcmlhaaDfWalk
import Derived.Test.YtponmjipbcmlhaaLst
import Derived.Test.YtponmjipbcmlhaaAnyOrd
namespace Go.Proofs.Ytponmjipbcmlhaa
open Go.RowKit

/-- Where the four lists of a forest lie, and how much room they have. -/
structure For where
  a1 : Option Addr
  a2 : Option Addr
  a3 : Option Addr
  a4 : Option Addr
  c1 : Nat
  c2 : Nat
  c3 : Nat
  c4 : Nat

/-- A forest, handed in or answered. -/
abbrev For.val (f : For) (s : Df.St) : Value := .agg #[.slice f.a1 s.par.length f.c1, .slice f.a2 s.hei.length f.c2, .slice f.a3 s.ord.length f.c3, .slice f.a4 s.ori.length f.c4]

/-- The four lists lie there. -/
structure LstF (w : World) (f : For) (s : Df.St) : Prop where
  l1 : Lst w f.a1 s.par.length f.c1 s.par
  l2 : Lst w f.a2 s.hei.length f.c2 s.hei
  l3 : Lst w f.a3 s.ord.length f.c3 s.ord
  l4 : Lst w f.a4 s.ori.length f.c4 s.ori
  n1 : s.par.length ≤ 17592186043904
  n2 : s.hei.length ≤ 17592186043904
  n3 : s.ord.length ≤ 17592186043904
  n4 : s.ori.length ≤ 17592186043904

theorem LstF.later {w w' : World} {f : For} {s : Df.St} (h : LstF w f s) (hb : Below w.heap.size w w') : LstF w' f s := ⟨h.l1.later hb, h.l2.later hb, h.l3.later hb, h.l4.later hb, h.n1, h.n2, h.n3, h.n4⟩

theorem OwnZ.few {w : World} {B : Nat} {v : Value} {l : List Int} (h : OwnZ w B v l) : l.length ≤ maxLen := by
  rcases h.2 with ⟨_, h0⟩ | ⟨_, _, _, _, _, _, h1, h2, _⟩
  · omega
  · omega

/-- A forest of one's own is one that lies somewhere. -/
theorem OwnF.lst {w : World} {B : Nat} {v1 v2 v3 v4 : Value} {s : Df.St} (h : OwnF w B v1 v2 v3 v4 s) (hn : s.par.length ≤ 17592186043904 ∧ s.hei.length ≤ 17592186043904 ∧ s.ord.length ≤ 17592186043904 ∧ s.ori.length ≤ 17592186043904) :
    ∃ f : For, v1 = .slice f.a1 s.par.length f.c1 ∧ v2 = .slice f.a2 s.hei.length f.c2 ∧ v3 = .slice f.a3 s.ord.length f.c3 ∧ v4 = .slice f.a4 s.ori.length f.c4 ∧ LstF w f s := by
  obtain ⟨a1, c1, e1, h1, _⟩ := h.o1.lst
  obtain ⟨a2, c2, e2, h2, _⟩ := h.o2.lst
  obtain ⟨a3, c3, e3, h3, _⟩ := h.o3.lst
  obtain ⟨a4, c4, e4, h4, _⟩ := h.o4.lst
  exact ⟨⟨a1, a2, a3, a4, c1, c2, c3, c4⟩, e1, e2, e3, e4, h1, h2, h3, h4, hn.1, hn.2.1, hn.2.2.1, hn.2.2.2⟩

/-- 'append([]int{}, xs...)', run: the empty list lies in block b. -/
theorem run_copyI (ty : TypeId) (W : World) (b : Nat) (ao : Option Addr) (n ca : Nat) (l : List Int) (hb : W.heap[b]? = some (.cells #[] 3 (0, 0))) (hr : Lst W ao n ca l) (hn : n ≤ 17592186043904) :
    ∃ g c w', (Builtin.append_ #[26, 26] ty #[.slice (some ⟨b, 0, none⟩) 0 0, .slice ao n ca]).run Try.prog W = .ok (.slice (some ⟨g, 0, none⟩) n c) w' ∧ (g = b ∨ W.heap.size ≤ g) ∧ (∀ B, B ≤ b → OwnZ w' B (.slice (some ⟨g, 0, none⟩) n c) l) ∧ g < w'.heap.size ∧ Below W.heap.size W w' := by
  obtain ⟨i0, hi, hz0, hz1, hz2⟩ := info_parts Try.infoNum
  have hlt := lt_of_block hb
  have hown0 : ∀ B, B ≤ b → W.ownsRow B 3 1 (.slice (some ⟨b, 0, none⟩) 0 0) 0 [] := fun B hB => ⟨rfl, .inr ⟨b, 0, #[], rfl, hB, hb, Nat.le_refl _, by unfold maxLen; omega, rfl, rfl⟩⟩
  by_cases h0 : n = 0
  · subst h0
    have hl : l = [] := List.length_eq_zero_iff.1 hr.len
    subst hl
    refine ⟨b, 0, W, ?_, .inl rfl, fun B hB => hown0 B hB, hlt, Below.refl _ _⟩
    cases ao with
    | none =>
      obtain ⟨_, rfl⟩ := hr.none rfl
      exact run_append_owned_none (P := Try.prog) (w := W) b 26 ty 3 i0 1 Try.underlying26 hi _ 0 [] (hown0 b (Nat.le_refl _))
    | some y =>
      have := run_append_room_cells (P := Try.prog) W 26 ty 3 i0 Try.underlying26 hi b 0 0 0 y 0 ca [] (by simp) (fun j u hj => by simp at hj) (fun u hu => by simp at hu) (Nat.le_refl _) (fun j hj => by simp at hj) (fun j hj => by simp at hj)
      rw [this]
      simp [World.setCells]
  · obtain ⟨y, hy⟩ : ∃ y, ao = some y := by
      cases ao with
      | none => exact absurd (hr.none rfl).1 h0
      | some y => exact ⟨y, rfl⟩
    subst hy
    obtain ⟨v', w', hrun, r1, r2⟩ := run_append_arg_grows (P := Try.prog) W 26 ty 3 i0 (.int .i64 0) 1 8 Try.underlying26 hi hz0 hz1 hz2 rfl (by decide) ⟨b, 0, none⟩ 0 0 [] rfl (fun j u hj => by simp at hj) y n ca (l.map (Value.int .i64)) (by rw [List.length_map, hr.len]; omega) (fun j u hj => by
      rw [List.getElem?_map] at hj
      cases hlj : l[j]? with
      | none => rw [hlj] at hj; cases hj
      | some z =>
        rw [hlj] at hj
        obtain rfl := Option.some.inj hj
        obtain ⟨b', o', e, hc⟩ := hr.ints j z hlj
        cases e
        have ea : ((⟨b', o', none⟩ : Addr).add j) = ⟨b', o' + j, none⟩ := by
          by_cases h0 : j = 0 <;> simp [Addr.add, h0]
        rw [ea]
        exact hc) (by omega) (by unfold maxLen; omega) (by omega)
    rw [Nat.zero_add, List.nil_append] at r1
    obtain ⟨k, hk⟩ : ∃ k, n = k + 1 := ⟨n - 1, by omega⟩
    rw [hk] at r1
    obtain ⟨g, c, rfl⟩ := own_succ r1
    rw [← hk] at r1 hrun
    have hg := World.ownsRow.lt r1 g rfl
    refine ⟨g, c, w', hrun, .inr hg.1, fun B hB => ?_, hg.2, ⟨r2.os, r2.tape, r2.output, r2.size, fun k hk => r2.block k hk (by simp)⟩⟩
    have : OwnZ w' W.heap.size (.slice (some ⟨g, 0, none⟩) n c) l := by
      unfold OwnZ
      rw [hr.len]
      exact r1
    exact this.lower (by omega)

end Go.Proofs.Ytponmjipbcmlhaa
