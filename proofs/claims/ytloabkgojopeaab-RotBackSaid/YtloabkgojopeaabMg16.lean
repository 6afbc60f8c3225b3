import Derived.Test.YtloabkgojopeaabMg15
import Derived.Test.YtloabkgojopeaabMg05
import Derived.Test.YtloabkgojopeaabMg01
import Derived.Test.YtloabkgojopeaabMg10
/-
  From: rotations told by vertices, of any graph and lists.
-/
namespace Go.Proofs.Ytloabkgojopeaab
open Go.RowKit Go.Sort

/-- What the reading leaves: the lists in the box, or the box as it was. -/
def Fr1Post (n : Int) (es : List (Int × Int)) (ls : List (List Int)) (b : Nat) (w : World) (e : Ending) (w' : World) : Prop :=
  Wrote (fun k => k = b) w w' ∧ (((Ro.check n es (Ro.hls es 0 ls)).2 = 0 ∧ e = .returned (.tuple #[]) ∧ ∃ r rs, w'.heap[b]? = some (.cells #[r] 26 (0, 0)) ∧ RowsZ w' w.heap.size r rs (Ro.hls es 0 ls)) ∨
    ((Ro.check n es (Ro.hls es 0 ls)).2 ≠ 0 ∧ e = .panicked [{ v := rfaultV (Ro.check n es (Ro.hls es 0 ls)).1 (Ro.check n es (Ro.hls es 0 ls)).2, recovered := false }] ∧ w'.heap[b]? = some (.cells #[.slice none 0 0] 26 (0, 0))))

set_option maxRecDepth 100000 in
set_option maxHeartbeats 4000000 in
theorem from1_any (n : Int) (ao : Option Addr) (ca : Nat) (es : List (Int × Int)) (xo : Option Addr) (xc : Nat) (ls : List (List Int)) (b : Nat) (w : World) (he : EdgesAt w ao es) (hl : es.length ≤ 4611686018427387904) (hx : RwsAt w xo ls)
    (hg : w.heap[b]? = some (.cells #[.int .i64 n, .slice ao es.length ca] 24 (0, 0))) (hr : w.heap[b + 1]? = some (.cells #[.slice xo ls.length xc] 25 (0, 0))) (hbx : w.heap[b + 2]? = some (.cells #[.slice none 0 0] 26 (0, 0))) :
    Calls Try.prog 22 #[.pointer (some ⟨b, 0, none⟩), .pointer (some ⟨b + 1, 0, none⟩), .pointer (some ⟨b + 2, 0, none⟩)] w (Fr1Post n es ls (b + 2) w) := by
  obtain ⟨g0, g1, -⟩ := pair_cells hg
  have r0 := cell_of_one hr
  have HH := Nu.hid (readVertices_any n ao ca es xo xc ls w he hl hx)
  have HBX := Nu.hid hbx
  unfold graphVal at HH
  clear he hx hg hr hbx
  go_enter Try.func22, Try.ntmps22
  go_wp2_with (go_at_call 23; refine HH.out.mono ?_; refine Hid.out ?_)
  refine Nu.hid ?_
  rintro e w1 ⟨hb, hp⟩
  have hB1 := (hb.block _ (lt_of_block HBX.out)).trans HBX.out
  rcases hp with ⟨hc, r, rs, rfl, hrz⟩ | ⟨hc, rfl⟩
  · obtain ⟨ro, rc, rfl⟩ := row_shape hrz
    have k0 := cell_of_one hB1
    have f0 := free_of_one hB1
    have HB := Nu.hid hb
    have HC := Nu.hid hc
    have HRZ := Nu.hid hrz
    have HB1 := Nu.hid hB1
    have HLT := Nu.hid (lt_of_block HBX.out)
    generalize hq : (Ro.hls es 0 ls).length = ql at *
    clear hb hc hrz hB1
    go_wp2
    go_end0
    refine ⟨((Wrote.refl (fun k => k = b + 2) w).later HB.out).setCell (b := b + 2) rfl _, .inl ⟨HC.out, rfl, _, rs, one_setCell HB1.out, ?_⟩⟩
    refine HRZ.out.kept fun g hg hg2 => blk_same ?_ _
    have h1 := HLT.out
    rcases hg with hg | ⟨u, x, hx, hxb⟩
    · have := (World.ownsRow.lt HRZ.out.outer g hg).1
      omega
    · obtain ⟨k, hk⟩ := HRZ.out.at hx
      have := (World.ownsRow.lt (HRZ.out.row u x k hx hk) g hxb).1
      omega
  · exact ⟨rfl, (Wrote.refl _ _).later hb, .inr ⟨hc, rfl, hB1⟩⟩

theorem fr1_enters : ∀ (args : Array Value) (w : World), (callFunc 22 args).run Try.prog w = .ok (.enter 22 args) w := enters_of Try.func22 (by kernel_rfl) rfl

set_option maxRecDepth 100000 in
set_option maxHeartbeats 8000000 in
theorem from_any11 (n : Int) (ao : Option Addr) (ca : Nat) (es : List (Int × Int)) (xo : Option Addr) (xc : Nat) (ls : List (List Int)) (w : World) (he : EdgesAt w ao es) (hl : es.length ≤ 4611686018427387904) (hx : RwsAt w xo ls) :
    Calls Try.prog 7 #[graphVal n ao es.length ca, .slice xo ls.length xc] w (FromP n es ls w) := by
  have hmf : ∀ (fn : Fn) (first cap : Array Value) (w : World), (Instr.makeFunc fn first cap).run Try.prog w = .ok (.func fn first cap) w := fun _ _ _ _ => rfl
  obtain ⟨W0, hW0⟩ : ∃ W, W = ((w.alloc (.cells #[.int .i64 n, .slice ao es.length ca] 24)).alloc (.cells #[.slice xo ls.length xc] 25)).alloc (.cells #[.slice none 0 0] 26) := ⟨_, rfl⟩
  have hb0 : Below w.heap.size w W0 := by rw [hW0]; exact (((Below.refl _ _).alloc (Nat.le_refl _) _).alloc (by simp) _).alloc (by simp; omega) _
  have hs0 : W0.heap.size = w.heap.size + 3 := by rw [hW0]; simp
  have hg : W0.heap[w.heap.size]? = some (.cells #[.int .i64 n, .slice ao es.length ca] 24 (0, 0)) := by
    rw [hW0, Below.heap_alloc _ _ _ (by simp; omega), Below.heap_alloc _ _ _ (by simp)]
    exact heap_alloc_new w _
  have hr : W0.heap[w.heap.size + 1]? = some (.cells #[.slice xo ls.length xc] 25 (0, 0)) := by
    rw [hW0, Below.heap_alloc _ _ _ (by simp)]
    exact alloc_at (by simp)
  have hbx : W0.heap[w.heap.size + 2]? = some (.cells #[.slice none 0 0] 26 (0, 0)) := by
    rw [hW0]
    exact alloc_at (by simp)
  obtain ⟨Wc, hWc⟩ : ∃ Wc, Wc = W0.alloc (.cells #[.int .i64 0, .int .i64 0] 53) := ⟨_, rfl⟩
  have hb1 : Below W0.heap.size W0 Wc := by rw [hWc]; exact (Below.refl _ _).alloc (Nat.le_refl _) _
  have hsc : Wc.heap.size = w.heap.size + 4 := by rw [hWc]; simp [hs0]
  have hflt : FltAt Wc W0.heap.size 0 0 := by rw [hWc]; exact heap_alloc_new W0 _
  have hc1 := from1_any n ao ca es xo xc ls w.heap.size Wc ((he.later hb0).later hb1) hl ((hx.later hb0).later hb1) ((hb1.block _ (by omega)).trans hg) ((hb1.block _ (by omega)).trans hr) ((hb1.block _ (by omega)).trans hbx)
  have hca := caught_any 22 #[.pointer (some ⟨w.heap.size, 0, none⟩), .pointer (some ⟨w.heap.size + 1, 0, none⟩), .pointer (some ⟨w.heap.size + 2, 0, none⟩)]
    (fun W => (Ro.check n es (Ro.hls es 0 ls)).2 = 0 ∧ Below w.heap.size w W ∧ w.heap.size + 3 < W.heap.size ∧ ∃ r rs, W.heap[w.heap.size + 2]? = some (.cells #[r] 26 (0, 0)) ∧ RowsZ W (w.heap.size + 4) r rs (Ro.hls es 0 ls))
    (fun v c W => v = (Ro.check n es (Ro.hls es 0 ls)).1 ∧ c = (Ro.check n es (Ro.hls es 0 ls)).2 ∧ c ≠ 0 ∧ Below w.heap.size w W ∧ w.heap.size + 3 < W.heap.size ∧ W.heap[w.heap.size + 2]? = some (.cells #[.slice none 0 0] 26 (0, 0))) W0 fr1_enters
    (by
      rw [← hWc]
      refine hc1.mono ?_
      rintro e w2 ⟨hw2, hp⟩
      have hbw : Below w.heap.size w w2 := by
        have h1 := hb0.trans (hb1.mono hb0.size)
        exact h1.trans (hw2.below h1.size fun k hk => by rw [hk]; omega)
      have hsz : w.heap.size + 3 < w2.heap.size := by have := hw2.size; omega
      refine ⟨(hw2.block W0.heap.size (by omega) (by show ¬ W0.heap.size = w.heap.size + 2; omega)).trans hflt, ?_⟩
      rcases hp with ⟨h0, rfl, r, rs, h1, h2⟩ | ⟨h0, rfl, h1⟩
      · rw [hsc] at h2
        exact .inl ⟨rfl, h0, hbw, hsz, r, rs, h1, h2⟩
      · exact .inr ⟨_, _, rfl, rfl, rfl, h0, hbw, hsz, h1⟩)
  have HCA := Nu.hid hca
  have HS0 := Nu.hid hs0
  unfold graphVal
  clear he hx hg hr hbx hb1 hc1 hca hb0 hs0 hWc hsc hflt
  rw [hW0] at HCA
  have HW := Nu.hid hW0
  clear hW0
  go_enter Try.func7, Try.ntmps7
  go_wp2_with (go_at_call 21; refine HCA.out.mono ?_; refine Hid.out ?_)
  refine Nu.hid ?_
  rintro e w1 ⟨W1, hp, hw⟩
  have hWe := HW.out
  rw [← hWe] at hw
  rw [HS0.out] at hw
  rcases hp with ⟨⟨h0, hb, hsz, r, rs, h1, h2⟩, rfl⟩ | ⟨v, c, ⟨hv, hc, h0, hb, hsz, h1⟩, rfl⟩
  · have hb2 : Below w.heap.size w w1 := hb.trans (hw.below hb.size fun k hk => by rw [hk]; omega)
    have hbx1 := (hw.block (w.heap.size + 2) (by omega) (by show ¬ w.heap.size + 2 = w.heap.size + 3; omega)).trans h1
    have hrz1 : RowsZ w1 (w.heap.size + 4) r rs (Ro.hls es 0 ls) := h2.kept fun g hg hg2 => hw.block g hg2 (by
      show ¬ g = w.heap.size + 3
      rcases hg with hg | ⟨u, x, hx, hxb⟩
      · have := (World.ownsRow.lt h2.outer g hg).1
        omega
      · obtain ⟨k, hk⟩ := h2.at hx
        have := (World.ownsRow.lt (h2.row u x k hx hk) g hxb).1
        omega)
    obtain ⟨ro, rc, rfl⟩ := row_shape hrz1
    have k0 := cell_of_one hbx1
    have HRZ := Nu.hid hrz1
    have HB2 := Nu.hid hb2
    have H0 := Nu.hid h0
    generalize hq : (Ro.hls es 0 ls).length = ql at *
    have hlt1 := lt_of_block hbx1
    clear hw hb hsz h1 h2 h0 hb2 hbx1 hrz1 hWe hq
    go_wp2
    go_region
    go_wp2
    go_ret3
    refine ⟨(HB2.out.alloc HB2.out.size _).drew, .inr ⟨H0.out, _, rs, rfl, ?_⟩⟩
    exact ((HRZ.out.later ((Below.refl _ _).alloc (Nat.le_refl _) _)).later (Below.refl _ _).drew).lower (by omega)
  · have hb2 : Below w.heap.size w w1 := hb.trans (hw.below hb.size fun k hk => by rw [hk]; omega)
    have hbx1 := (hw.block (w.heap.size + 2) (by omega) (by show ¬ w.heap.size + 2 = w.heap.size + 3; omega)).trans h1
    have k0 := cell_of_one hbx1
    have HB2 := Nu.hid hb2
    have H0 := Nu.hid h0
    have HV := Nu.hid hv
    have HC := Nu.hid hc
    have hlt1 := lt_of_block hbx1
    clear hw hb hsz h1 h0 hb2 hbx1 hWe hv hc
    go_wp2
    go_region
    go_wp2
    go_ret3
    have hv := HV.out
    have hc := HC.out
    subst hv
    refine ⟨(HB2.out.alloc HB2.out.size _).drew, .inl ⟨by rw [← hc]; exact H0.out, ?_⟩⟩
    rw [← hc]
    rfl

end Go.Proofs.Ytloabkgojopeaab

/-
  Pure: Next of a rotation, element by element: a permutation of the half-edges, round by round.
-/
namespace Go.Proofs.Ytloabkgojopeaab
namespace Ro

theorem mem_out {es : List (Int × Int)} {v j k : Nat} : j ∈ Cs.out es v k ↔ j < k ∧ Cs.fr es j = v := by
  constructor
  · intro h
    obtain ⟨i, hi⟩ := List.mem_iff_getElem?.1 h
    have := Cs.out_of hi
    exact ⟨this.1, this.2.1⟩
  · rintro ⟨h, hv⟩
    exact List.mem_of_getElem? (Cs.out_at h hv)

section
variable {es : List (Int × Int)} {v : Nat} {l : List Int}

theorem IsRot.sub (h : IsRot es v l) : l ⊆ (Cs.out es v (2 * es.length)).map (fun j : Nat => (j : Int)) := by
  intro x hx
  obtain ⟨j, rfl, hj, hf⟩ := lv_nat (h.lv x hx)
  exact List.mem_map.2 ⟨j, mem_out.2 ⟨hj, hf⟩, rfl⟩
theorem IsRot.len (h : IsRot es v l) : l.length = deg es v := by
  have h1 := h.once.length_le_of_subset h.sub
  rw [List.length_map] at h1
  have h2 := h.all
  unfold deg at h2 ⊢
  omega
theorem IsRot.mem (h : IsRot es v l) {j : Nat} (hj : j < 2 * es.length) (hf : Cs.fr es j = v) : (j : Int) ∈ l := by
  refine Decidable.byContradiction fun hn => ?_
  have hN : ((j : Int) :: l).Nodup := List.nodup_cons.2 ⟨hn, h.once⟩
  have h1 := hN.length_le_of_subset (l₂ := (Cs.out es v (2 * es.length)).map (fun j : Nat => (j : Int))) (by
    intro x hx
    rcases List.mem_cons.1 hx with rfl | hx
    · exact List.mem_map.2 ⟨j, mem_out.2 ⟨hj, hf⟩, rfl⟩
    · exact h.sub hx)
  rw [List.length_map, List.length_cons, h.len] at h1
  unfold deg at h1
  omega
end

theorem nodup_at {l : List Int} (h : l.Nodup) {i j : Nat} {x : Int} (hi : l[i]? = some x) (hj : l[j]? = some x) : i = j := by
  obtain ⟨h1, rfl⟩ := List.getElem?_eq_some_iff.1 hi
  obtain ⟨h2, e⟩ := List.getElem?_eq_some_iff.1 hj
  rcases Nat.lt_trichotomy i j with c | c | c
  · exact absurd e.symm (List.pairwise_iff_getElem.1 h i j h1 h2 c)
  · exact c
  · exact absurd e (List.pairwise_iff_getElem.1 h j i h2 h1 c)

theorem lt_at {α : Type} {l : List α} {i : Nat} {x : α} (h : l[i]? = some x) : i < l.length := (List.getElem?_eq_some_iff.1 h).1
theorem getD_of {l : List Int} {i : Nat} {x : Int} (h : l[i]? = some x) : l.getD i 0 = x := by simp [List.getD, h]
theorem at_getD {l : List Int} {i : Nat} (h : i < l.length) : l[i]? = some (l.getD i 0) := by simp [List.getD, h]

/-- A list's elements' places, all else as before. -/
theorem row_other {l : List Int} {j : Nat} : ∀ {k : Nat} {acc : List Int}, k ≤ l.length → (∀ i, i < k → (l.getD i 0).toNat ≠ j) → (row l k acc)[j]? = acc[j]?
  | 0, _, _, _ => rfl
  | k + 1, acc, hk, h => by
    rw [row, List.getElem?_set_ne (h k (by omega))]
    exact row_other (by omega) fun i hi => h i (by omega)
theorem row_at {l : List Int} (hN : l.Nodup) (h0 : ∀ x ∈ l, 0 ≤ x) {i : Nat} : ∀ {k : Nat} {acc : List Int}, k ≤ l.length → i < k → (l.getD i 0).toNat < acc.length → (row l k acc)[(l.getD i 0).toNat]? = some (l.getD ((i + 1) % l.length) 0)
  | 0, _, _, h, _ => by omega
  | k + 1, acc, hk, hi, hb => by
    rw [row]
    by_cases e : i = k
    · subst e
      rw [List.getElem?_set_self (by rw [row_len]; exact hb)]
    · have hne : (l.getD k 0).toNat ≠ (l.getD i 0).toNat := by
        intro hc
        have a1 := at_getD (l := l) (i := i) (by omega)
        have a2 := at_getD (l := l) (i := k) (by omega)
        have b1 := h0 _ (List.mem_of_getElem? a1)
        have b2 := h0 _ (List.mem_of_getElem? a2)
        have hc2 : l.getD k 0 = l.getD i 0 := by omega
        rw [hc2] at a2
        exact e (nodup_at hN a1 a2)
      rw [List.getElem?_set_ne hne]
      exact row_at hN h0 (by omega) (by omega) hb

section
variable {n : Int} {es : List (Int × Int)} {ls : List (List Int)}

theorem Rot.nonneg (h : Rot n es ls) {v : Nat} {l : List Int} (hl : ls[v]? = some l) : ∀ x ∈ l, 0 ≤ x := fun x hx => by
  obtain ⟨j, rfl, -, -⟩ := lv_nat ((h.each v l hl).lv x hx)
  omega

theorem nx_at (h : Rot n es ls) {v i : Nat} {l : List Int} (hl : ls[v]? = some l) (hi : i < l.length) : ∀ {k : Nat} {acc : List Int}, acc.length = 2 * es.length → k ≤ ls.length → v < k → (nx ls k acc)[(l.getD i 0).toNat]? = some (l.getD ((i + 1) % l.length) 0)
  | 0, _, _, _, h => by omega
  | k + 1, acc, ha, hk, hv => by
    obtain ⟨j, hj, hjm, hjf⟩ := h.half hl (at_getD hi)
    rw [nx]
    by_cases e : v = k
    · subst e
      have e2 : ls.getD v [] = l := by simp [List.getD, hl]
      rw [e2]
      exact row_at (h.each v l hl).once (h.nonneg hl) (Nat.le_refl _) hi (by rw [nx_len, ha, hj]; simpa using hjm)
    · have hk1 : k < ls.length := by omega
      have hlk : ls[k]? = some (ls.getD k []) := by simp [List.getD, hk1]
      rw [row_other (Nat.le_refl _) ?_]
      · exact nx_at h hl hi ha (by omega) (by omega)
      · intro i' hi' hc
        obtain ⟨j', hj', -, hjf'⟩ := h.half hlk (at_getD hi')
        rw [hj, hj'] at hc
        have : j' = j := by simpa using hc
        subst this
        omega

/-- The element after the i-th. -/
theorem Rot.next (h : Rot n es ls) {v i : Nat} {l : List Int} {x : Int} (hl : ls[v]? = some l) (hx : l[i]? = some x) : (nextL es ls)[x.toNat]? = some (l.getD ((i + 1) % l.length) 0) := by
  have hi := lt_at hx
  have hv := lt_at hl
  have := nx_at h hl hi (k := ls.length) (acc := List.replicate (2 * es.length) 0) (by simp) (Nat.le_refl _) hv
  rw [getD_of hx] at this
  exact this

/-- Each half-edge has its place. -/
theorem Rot.place (h : Rot n es ls) {j : Nat} (hj : j < 2 * es.length) (hf : (Cs.fr es j : Int) < n) : ∃ (l : List Int) (i : Nat), ls[Cs.fr es j]? = some l ∧ l[i]? = some (j : Int) ∧ l.length = deg es (Cs.fr es j) := by
  have hlt : Cs.fr es j < ls.length := by have := h.len; omega
  have hl : ls[Cs.fr es j]? = some ls[Cs.fr es j] := by simp [hlt]
  obtain ⟨i, hi⟩ := List.mem_iff_getElem?.1 ((h.each _ _ hl).mem hj rfl)
  exact ⟨_, i, hl, hi, (h.each _ _ hl).len⟩

/-- What is next is a half-edge of the same vertex. -/
theorem Rot.nextAt (h : Rot n es ls) {j : Nat} (hj : j < 2 * es.length) (hf : (Cs.fr es j : Int) < n) : ∃ t : Nat, (nextL es ls)[j]? = some (t : Int) ∧ t < 2 * es.length ∧ Cs.fr es t = Cs.fr es j := by
  obtain ⟨l, i, hl, hi, -⟩ := h.place hj hf
  have h1 := h.next hl hi
  have hil := lt_at hi
  obtain ⟨t, ht, htm, htf⟩ := h.half hl (at_getD (i := (i + 1) % l.length) (Nat.mod_lt _ (by omega)))
  rw [ht] at h1
  exact ⟨t, by simpa using h1, htm, htf⟩

theorem mod_inj {a b d : Nat} (ha : a < d) (hb : b < d) (h : (a + 1) % d = (b + 1) % d) : a = b := by
  rcases Nat.lt_or_ge (a + 1) d with h1 | h1 <;> rcases Nat.lt_or_ge (b + 1) d with h2 | h2
  · rw [Nat.mod_eq_of_lt h1, Nat.mod_eq_of_lt h2] at h
    omega
  · have : b + 1 = d := by omega
    rw [Nat.mod_eq_of_lt h1, this, Nat.mod_self] at h
    omega
  · have : a + 1 = d := by omega
    rw [Nat.mod_eq_of_lt h2, this, Nat.mod_self] at h
    omega
  · omega

/-- No two have the same next. -/
theorem Rot.inj (h : Rot n es ls) (hfr : ∀ j, j < 2 * es.length → (Cs.fr es j : Int) < n) {a b : Nat} {t : Int} (ha : (nextL es ls)[a]? = some t) (hb : (nextL es ls)[b]? = some t) : a = b := by
  have hal : a < 2 * es.length := by have := lt_at ha; rwa [nextL_len] at this
  have hbl : b < 2 * es.length := by have := lt_at hb; rwa [nextL_len] at this
  obtain ⟨l, i, hl, hi, -⟩ := h.place hal (hfr a hal)
  obtain ⟨l', i', hl', hi', -⟩ := h.place hbl (hfr b hbl)
  have h1 := h.next hl hi
  have h2 := h.next hl' hi'
  simp only [Int.toNat_natCast] at h1 h2
  have e1 : t = l.getD ((i + 1) % l.length) 0 := by rw [ha] at h1; exact Option.some.inj h1
  have e2 : t = l'.getD ((i' + 1) % l'.length) 0 := by rw [hb] at h2; exact Option.some.inj h2
  have hil := lt_at hi
  have hil' := lt_at hi'
  have a1 := at_getD (l := l) (i := (i + 1) % l.length) (Nat.mod_lt _ (by omega))
  have a2 := at_getD (l := l') (i := (i' + 1) % l'.length) (Nat.mod_lt _ (by omega))
  rw [← e1] at a1
  rw [← e2] at a2
  obtain ⟨u, hu, -, hf1⟩ := h.half hl a1
  obtain ⟨u', hu', -, hf2⟩ := h.half hl' a2
  have huu : u = u' := by omega
  subst huu
  have hff : Cs.fr es a = Cs.fr es b := by omega
  rw [← hff, hl] at hl'
  cases hl'
  have := mod_inj hil hil' (nodup_at (h.each _ _ hl).once a1 a2)
  subst this
  rw [hi] at hi'
  have := Option.some.inj hi'
  omega

theorem mod_back {i s d : Nat} (hi : i < d) (hs : 0 < s) (hd : s ≤ d) : (i + s) % d = i ↔ s = d := by
  constructor
  · intro h
    rcases Nat.lt_or_ge (i + s) d with c | c
    · rw [Nat.mod_eq_of_lt c] at h
      omega
    · rw [Nat.mod_eq_sub_mod c] at h
      rw [Nat.mod_eq_of_lt (by omega)] at h
      omega
  · rintro rfl
    rw [Nat.add_mod_right, Nat.mod_eq_of_lt hi]

/-- s steps from the i-th. -/
theorem Rot.step (h : Rot n es ls) {v i s : Nat} {l : List Int} (hl : ls[v]? = some l) (hi : i < l.length) : ∃ t t' : Nat, l[(i + s) % l.length]? = some (t : Int) ∧ l[(i + (s + 1)) % l.length]? = some (t' : Int) ∧ t < 2 * es.length ∧ Cs.fr es t = v ∧ (nextL es ls)[t]? = some (t' : Int) := by
  have a1 := at_getD (l := l) (i := (i + s) % l.length) (Nat.mod_lt _ (by omega))
  have a2 := at_getD (l := l) (i := (i + (s + 1)) % l.length) (Nat.mod_lt _ (by omega))
  obtain ⟨t, ht, htm, htf⟩ := h.half hl a1
  obtain ⟨t', ht', -, -⟩ := h.half hl a2
  have h1 := h.next hl a1
  rw [ht] at a1 h1
  rw [ht'] at a2
  refine ⟨t, t', a1, a2, htm, htf, ?_⟩
  have e : ((i + s) % l.length + 1) % l.length = (i + (s + 1)) % l.length := by
    rw [Nat.mod_add_mod, Nat.add_assoc]
  rw [e, getD_of a2] at h1
  simpa using h1
end
end Ro
end Go.Proofs.Ytloabkgojopeaab

/-
  Pure: From of Around, Around of From; which lists From takes.
-/
namespace Go.Proofs.Ytloabkgojopeaab
namespace Ro

section
variable {m : Nat} {es : List (Int × Int)} {ls ms : List (List Int)}

theorem map_self {l : List Int} {g : Int → Int} (h : ∀ x ∈ l, g x = x) : l.map g = l := by
  have := List.map_congr_left (f := g) (g := fun x => x) h
  rw [this, List.map_id']

theorem hls_around (hv : Si.Val m es) (h : Rot (m : Int) es ls) : hls es 0 (around es ls) = ls := by
  refine List.ext_getElem? fun v => ?_
  by_cases hlt : v < ls.length
  · have h1 : ls[v]? = some ls[v] := by simp [hlt]
    have h2 : (around es ls)[v]? = some (toL es ls[v]) := by
      unfold around
      rw [List.getElem?_map, h1]
      rfl
    rw [hls_at h2, h1, Nat.zero_add]
    congr 1
    unfold toL
    rw [List.map_map]
    refine map_self fun x hx => ?_
    obtain ⟨j, rfl, hj, hf⟩ := lv_nat ((h.each v _ h1).lv x hx)
    show hl es v (Cs.to es ((j : Int)).toNat : Int) = (j : Int)
    exact (hl_lv (hl_of hv hj hf (by simp))).1
  · rw [List.getElem?_eq_none (by rw [hls_len]; simp [around]; omega), List.getElem?_eq_none (by omega)]

theorem hl_ge {v : Nat} {x : Int} (h : 0 ≤ hl es v x) : ∃ j : Nat, half es v x (2 * es.length) = some j := by
  cases e : half es v x (2 * es.length) with
  | none => rw [(hl_no e).1] at h; omega
  | some j => exact ⟨j, rfl⟩

theorem around_hls (h : Rot (m : Int) es (hls es 0 ms)) : around es (hls es 0 ms) = ms := by
  refine List.ext_getElem? fun v => ?_
  by_cases hlt : v < ms.length
  · have h1 : ms[v]? = some ms[v] := by simp [hlt]
    have h2 := hls_at (es := es) (k := 0) h1
    unfold around
    rw [List.getElem?_map, h2, h1, Nat.zero_add]
    rw [Nat.zero_add] at h2
    show some _ = some _
    congr 1
    unfold toL
    rw [List.map_map]
    refine map_self fun x hx => ?_
    obtain ⟨j, hj, hjm, hf⟩ := lv_nat ((h.each v _ h2).lv _ (List.mem_map.2 ⟨x, hx, rfl⟩))
    obtain ⟨j', hj'⟩ := hl_ge (es := es) (v := v) (x := x) (by omega)
    have e := (hl_lv hj').1
    show (Cs.to es (hl es v x).toNat : Int) = x
    rw [e]
    have := (half_some hj').2.2
    simpa using this
  · rw [List.getElem?_eq_none (by simp [around, hls_len]; omega), List.getElem?_eq_none (by omega)]

/-- A list of v's neighbours, each once. -/
def Nice (es : List (Int × Int)) (v : Nat) (l : List Int) : Prop := (∀ x ∈ l, 0 ≤ hl es v x) ∧ l.Nodup
/-- The lengths of the first k lists. -/
def sumTo (ms : List (List Int)) (k : Nat) : Nat := ((List.range k).map fun v => (ms.getD v []).length).sum
def degTo (es : List (Int × Int)) (j k : Nat) : Nat := ((List.range k).map fun v => (Cs.out es v j).length).sum

theorem sumTo_succ (ms : List (List Int)) (k : Nat) : sumTo ms (k + 1) = sumTo ms k + (ms.getD k []).length := by
  simp [sumTo, List.range_succ, List.sum_append]
theorem degTo_succ (es : List (Int × Int)) (j k : Nat) : degTo es j (k + 1) = degTo es j k + (Cs.out es k j).length := by
  simp [degTo, List.range_succ, List.sum_append]
theorem degTo_step (es : List (Int × Int)) (j : Nat) : ∀ k, degTo es (j + 1) k = degTo es j k + if Cs.fr es j < k then 1 else 0
  | 0 => by simp [degTo]
  | k + 1 => by
    rw [degTo_succ, degTo_succ, degTo_step es j k, Cs.out_len_succ]
    by_cases h : Cs.fr es j < k
    · rw [if_pos h, if_neg (by omega), if_pos (by omega)]
      omega
    · by_cases e : Cs.fr es j = k
      · rw [if_neg h, if_pos e, if_pos (by omega)]
        omega
      · rw [if_neg h, if_neg e, if_neg (by omega)]
        omega
theorem degTo_all {k : Nat} : ∀ {j : Nat}, (∀ i, i < j → Cs.fr es i < k) → degTo es j k = j
  | 0, _ => by
    have : ∀ k, degTo es 0 k = 0 := fun k => by
      induction k with
      | zero => rfl
      | succ k ih => rw [degTo_succ, ih]; simp [Cs.out]
    exact this k
  | j + 1, h => by
    rw [degTo_step, degTo_all (fun i hi => h i (by omega)), if_pos (h j (by omega))]
theorem degTo_mono (es : List (Int × Int)) (j : Nat) {a b : Nat} (h : a ≤ b) : degTo es j a ≤ degTo es j b := by
  induction b with
  | zero =>
    obtain rfl : a = 0 := by omega
    exact Nat.le_refl _
  | succ b ih =>
    by_cases e : a = b + 1
    · rw [e]; exact Nat.le_refl _
    · have := ih (by omega)
      rw [degTo_succ]
      omega

theorem Nice.lv {v : Nat} {l : List Int} (h : Nice es v l) : ∀ x ∈ l.map (hl es v), Ro.lv es x v = true := fun x hx => by
  obtain ⟨y, hy, rfl⟩ := List.mem_map.1 hx
  obtain ⟨j, hj⟩ := hl_ge (h.1 y hy)
  rw [(hl_lv hj).1]
  exact (hl_lv hj).2.1
theorem Nice.once {v : Nat} {l : List Int} (h : Nice es v l) : (l.map (hl es v)).Nodup := by
  refine List.pairwise_map.2 (List.Pairwise.imp_of_mem ?_ h.2)
  intro a b ha _ hne he
  obtain ⟨j, hj⟩ := hl_ge (h.1 a ha)
  exact hne (hl_inj hj (by rw [← he]; exact (hl_lv hj).1))
theorem Nice.few {v : Nat} {l : List Int} (h : Nice es v l) : l.length ≤ deg es v := by
  have h1 := h.once.length_le_of_subset (l₂ := (Cs.out es v (2 * es.length)).map (fun j : Nat => (j : Int))) (by
    intro x hx
    obtain ⟨j, rfl, hj, hf⟩ := lv_nat (h.lv x hx)
    exact List.mem_map.2 ⟨j, mem_out.2 ⟨hj, hf⟩, rfl⟩)
  rw [List.length_map, List.length_map] at h1
  exact h1

theorem sum_le : ∀ {k : Nat}, (∀ v l, v < k → ms[v]? = some l → Nice es v l) → k ≤ ms.length → sumTo ms k ≤ degTo es (2 * es.length) k
  | 0, _, _ => Nat.zero_le _
  | k + 1, h, hk => by
    rw [sumTo_succ, degTo_succ]
    have h1 := sum_le (k := k) (fun v l hv => h v l (by omega)) (by omega)
    have h2 : ms[k]? = some (ms.getD k []) := by simp [List.getD, show k < ms.length by omega]
    have h3 := (h k _ (by omega) h2).few
    unfold deg at h3
    omega
theorem sum_eq : ∀ {k : Nat}, (∀ v l, v < k → ms[v]? = some l → Nice es v l) → k ≤ ms.length → sumTo ms k = degTo es (2 * es.length) k → ∀ v l, v < k → ms[v]? = some l → l.length = deg es v
  | 0, _, _, _, v, l, hv, _ => by omega
  | k + 1, h, hk, he, v, l, hv, hl => by
    rw [sumTo_succ, degTo_succ] at he
    have h1 := sum_le (k := k) (fun v l hv => h v l (by omega)) (by omega)
    have h2 : ms[k]? = some (ms.getD k []) := by simp [List.getD, show k < ms.length by omega]
    have h3 := (h k _ (by omega) h2).few
    unfold deg at h3
    by_cases e : v = k
    · subst e
      rw [h2] at hl
      cases hl
      unfold deg
      omega
    · exact sum_eq (k := k) (fun v l hv => h v l (by omega)) (by omega) (by omega) v l (by omega) hl

/-- What the law's own 'right' asks. -/
def RightL (m : Nat) (es : List (Int × Int)) (ms : List (List Int)) : Prop := ms.length = m ∧ (∀ v l, ms[v]? = some l → Nice es v l) ∧ sumTo ms m = 2 * es.length

theorem right_iff (hv : Si.Val m es) : RightL m es ms ↔ Rot (m : Int) es (hls es 0 ms) := by
  have hd : degTo es (2 * es.length) m = 2 * es.length := degTo_all fun i hi => (Cs.half_lt hv hi).1
  constructor
  · rintro ⟨h1, h2, h3⟩
    refine ⟨Si.valid_iff.2 hv, by rw [hls_len, h1], fun v l' hl' => ?_⟩
    have hvl : v < ms.length := by have := lt_at hl'; rwa [hls_len] at this
    have hl : ms[v]? = some ms[v] := by simp [hvl]
    rw [hls_at hl, Nat.zero_add] at hl'
    cases hl'
    have hn := h2 v _ hl
    refine ⟨hn.lv, hn.once, ?_⟩
    rw [List.length_map, sum_eq (fun v l _ => h2 v l) (Nat.le_of_eq h1.symm) (by rw [h3, hd]) v _ (by omega) hl]
    exact Nat.le_refl _
  · intro h
    have hlen : ms.length = m := by have := h.len; rw [hls_len] at this; omega
    have hn : ∀ v l, ms[v]? = some l → Nice es v l := fun v l hl => by
      have h1 := hls_at (es := es) (k := 0) hl
      rw [Nat.zero_add] at h1
      have hr := h.each v _ h1
      refine ⟨fun x hx => ?_, ?_⟩
      · obtain ⟨j, hj, -, -⟩ := lv_nat (hr.lv _ (List.mem_map.2 ⟨x, hx, rfl⟩))
        omega
      · exact (List.pairwise_map.1 hr.once).imp fun hne e => hne (by rw [e])
    refine ⟨hlen, hn, ?_⟩
    have : ∀ k, k ≤ m → sumTo ms k = degTo es (2 * es.length) k := fun k => by
      induction k with
      | zero => intro _; rfl
      | succ k ih =>
        intro hk
        rw [sumTo_succ, degTo_succ, ih (by omega)]
        have h2 : ms[k]? = some (ms.getD k []) := by simp [List.getD, show k < ms.length by omega]
        have h1 := hls_at (es := es) (k := 0) h2
        rw [Nat.zero_add] at h1
        have hr := (h.each k _ h1).len
        rw [List.length_map] at hr
        unfold deg at hr
        omega
    rw [this m (Nat.le_refl _), hd]
end
end Ro
end Go.Proofs.Ytloabkgojopeaab
