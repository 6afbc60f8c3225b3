/-
  A stack of ints: a cell that holds a list of one's own; what its calls do.
-/
import Derived.Test.YtponmjipbcmlhaaCoKeep
import Derived.Deep.QuietTactic
import Derived.BigQuiet
import Derived.BigRegion
namespace Go.Proofs.Ytponmjipbcmlhaa
open Go.RowKit

/-- Cell o of block b, which holds cs, is the list v of the ints K, in memory of its own. -/
structure StkAt (w : World) (b o : Nat) (cs : Array Value) (T : TypeId) (B : Nat) (v : Value) (K : List Int) : Prop where
  blk : w.heap[b]? = some (.cells cs T (0, 0))
  at_ : cs[o]? = some v
  own : OwnZ w B v K
  far : v.ownBlock ≠ some b

section
variable {w w' : World} {b o B : Nat} {cs : Array Value} {T : TypeId} {v : Value} {K : List Int}
theorem StkAt.cell (h : StkAt w b o cs T B v K) : w.cell? ⟨b, o, none⟩ = some v := by
  simp [World.cell?, h.blk, h.at_]
theorem StkAt.free (h : StkAt w b o cs T B v K) : w.frozen? ⟨b, o, none⟩ = false := by
  simp [World.frozen?, h.blk]
theorem StkAt.lt (h : StkAt w b o cs T B v K) : b < w.heap.size := lt_of_block h.blk
theorem OwnZ.row_snoc {x : Int} (h : OwnZ w B v (K ++ [x])) : ∃ g c, v = .slice (some ⟨g, 0, none⟩) (K.length + 1) c ∧ w.cell? ⟨g, K.length, none⟩ = some (.int .i64 x) ∧ K.length + 1 ≤ c ∧ B ≤ g ∧ g < w.heap.size := by
  unfold OwnZ at h
  rw [List.length_append, List.length_singleton, List.map_append] at h
  obtain ⟨g, c, rfl⟩ := own_succ h
  have hc := World.ownsRow.cells h (g := g) rfl K.length (.int .i64 x) (by simp)
  have ea : ((⟨g, 0, none⟩ : Addr).add K.length) = ⟨g, K.length, none⟩ := by
    by_cases h0 : K.length = 0 <;> simp [Addr.add, h0]
  rw [ea] at hc
  refine ⟨g, c, rfl, hc, ?_, World.ownsRow.lt h g rfl⟩
  rcases h.2 with ⟨h', _⟩ | ⟨g', cap, cur, e, _, _, hcc, _⟩
  · cases h'
  · cases e; exact hcc
theorem OwnZ.front {x : Int} {g c : Nat} (h : OwnZ w B (.slice (some ⟨g, 0, none⟩) (K.length + 1) c) (K ++ [x])) : OwnZ w B (.slice (some ⟨g, 0, none⟩) K.length c) K := by
  unfold OwnZ at h ⊢
  rw [List.length_append, List.length_singleton, List.map_append] at h
  exact own_front h (by simp)
end

/-- What push does. -/
def PushPost (b o : Nat) (cs : Array Value) (T : TypeId) (B : Nat) (v : Value) (K : List Int) (w : World) (e : Ending) (w' : World) : Prop :=
  e = .returned (.tuple #[]) ∧ ∃ v', StkAt w' b o (cs.setIfInBounds o v') T B v' K ∧ (v'.ownBlock = v.ownBlock ∨ ∃ g, v'.ownBlock = some g ∧ w.heap.size ≤ g) ∧ Wrote (fun k => k = b ∨ v.ownBlock = some k) w w'

theorem set_at {cs : Array Value} {o : Nat} {v v' : Value} (h : cs[o]? = some v) : (cs.setIfInBounds o v')[o]? = some v' := by
  have := (Array.getElem?_eq_some_iff.1 h).1
  simp [this]

set_option maxRecDepth 100000 in
set_option maxHeartbeats 4000000 in
theorem push_any (b o : Nat) (cs : Array Value) (T : TypeId) (B : Nat) (v : Value) (K : List Int) (x : Int) (w : World) (h : StkAt w b o cs T B v K) (hB : B ≤ w.heap.size) (hl : K.length ≤ 17592186044000) :
    Calls Try.prog 58 #[.pointer (some ⟨b, o, none⟩), .int .i64 x] w (PushPost b o cs T B v (K ++ [x]) w) := by
  obtain ⟨i0, hi, hz0, hz1, hz2⟩ := info_parts Try.infoNum
  have c0 := h.cell
  have HH := Nu.hid h
  have hlt := h.lt
  have hrow : w.ownsRow B 3 1 v K.length (K.map (Value.int .i64)) := h.own
  have HROW := Nu.hid hrow
  clear h hrow
  go_enter Try.func58, Try.ntmps58
  go_wp2_with (at_builtin; refine wpList_append_own_at _ rfl _ _ 26 rfl B 3 i0 (.int .i64 0) 1 8 Try.underlying26 hi hz0 hz1 hz2 rfl (by decide) _ _ _ rfl (World.ownsRow.alloc HROW.out _) ⟨w.heap.size, 0, none⟩ 1 1 [.int .i64 x] rfl rfl (cell_one_new _ _ _) (by simp [Value.oneCell']) (by unfold maxLen; omega) (by omega) (by simp; omega) ?_; refine Hid.out ?_)
  refine Nu.hid ?_
  intro v' w1 hown hg _ hat
  have hb1 : w1.heap[b]? = some (.cells cs T (0, 0)) := by
    rw [hg.block b (by rw [World.size_alloc]; omega) (fun e => HH.out.far e.symm)]
    exact (Below.heap_alloc w _ b hlt).trans HH.out.blk
  have c1 : w1.cell? ⟨b, o, none⟩ = some v := by simp [World.cell?, hb1, HH.out.at_]
  have f1 : w1.frozen? ⟨b, o, none⟩ = false := by simp [World.frozen?, hb1]
  have hat2 : v'.ownBlock = v.ownBlock ∨ v'.ownBlock = some (w.heap.size + 1) := by simpa using hat
  have hfar : v'.ownBlock ≠ some b := by
    rcases hat2 with e | e
    · rw [e]; exact HH.out.far
    · rw [e]; intro e2; have := Option.some.inj e2; omega
  have hz : OwnZ w1 B v' (K ++ [x]) := by
    unfold OwnZ
    rw [List.length_append, List.map_append]
    exact hown
  have HEND : Hid (PushPost b o cs T B v (K ++ [x]) w (.returned (.tuple #[])) (w1.setCell ⟨b, o, none⟩ v')) := by
    refine ⟨rfl, v', ⟨heap_setCell_same w1 b o _ _ _ hb1, set_at HH.out.at_, hz.same fun g hgg _ => heap_setCell_other w1 ⟨b, o, none⟩ g _ (fun e => hfar (by rw [hgg]; exact congrArg some e)), hfar⟩, ?_, ?_⟩
    · rcases hat2 with e | e
      · exact .inl e
      · exact .inr ⟨_, e, by omega⟩
    · refine ⟨hg.os, hg.tape, hg.output, ?_, fun k hk hn => ?_⟩
      · have := hg.size
        rw [World.size_alloc] at this
        simp
        omega
      · rw [heap_setCell_other w1 ⟨b, o, none⟩ k _ (fun e => hn (.inl e)), hg.block k (by rw [World.size_alloc]; omega) (fun e => hn (.inr e.symm))]
        exact Below.heap_alloc w _ k hk
  obtain ⟨g, cap, hv⟩ := own_succ hown
  subst hv
  clear hown hg hat hat2 hfar hz hb1 HH HROW
  go_wp2
  go_end0
  exact HEND.out

set_option maxRecDepth 100000 in
set_option maxHeartbeats 4000000 in
theorem empty_any (b o : Nat) (cs : Array Value) (T : TypeId) (B : Nat) (v : Value) (K : List Int) (w : World) (h : StkAt w b o cs T B v K) :
    Calls Try.prog 56 #[.pointer (some ⟨b, o, none⟩)] w fun e w' => e = .returned (.bool (decide (K.length = 0))) ∧ w' = w := by
  have c0 := h.cell
  obtain ⟨ao, cap, rfl, _, _⟩ := h.own.form
  clear h
  by_cases hk : K.length = 0
  · rw [hk] at c0
    have hd : decide (K.length = 0) = true := by simp [hk]
    rw [hd]
    clear hd hk
    go_enter Try.func56, Try.ntmps56
    go_wp2
    go_ret
    exact ⟨rfl, rfl⟩
  · have hd : decide (K.length = 0) = false := by simp [hk]
    have he : ((K.length : Int) == 0) = false := by simp only [beq_eq_false_iff_ne, ne_eq]; omega
    rw [hd]
    clear hd hk
    go_enter Try.func56, Try.ntmps56
    go_wp2
    go_ret
    exact ⟨rfl, rfl⟩

set_option maxRecDepth 100000 in
set_option maxHeartbeats 4000000 in
theorem top_any (b o : Nat) (cs : Array Value) (T : TypeId) (B : Nat) (v : Value) (K : List Int) (x : Int) (w : World) (h : StkAt w b o cs T B v (K ++ [x])) (hl : K.length ≤ 17592186044000) :
    Calls Try.prog 70 #[.pointer (some ⟨b, o, none⟩)] w fun e w' => e = .returned (.int .i64 x) ∧ ∃ k, w' = w.drewN k := by
  have c0 := h.cell
  obtain ⟨g, c, rfl, c1, h2, _⟩ := h.own.row_snoc
  obtain ⟨p, hp⟩ : ∃ p, K.length = p := ⟨_, rfl⟩
  rw [hp] at c0 c1 h2 hl
  clear h hp
  have e1 : ((p : Int) + 1) - 1 = (p : Int) := by omega
  have e2 : (0 : Int) ≤ (p : Int) := by omega
  have e3 : (p : Int) < (p : Int) + 1 := by omega
  go_enter Try.func70, Try.ntmps70
  go_wp2_with fail
  go_quiet (fail)
  go_wp2
  go_ret
  exact ⟨rfl, nq, rfl⟩

/-- What pop does. -/
def PopPost (b o : Nat) (cs : Array Value) (T : TypeId) (B : Nat) (v : Value) (K : List Int) (x : Int) (w : World) (e : Ending) (w' : World) : Prop :=
  e = .returned (.int .i64 x) ∧ ∃ v', StkAt w' b o (cs.setIfInBounds o v') T B v' K ∧ v'.ownBlock = v.ownBlock ∧ Wrote (fun k => k = b) w w'

set_option maxRecDepth 100000 in
set_option maxHeartbeats 4000000 in
theorem pop_any (b o : Nat) (cs : Array Value) (T : TypeId) (B : Nat) (v : Value) (K : List Int) (x : Int) (w : World) (h : StkAt w b o cs T B v (K ++ [x])) (hl : K.length ≤ 17592186044000) :
    Calls Try.prog 57 #[.pointer (some ⟨b, o, none⟩)] w (PopPost b o cs T B v K x w) := by
  have HT := Nu.hid (top_any b o cs T B v K x w h hl)
  have hH := h
  have c0 := h.cell
  obtain ⟨g, c, rfl, c1, h2, _⟩ := h.own.row_snoc
  have f0 := h.free
  have hown := hH.own.front
  have hfar := hH.far
  have HEND : Hid (∀ k, PopPost b o cs T B (.slice (some ⟨g, 0, none⟩) (K.length + 1) c) K x w (.returned (.int .i64 x)) ((w.drewN k).setCell ⟨b, o, none⟩ (.slice (some ⟨g, 0, none⟩) K.length c))) := by
    intro k
    have hgb : g ≠ b := fun e => hfar (congrArg some e)
    refine ⟨rfl, _, ⟨heap_setCell_same (w.drewN k) b o _ _ _ hH.blk, set_at hH.at_, ?_, hfar⟩, rfl, ?_⟩
    · refine hown.same fun g' hg' _ => ?_
      obtain rfl : g = g' := Option.some.inj hg'
      exact heap_setCell_other (w.drewN k) ⟨b, o, none⟩ g _ hgb
    · exact ((Wrote.refl (fun k => k = b) w).drewN k).setCell rfl _
  obtain ⟨p, hp⟩ : ∃ p, K.length = p := ⟨_, rfl⟩
  rw [hp] at c0 c1 h2 HEND hl
  clear h hp hH hown hfar c1
  have e1 : ((p : Int) + 1) - 1 = (p : Int) := by omega
  have e2 : (0 : Int) ≤ (p : Int) := by omega
  have e3 : (p : Int) ≤ (c : Int) := by omega
  go_enter Try.func57, Try.ntmps57
  go_wp2_with (go_at_call 70; refine HT.out.mono ?_; rintro e w1 ⟨rfl, k1, rfl⟩)
  go_big_region
  go_wp2
  go_ret
  exact HEND.out _

end Go.Proofs.Ytponmjipbcmlhaa
