/-
  The edges that pairs say, gathered in a set.
-/
import Derived.Test.YtmgjfakdjponoabDoorSiMap
import Derived.Test.YtmgjfakdjponoabDoorSiTake
import Derived.Test.YtmgjfakdjponoabDoorSiOwn
namespace Go.Proofs.YtmgjfakdjponoabDoor
open Go.RowKit Go.Sort Go.Maps

theorem ownsMap_below {H : Type} {P : Program} {k : TypeId} {R : Value → Option (DataW H × List MemPlace)} {w w' : World} {b n : Nat} {D : DataW H} (h : w.ownsMap P k R b n D) (hb : Below w.heap.size w w') : w'.ownsMap P k R b n D := by
  have hlt := h.lt
  obtain ⟨es, clock, hh, r⟩ := h
  exact ⟨es, clock, (hb.block b hlt).trans hh, r⟩

theorem In64.norm {p : Int × Int} (h : In64 p) : In64 (Si.norm p) := by
  unfold In64 Si.norm at *
  dsimp only
  omega

def GatherPost (ps : List (Int × Int)) (w : World) (e : Ending) (w' : World) : Prop :=
  ∃ (D : DataW Unit) (k : Nat) (l : List (Int × Int)), l = Si.made [] (ps.take k) ∧ k ≤ ps.length ∧ (k = ps.length ∨ 4194304 < l.length) ∧ e = .returned (.map (some w.heap.size)) ∧ SetIs D (fun e => e ∈ l) l.length ∧ w'.ownsMap Tryd.prog 52 unitElem w.heap.size k D ∧ Below w.heap.size w w'

theorem SetIs.more {D : DataW Unit} {l : List (Int × Int)} (h : SetIs D (fun e => e ∈ l) l.length) (hs : l.Pairwise Si.lt) {e : Int × Int} (he : In64 e) (u : DataW Unit) :
    SetIs (D.put (keyE e) u) (fun x => x ∈ Si.put l e) (Si.put l e).length := by
  have h1 := h.put he u
  have e1 : (if Maps.has D (keyE e) = true then l.length else l.length + 1) = (Si.put l e).length := by
    rw [Si.put_len l e hs]
    by_cases hm : e ∈ l
    · rw [if_pos ((h.has e he).2 hm), if_pos hm]
    · rw [if_neg (fun k => hm ((h.has e he).1 k)), if_neg hm]
  rw [e1] at h1
  refine h1.congr fun x _ => ?_
  rw [Si.mem_put]
  exact or_comm

set_option maxRecDepth 100000 in
set_option maxHeartbeats 4000000 in
theorem sgather_any (ao : Option Addr) (cap : Nat) (ps : List (Int × Int)) (w : World) (he : EdgesAt w ao ps) (hl : ps.length ≤ 140737488355328) (hin : ∀ (j : Nat) (p : Int × Int), ps[j]? = some p → In64 p) :
    Calls Tryd.prog 24 #[.slice ao ps.length cap] w (GatherPost ps w) := by
  have hmm := @run_makeMap Tryd.prog
  have HE := Nu.hid he
  have HIN := Nu.hid hin
  clear he hin
  unfold GatherPost
  go_enter Tryd.func24, Tryd.ntmps24
  go_wp2
  clear hmm
  go_loopw [9] (fun c wr => ∃ (k : Nat) (D : DataW Unit) (l : List (Int × Int)), l = Si.made [] (ps.take k) ∧ k ≤ ps.length ∧ c = .int .i64 k ∧ wr.ownsMap Tryd.prog 52 unitElem w.heap.size k D ∧ SetIs D (fun e => e ∈ l) l.length ∧ l.length ≤ 4194304 ∧ Below w.heap.size w wr) (fun c _ => ps.length - (intOf c).toNat)
  case atStart => exact ⟨0, .map [], [], by simp [Si.made], Nat.zero_le _, rfl, World.ownsMap_made _ _ _ _, SetIs.start.congr fun e _ => by simp, Nat.zero_le _, (Below.refl _ _).alloc (Nat.le_refl _) _⟩
  case round =>
    obtain ⟨k, D, l, hl0, hk, rfl, hown, hset, hfew, hb⟩ := hrel
    have hsz := hb.size
    have hml := hown.lt
    by_cases hlt : k < ps.length
    · have hlti : (k : Int) < (ps.length : Int) := by omega
      have hk0 : (0 : Int) ≤ (k : Int) := by omega
      obtain ⟨p, hp⟩ : ∃ p, ps[k]? = some p := ⟨_, List.getElem?_eq_getElem hlt⟩
      obtain ⟨b, o, rfl, c0, c1⟩ := (HE.out.later hb) k p hp
      have hbl : b < wr.heap.size := block_lt_of_cell c0
      have hsn : Si.made [] (ps.take (k + 1)) = if p.1 = p.2 then l else Si.put l (Si.norm p) := by rw [Si.take_snoc hp, Si.made_snoc, ← hl0]
      have hn64 := (HIN.out k p hp).norm
      have hso : l.Pairwise Si.lt := by rw [hl0]; exact Si.made_sorted _
      have HOWN := Nu.hid hown
      have HSET := Nu.hid hset
      have HB := Nu.hid hb
      have HL0 := Nu.hid hl0
      have HSO := Nu.hid hso
      obtain ⟨u, v⟩ := p
      dsimp only at c0 c1 hsn
      clear hown hset hb hl0 hp hso
      by_cases hpe : u = v
      · rw [if_pos hpe] at hsn
        subst hpe
        have HSN := Nu.hid hsn
        have hD : (Maps.size D : Int) ≤ 4194304 := by rw [HSET.out.size]; omega
        clear hsn
        go_wp2_with (at_len; refine wpList_len_own _ rfl _ _ rfl 52 81 Tryd.underlying60 (unitElem (H := Unit)) w.heap.size k D rfl (World.ownsMap.alloc HOWN.out _) ?_)
        go_roundw
        case rel => exact ⟨k + 1, D, l, HSN.out.symm, by omega, by go_num, (World.ownsMap.alloc HOWN.out _).mono (Nat.le_succ _), HSET.out, hfew, HB.out.alloc hsz _⟩
        case measure => simp [intOf]; omega
      · rw [if_neg hpe] at hsn
        have HSN := Nu.hid hsn
        have hse := fun W => sedge_any (u, v) W
        have hky := keyOf_edge hn64
        have hmo := HSET.out.more HSO.out hn64 (.agg [])
        unfold edgeVal at hse hky
        dsimp only at hse
        have HSE := Nu.hid hse
        have HKY := Nu.hid hky
        have HMO := Nu.hid hmo
        clear hsn hse hky hmo
        go_wp2_with (go_at_call 39; refine (HSE.out _).mono ?_; rintro e w1 ⟨rfl, hgr⟩; refine Hid.out ?_)
        refine Nu.hid ?_
        have hb1 : Below wr.heap.size wr w1 := by
          obtain ⟨q, os', rfl⟩ := hgr
          exact ((Below.refl _ _).alloc (Nat.le_refl _) _).trans ((grow_below _ q os').mono (by simp))
        have HOWN1 := Nu.hid (ownsMap_below HOWN.out hb1)
        have HB1 := Nu.hid (HB.out.trans (hb1.mono hsz))
        have hs1 : w.heap.size ≤ w1.heap.size := HB1.out.size
        clear hb1 hgr c0 c1
        go_wp2_with (at_mapUpdate; refine wpList_mapUpdate_own _ rfl _ _ _ 60 rfl 52 81 lawEdge Tryd.underlying60 (unitElem (H := Unit)) w.heap.size k _ rfl HOWN1.out (by unfold maxLen; omega) _ _ _ rfl rfl HKY.out _ [] unitElem_mk ?_; refine Hid.out ?_)
        refine Nu.hid ?_
        intro w2 hown2 hg2
        generalize (D.put (keyE (Si.norm (u, v))) (.agg [])) = D' at HMO hown2
        have HOWN2 := Nu.hid hown2
        have HB2 := Nu.hid (HB1.out.grown hg2 hs1 (fun j hj => by cases hj; exact Nat.le_refl _))
        clear hown2 hg2
        by_cases hbig : (Si.put l (Si.norm (u, v))).length ≤ 4194304
        · have hD : (Maps.size D' : Int) ≤ 4194304 := by rw [HMO.out.size]; omega
          go_wp2_with (at_len; refine wpList_len_own _ rfl _ _ rfl 52 81 Tryd.underlying60 (unitElem (H := Unit)) w.heap.size (k + 1) D' rfl HOWN2.out ?_)
          go_roundw
          case rel => exact ⟨k + 1, D', _, HSN.out.symm, by omega, by go_num, HOWN2.out, HMO.out, hbig, HB2.out⟩
          case measure => simp [intOf]; omega
        · have hD : (4194304 : Int) < (Maps.size D' : Int) := by rw [HMO.out.size]; omega
          go_wp2_with (at_len; refine wpList_len_own _ rfl _ _ rfl 52 81 Tryd.underlying60 (unitElem (H := Unit)) w.heap.size (k + 1) D' rfl HOWN2.out ?_)
          go_ret
          exact ⟨D', k + 1, _, HSN.out.symm, by omega, .inr (by omega), rfl, HMO.out, HOWN2.out, HB2.out⟩
    · obtain rfl : k = ps.length := by omega
      have HOWN := Nu.hid hown
      have HSET := Nu.hid hset
      have HB := Nu.hid hb
      have HL0 := Nu.hid hl0
      clear hown hset hb hl0
      go_wp2
      go_ret
      exact ⟨D, ps.length, l, HL0.out, Nat.le_refl _, .inl rfl, rfl, HSET.out, HOWN.out, HB.out⟩

end Go.Proofs.YtmgjfakdjponoabDoor
