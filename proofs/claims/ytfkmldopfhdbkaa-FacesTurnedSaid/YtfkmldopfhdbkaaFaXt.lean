/-
  Canon, Mirror, and what follows of them, for the law FacesTurned.
-/
import Derived.Test.YtfkmldopfhdbkaaFaLn
import Derived.Test.YtfkmldopfhdbkaaRoCn
namespace Go.Proofs.Ytfkmldopfhdbkaa
open Go.RowKit Go.Sort

section
variable {W : World} {yo : Option Addr} {yc : Nat} {ls : List (List Int)}
theorem rows_lt (hx : RwsAt W yo ls) : ∀ l ∈ ls, l.length ≤ 17592186043904 := fun l hl => by
  obtain ⟨j, hj⟩ := List.getElem?_of_mem hl
  obtain ⟨b, o, A, C, -, -, -, h1, -⟩ := hx j l hj
  exact h1
theorem canonR (hx : RwsAt W yo ls) (hl : ls.length * 24 ≤ 140737488351232) : Calls Try.prog 25 #[.slice yo ls.length yc] W fun e w' => ∃ zo zc, e = .returned (.slice zo ls.length zc) ∧ RwsAt w' zo (ls.map Ro.canon1) ∧ Below W.heap.size W w' := by
  refine (canon_any yo yc ls W hx (by omega)).mono ?_
  rintro e w' ⟨v, vs, rfl, hr, hb⟩
  obtain ⟨zo, zc, rfl, hz, -⟩ := hr.rws (fun l hl => by
    obtain ⟨l0, h0, rfl⟩ := List.mem_map.1 hl
    rw [Ro.canon1_len]
    exact rows_lt hx l0 h0)
  rw [List.length_map]
  exact ⟨zo, zc, rfl, hz, hb⟩
theorem mirrorR (hx : RwsAt W yo ls) (hl : ls.length * 24 ≤ 140737488351232) : Calls Try.prog 26 #[.slice yo ls.length yc] W fun e w' => ∃ zo zc, e = .returned (.slice zo ls.length zc) ∧ RwsAt w' zo (ls.map fun l => Ro.canon1 l.reverse) ∧ Below W.heap.size W w' := by
  refine (mirror_any yo yc ls W hx (by omega)).mono ?_
  rintro e w' ⟨v, vs, rfl, hr, hb⟩
  obtain ⟨zo, zc, rfl, hz, -⟩ := hr.rws (fun l hl => by
    obtain ⟨l0, h0, rfl⟩ := List.mem_map.1 hl
    rw [Ro.canon1_len, List.length_reverse]
    exact rows_lt hx l0 h0)
  rw [List.length_map]
  exact ⟨zo, zc, rfl, hz, hb⟩

theorem of_rot {N : Nat} {es : List (Int × Int)} {co : Option Addr} {cc K : Nat} (h : Ro.Rot N es ls) (he : EdgesAt W co es) (hx : RwsAt W yo ls) (hK : ls.length = K) : Calls Try.prog 10 #[.agg #[.int .i64 (N : Int), .slice co es.length cc], .slice yo K yc] W fun e w' => ∃ o q vs, e = .returned (.tuple #[.slice o (Fa.all es ls).length q, .int .i64 0]) ∧ RowsZ w' W.heap.size (.slice o (Fa.all es ls).length q) vs (Fa.all es ls) ∧ Below W.heap.size W w' := by
  subst hK
  have hfew := (Fa.val_of h).few
  have h0 := Ro.check_iff.2 h
  refine (fof_any (N : Int) co cc es yo yc ls W he (by omega) hx).mono ?_
  rintro e w' ⟨hb, ⟨h1, -⟩ | ⟨-, v, vs, rfl, hr⟩⟩
  · exact absurd h0 h1
  · obtain ⟨o, q, rfl⟩ := row_shape hr
    exact ⟨o, q, vs, rfl, hr, hb⟩
theorem genus_rot {N : Nat} {es : List (Int × Int)} {co : Option Addr} {cc K : Nat} (h : Ro.Rot N es ls) (he : EdgesAt W co es) (hx : RwsAt W yo ls) (hK : ls.length = K) : Calls Try.prog 18 #[.agg #[.int .i64 (N : Int), .slice co es.length cc], .slice yo K yc] W fun e w' => e = .returned (.tuple #[.int .i64 (Fa.gz N es ls), .int .i64 0]) ∧ Below W.heap.size W w' := by
  subst hK
  have hfew := (Fa.val_of h).few
  have h0 := Ro.check_iff.2 h
  refine (fgenus_any (N : Int) co cc es yo yc ls W he (by omega) hx).mono ?_
  rintro e w' ⟨rfl, hb⟩
  have e1 : (N : Int).toNat = N := by omega
  exact ⟨by rw [h0, if_pos rfl, e1], hb⟩
/-- The faces are read. -/
theorem all_rws {N : Nat} {es : List (Int × Int)} {B : Nat} {o : Option Addr} {q : Nat} {vs : List Value} (h : Ro.Rot N es ls) (hr : RowsZ W B (.slice o (Fa.all es ls).length q) vs (Fa.all es ls)) : RwsAt W o (Fa.all es ls) := by
  obtain ⟨o', q', e, hx, -⟩ := hr.rws (fun l hl => by have := (Fa.all_row h).2 l hl; omega)
  cases e
  exact hx
theorem all_few {N : Nat} {es : List (Int × Int)} (h : Ro.Rot N es ls) : ∀ l ∈ Fa.all es ls, l.length ≤ 2 * es.length := fun l hl => by
  obtain ⟨m, hm⟩ := Fa.orb_ex (Fa.ph_per h)
  unfold Fa.all Fa.facesZ at hl
  obtain ⟨l0, h0, rfl⟩ := List.mem_map.1 hl
  rw [Fa.zl_len]
  obtain ⟨j, hj⟩ := List.getElem?_of_mem h0
  obtain ⟨r, hr, -, rfl, -⟩ := Fa.face_at (Fa.ph_per h) hm hj
  obtain ⟨p, hp⟩ := Fa.len_ex (Fa.ph_per h) hr
  rw [Fa.face_way hp, Fa.way_len]
  exact hp.le
end
end Go.Proofs.Ytfkmldopfhdbkaa
