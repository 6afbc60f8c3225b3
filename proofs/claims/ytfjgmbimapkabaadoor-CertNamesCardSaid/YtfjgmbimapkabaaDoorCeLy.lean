/-
  Certificates from the bytes of a string; bytes back to a string.
-/
import Derived.Test.YtfjgmbimapkabaaDoorCeLw
import Derived.Test.YtfjgmbimapkabaaDoorCeSN
namespace Go.Proofs.YtfjgmbimapkabaaDoor
open Go.RowKit

theorem sb_below (w : World) (s : ByteArray) : Below w.heap.size w (Lib.bytesWorld w 5 s) :=
  ⟨rfl, rfl, rfl, by rw [Lib.bytesWorld_size]; omega, fun k hk => Lib.bytesWorld_at_old w _ _ k hk⟩
theorem sb_text (w : World) (L : List UInt8) : HasText (Lib.bytesWorld w 5 ⟨L.toArray⟩) (some ⟨w.heap.size, 0, none⟩) L.length (Ce.ofL L) := fun i hi => by
  have hb := (Ce.ofL_txt L).lo i hi
  refine ⟨hb, w.heap.size, 0, rfl, ?_⟩
  have hsz : (⟨L.toArray⟩ : ByteArray).size = L.length := by simp [ByteArray.size]
  have hc := Lib.bytesWorld_cell w 5 ⟨L.toArray⟩ i (by rw [hsz]; exact hi)
  have e : Ce.ofL L i = (L[i].toNat : Int) := by
    unfold Ce.ofL
    rw [List.getElem?_eq_getElem hi]
  rw [Nat.zero_add, hc, e]
  simp [List.getD_eq_getElem?_getD, hi]
theorem sb_conv (L : List UInt8) (w : World) : (convert 9 31 (.string ⟨L.toArray⟩)).run Tryd.prog w = .ok (.slice (some ⟨w.heap.size, 0, none⟩) L.length (grownCap w L.length 0 5)) (Lib.bytesWorld w 5 ⟨L.toArray⟩) := by
  have h := Lib.run_convert_string_bytes (P := Tryd.prog) w 9 31 5 ⟨L.toArray⟩ Tryd.underlying9 Tryd.underlying31 Tryd.underlying5
  have hsz : (⟨L.toArray⟩ : ByteArray).size = L.length := by simp [ByteArray.size]
  rw [hsz] at h
  exact h
theorem sb_parse (L : List UInt8) (w : World) (hl : L.length ≤ 4611686018427387904) :
    Calls Tryd.prog 9 #[.slice (some ⟨w.heap.size, 0, none⟩) L.length (grownCap w L.length 0 5)] (Lib.bytesWorld w 5 ⟨L.toArray⟩) (ParsP (Ce.parse (Ce.ofL L) L.length) (Lib.bytesWorld w 5 ⟨L.toArray⟩)) := by
  have := parse17_any (cap := grownCap w L.length 0 5) (sb_text w L) (fun x hx => by cases hx; exact ⟨by rw [Lib.bytesWorld_size]; exact Nat.lt_succ_self _, rfl⟩) hl (grownCap_ge w L.length 0 5)
  rwa [atF_ofL] at this

/-- What is parsed, told ahead. -/
theorem ParsP.cert {c : Ce.Cert} {p k : Int} {w w' : World} {e : Ending} {n m : Nat} {pl : Bool} (h : ParsP (c, p, k) w e w') (hp : c.pl = pl) (hn : c.ar.length = n) (hm : c.es.length = m) : Below w.heap.size w w' ∧ ∃ ao ca eo ce, e = .returned (.tuple #[.agg #[.bool pl, .slice ao n ca, .slice eo m ce], .int .i64 p, .int .i64 k]) ∧ CertAt w' w.heap.size (.agg #[.bool pl, .slice ao n ca, .slice eo m ce]) c := by
  subst hp hn hm
  obtain ⟨hb, v, rfl, va, ve, vs, rfl, hrw, how⟩ := h
  obtain ⟨ao, ca, rfl⟩ := row_shape hrw
  obtain ⟨eo, ce, rfl, -⟩ := how.form
  exact ⟨hb, ao, ca, eo, ce, rfl, _, _, vs, rfl, hrw, how⟩
theorem Ce.Small.toP {c : Ce.Cert} (h : Ce.Small c) : Ce.FitsP c := ⟨Nat.le_trans h.ar (by omega), Nat.le_trans h.es (by omega), fun l hl => Nat.le_trans (h.row l hl) (by omega)⟩
theorem box_below (w : World) (x y z : Value) : Below w.heap.size w (w.alloc (.cells #[x, y, z] 27)) := (Below.refl _ _).alloc (Nat.le_refl _) _

/-- Bytes that are a text's, back to a string. -/
theorem row_string {w : World} {ao : Option Addr} {n cap : Nat} {g : Nat → Int} {L : List UInt8} (h : HasText w ao n g) (hn : L.length = n) (h0 : 0 < n) (hL : ∀ i x, L[i]? = some x → g i = (x.toNat : Int)) : (convert 31 9 (.slice ao n cap)).run Tryd.prog w = .ok (.string ⟨L.toArray⟩) w := by
  obtain ⟨-, tb, to', rfl, -⟩ := h 0 h0
  subst hn
  refine run_convert_bytes_back (P := Tryd.prog) _ 31 9 5 ⟨tb, to', none⟩ cap L Tryd.underlying31 Tryd.underlying5 Tryd.underlying9 ?_
  intro j hj
  obtain ⟨-, tb', to'', e, hc⟩ := h j hj
  cases e
  have ea : ((⟨tb, to', none⟩ : Addr).add j) = ⟨tb, to' + j, none⟩ := by unfold Addr.add; split <;> simp_all
  rw [ea, hc, hL j L[j] (List.getElem?_eq_getElem hj)]
end Go.Proofs.YtfjgmbimapkabaaDoor
