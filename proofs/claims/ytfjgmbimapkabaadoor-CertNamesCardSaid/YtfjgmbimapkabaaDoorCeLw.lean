/-
  What the laws on certificates ask, over and over.
-/
import Derived.Test.YtfjgmbimapkabaaDoorCeIn
namespace Go.Proofs.YtfjgmbimapkabaaDoor
open Go.RowKit

namespace Ce
theorem body_lists : ∀ ls : List (List Int), (∀ l ∈ ls, ∀ x ∈ l, okN x) → (ls.flatMap lineB).length ≤ 10 * (ls.map fun l => l.length + 1).sum
  | [], _ => by simp
  | l :: r, h => by
    have h1 := body_lists r (fun l hl => h l (by simp [hl]))
    have h2 := line_hi l (h l (by simp))
    rw [List.flatMap_cons, List.length_append, List.map_cons, List.sum_cons]
    omega
theorem body_edges : ∀ es : List (Int × Int), (∀ p ∈ es, okN p.1 ∧ okN p.2) → (es.flatMap edgeB).length ≤ 21 * es.length
  | [], _ => by simp
  | p :: r, h => by
    have h1 := body_edges r (fun p hp => h p (by simp [hp]))
    have h2 := h p (by simp)
    have h3 := line_hi [p.1, p.2] (fun x hx => by
      simp at hx
      rcases hx with rfl | rfl
      · exact h2.1
      · exact h2.2)
    rw [← edge_line] at h3
    rw [List.flatMap_cons, List.length_append, List.length_cons]
    simp at h3
    omega
end Ce
theorem CertIn.txt {w : World} {pl : Bool} {ao eo : Option Addr} {ce : Nat} {ls : List (List Int)} {es : List (Int × Int)} (h : CertIn w pl ao ls eo ce es) (hg : Ce.good ⟨pl, ls, es⟩) : (Ce.textB ⟨pl, ls, es⟩).length ≤ 30000000 := by
  have hs := h.sum
  have hl := sum_len ls
  unfold Ce.good at hg
  cases pl with
  | true =>
    rw [if_pos rfl] at hg
    obtain ⟨h1, h2, h3⟩ := hg
    dsimp only at h1 h2 h3
    have hb := Ce.body_lists ls (fun l hl x hx => (h2 l hl x hx).1)
    have hd := Ce.dg_short (x := (ls.length : Int)) ⟨by omega, by omega⟩
    have e : (Ce.textB ⟨true, ls, es⟩).length = 2 + ((Ce.dg (ls.length : Int)).length + ((ls.flatMap Ce.lineB).length + 1)) := by
      unfold Ce.textB Ce.cntC Ce.bodyB
      simp
      omega
    omega
  | false =>
    rw [if_neg (by simp)] at hg
    obtain ⟨h1, h2, h3⟩ := hg
    dsimp only at h1 h2 h3
    have hb := Ce.body_edges es (fun p hp => ⟨(h2.1 p hp).1, (h2.1 p hp).2.1⟩)
    have hd := Ce.dg_short (x := (es.length : Int)) ⟨by omega, by omega⟩
    have e : (Ce.textB ⟨false, ls, es⟩).length = 2 + ((Ce.dg (es.length : Int)).length + ((es.flatMap Ce.edgeB).length + 1)) := by
      unfold Ce.textB Ce.cntC Ce.bodyB
      simp
      omega
    omega
theorem CertIn.row {w : World} {pl : Bool} {ao eo : Option Addr} {ce : Nat} {ls : List (List Int)} {es : List (Int × Int)} (h : CertIn w pl ao ls eo ce es) : ∀ l ∈ ls, l.length ≤ 1048576 := fun l hl => by
  have := sum_mem hl
  have := h.sum
  omega
theorem CertIn.num {w : World} {pl : Bool} {ao eo : Option Addr} {ce : Nat} {ls : List (List Int)} {es : List (Int × Int)} (h : CertIn w pl ao ls eo ce es) : ls.length ≤ 1048576 ∧ es.length ≤ 1048576 := by
  have := sum_len ls
  have := h.sum
  omega
theorem CertIn.fits {w : World} {pl : Bool} {ao eo : Option Addr} {ce : Nat} {ls : List (List Int)} {es : List (Int × Int)} (h : CertIn w pl ao ls eo ce es) : Ce.Fits ⟨pl, ls, es⟩ :=
  ⟨Nat.le_trans h.num.1 (by omega), Nat.le_trans h.num.2 (by omega), fun l hl => Nat.le_trans (h.row l hl) (by omega), fun hg => Nat.le_trans (h.txt hg) (by omega)⟩
theorem CertIn.fitsP {w : World} {pl : Bool} {ao eo : Option Addr} {ce : Nat} {ls : List (List Int)} {es : List (Int × Int)} (h : CertIn w pl ao ls eo ce es) : Ce.FitsP ⟨pl, ls, es⟩ :=
  ⟨Nat.le_trans h.num.1 (by omega), Nat.le_trans h.num.2 (by omega), fun l hl => Nat.le_trans (h.row l hl) (by omega)⟩
theorem CertIn.sees {w : World} {pl : Bool} {ao eo : Option Addr} {ca ce : Nat} {ls : List (List Int)} {es : List (Int × Int)} (h : CertIn w pl ao ls eo ce es) : Ce.Sees w (.agg #[.bool pl, .slice ao ls.length ca, .slice eo es.length ce]) ⟨pl, ls, es⟩ ao eo ca ce := ⟨rfl, h.ar.lists, h.ed⟩
theorem CertIn.copy {w : World} {pl : Bool} {ao eo : Option Addr} {ca ce : Nat} {ls : List (List Int)} {es : List (Int × Int)} (h : CertIn w pl ao ls eo ce es) :
    Calls Tryd.prog 13 #[.agg #[.bool pl, .slice ao ls.length ca, .slice eo es.length ce]] w fun e w' => Below w.heap.size w w' ∧ ∃ v, e = .returned v ∧ CertAt w' w.heap.size v ⟨pl, ls, es⟩ :=
  rcopy17_any h.ar h.ed h.nil (Nat.le_trans h.num.1 (by omega)) (Nat.le_trans h.num.2 (by omega))

/-- What a print gives, told ahead. -/
structure Ce.Pr (c : Ce.Cert) (L : List UInt8) (k : Int) : Prop where
  code : k = 0 ∨ k = 10 ∨ k = 170
  yes : k = 0 → Ce.good c ∧ L = Ce.textB c ∧ L.length ≤ 33554432
  no : k ≠ 0 → L = []
  one : ∀ e, PrintP c e → e = .returned (.tuple #[.string ⟨L.toArray⟩, .int .i64 k])
theorem Ce.pr_is (c : Ce.Cert) : ∃ L k, Ce.Pr c L k := by
  by_cases hg : Ce.good c
  · by_cases hl : (Ce.textB c).length ≤ 33554432
    · refine ⟨Ce.textB c, 0, .inl rfl, fun _ => ⟨hg, rfl, hl⟩, fun h => absurd rfl h, fun e he => ?_⟩
      rcases he.2 hg with ⟨h1, -⟩ | ⟨-, h1⟩
      · omega
      · exact h1
    · refine ⟨[], 10, .inr (.inl rfl), fun h => absurd h (by decide), fun _ => rfl, fun e he => ?_⟩
      rcases he.2 hg with ⟨-, h1⟩ | ⟨h1, -⟩
      · exact h1
      · omega
  · exact ⟨[], 170, .inr (.inr rfl), fun h => absurd h (by decide), fun _ => rfl, fun e he => he.1 hg⟩
/-- The program's Print of a copy. -/
theorem CertAt.print {w : World} {B : Nat} {v : Value} {c : Ce.Cert} {L : List UInt8} {k : Int} (h : CertAt w B v c) (hf : Ce.FitsP c) (ht : Tab w) (hp : Ce.Pr c L k) :
    Calls Tryd.prog 10 #[v] w fun e w' => e = .returned (.tuple #[.string ⟨L.toArray⟩, .int .i64 k]) ∧ Below w.heap.size w w' := by
  obtain ⟨ao, eo, ca, ce, hs⟩ := h.sees
  exact (print17_any hs hf ht).mono fun e w' h => ⟨hp.one e h.1, h.2⟩
end Go.Proofs.YtfjgmbimapkabaaDoor
