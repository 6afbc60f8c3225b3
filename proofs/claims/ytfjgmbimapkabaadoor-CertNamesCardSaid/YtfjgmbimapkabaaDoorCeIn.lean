/-
  A certificate that came in.
-/
import Derived.Test.YtfjgmbimapkabaaDoorSiGe
import Derived.Test.YtfjgmbimapkabaaDoorCeCz
import Derived.Test.YtfjgmbimapkabaaDoorMg31
import Derived.Deep.Matrix
namespace Go.Proofs.YtfjgmbimapkabaaDoor
open Go.ChangeShapes Go.WideShapes Go.ChangeAt Go.RowKit Go.Deep

theorem cellsCert : Tryd.prog.cellsOf 27 = 3 := by kernel_rfl
theorem cellsLists : Tryd.prog.cellsOf 24 = 1 := by kernel_rfl
theorem cellsList : Tryd.prog.cellsOf 34 = 1 := by kernel_rfl
theorem cellsBool : Tryd.prog.cellsOf 4 = 1 := by kernel_rfl

theorem bulk_app {H : Type} : ∀ a b : List (DataW H), Rows.uptoBulkAll (a ++ b) = Rows.uptoBulkAll a + Rows.uptoBulkAll b
  | [], b => by simp [Rows.uptoBulkAll]
  | x :: a, b => by
    have := bulk_app a b
    simp only [List.cons_append, Rows.uptoBulkAll, this]
    omega
theorem bulk_row {H : Type} (k : IntKind) (A : Option Addr) (L : Nat) (zs : List Int) (hA : A = none → zs = []) : zs.length + 1 ≤ Rows.uptoBulk (intRow k A L zs : DataW H) := by
  cases A with
  | none =>
    rw [hA rfl]
    simp [intRow, Rows.uptoBulk]
  | some a =>
    have h1 := bulk_length (lits k (zs.take L) : List (DataW H))
    have h2 := bulk_length (lits k (zs.drop L) : List (DataW H))
    simp only [lits, List.length_map, List.length_take, List.length_drop] at h1 h2
    simp only [intRow, Rows.uptoBulk]
    unfold lits
    omega

/-- What is known of a certificate that came in. -/
structure CertIn (w : World) (pl : Bool) (ao : Option Addr) (ls : List (List Int)) (eo : Option Addr) (ce : Nat) (es : List (Int × Int)) : Prop where
  ar : Ce.LstsAt w ao ls
  ed : EdgesAt w eo es
  nil : eo = none → ce = 0
  sum : (ls.map fun l => l.length + 1).sum + es.length ≤ 1048576
theorem CertIn.later {w w' : World} {pl : Bool} {ao : Option Addr} {ls : List (List Int)} {eo : Option Addr} {ce : Nat} {es : List (Int × Int)} (h : CertIn w pl ao ls eo ce es) (hb : Below w.heap.size w w') : CertIn w' pl ao ls eo ce es := ⟨h.ar.later hb, h.ed.later hb, h.nil, h.sum⟩
theorem sum_len (ls : List (List Int)) : ls.length ≤ (ls.map fun l => l.length + 1).sum := by
  induction ls with
  | nil => simp
  | cons l r ih => simp; omega
theorem sum_mem {ls : List (List Int)} {l : List Int} (h : l ∈ ls) : l.length + 1 ≤ (ls.map fun l => l.length + 1).sum := by
  induction ls with
  | nil => cases h
  | cons x r ih =>
    simp
    rcases List.mem_cons.1 h with rfl | h
    · omega
    · have := ih h
      omega

section
variable {H : Type} {enc : TypeId × Value → H} {W : World} {base : Nat}
theorem three_fields {e : TypeId} {f0 f1 f2 : Field} (he : Tryd.prog.underlying e = some (.struct #[f0, f1, f2])) (o0 : f0.offset = 0) (o1 : f1.offset = 1) (o2 : f2.offset = 2) (t0 : f0.type = 4) (t1 : f1.type = 24) (t2 : f2.type = 25)
    {fuel : Nat} {u v z : Value} {x : DataW H × List MemPlace} (h : DataW.trod enc Tryd.prog W 0 (fun _ => true) true fuel e [u, v, z] = some x) :
    ∃ (m : Nat) (y0 y1 y2 : DataW H × List MemPlace), DataW.trod enc Tryd.prog W 0 (fun _ => true) true m 4 [u] = some y0 ∧ DataW.trod enc Tryd.prog W 0 (fun _ => true) true m 24 [v] = some y1 ∧ DataW.trod enc Tryd.prog W 0 (fun _ => true) true m 25 [z] = some y2 ∧ x.1 = .agg [y0.1, y1.1, y2.1] := by
  obtain ⟨xs, m, _, hxx, hl, hx, hf⟩ := DataW.trod_struct he h
  match xs, hx with
  | [y0, y1, y2], _ =>
    have g0 := hf 0 f0 rfl
    have g1 := hf 1 f1 rfl
    have g2 := hf 2 f2 rfl
    simp only [o0, o1, o2, t0, t1, t2, cellsBool, cellsLists, cellsEdges] at g0 g1 g2
    exact ⟨m, y0, y1, y2, by simpa using g0, by simpa using g1, by simpa using g2, by rw [hxx]; rfl⟩

/-- Lists inside. -/
theorem lists_of_trod {fuel : Nat} {v : Value} {x : DataW H × List MemPlace} (h : DataW.trod enc Tryd.prog W 0 (fun _ => true) true fuel 24 [v] = some x) (hsm : Rows.uptoBulk x.1 ≤ 1048576) :
    ∃ ao ca ls, v = .slice ao ls.length ca ∧ Ce.LstsAt W ao ls ∧ (ls.map fun l => l.length + 1).sum ≤ Rows.uptoBulk x.1 := by
  rcases open_int_rows Tryd.underlying24 Tryd.underlying34 Tryd.underlying3 cellsList cellsInt h with ⟨hcs, hx⟩ | ⟨y, l, c, A, L, C, Z, hcs, _, hl, hm, hx, hrow⟩
  · simp at hcs
    subst hcs
    exact ⟨none, 0, [], rfl, fun k l hl => by simp at hl, by simp⟩
  · simp at hcs
    subst hcs
    subst hx
    have hz : ∀ r, r < c → ((Z r).take (L r)).length = L r := fun r hr => by
      obtain ⟨-, h1, -, h3, -⟩ := hrow r hr
      rw [List.length_take]
      omega
    have hsum : ∀ n, n ≤ l → (((List.range n).map fun r => (Z r).take (L r)).map fun l => l.length + 1).sum ≤ Rows.uptoBulkAll ((List.range n).map fun r => (intRow .i64 (A r) (L r) (Z r) : DataW H)) := fun n => by
      induction n with
      | zero => intro _; simp
      | succ n ih =>
        intro hn
        rw [List.range_succ, List.map_append, List.map_append, List.map_append, List.sum_append, bulk_app]
        have h1 := ih (by omega)
        obtain ⟨-, h2, -, h3, -, h5, -⟩ := hrow n (by omega)
        have h4 := bulk_row (H := H) .i64 (A n) (L n) (Z n) (fun e => List.length_eq_zero_iff.1 (by rw [h3]; exact h5 e))
        have h6 := hz n (by omega)
        simp only [List.map_cons, List.map_nil, List.sum_cons, List.sum_nil, Rows.uptoBulkAll, Nat.add_zero]
        rw [h6]
        omega
    have hs := hsum l (Nat.le_refl _)
    have hb : Rows.uptoBulkAll ((List.range l).map fun r => (intRow .i64 (A r) (L r) (Z r) : DataW H)) ≤ Rows.uptoBulk (DataW.slice ((List.range l).map fun r => (intRow .i64 (A r) (L r) (Z r) : DataW H)) ((List.range (c - l)).map fun j => intRow .i64 (A (l + j)) (L (l + j)) (Z (l + j)))) := by
      simp only [Rows.uptoBulk]
      omega
    refine ⟨some y, c, (List.range l).map fun r => (Z r).take (L r), by simp, fun k q hq => ?_, Nat.le_trans hs hb⟩
    have hk : k < l := by
      have := (List.getElem?_eq_some_iff.1 hq).1
      simpa using this
    have hqm := sum_mem (List.mem_of_getElem? hq)
    rw [List.getElem?_map, List.getElem?_range hk] at hq
    obtain rfl := Option.some.inj hq
    obtain ⟨hc, h1, h2, h3, h4, h5, h6⟩ := hrow k (by omega)
    have hlen := hz k (by omega)
    obtain ⟨xb, xo, sp⟩ := y
    have hsp : sp = none := by simpa [Addr.add] using World.cell?_spot (hrow 0 (by omega)).1
    subst hsp
    have e : ((⟨xb, xo, none⟩ : Addr).add k) = ⟨xb, xo + k, none⟩ := by
      by_cases h0 : k = 0 <;> simp [Addr.add, h0]
    rw [e] at hc
    refine ⟨xb, xo, A k, C k, rfl, by rw [hlen]; exact hc, ⟨rfl, fun i z hz => ?_, fun hA => ?_⟩, ?_⟩
    · rw [List.getElem?_take] at hz
      split at hz
      · rename_i hiL
        obtain ⟨y, hA⟩ : ∃ y, A k = some y := by
          cases hA : A k with
          | none =>
            have := h5 hA
            omega
          | some y => exact ⟨y, rfl⟩
        obtain ⟨hyb, hcell⟩ := h6 y hA
        have hci := hcell i (by omega)
        obtain ⟨yb, yo, ys⟩ := y
        have hys : ys = none := by simpa [Addr.add] using World.cell?_spot (hcell 0 (by omega))
        subst hys
        have ei : ((⟨yb, yo, none⟩ : Addr).add i) = ⟨yb, yo + i, none⟩ := by
          by_cases h0 : i = 0 <;> simp [Addr.add, h0]
        rw [ei] at hci
        refine ⟨yb, yo, hA, ?_⟩
        rw [hci]
        have : (Z k).getD i 0 = z := by simp [hz]
        rw [this]
      · cases hz
    · have := h5 hA
      rw [hlen]
      exact ⟨by omega, this⟩
    · have := Nat.le_trans (Nat.le_trans hqm (Nat.le_trans hs hb)) hsm
      omega

set_option maxRecDepth 100000 in
/-- A certificate that came in, of little bulk. -/
theorem cert_of_trod {v : Value} {d : DataW H} {p : List MemPlace} {ds : List (DataW H)} {j : Nat} (hval : Value.okWide Tryd.prog W .any base 27 v)
    (h : DataW.Trod enc Tryd.prog W 0 (fun _ => true) true 27 v d p) (hk : Rows.uptoSmall H ds = true) (hds : ds[j]? = some d) :
    ∃ (pl : Bool) (ao : Option Addr) (ca : Nat) (ls : List (List Int)) (eo : Option Addr) (ce : Nat) (es : List (Int × Int)), v = .agg #[.bool pl, .slice ao ls.length ca, .slice eo es.length ce] ∧ CertIn W pl ao ls eo ce es := by
  have hb := of_decide_eq_true hk
  have hp := bulk_part (List.mem_of_getElem? hds)
  obtain ⟨cs, rfl, hcs⟩ := okWide_struct Tryd.underlying27 hval
  rw [cellsCert] at hcs
  obtain ⟨fuel, hf⟩ := h
  obtain ⟨cl⟩ := cs
  match cl, hcs with
  | [u, v, z], _ =>
    obtain ⟨m, y0, y1, y2, g0, g1, g2, hxx⟩ := three_fields Tryd.underlying27 rfl rfl rfl rfl rfl rfl hf
    have hxx : d = .agg [y0.1, y1.1, y2.1] := hxx
    subst hxx
    simp only [Rows.uptoBulk, Rows.uptoBulkAll] at hp
    obtain ⟨b, e0, -⟩ := DataW.trod_bool Tryd.underlying4 g0
    simp at e0
    subst e0
    obtain ⟨ao, ca, ls, rfl, hls, hsum⟩ := lists_of_trod g1 (by omega)
    have hsl : ∃ a len cap, z = .slice a len cap := by
      rcases Deep.open_slice Tryd.underlying25 g2 with ⟨hc, _⟩ | ⟨ad, l, c, _, _, _, _, hc, _⟩
      · simp at hc; exact ⟨_, _, _, hc⟩
      · simp at hc; exact ⟨_, _, _, hc⟩
    obtain ⟨a, len, cap, rfl⟩ := hsl
    obtain ⟨qs, hq, hd⟩ := pairs_in Tryd.underlying25 cellsEdge (fun n cs y hy => two_edge hy) g2
    have hql := hq.hlen
    subst hql
    refine ⟨b, ao, ca, ls, a, cap, qs, rfl, hls, hq.hat, fun e => (hq.hnil e).2, ?_⟩
    have hqs : qs.length ≤ Rows.uptoBulk y2.1 := by
      rcases hd with ⟨_, rfl⟩ | ⟨es, rest, hd, hle⟩
      · simp
      · rw [hd]
        have := bulk_length es
        simp only [Rows.uptoBulk]
        omega
    omega
end
end Go.Proofs.YtfjgmbimapkabaaDoor
