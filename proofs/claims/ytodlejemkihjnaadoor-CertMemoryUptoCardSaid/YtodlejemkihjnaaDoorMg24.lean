import Derived.Test.YtodlejemkihjnaaDoorMg23
import Derived.Test.YtodlejemkihjnaaDoorMg13
import Derived.Test.YtodlejemkihjnaaDoorMg00
import Derived.Test.YtodlejemkihjnaaDoorMg01
import Derived.Test.YtodlejemkihjnaaDoorMg12
import Derived.Deep.Matrix
import Derived.Test.YtodlejemkihjnaaDoorMg22
import Derived.Test.YtodlejemkihjnaaDoorMg04
/-
  A certificate of one's own can be read; what is read is small.
-/
namespace Go.Proofs.YtodlejemkihjnaaDoor
open Go.RowKit

theorem RowsZ.lists {w : World} {B : Nat} {v : Value} {vs : List Value} {ls : List (List Int)} (h : RowsZ w B v vs ls) : ∃ ao ca, v = .slice ao ls.length ca ∧ Ce.ListsAt w ao ls := by
  obtain ⟨ao, ca, rfl⟩ := row_shape h
  refine ⟨ao, ca, rfl, fun k l hl => ?_⟩
  obtain ⟨x, hx⟩ := h.at' hl
  obtain ⟨xa, xc, rfl, hat, -⟩ := (h.row k x l hx hl).form
  rcases h.outer.2 with ⟨-, h0⟩ | ⟨g, cap, cur, e, -⟩
  · have := (List.getElem?_eq_some_iff.1 hl).1
    omega
  · cases e
    refine ⟨g, 0, xa, xc, rfl, ?_, hat⟩
    rw [Nat.zero_add]
    have := h.outer.cells (g := g) rfl k _ hx
    rwa [addrE] at this
theorem CertAt.sees {w : World} {B : Nat} {v : Value} {c : Ce.Cert} (h : CertAt w B v c) : ∃ ao eo ca ce, Ce.Sees w v c ao eo ca ce := by
  obtain ⟨va, ve, vs, rfl, hr, ho⟩ := h
  obtain ⟨ao, ca, rfl, hl⟩ := hr.lists
  obtain ⟨eo, ce, rfl, -, -, he, -⟩ := ho.form
  exact ⟨ao, eo, ca, ce, rfl, hl, he⟩
theorem CertAt.later {w w' : World} {B : Nat} {v : Value} {c : Ce.Cert} (h : CertAt w B v c) (hb : Below w.heap.size w w') : CertAt w' B v c := by
  obtain ⟨va, ve, vs, rfl, hr, ho⟩ := h
  exact ⟨va, ve, vs, rfl, hr.later hb, ho.below hb (Nat.le_refl _)⟩

namespace Ce
theorem flat_mem {α : Type} (f : α → List UInt8) : ∀ {ls : List α} {l : α}, l ∈ ls → (f l).length ≤ (ls.flatMap f).length
  | x :: r, l, h => by
    rw [List.flatMap_cons, List.length_append]
    rcases List.mem_cons.1 h with rfl | h
    · omega
    · have := flat_mem f h
      omega
theorem textB_body (c : Cert) : (bodyB c).length ≤ (textB c).length := by
  unfold textB
  simp
  omega
/-- What a certificate holds that has a text is no longer than the text. -/
structure Small (c : Cert) : Prop where
  ar : c.ar.length ≤ 1048576
  es : c.es.length ≤ 4194304
  row : ∀ l ∈ c.ar, l.length ≤ 33554432
  txt : (textB c).length ≤ 33554432
theorem small_zero : Small zero := ⟨by decide, by decide, fun l hl => (by cases hl), by decide +kernel⟩
theorem small_of {c : Cert} (hg : good c) (hl : (textB c).length ≤ 33554432) : Small c := by
  obtain ⟨pl, ar, es⟩ := c
  unfold good at hg
  cases pl with
  | true =>
    rw [if_pos rfl] at hg
    obtain ⟨h1, h2, h3⟩ := hg
    dsimp only at h1 h2 h3
    subst h1
    refine ⟨h3, by simp, fun l hl' => ?_, hl⟩
    have e : bodyB ⟨true, ar, []⟩ = ar.flatMap lineB := rfl
    have h4 : (lineB l).length ≤ (ar.flatMap lineB).length := flat_mem lineB hl'
    have h5 := textB_body ⟨true, ar, []⟩
    have h6 := line_lo l
    rw [e] at h5
    omega
  | false =>
    rw [if_neg (by simp)] at hg
    obtain ⟨h1, h2, h3⟩ := hg
    dsimp only at h1 h2 h3
    subst h1
    exact ⟨by simp, h3, fun l hl' => (by cases hl'), hl⟩
theorem parse_small {B : Nat → Int} {n : Nat} (hT : Txt B n) : Small (parse B n).1 := by
  obtain ⟨c, p, k, hp⟩ : ∃ c p k, parse B n = (c, p, k) := ⟨_, _, _, rfl⟩
  rw [hp]
  rcases parse_fault hT with h | ⟨h, -⟩
  · rw [hp] at h
    obtain rfl : k = 0 := h
    obtain ⟨h1, -, h3, h4, -⟩ := parse_is hT hp
    exact small_of h1 (by rw [h3]; exact h4)
  · rw [hp] at h
    obtain rfl : c = zero := h
    exact small_zero
theorem Small.fits {c : Cert} (h : Small c) : Fits c := ⟨Nat.le_trans h.ar (by omega), Nat.le_trans h.es (by omega), fun l hl => Nat.le_trans (h.row l hl) (by omega), fun _ => Nat.le_trans h.txt (by omega)⟩
theorem Small.fitsP {c : Cert} (h : Small c) : Ce.Fits c := h.fits
end Ce
end Go.Proofs.YtodlejemkihjnaaDoor

/-
  A certificate that came in.
-/
namespace Go.Proofs.YtodlejemkihjnaaDoor
open Go.ChangeShapes Go.WideShapes Go.ChangeAt Go.RowKit Go.Deep

theorem cellsCert : Tryd.prog.cellsOf 25 = 3 := by kernel_rfl
theorem cellsLists : Tryd.prog.cellsOf 22 = 1 := by kernel_rfl
theorem cellsList : Tryd.prog.cellsOf 39 = 1 := by kernel_rfl
theorem cellsBool : Tryd.prog.cellsOf 4 = 1 := by kernel_rfl

theorem bulk_app {H : Type} : ∀ a b : List (DataW H), Rows.uptoBulkAll (a ++ b) = Rows.uptoBulkAll a + Rows.uptoBulkAll b
  | [], b => by simp [Rows.uptoBulkAll]
  | x :: a, b => by
    have := bulk_app a b
    simp only [List.cons_append, Rows.uptoBulkAll, this]
    omega
theorem bulk_row {H : Type} (k : IntKind) (A : Option Addr) (L : Nat) (zs : List Int) (hA : A = none → zs = []) : zs.length + 1 ≤ Rows.uptoBulk (intRow k A L zs : DataW H) := by
  cases A with
  | none =>
    rw [hA rfl]
    simp [intRow, Rows.uptoBulk]
  | some a =>
    have h1 := bulk_length (lits k (zs.take L) : List (DataW H))
    have h2 := bulk_length (lits k (zs.drop L) : List (DataW H))
    simp only [lits, List.length_map, List.length_take, List.length_drop] at h1 h2
    simp only [intRow, Rows.uptoBulk]
    unfold lits
    omega

/-- What is known of a certificate that came in. -/
structure CertIn (w : World) (pl : Bool) (ao : Option Addr) (ls : List (List Int)) (eo : Option Addr) (ce : Nat) (es : List (Int × Int)) : Prop where
  ar : Ce.LstsAt w ao ls
  ed : EdgesAt w eo es
  nil : eo = none → ce = 0
  sum : (ls.map fun l => l.length + 1).sum + es.length ≤ 1048576
theorem CertIn.later {w w' : World} {pl : Bool} {ao : Option Addr} {ls : List (List Int)} {eo : Option Addr} {ce : Nat} {es : List (Int × Int)} (h : CertIn w pl ao ls eo ce es) (hb : Below w.heap.size w w') : CertIn w' pl ao ls eo ce es := ⟨h.ar.later hb, h.ed.later hb, h.nil, h.sum⟩
theorem sum_len (ls : List (List Int)) : ls.length ≤ (ls.map fun l => l.length + 1).sum := by
  induction ls with
  | nil => simp
  | cons l r ih => simp; omega
theorem sum_mem {ls : List (List Int)} {l : List Int} (h : l ∈ ls) : l.length + 1 ≤ (ls.map fun l => l.length + 1).sum := by
  induction ls with
  | nil => cases h
  | cons x r ih =>
    simp
    rcases List.mem_cons.1 h with rfl | h
    · omega
    · have := ih h
      omega

section
variable {H : Type} {enc : TypeId × Value → H} {W : World} {base : Nat}
theorem three_fields {e : TypeId} {f0 f1 f2 : Field} (he : Tryd.prog.underlying e = some (.struct #[f0, f1, f2])) (o0 : f0.offset = 0) (o1 : f1.offset = 1) (o2 : f2.offset = 2) (t0 : f0.type = 4) (t1 : f1.type = 22) (t2 : f2.type = 23)
    {fuel : Nat} {u v z : Value} {x : DataW H × List MemPlace} (h : DataW.trod enc Tryd.prog W 0 (fun _ => true) true fuel e [u, v, z] = some x) :
    ∃ (m : Nat) (y0 y1 y2 : DataW H × List MemPlace), DataW.trod enc Tryd.prog W 0 (fun _ => true) true m 4 [u] = some y0 ∧ DataW.trod enc Tryd.prog W 0 (fun _ => true) true m 22 [v] = some y1 ∧ DataW.trod enc Tryd.prog W 0 (fun _ => true) true m 23 [z] = some y2 ∧ x.1 = .agg [y0.1, y1.1, y2.1] := by
  obtain ⟨xs, m, _, hxx, hl, hx, hf⟩ := DataW.trod_struct he h
  match xs, hx with
  | [y0, y1, y2], _ =>
    have g0 := hf 0 f0 rfl
    have g1 := hf 1 f1 rfl
    have g2 := hf 2 f2 rfl
    simp only [o0, o1, o2, t0, t1, t2, cellsBool, cellsLists, cellsEdges] at g0 g1 g2
    exact ⟨m, y0, y1, y2, by simpa using g0, by simpa using g1, by simpa using g2, by rw [hxx]; rfl⟩

/-- Lists inside. -/
theorem lists_of_trod {fuel : Nat} {v : Value} {x : DataW H × List MemPlace} (h : DataW.trod enc Tryd.prog W 0 (fun _ => true) true fuel 22 [v] = some x) (hsm : Rows.uptoBulk x.1 ≤ 1048576) :
    ∃ ao ca ls, v = .slice ao ls.length ca ∧ Ce.LstsAt W ao ls ∧ (ls.map fun l => l.length + 1).sum ≤ Rows.uptoBulk x.1 := by
  rcases open_int_rows Tryd.underlying22 Tryd.underlying39 Tryd.underlying3 cellsList cellsInt h with ⟨hcs, hx⟩ | ⟨y, l, c, A, L, C, Z, hcs, _, hl, hm, hx, hrow⟩
  · simp at hcs
    subst hcs
    exact ⟨none, 0, [], rfl, fun k l hl => by simp at hl, by simp⟩
  · simp at hcs
    subst hcs
    subst hx
    have hz : ∀ r, r < c → ((Z r).take (L r)).length = L r := fun r hr => by
      obtain ⟨-, h1, -, h3, -⟩ := hrow r hr
      rw [List.length_take]
      omega
    have hsum : ∀ n, n ≤ l → (((List.range n).map fun r => (Z r).take (L r)).map fun l => l.length + 1).sum ≤ Rows.uptoBulkAll ((List.range n).map fun r => (intRow .i64 (A r) (L r) (Z r) : DataW H)) := fun n => by
      induction n with
      | zero => intro _; simp
      | succ n ih =>
        intro hn
        rw [List.range_succ, List.map_append, List.map_append, List.map_append, List.sum_append, bulk_app]
        have h1 := ih (by omega)
        obtain ⟨-, h2, -, h3, -, h5, -⟩ := hrow n (by omega)
        have h4 := bulk_row (H := H) .i64 (A n) (L n) (Z n) (fun e => List.length_eq_zero_iff.1 (by rw [h3]; exact h5 e))
        have h6 := hz n (by omega)
        simp only [List.map_cons, List.map_nil, List.sum_cons, List.sum_nil, Rows.uptoBulkAll, Nat.add_zero]
        rw [h6]
        omega
    have hs := hsum l (Nat.le_refl _)
    have hb : Rows.uptoBulkAll ((List.range l).map fun r => (intRow .i64 (A r) (L r) (Z r) : DataW H)) ≤ Rows.uptoBulk (DataW.slice ((List.range l).map fun r => (intRow .i64 (A r) (L r) (Z r) : DataW H)) ((List.range (c - l)).map fun j => intRow .i64 (A (l + j)) (L (l + j)) (Z (l + j)))) := by
      simp only [Rows.uptoBulk]
      omega
    refine ⟨some y, c, (List.range l).map fun r => (Z r).take (L r), by simp, fun k q hq => ?_, Nat.le_trans hs hb⟩
    have hk : k < l := by
      have := (List.getElem?_eq_some_iff.1 hq).1
      simpa using this
    have hqm := sum_mem (List.mem_of_getElem? hq)
    rw [List.getElem?_map, List.getElem?_range hk] at hq
    obtain rfl := Option.some.inj hq
    obtain ⟨hc, h1, h2, h3, h4, h5, h6⟩ := hrow k (by omega)
    have hlen := hz k (by omega)
    obtain ⟨xb, xo, sp⟩ := y
    have hsp : sp = none := by simpa [Addr.add] using World.cell?_spot (hrow 0 (by omega)).1
    subst hsp
    have e : ((⟨xb, xo, none⟩ : Addr).add k) = ⟨xb, xo + k, none⟩ := by
      by_cases h0 : k = 0 <;> simp [Addr.add, h0]
    rw [e] at hc
    refine ⟨xb, xo, A k, C k, rfl, by rw [hlen]; exact hc, ⟨rfl, fun i z hz => ?_, fun hA => ?_⟩, ?_⟩
    · rw [List.getElem?_take] at hz
      split at hz
      · rename_i hiL
        obtain ⟨y, hA⟩ : ∃ y, A k = some y := by
          cases hA : A k with
          | none =>
            have := h5 hA
            omega
          | some y => exact ⟨y, rfl⟩
        obtain ⟨hyb, hcell⟩ := h6 y hA
        have hci := hcell i (by omega)
        obtain ⟨yb, yo, ys⟩ := y
        have hys : ys = none := by simpa [Addr.add] using World.cell?_spot (hcell 0 (by omega))
        subst hys
        have ei : ((⟨yb, yo, none⟩ : Addr).add i) = ⟨yb, yo + i, none⟩ := by
          by_cases h0 : i = 0 <;> simp [Addr.add, h0]
        rw [ei] at hci
        refine ⟨yb, yo, hA, ?_⟩
        rw [hci]
        have : (Z k).getD i 0 = z := by simp [hz]
        rw [this]
      · cases hz
    · have := h5 hA
      rw [hlen]
      exact ⟨by omega, this⟩
    · have := Nat.le_trans (Nat.le_trans hqm (Nat.le_trans hs hb)) hsm
      omega

set_option maxRecDepth 100000 in
/-- A certificate that came in, of little bulk. -/
theorem cert_of_trod {v : Value} {d : DataW H} {p : List MemPlace} {ds : List (DataW H)} {j : Nat} (hval : Value.okWide Tryd.prog W .any base 25 v)
    (h : DataW.Trod enc Tryd.prog W 0 (fun _ => true) true 25 v d p) (hk : Rows.uptoSmall H ds = true) (hds : ds[j]? = some d) :
    ∃ (pl : Bool) (ao : Option Addr) (ca : Nat) (ls : List (List Int)) (eo : Option Addr) (ce : Nat) (es : List (Int × Int)), v = .agg #[.bool pl, .slice ao ls.length ca, .slice eo es.length ce] ∧ CertIn W pl ao ls eo ce es := by
  have hb := of_decide_eq_true hk
  have hp := bulk_part (List.mem_of_getElem? hds)
  obtain ⟨cs, rfl, hcs⟩ := okWide_struct Tryd.underlying25 hval
  rw [cellsCert] at hcs
  obtain ⟨fuel, hf⟩ := h
  obtain ⟨cl⟩ := cs
  match cl, hcs with
  | [u, v, z], _ =>
    obtain ⟨m, y0, y1, y2, g0, g1, g2, hxx⟩ := three_fields Tryd.underlying25 rfl rfl rfl rfl rfl rfl hf
    have hxx : d = .agg [y0.1, y1.1, y2.1] := hxx
    subst hxx
    simp only [Rows.uptoBulk, Rows.uptoBulkAll] at hp
    obtain ⟨b, e0, -⟩ := DataW.trod_bool Tryd.underlying4 g0
    simp at e0
    subst e0
    obtain ⟨ao, ca, ls, rfl, hls, hsum⟩ := lists_of_trod g1 (by omega)
    have hsl : ∃ a len cap, z = .slice a len cap := by
      rcases Deep.open_slice Tryd.underlying23 g2 with ⟨hc, _⟩ | ⟨ad, l, c, _, _, _, _, hc, _⟩
      · simp at hc; exact ⟨_, _, _, hc⟩
      · simp at hc; exact ⟨_, _, _, hc⟩
    obtain ⟨a, len, cap, rfl⟩ := hsl
    obtain ⟨qs, hq, hd⟩ := pairs_in Tryd.underlying23 cellsEdge (fun n cs y hy => two_edge hy) g2
    have hql := hq.hlen
    subst hql
    refine ⟨b, ao, ca, ls, a, cap, qs, rfl, hls, hq.hat, fun e => (hq.hnil e).2, ?_⟩
    have hqs : qs.length ≤ Rows.uptoBulk y2.1 := by
      rcases hd with ⟨_, rfl⟩ | ⟨es, rest, hd, hle⟩
      · simp
      · rw [hd]
        have := bulk_length es
        simp only [Rows.uptoBulk]
        omega
    omega
end
end Go.Proofs.YtodlejemkihjnaaDoor

/-
  The program's reader: a line of numbers.
-/
namespace Go.Proofs.YtodlejemkihjnaaDoor
open Go.RowKit

/-- A line, from behind one of its numbers on. -/
def Ce.tl (B : Nat → Int) (n f : Nat) (l : List Int) (j : Nat) : Except Nat (List Int × Nat) :=
  if B j = 10 then .ok (l, j + 1) else if B j = 32 then Ce.lstF B n f l (j + 1) else .error j
theorem Ce.lstF_tl {B : Nat → Int} {n f : Nat} {l : List Int} {i : Nat} {v : Int} {k : Nat} (h : Ce.num B n i = some (v, k)) (hl : ¬ (l ≠ [] ∧ v < l.headD 0)) : Ce.lstF B n (f + 1) l i = Ce.tl B n f (l ++ [v]) k := by
  rw [Ce.lstF, h]
  dsimp only
  rw [if_neg hl]
  rfl
theorem Ce.lstF_bad {B : Nat → Int} {n f : Nat} {l : List Int} {i : Nat} (hl : l ≠ []) (h : ∀ v k, Ce.num B n i = some (v, k) → v < l.headD 0) : Ce.lstF B n (f + 1) l i = .error i := by
  rw [Ce.lstF]
  cases hm : Ce.num B n i with
  | none => rfl
  | some q =>
    obtain ⟨v, k⟩ := q
    dsimp only
    rw [if_pos ⟨hl, h v k hm⟩]
theorem OwnZ.kept {w w' : World} {B b : Nat} {v : Value} {l : List Int} (h : OwnZ w B v l) (hg : w.grownBy w' (some b)) (hb : b < B) : OwnZ w' B v l :=
  h.same fun g hv hlt => hg.block g hlt (fun e => by
    have := (World.ownsRow.lt h g hv).1
    cases e
    omega)
theorem OwnZ.headed {w : World} {B : Nat} {v : Value} {l : List Int} (h : OwnZ w B v l) (hl : l ≠ []) : ∃ g c, v = .slice (some ⟨g, 0, none⟩) l.length c ∧ w.cell? ⟨g, 0, none⟩ = some (.int .i64 (l.headD 0)) := by
  cases l with
  | nil => exact absurd rfl hl
  | cons x r =>
    obtain ⟨g, c, rfl⟩ := own_succ (k := r.length) h
    obtain ⟨ao, cap, e, hat, -⟩ := h.form
    cases e
    obtain ⟨b, o, e, hc⟩ := hat 0 x rfl
    cases e
    exact ⟨g, c, rfl, hc⟩

set_option maxHeartbeats 4000000 in
set_option maxRecDepth 100000 in
theorem list17_any {b : Nat} {ao : Option Addr} {n cap p : Nat} {g : Nat → Int} {w : World} (h : Rtx w b ao n cap p g) :
    Calls Tryd.prog 36 #[.pointer (some ⟨b, 0, none⟩)] w (RdP (Ce.lst (Ce.atF n g) n p) (fun l w' v => OwnZ w' w.heap.size v l) b ao n cap w) := by
  have hbs := h.rdr.lt
  have H := Nu.hid h
  obtain ⟨R, hR⟩ : ∃ R, Ce.lst (Ce.atF n g) n p = R := ⟨_, rfl⟩
  rw [hR]
  unfold Ce.lst at hR
  have hlen := h.len
  by_cases h1 : Ce.atF n g p = 10
  · rw [if_pos h1] at hR
    clear h
    go_enter Tryd.func36, Tryd.ntmps36
    go_wp2_with (go_at_call 29; refine (H.out.passYes (by decide) h1).mono ?_; refine Hid.out ?_)
    refine Nu.hid ?_
    rintro e w1 ⟨rfl, hg1, h1'⟩
    go_wp2
    go_ret
    exact ⟨hg1, .inl ⟨[], p + 1, _, hR.symm, rfl, OwnZ.nil _ _, h1'.rdr, h1'.pos⟩⟩
  · rw [if_neg h1] at hR
    have HR := Nu.hid hR
    clear h hR
    go_enter Tryd.func36, Tryd.ntmps36
    go_wp2_with (go_at_call 29; refine (H.out.passNo h1).mono ?_; refine Hid.out ?_)
    refine Nu.hid ?_
    rintro e w1 ⟨rfl, hg1, h1'⟩
    have H1 := Nu.hid h1'
    have HG1 := Nu.hid hg1
    clear h1' hg1
    go_wp2_with (go_at_call 40; refine (H1.out.num 0).mono ?_; refine Hid.out ?_)
    refine Nu.hid ?_
    rintro e w2 ⟨hg2, ⟨v, k, hnum, hv, rfl, h2, hok, hpk⟩ | ⟨hno, rfl⟩⟩
    · have hR := HR.out
      rw [Ce.lstF_tl hnum (by simp)] at hR
      have HR2 := Nu.hid hR
      have H2 := Nu.hid h2
      have hgw := grownBy_trans HG1.out hg2
      have HG2 := Nu.hid hgw
      have hsz := hgw.size
      have hkn := h2.pos
      have hown : OwnZ (w2.alloc (.cells #[.int .i64 v] 3)) w.heap.size (.slice (some ⟨w2.heap.size, 0, none⟩) 1 1) [v] := IntsBlk.own (l := [v]) (heap_alloc_new w2 _) hsz rfl (by omega)
      have HOWN := Nu.hid hown
      have H3 := Nu.hid (h2.later ((Below.refl _ _).alloc (Nat.le_refl _) (.cells #[.int .i64 v] 3)))
      have HG3 := Nu.hid (grownBy_alloc' hgw (.cells #[.int .i64 v] 3))
      clear hR hg2 h2 hnum hgw hown
      go_wp2
      go_loopw [3] (fun lv wr => ∃ (j f : Nat) (l : List Int), l ≠ [] ∧ l.length ≤ j ∧ n - j < f ∧ OwnZ wr w.heap.size lv l ∧ Rtx wr b ao n cap j g ∧ w.grownBy wr (some b) ∧ Ce.tl (Ce.atF n g) n f l j = R) (fun _ wr => n - posOf wr b)
      case atStart => exact ⟨k, n, [v], by simp, by simp; omega, by omega, HOWN.out, H3.out, HG3.out, HR2.out⟩
      case round =>
        obtain ⟨j, f, l, hl0, hlj, hf, hown, hrt, hgr, hRj⟩ := hrel
        have HP : Hid (posOf wr b = j) := hrt.rdr.pos
        have hjn := hrt.pos
        have HO := Nu.hid hown
        have HRT := Nu.hid hrt
        have HGR := Nu.hid hgr
        have hszr := hgr.size
        unfold Ce.tl at hRj
        by_cases h32 : Ce.atF n g j = 32
        · rw [if_neg (by omega), if_pos h32] at hRj
          have HRJ := Nu.hid hRj
          clear hRj hown hrt hgr
          go_wp2_with (go_at_call 29; refine (HRT.out.passYes (by decide) h32).mono ?_; refine Hid.out ?_)
          refine Nu.hid ?_
          rintro e w4 ⟨rfl, hg4, h4⟩
          have hown4 := HO.out.kept hg4 (by omega)
          have hj4 := h4.pos
          obtain ⟨gb, gc, hlv, hcl⟩ := hown4.headed hl0
          subst hlv
          have hlen1 : 0 < l.length := by
            cases l with
            | nil => exact absurd rfl hl0
            | cons _ _ => simp
          have H4 := Nu.hid h4
          have HG4 := Nu.hid (grownBy_trans HGR.out hg4)
          have hsz4 := HG4.out.size
          obtain ⟨L, hL⟩ : ∃ L, l.length = L := ⟨_, rfl⟩
          obtain ⟨x0, hx0⟩ : ∃ x0, l.headD 0 = x0 := ⟨_, rfl⟩
          rw [hx0] at hcl
          have HO4 : Hid (OwnZ w4 w.heap.size (.slice (some ⟨gb, 0, none⟩) L gc) l) := by rw [← hL]; exact hown4
          have HL := Nu.hid hL
          have HX := Nu.hid hx0
          rw [hL] at hlen1 hlj ⊢
          have hLi : (0 : Int) < (L : Int) := by omega
          clear hown4 hg4 h4 HO hx0
          go_wp2_with (go_at_call 40; refine (H4.out.num x0).mono ?_; refine Hid.out ?_)
          refine Nu.hid ?_
          rintro e w5 ⟨hg5, ⟨v', k', hnum, hv', rfl, h5, hok', hpk'⟩ | ⟨hno, rfl⟩⟩
          · obtain ⟨f, rfl⟩ : ∃ f', f = f' + 1 := ⟨f - 1, by omega⟩
            have hRn := HRJ.out
            rw [Ce.lstF_tl hnum (fun hh => by have := hh.2; rw [HX.out] at this; omega)] at hRn
            have hown5 := HO4.out.kept hg5 (by omega)
            have HG5 := Nu.hid (grownBy_trans HG4.out hg5)
            have hsz5 := HG5.out.size
            have H5 := Nu.hid h5
            have hk5 := h5.pos
            have HRN := Nu.hid hRn
            have hL' : l.length ≤ 17592186044000 := by rw [HL.out]; omega
            clear hg5 hnum hRn h5 hL
            go_wp2_with (at_builtin; refine wpList_push rfl _ _ rfl w5 w.heap.size _ l v' hown5 hsz5 hL' rfl rfl ?_; refine Hid.out ?_)
            refine Nu.hid ?_
            intro lv' w6 hown6 hg6 hat6 hb6
            have HO6 := Nu.hid hown6
            have hfar : ∀ x, x < w.heap.size → some x ≠ (Value.slice (some ⟨gb, 0, none⟩) L gc).ownBlock := fun x hx e => by
              have := (World.ownsRow.lt hown5 x e.symm).1
              omega
            have h5a := H5.out.later ((Below.refl _ _).alloc (Nat.le_refl _) (.cells #[.int .i64 v'] 3))
            have hg5a := grownBy_alloc' HG5.out (.cells #[.int .i64 v'] 3)
            have hrd6 : Rtx w6 b ao n cap k' g := by
              refine ⟨h5a.rdr.kept hg6 (hfar b hbs), fun i hi => ?_, h5a.adr, h5a.len, h5a.fit, h5a.pos⟩
              obtain ⟨hb, tb, tq, e, hc⟩ := h5a.txt i hi
              exact ⟨hb, tb, tq, e, hg6.cell hc (hfar tb (by have := (h5a.adr _ e).1; dsimp only at this; omega))⟩
            have hg06 : w.grownBy w6 (some b) := ⟨hg6.os.trans hg5a.os, hg6.tape.trans hg5a.tape, hg6.output.trans hg5a.output, Nat.le_trans hg5a.size hg6.size, fun x hx hne => (hg6.block x (Nat.lt_of_lt_of_le hx hg5a.size) (hfar x hx)).trans (hg5a.block x hx hne)⟩
            have HR6 := Nu.hid hrd6
            have HG6 := Nu.hid hg06
            clear hown6 hg6 hat6 hb6 hown5 h5a hg5a hrd6 hg06 hcl
            go_wp2
            go_roundw
            case rel => exact ⟨k', f, l ++ [v'], by simp, by simp; have := HL.out; omega, by omega, HO6.out, HR6.out, HG6.out, HRN.out⟩
            case measure =>
              have e1 : posOf w6 b = k' := HR6.out.rdr.pos
              have e2 : posOf wr b = j := HP.out
              rw [e1, e2]
              omega
          · refine ⟨rfl, grownBy_trans HG4.out hg5, .inr ⟨j + 1, ?_, rfl⟩⟩
            rw [← HRJ.out]
            obtain ⟨f, rfl⟩ : ∃ f', f = f' + 1 := ⟨f - 1, by omega⟩
            exact Ce.lstF_bad hl0 (fun v k hm => by rw [HX.out]; exact hno v k hm)
        · clear hown hrt hgr
          go_wp2_with (go_at_call 29; refine (HRT.out.passNo h32).mono ?_; refine Hid.out ?_)
          refine Nu.hid ?_
          rintro e w4 ⟨rfl, hg4, h4⟩
          have hown4 := HO.out.kept hg4 (by omega)
          have HO4 := Nu.hid hown4
          have H4 := Nu.hid h4
          have HG4 := Nu.hid (grownBy_trans HGR.out hg4)
          clear hown4 h4 hg4
          by_cases h10 : Ce.atF n g j = 10
          · rw [if_pos h10] at hRj
            go_wp2_with (go_at_call 31; refine (H4.out.yes (by decide) h10).mono ?_; refine Hid.out ?_)
            refine Nu.hid ?_
            rintro e w5 ⟨rfl, hg5, h5⟩
            have hown5 := HO4.out.kept hg5 (by omega)
            go_wp2
            go_ret
            exact ⟨grownBy_trans HG4.out hg5, .inl ⟨l, j + 1, _, hRj.symm, rfl, hown5, h5.rdr, h5.pos⟩⟩
          · rw [if_neg h10, if_neg h32] at hRj
            go_wp2_with (go_at_call 31; refine (H4.out.no h10).mono ?_; refine Hid.out ?_)
            refine Nu.hid ?_
            rintro e w5 ⟨rfl, hg5⟩
            exact ⟨rfl, grownBy_trans HG4.out hg5, .inr ⟨j, hRj.symm, rfl⟩⟩
    · have hR := HR.out
      have hm : Ce.num (Ce.atF n g) n p = none := by
        cases hm : Ce.num (Ce.atF n g) n p with
        | none => rfl
        | some q =>
          have h1 := hno q.1 q.2 hm
          have h2 := (Ce.num_is (H1.out.pos) hm).1.1
          omega
      rw [Ce.lstF, hm] at hR
      exact ⟨rfl, grownBy_trans HG1.out hg2, .inr ⟨p, hR.symm, rfl⟩⟩
end Go.Proofs.YtodlejemkihjnaaDoor
