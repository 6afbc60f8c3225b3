import Derived.Test.YtdhaaodalchpkaaKvE
import Derived.Test.YtdhaaodalchpkaaMgI
import Derived.Maps.OwnSet
import Derived.DeepKeys4
import Derived.BigRegion
import Derived.Test.YtdhaaodalchpkaaKuQ
import Derived.Test.YtdhaaodalchpkaaMgU
/-
  Layer 15, the program: the map of open chains by their ends; spin.
-/
namespace Go.Proofs.Ytdhaaodalchpkaa
open Go.RowKit Go.Sort Go.Maps

theorem laidOutP : laidOutB Try.prog = true := by kernel_rfl
theorem rowPair : (50 : TypeId) < Try.prog.types.size := of_decide_eq_true (by kernel_rfl)
theorem widePair : (match Try.prog.underlying 50 with | some (.array _ _) | some (.struct _) => true | _ => false) = true := by kernel_rfl
theorem keyAtPair : Try.prog.keyTypeAt 2 50 = true := by kernel_rfl
set_option maxRecDepth 100000 in
theorem lawPair : Keyed Try.prog 50 := Keyed.of_law (deep_law_laid laidOutP (m := 2) (by omega) rowPair keyAtPair widePair)
theorem keyTypePair : Try.prog.keyType 50 = true := by kernel_rfl
theorem cellsPair : Try.prog.cellsOf 50 = 2 := by kernel_rfl
theorem pos_succP {a b : Nat} (h : a < b) : ∃ m, b = m + 1 := ⟨b - 1, by omega⟩
set_option maxRecDepth 100000 in
theorem typesPosP : ∃ m, Try.prog.types.size = m + 1 := pos_succP rowPair
theorem zeroInt15 (w : World) : (zeroValue 3).run Try.prog w = .ok (.int .i64 0) w := by kernel_rfl

def pairVal (e : Int × Int) : Value := .agg #[.int .i64 e.1, .int .i64 e.2]
def keyP (e : Int × Int) : Lit := .string (keyBytes [.int .i64 e.1, .int .i64 e.2])

theorem keyOf_pair {e : Int × Int} (h : In64 e) : keyOf Try.prog 50 (pairVal e) = some (keyP e) := by
  obtain ⟨m, hm⟩ := typesPosP
  have w1 := wf64 h.1
  have w2 := wf64 h.2
  unfold keyOf pairVal keyP
  simp only [Try.underlying50]
  rw [if_pos (by simp [keyTypePair, Value.formed, Try.underlying50, cellsPair]), hm]
  unfold Program.keyLits
  simp only [Try.underlying50, Value.cells]
  rw [if_pos (by rw [cellsPair]; rfl), show List.range 2 = [0, 1] from rfl]
  simp [cellsIntK, Program.keyLits, Try.underlying3, w1, w2]

theorem keyP_isKey (e : Int × Int) : WideAt.IsKeyLit (keyP e) := by unfold keyP; trivial
theorem keyP_inj {a b : Int × Int} (ha : In64 a) (hb : In64 b) (h : keyP a = keyP b) : a = b := by
  have h1 := keyOf_pair ha
  have h2 := keyOf_pair hb
  rw [← h] at h2
  have := lawPair.inj h1 h2
  unfold pairVal at this
  simp at this
  exact Prod.ext this.1 this.2

namespace Ku
/-- Block b is a map that has just what f says. -/
def OM (w : World) (b n : Nat) (f : Int × Int → Option Nat) : Prop := ∃ D : DataW Unit, w.ownsMap Try.prog 50 (plainElem Try.prog 3) b n D ∧ ∀ p, In64 p → Maps.has D (keyP p) = (f p).isSome ∧ D.atKey (keyP p) (.lit (.int .i64 0)) = .lit (.int .i64 (((f p).getD 0 : Nat) : Int))
def upO (f : Int × Int → Option Nat) (p : Int × Int) (i : Nat) : Int × Int → Option Nat := fun q => if q = p then some i else f q
section
variable {w w' : World} {b n : Nat} {f : Int × Int → Option Nat}
theorem OM.kept (h : OM w b n f) (hb : w'.heap[b]? = w.heap[b]?) : OM w' b n f := by
  obtain ⟨D, ⟨es, clock, h1, h2⟩, h3⟩ := h
  exact ⟨D, ⟨es, clock, hb.trans h1, h2⟩, h3⟩
theorem OM.lt (h : OM w b n f) : b < w.heap.size := by
  obtain ⟨D, h1, _⟩ := h
  exact h1.lt
theorem OM.later (h : OM w b n f) (hb : Below w.heap.size w w') : OM w' b n f := h.kept (hb.block b h.lt)
theorem OM.new (w : World) : OM (w.alloc (.map #[] 0)) w.heap.size 0 (fun _ => none) := ⟨.map [], World.ownsMap_made _ _ _ _, fun p _ => ⟨by simp [Maps.has], rfl⟩⟩
theorem OM.look1 (h : OM w b n f) {p : Int × Int} (hp : In64 p) : (Instr.lookup 68 (.map (some b)) (pairVal p) true).run Try.prog w = .ok (.tuple #[.int .i64 (((f p).getD 0 : Nat) : Int), .bool (f p).isSome]) w := by
  obtain ⟨D, hD, hf⟩ := h
  obtain ⟨v, ps, hrun, hv⟩ := hD.look_ok (t := 68) lawPair Try.underlying68 (zeroInt15 w) (plainElem_int Try.underlying3 (by decide)) (keyOf_pair hp)
  obtain ⟨c, rfl, hc, _⟩ := plainElem_int_inv Try.underlying3 hv
  obtain ⟨h1, h2⟩ := hf p hp
  rw [h1] at hrun
  have := congrArg Prod.fst hc
  dsimp only at this
  rw [h2] at this
  cases this
  exact hrun
theorem OM.look (h : OM w b n f) {p : Int × Int} (hp : In64 p) : ∃ c : Int, (Instr.lookup 68 (.map (some b)) (pairVal p) true).run Try.prog w = .ok (.tuple #[.int .i64 c, .bool (f p).isSome]) w ∧ ∀ i : Nat, f p = some i → c = (i : Int) := ⟨_, h.look1 hp, fun i hi => by rw [hi]; rfl⟩
theorem OM.put {D : DataW Unit} (hf : ∀ p, In64 p → Maps.has D (keyP p) = (f p).isSome ∧ D.atKey (keyP p) (.lit (.int .i64 0)) = .lit (.int .i64 (((f p).getD 0 : Nat) : Int))) (hD : IsMap D) {p : Int × Int} (hp : In64 p) (i : Nat) (h : w'.ownsMap Try.prog 50 (plainElem Try.prog 3) b (n + 1) (D.put (keyP p) (.lit (.int .i64 (i : Int))))) : OM w' b (n + 1) (upO f p i) := by
  refine ⟨_, h, fun q hq => ?_⟩
  unfold upO
  by_cases e : q = p
  · subst e
    rw [if_pos rfl, has_put_same hD (keyP_isKey q), atKey_put_same hD (keyP_isKey q)]
    exact ⟨rfl, rfl⟩
  · have hk : keyP q ≠ keyP p := fun h => e (keyP_inj hq hp h)
    rw [if_neg e, has_put_other hk, atKey_put_other hk]
    exact hf q hq
end

/-- The first and the last of a list. -/
def ends (l : List Int) : Int × Int := (gI l 0, gI l (l.length - 1))
/-- The place of the last open chain below k with these ends. -/
def opn (R : List (List Int)) : Nat → Int × Int → Option Nat
  | 0 => fun _ => none
  | k + 1 => if (ends (R.getD k [])).1 ≠ (ends (R.getD k [])).2 then upO (opn R k) (ends (R.getD k [])) k else opn R k
theorem opn_yes {R : List (List Int)} {k : Nat} {l : List Int} (hl : R[k]? = some l) (h : (ends l).1 ≠ (ends l).2) : opn R (k + 1) = upO (opn R k) (ends l) k := by
  have e : R.getD k [] = l := by rw [List.getD_eq_getElem?_getD, hl]; rfl
  simp only [opn]
  rw [e, if_pos h]
theorem opn_no {R : List (List Int)} {k : Nat} {l : List Int} (hl : R[k]? = some l) (h : (ends l).1 = (ends l).2) : opn R (k + 1) = opn R k := by
  have e : R.getD k [] = l := by rw [List.getD_eq_getElem?_getD, hl]; rfl
  simp only [opn]
  rw [e, if_neg (by simpa using h)]
theorem opn_some {R : List (List Int)} {p : Int × Int} {i : Nat} : ∀ {k : Nat}, k ≤ R.length → opn R k p = some i → i < k ∧ ∃ l, R[i]? = some l ∧ ends l = p ∧ p.1 ≠ p.2
  | 0, _, h => by cases h
  | k + 1, hk, h => by
    obtain ⟨l, hl⟩ : ∃ l, R[k]? = some l := ⟨_, List.getElem?_eq_getElem (by omega)⟩
    by_cases he : (ends l).1 = (ends l).2
    · rw [opn_no hl he] at h
      obtain ⟨h1, h2⟩ := opn_some (by omega) h
      exact ⟨by omega, h2⟩
    · rw [opn_yes hl he] at h
      unfold upO at h
      split at h
      · rename_i e
        cases h
        exact ⟨by omega, l, hl, e.symm, by rw [e]; exact he⟩
      · obtain ⟨h1, h2⟩ := opn_some (by omega) h
        exact ⟨by omega, h2⟩
theorem opn_none {R : List (List Int)} {p : Int × Int} : ∀ {k : Nat}, k ≤ R.length → opn R k p = none → p.1 ≠ p.2 → ∀ i l, i < k → R[i]? = some l → ends l ≠ p
  | 0, _, _, _, i, l, hi, _ => by omega
  | k + 1, hk, h, hp, i, l', hi, hl' => by
    obtain ⟨l, hl⟩ : ∃ l, R[k]? = some l := ⟨_, List.getElem?_eq_getElem (by omega)⟩
    by_cases he : (ends l).1 = (ends l).2
    · rw [opn_no hl he] at h
      by_cases hik : i = k
      · subst hik
        rw [hl] at hl'
        cases hl'
        intro e
        rw [e] at he
        exact hp he
      · exact opn_none (by omega) h hp i l' (by omega) hl'
    · rw [opn_yes hl he] at h
      unfold upO at h
      split at h
      · cases h
      · rename_i hne
        by_cases hik : i = k
        · subst hik
          rw [hl] at hl'
          cases hl'
          exact fun e => hne e.symm
        · exact opn_none (by omega) h hp i l' (by omega) hl'

/-- What spin answers. -/
def SpinP (R : List (List Int)) (cv : Value) (w : World) (e : Ending) (w' : World) : Prop := ∃ b, e = .returned (.agg #[cv, .map (some b)]) ∧ w.heap.size ≤ b ∧ OM w' b R.length (opn R R.length) ∧ Below w.heap.size w w'
end Ku

theorem results_pair15 {fn : Func} {p : Tmp} {ty : TypeId} {P : Program} (h : fn.results = #[.cell p ty]) (tmps : Array Value) (w : World) (b o : Nat) (x y : Value) (hp : tmps.getD p undef = .pointer (some ⟨b, o, none⟩)) (hc : w.cell? ⟨b, o, none⟩ = some x) (hd : w.cell? ⟨b, o + 1, none⟩ = some y) (hag : (isAgg ty).run P w = .ok true w) (hsz : (sizeOf ty).run P w = .ok 2 w) : (results fn tmps).run P w = .ok (.agg #[x, y]) w := by
  have hp' : tmps[p]?.getD undef = .pointer (some ⟨b, o, none⟩) := by simpa using hp
  simp [results, h, go_sem, hp', hc, hd, hag, hsz]

end Go.Proofs.Ytdhaaodalchpkaa

/-
  Layer 15, the program: spin.
-/
namespace Go.Proofs.Ytdhaaodalchpkaa
open Go.RowKit Go.Sort Go.Maps

namespace Ku
/-- Lists of vertices, none shorter than two. -/
def Small (R : List (List Int)) : Prop := R.length ≤ 4194304 ∧ ∀ l ∈ R, 2 ≤ l.length ∧ l.length ≤ 17592186044000 ∧ ∀ x ∈ l, 0 ≤ x ∧ x < 1048576
theorem OM.mono {w : World} {b n n' : Nat} {f : Int × Int → Option Nat} (h : OM w b n f) (hn : n ≤ n') : OM w b n' f := by
  obtain ⟨D, h1, h2⟩ := h
  exact ⟨D, h1.mono hn, h2⟩
theorem Small.ends {R : List (List Int)} (h : Small R) {l : List Int} (hl : l ∈ R) : In64 (ends l) := by
  obtain ⟨h1, _, h3⟩ := h.2 l hl
  have key : ∀ i, i < l.length → 0 ≤ gI l i ∧ gI l i < 1048576 := fun i hi => by
    obtain ⟨x, hx⟩ : ∃ x, l[i]? = some x := ⟨_, List.getElem?_eq_getElem hi⟩
    rw [gI_at hx]
    exact h3 x (List.mem_of_getElem? hx)
  have a := key 0 (by omega)
  have b := key (l.length - 1) (by omega)
  unfold In64 Ku.ends
  dsimp only
  omega
end Ku

theorem results_web {fn : Func} {P : Program} {p : Tmp} (h : fn.results = #[.cell p 70]) (hP : P = Try.prog) (tmps : Array Value) (w : World) (b : Nat) (x y : Value) (hp : tmps.getD p undef = .pointer (some ⟨b, 0, none⟩)) (h0 : w.cell? ⟨b, 0, none⟩ = some x) (h1 : w.cell? ⟨b, 1, none⟩ = some y) : (results fn tmps).run P w = .ok (.agg #[x, y]) w := by
  subst hP
  have hp' : tmps[p]?.getD undef = .pointer (some ⟨b, 0, none⟩) := by simpa using hp
  simp [results, h, go_sem, hp', h0, h1]
theorem set_two15 {w : World} {b : Nat} {s t : Value} (hs : w.cell? ⟨b, 0, none⟩ = some s) (ht : w.cell? ⟨b, 1, none⟩ = some t) (x y : Value) : ((w.setCell ⟨b, 0, none⟩ x).setCell ⟨b, 1, none⟩ y).cell? ⟨b, 0, none⟩ = some x ∧ ((w.setCell ⟨b, 0, none⟩ x).setCell ⟨b, 1, none⟩ y).cell? ⟨b, 1, none⟩ = some y := by
  refine ⟨?_, ?_⟩ <;> simp [go_sem, hs, ht]

set_option maxRecDepth 100000 in
set_option maxHeartbeats 8000000 in
theorem vspin_any (ca : Option Addr) (J cc : Nat) (R : List (List Int)) (w : World) (hJ : R.length = J) (hR : Ku.SeesL w (.slice ca J cc) R) (hS : Ku.Small R) :
    Calls Try.prog 30 #[.slice ca J cc] w (Ku.SpinP R (.slice ca J cc) w) := by
  obtain ⟨W0, hW0⟩ : ∃ W0, W0 = w.alloc (.cells #[.slice none 0 0, .map none] 70) := ⟨_, rfl⟩
  obtain ⟨W1, hW1⟩ : ∃ W1, W1 = W0.alloc (.map #[] 0) := ⟨_, rfl⟩
  obtain ⟨W, hW⟩ : ∃ W, W = W1.alloc (.cells #[.slice ca J cc, .map (some (w.heap.size + 1))] 70) := ⟨_, rfl⟩
  have hs0 : W0.heap.size = w.heap.size + 1 := by rw [hW0]; simp
  have hs1 : W1.heap.size = w.heap.size + 2 := by rw [hW1]; simp [hs0]
  have hB0 : Below w.heap.size w W0 := by rw [hW0]; exact (Below.refl _ _).alloc (Nat.le_refl _) _
  have hB1 : Below W0.heap.size W0 W1 := by rw [hW1]; exact (Below.refl _ _).alloc (Nat.le_refl _) _
  have hB2 : Below W1.heap.size W1 W := by rw [hW]; exact (Below.refl _ _).alloc (Nat.le_refl _) _
  have hBW : Below w.heap.size w W := (hB0.trans (hB1.mono hB0.size)).trans (hB2.mono (by omega))
  have g0 : W.heap[w.heap.size]? = some (.cells #[.slice none 0 0, .map none] 70 (0, 0)) := by
    rw [hB2.block _ (by omega), hB1.block _ (by omega), hW0]
    exact heap_alloc_new w _
  have g2 : W.heap[w.heap.size + 1 + 1]? = some (.cells #[.slice ca J cc, .map (some (w.heap.size + 1))] 70 (0, 0)) := by rw [hW, show w.heap.size + 1 + 1 = W1.heap.size by omega]; exact heap_alloc_new W1 _
  have hom : Ku.OM W (w.heap.size + 1) 0 (fun _ => none) := by
    have : Ku.OM W1 (w.heap.size + 1) 0 (fun _ => none) := by rw [hW1, ← hs0]; exact Ku.OM.new W0
    exact this.later hB2
  have hWs : w.heap.size + 1 + 1 < W.heap.size := lt_of_block g2
  have HW : Hid (W = ((w.alloc (.cells #[.slice none 0 0, .map none] 70)).alloc (.map #[] 0)).alloc (.cells #[.slice ca J cc, .map (some (w.heap.size + 1))] 70)) := by rw [hW, hW1, hW0]; exact Nu.hid rfl
  have HSEE : Hid (∀ U : World, Wrote (fun k => k = w.heap.size + 1) W U → Ku.SeesL U (.slice ca J cc) R) := fun U hU => hR.later (hBW.trans (hU.below (by omega) (fun k hk => by omega)))
  have HB : Hid (∀ U : World, Wrote (fun k => k = w.heap.size + 1) W U → Below w.heap.size w U) := fun U hU => hBW.trans (hU.below (by omega) (fun k hk => by omega))
  have HG0 : Hid (∀ U : World, Wrote (fun k => k = w.heap.size + 1) W U → U.heap[w.heap.size]? = some (.cells #[.slice none 0 0, .map none] 70 (0, 0))) := fun U hU => (hU.block _ (by omega) (by omega)).trans g0
  have HG2 : Hid (∀ U : World, Wrote (fun k => k = w.heap.size + 1) W U → U.heap[w.heap.size + 1 + 1]? = some (.cells #[.slice ca J cc, .map (some (w.heap.size + 1))] 70 (0, 0))) := fun U hU => (hU.block _ (by omega) (by omega)).trans g2
  have HOM := Nu.hid hom
  have HJ := Nu.hid hJ
  have hJl : J ≤ 4194304 := by rw [← hJ]; exact hS.1
  have HS := Nu.hid hS
  have hmm := @run_makeMap Try.prog
  clear hW hW1 hW0 hs0 hs1 hB0 hB1 hB2 hBW g0 g2 hom hR hJ hS
  go_enter Try.func30, Try.ntmps30
  go_wp2_with fail
  rw [← HW.out]
  clear hmm
  go_loopw [12] (fun cv wr => ∃ k : Nat, k ≤ J ∧ cv = .int .i64 (k : Int) ∧ Ku.OM wr (w.heap.size + 1) k (Ku.opn R k) ∧ Wrote (fun k => k = w.heap.size + 1) W wr) (fun cv _ => J - (intOf cv).toNat)
  case atStart => exact ⟨0, Nat.zero_le _, rfl, HOM.out, Wrote.refl _ _⟩
  case round =>
    obtain ⟨k, hk, rfl, hom, hwr⟩ := hrel
    obtain ⟨U, rfl⟩ : ∃ U, U = wr := ⟨wr, rfl⟩
    have HO := Nu.hid hom
    have HWR := Nu.hid hwr
    have hwk : IntKind.i64.wrap ((k : Int) + 1) = (k : Int) + 1 := by rw [IntKind.wrap_i64]; omega
    by_cases hlt : k < J
    · have hlti : (k : Int) < (J : Int) := by omega
      have hk0 : (0 : Int) ≤ (k : Int) := by omega
      obtain ⟨l, hl⟩ : ∃ l, R[k]? = some l := ⟨_, List.getElem?_eq_getElem (by rw [HJ.out]; exact hlt)⟩
      obtain ⟨ca', cc', hce, hrd⟩ := HSEE.out U hwr
      rw [HJ.out] at hce
      cases hce
      obtain ⟨gb, go', x, rfl, cx, xa, xc, rfl, hat⟩ := hrd k l hl
      obtain ⟨q, hq⟩ : ∃ q, l.length = q := ⟨_, rfl⟩
      rw [hq] at cx
      obtain ⟨hq2, hqb, -⟩ := HS.out.2 l (List.mem_of_getElem? hl)
      rw [hq] at hq2 hqb
      obtain ⟨q1, hq1⟩ : ∃ q1, q1 = q - 1 := ⟨_, rfl⟩
      obtain ⟨x0, hx0⟩ : ∃ x, l[0]? = some x := ⟨_, List.getElem?_eq_getElem (by omega)⟩
      obtain ⟨xn, hxn⟩ : ∃ x, l[q1]? = some x := ⟨_, List.getElem?_eq_getElem (by omega)⟩
      obtain ⟨b, o, rfl, e0⟩ := hat 0 x0 hx0
      obtain ⟨_, _, e, e1⟩ := hat q1 xn hxn
      cases e
      rw [Nat.add_zero] at e0
      have hw1 : IntKind.i64.wrap ((q : Int) - 1) = (q1 : Int) := by rw [IntKind.wrap_i64]; omega
      have i0 : (0 : Int) < (q : Int) := by omega
      have i2 : (0 : Int) ≤ (q1 : Int) := by omega
      have i3 : (q1 : Int) < (q : Int) := by omega
      have hends : Ku.ends l = (x0, xn) := by
        unfold Ku.ends
        rw [Ku.gI_at hx0, hq, ← hq1, Ku.gI_at hxn]
      have hin : In64 (x0, xn) := by rw [← hends]; exact HS.out.ends (List.mem_of_getElem? hl)
      have HKY := Nu.hid (keyOf_pair hin)
      unfold pairVal at HKY
      dsimp only at HKY
      obtain ⟨c0, c1, -⟩ := pair_cells (HG2.out U hwr)
      have HYES : Hid (x0 ≠ xn → Ku.opn R (k + 1) = Ku.upO (Ku.opn R k) (x0, xn) k) := fun h => by
        have := Ku.opn_yes hl (by rw [hends]; exact h)
        rw [hends] at this
        exact this
      have HNO : Hid (x0 = xn → Ku.opn R (k + 1) = Ku.opn R k) := fun h => Ku.opn_no hl (by rw [hends]; exact h)
      have HIN := Nu.hid hin
      clear hom hwr hl hrd hat hx0 hxn hq hq1 hends hin
      have hbU : b < U.heap.size := block_lt_of_cell e0
      have hbn : b ≠ U.heap.size := by omega
      go_wp2_with fail
      go_big_region
      obtain ⟨V, hV⟩ : ∃ V, V = (U.alloc (.cells #[.int .i64 x0, .int .i64 xn] 50)).drew := ⟨_, rfl⟩
      rw [← hV]
      have hbV : Below U.heap.size U V := by rw [hV]; exact ((Below.refl _ _).alloc (Nat.le_refl _) _).drew
      have gV : V.heap[U.heap.size]? = some (.cells #[.int .i64 x0, .int .i64 xn] 50 (0, 0)) := by rw [hV]; exact heap_alloc_new U _
      have hwV := HWR.out.later hbV
      have HWV := Nu.hid hwV
      have HOV := Nu.hid (HO.out.later hbV)
      clear c0 c1
      obtain ⟨c0, c1, -⟩ := pair_cells (HG2.out V hwV)
      obtain ⟨v0, v1, -⟩ := pair_cells gV
      clear hV hbV gV hwV e0 e1 cx hbU hbn
      by_cases hx : x0 = xn
      · have t1 : (x0 != xn) = false := by simp [hx]
        have HN := Nu.hid (HNO.out hx)
        clear hx
        go_wp2
        go_roundw
        case rel => exact ⟨k + 1, by omega, by go_num, by rw [HN.out]; exact HOV.out.mono (by omega), HWV.out⟩
        case measure => simp [intOf]; omega
      · have t1 : (x0 != xn) = true := by simp [hx]
        have HN := Nu.hid (HYES.out hx)
        obtain ⟨D, hD, hf⟩ := HOV.out
        have HD := Nu.hid hD
        have HF := Nu.hid hf
        clear hx hD hf
        go_wp2_with (at_mapUpdate; refine wpList_mapUpdate_in _ rfl _ _ _ 68 rfl 50 3 lawPair Try.underlying68 (plainElem Try.prog 3) (w.heap.size + 1) k D rfl HD.out (by unfold maxLen; omega) _ _ _ rfl rfl HKY.out (.lit (.int .i64 (k : Int))) [] (plainElem_int Try.underlying3 (wf64 (by omega))) ?_; refine Hid.out ?_)
        refine Nu.hid ?_
        intro w3 hown3 hturn3
        have HOM3 : Hid (Ku.OM w3 (w.heap.size + 1) (k + 1) (Ku.opn R (k + 1))) := by
          rw [HN.out]
          exact Ku.OM.put HF.out HD.out.isMap HIN.out k hown3
        have hg3 := hturn3.grown
        have HW3 : Hid (Wrote (fun k => k = w.heap.size + 1) W w3) := HWV.out.trans ⟨hg3.os, hg3.tape, hg3.output, hg3.size, fun j hj hne => hg3.block j hj (fun e => hne (Option.some.inj e))⟩
        clear hown3 hturn3 hg3
        go_wp2
        go_roundw
        case rel => exact ⟨k + 1, by omega, by go_num, HOM3.out, HW3.out⟩
        case measure => simp [intOf]; omega
    · have hd : ¬ ((k : Int) < (J : Int)) := by omega
      obtain rfl : k = J := by omega
      obtain ⟨c0, c1, -⟩ := pair_cells (HG2.out U hwr)
      obtain ⟨v0, v1, vf⟩ := pair_cells (HG0.out U hwr)
      have hv0 := vf 0
      have hv1 := vf 1
      have hne : w.heap.size ≠ w.heap.size + 1 + 1 := by omega
      clear hom hwr vf
      have HF0 : Hid (Ku.OM ((U.setCell ⟨w.heap.size, 0, none⟩ (.slice ca k cc)).setCell ⟨w.heap.size, 1, none⟩ (.map (some (w.heap.size + 1)))) (w.heap.size + 1) k (Ku.opn R k)) := HO.out.kept (by rw [heap_setCell_other _ ⟨w.heap.size, 1, none⟩ _ _ (by simp), heap_setCell_other _ ⟨w.heap.size, 0, none⟩ _ _ (by simp)])
      have HF1 : Hid (Below w.heap.size w ((U.setCell ⟨w.heap.size, 0, none⟩ (.slice ca k cc)).setCell ⟨w.heap.size, 1, none⟩ (.map (some (w.heap.size + 1))))) := ((HB.out U HWR.out).setCell (p := ⟨w.heap.size, 0, none⟩) (Nat.le_refl _) _).setCell (p := ⟨w.heap.size, 1, none⟩) (Nat.le_refl _) _
      go_wp2
      refine bodyPost_ret (results_web rfl rfl _ _ w.heap.size _ _ rfl (set_two15 v0 v1 _ _).1 (set_two15 v0 v1 _ _).2) rfl ?_
      refine ⟨w.heap.size + 1, rfl, by omega, ?_, HF1.out⟩
      rw [HJ.out]
      exact HF0.out
end Go.Proofs.Ytdhaaodalchpkaa

/-
  Layer 15, the program: from; the memory of kura's loop.
-/
namespace Go.Proofs.Ytdhaaodalchpkaa
open Go.RowKit Go.Sort Go.Maps

namespace Ku
/-- A list from this end of it. -/
def fromL (x : Int) (l : List Int) : List Int := if gI l 0 = x then l else l.reverse
/-- The lesser first. -/
def key (p : Int × Int) : Int × Int := if p.2 < p.1 then (p.2, p.1) else p
def idx (R : List (List Int)) (p : Int × Int) : Option Nat := opn R R.length (key p)
def pathOf (R : List (List Int)) (p : Int × Int) : List Int := fromL p.1 (R.getD ((idx R p).getD 0) [])
theorem idx_lt {R : List (List Int)} {p : Int × Int} {i : Nat} (h : idx R p = some i) : i < R.length := (opn_some (Nat.le_refl _) h).1
theorem idx_at {R : List (List Int)} {p : Int × Int} {i : Nat} (h : idx R p = some i) : ∃ l, R[i]? = some l ∧ ends l = key p ∧ (key p).1 ≠ (key p).2 := (opn_some (Nat.le_refl _) h).2
theorem pathOf_at {R : List (List Int)} {p : Int × Int} {i : Nat} {l : List Int} (h : idx R p = some i) (hl : R[i]? = some l) : pathOf R p = fromL p.1 l := by
  unfold pathOf
  rw [h, List.getD_eq_getElem?_getD]
  show fromL p.1 (R[i]?.getD []) = _
  rw [hl]
  rfl
theorem idx_ne {R : List (List Int)} {p q : Int × Int} {i : Nat} (hp : idx R p = some i) (hq : idx R q = some i) : key p = key q := by
  obtain ⟨l, h1, h2, _⟩ := idx_at hp
  obtain ⟨l', h3, h4, _⟩ := idx_at hq
  rw [h1] at h3
  cases h3
  rw [← h2, h4]
end Ku

set_option maxRecDepth 100000 in
set_option maxHeartbeats 4000000 in
theorem vfrom_any (B : Nat) (ao : Option Addr) (q c : Nat) (x : Int) (l : List Int) (w : World) (hq : l.length = q) (h : OwnZ w B (.slice ao q c) l) (h2 : 1 ≤ q) (hl : q ≤ 17592186044000) :
    Calls Try.prog 65 #[.int .i64 x, .slice ao q c] w fun e w' => e = .returned (.slice ao q c) ∧ OwnZ w' B (.slice ao q c) (Ku.fromL x l) ∧ w.grownBy w' (Value.slice ao q c).ownBlock := by
  obtain ⟨ao', c', e, hat, -⟩ := h.form
  rw [hq] at e
  cases e
  obtain ⟨x0, hx0⟩ : ∃ x, l[0]? = some x := ⟨_, List.getElem?_eq_getElem (by omega)⟩
  obtain ⟨b, o, rfl, e0⟩ := hat 0 x0 hx0
  rw [Nat.add_zero] at e0
  have i0 : (0 : Int) < (q : Int) := by omega
  have hlne : l ≠ [] := fun e => by rw [e] at hq; simp at hq; omega
  have HRV := Nu.hid (vreverse_any B _ l w h hlne (by omega))
  have HOWN := Nu.hid h
  have HG := Ku.gI_at hx0
  by_cases hc : x0 = x
  · have t1 : (x0 != x) = false := by simp [hc]
    have HF : Hid (Ku.fromL x l = l) := by
      refine Nu.hid ?_
      unfold Ku.fromL
      rw [HG, if_pos hc]
    clear h hat hx0 hlne HG hc
    go_enter Try.func65, Try.ntmps65
    go_wp2
    go_ret
    exact ⟨rfl, by rw [HF.out]; exact HOWN.out, rfl, rfl, rfl, Nat.le_refl _, fun _ _ _ => rfl⟩
  · have t1 : (x0 != x) = true := by simp [hc]
    have HF : Hid (Ku.fromL x l = l.reverse) := by
      refine Nu.hid ?_
      unfold Ku.fromL
      rw [HG, if_neg hc]
    clear h hat hx0 hlne HG hc
    go_enter Try.func65, Try.ntmps65
    go_wp2_with (go_at_call 57; refine HRV.out.mono ?_; rintro e w3 ⟨rfl, ho, hgr⟩; refine Hid.out ?_)
    refine Nu.hid ?_
    have HO := Nu.hid ho
    have HGR := Nu.hid hgr
    clear ho hgr
    go_wp2
    go_ret
    exact ⟨rfl, by rw [HF.out]; exact HO.out, HGR.out⟩

namespace Ku
/-- The memory of kura's loop: the chains' lists, some of them turned about; the paths so far. -/
structure KvM (B : Nat) (cv : Value) (cs : List Value) (R : List (List Int)) (ps : List (Int × Int)) (W : World) (k : Nat) (pv : Value) (vs : List Value) (U : World) : Prop where
  cur : ∃ C, RowsZ U B cv cs C ∧ C.length = R.length ∧ ∀ i l, R[i]? = some l → (∀ t p, t < k → ps[t]? = some p → idx R p ≠ some i) → C[i]? = some l
  pz : RowsZ U B pv vs ((ps.take k).map (pathOf R))
  link : ∀ t x, vs[t]? = some x → ∃ p i, ps[t]? = some p ∧ t < k ∧ idx R p = some i ∧ cs[i]? = some x
  own : ∀ b, pv.ownBlock = some b → W.heap.size ≤ b
  wr : Wrote (fun b => inV cs b ∨ W.heap.size ≤ b) W U
section
variable {B : Nat} {cv : Value} {cs : List Value} {R : List (List Int)} {ps : List (Int × Int)} {W : World} {k : Nat} {pv : Value} {vs : List Value} {U : World}
theorem KvM.later {V : World} (h : KvM B cv cs R ps W k pv vs U) (hb : Below U.heap.size U V) : KvM B cv cs R ps W k pv vs V := by
  obtain ⟨C, hC, hl, hc⟩ := h.cur
  exact ⟨⟨C, hC.later hb, hl, hc⟩, h.pz.later hb, h.link, h.own, h.wr.later hb⟩
/-- The k-th pair's chain as it lies there. -/
theorem KvM.look (h : KvM B cv cs R ps W k pv vs U) (hd : ∀ (t t' : Nat) (p p' : Int × Int), t ≠ t' → ps[t]? = some p → ps[t']? = some p' → key p ≠ key p') {p : Int × Int} {i : Nat} {l : List Int} (hp : ps[k]? = some p) (hi : idx R p = some i) (hl : R[i]? = some l) :
    ∃ x, cs[i]? = some x ∧ OwnZ U B x l ∧ (∃ g c, cv = .slice (some ⟨g, 0, none⟩) R.length c ∧ U.cell? ⟨g, i, none⟩ = some x) ∧ (∀ b, x.ownBlock = some b → ¬ inV vs b) := by
  obtain ⟨C, hC, hCl, hc⟩ := h.cur
  have hno : ∀ t q, t < k → ps[t]? = some q → idx R q ≠ some i := fun t q ht hq e => hd t k q p (by omega) hq hp (idx_ne e hi)
  have hCi := hc i l hl hno
  obtain ⟨x, hx⟩ := hC.at' hCi
  refine ⟨x, hx, hC.row i x l hx hCi, ?_, fun b hb hin => ?_⟩
  · obtain ⟨g, c, e, hcell⟩ := krow_at hC hx
    rw [hCl] at e
    exact ⟨g, c, e, hcell⟩
  · obtain ⟨t, y, hy, hyb⟩ := hin
    obtain ⟨q, j, hq, ht, hj, hcj⟩ := h.link t y hy
    have hij : i ≠ j := fun e => by
      subst e
      exact hno t q ht hq hj
    exact hC.apart i j x y b hij hx hcj hb hyb
/-- One path more. -/
theorem KvM.step {U2 X w4 : World} {p : Int × Int} {i : Nat} {l : List Int} {x pv' : Value} (h : KvM B cv cs R ps W k pv vs U) (hW : ∀ b, (cv.ownBlock = some b ∨ inV cs b) → b < W.heap.size) (hd : ∀ (t t' : Nat) (p p' : Int × Int), t ≠ t' → ps[t]? = some p → ps[t']? = some p' → key p ≠ key p') (hp : ps[k]? = some p) (hi : idx R p = some i) (hl : R[i]? = some l) (hx : cs[i]? = some x) (hxv : ∀ b, x.ownBlock = some b → ¬ inV vs b)
    (hg : U.grownBy U2 x.ownBlock) (hO : OwnZ U2 B x (fromL p.1 l)) (hX : Below U2.heap.size U2 X) :
    RowsZ X B pv vs ((ps.take k).map (pathOf R)) ∧ OwnZ X B x (fromL p.1 l) ∧ (∀ b, x.ownBlock = some b → ¬ (pv.ownBlock = some b ∨ inV vs b)) ∧
    (RowsZ w4 B pv' (vs ++ [x]) ((ps.take k).map (pathOf R) ++ [fromL p.1 l]) → X.grownBy w4 pv.ownBlock → (pv'.ownBlock = pv.ownBlock ∨ pv'.ownBlock = some X.heap.size) → KvM B cv cs R ps W (k + 1) pv' (vs ++ [x]) w4) := by
  obtain ⟨C, hC, hCl, hc⟩ := h.cur
  have hxl : ∀ b, x.ownBlock = some b → b < W.heap.size := fun b hb => hW b (.inr ⟨i, x, hx, hb⟩)
  have hxp : ∀ b, x.ownBlock = some b → pv.ownBlock ≠ some b := fun b hb e => by
    have := h.own b e
    have := hxl b hb
    omega
  have hpz : RowsZ X B pv vs ((ps.take k).map (pathOf R)) := (h.pz.kept fun b hb hlt => hg.block b hlt (fun e => by
    rcases hb with hb | hb
    · exact hxp b e.symm hb
    · exact hxv b e.symm hb)).later hX
  refine ⟨hpz, hO.later hX, fun b hb hor => ?_, fun hR4 hg4 hat => ?_⟩
  · rcases hor with hor | hor
    · exact hxp b hb hor
    · exact hxv b hb hor
  · have hsU := hg.size
    have hsX := hX.size
    have hs4 := hg4.size
    have hWU := h.wr.size
    have keep : ∀ b, b < U.heap.size → x.ownBlock ≠ some b → pv.ownBlock ≠ some b → w4.heap[b]? = U.heap[b]? := fun b hb h1 h2 => by
      rw [hg4.block b (by omega) (fun e => h2 e.symm), hX.block b (by omega), hg.block b hb (fun e => h1 e.symm)]
    have hOw : OwnZ w4 B x (fromL p.1 l) := (hO.later hX).same fun b hb hlt => hg4.block b hlt (fun e => hxp b hb e.symm)
    have hCi : C[i]? = some l := hc i l hl fun t q ht hq e => hd t k q p (by omega) hq hp (idx_ne e hi)
    have hCl' := (List.getElem?_eq_some_iff.1 hCi).1
    refine ⟨⟨C.set i (fromL p.1 l), ?_, by rw [List.length_set]; exact hCl, ?_⟩, ?_, ?_, ?_, ?_⟩
    · refine ⟨by rw [List.length_set]; exact hC.len, ?_, ?_, hC.apart, hC.far⟩
      · rw [List.length_set]
        exact row_same hC.outer fun b hb _ hlt => keep b hlt (fun e => hC.far i x b hx e hb) (fun e => by
          have a1 := h.own b e
          have a2 := hW b (.inl hb)
          omega)
      · intro u y m hy hm
        by_cases hui : u = i
        · subst hui
          rw [hx] at hy
          cases hy
          rw [List.getElem?_set_self hCl'] at hm
          cases hm
          exact hOw
        · rw [List.getElem?_set_ne (Ne.symm hui)] at hm
          refine (hC.row u y m hy hm).same fun b hb hlt => keep b hlt (fun e => hC.apart u i y x b hui hy hx hb e) (fun e => ?_)
          have a1 := h.own b e
          have a2 := hW b (.inr ⟨u, y, hy, hb⟩)
          omega
    · intro j m hm hno
      have hij : j ≠ i := fun e => hno k p (by omega) hp (by rw [e]; exact hi)
      rw [List.getElem?_set_ne (Ne.symm hij)]
      exact hc j m hm fun t q ht hq => hno t q (by omega) hq
    · have e : (ps.take (k + 1)).map (pathOf R) = (ps.take k).map (pathOf R) ++ [fromL p.1 l] := by
        rw [List.take_add_one, hp, List.map_append]
        show _ ++ [pathOf R p] = _
        rw [pathOf_at hi hl]
      rw [e]
      exact hR4
    · intro t y hy
      have hvl := h.pz.len
      rw [List.length_map, List.length_take] at hvl
      have hkp := (List.getElem?_eq_some_iff.1 hp).1
      by_cases ht : t < vs.length
      · rw [List.getElem?_append_left ht] at hy
        obtain ⟨q, j, h1, h2, h3, h4⟩ := h.link t y hy
        exact ⟨q, j, h1, by omega, h3, h4⟩
      · have ht2 := (List.getElem?_eq_some_iff.1 hy).1
        simp at ht2
        have : t = k := by omega
        subst this
        rw [List.getElem?_append_right (by omega)] at hy
        rw [show t - vs.length = 0 by omega] at hy
        cases hy
        exact ⟨p, i, hp, by omega, hi, hx⟩
    · intro b hb
      rcases hat with e | e
      · exact h.own b (e ▸ hb)
      · rw [e] at hb
        cases hb
        omega
    · refine h.wr.trans ⟨?_, ?_, ?_, by omega, fun b hb hne => keep b hb (fun e => hne (.inl ⟨i, x, hx, e⟩)) (fun e => hne (.inr (h.own b e)))⟩
      · rw [hg4.os, hX.os, hg.os]
      · rw [hg4.tape, hX.tape, hg.tape]
      · rw [hg4.output, hX.output, hg.output]
end
end Ku
end Go.Proofs.Ytdhaaodalchpkaa
