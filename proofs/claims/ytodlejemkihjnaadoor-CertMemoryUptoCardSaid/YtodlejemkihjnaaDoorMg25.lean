import Derived.Test.YtodlejemkihjnaaDoorMg24
import Derived.Test.YtodlejemkihjnaaDoorMg23
import Derived.Defers
import Derived.Recover
/-
  The program's reader: all lines of lists, all lines of edges.
-/
namespace Go.Proofs.YtodlejemkihjnaaDoor
open Go.RowKit

section
variable {w : World} {b : Nat} {ao : Option Addr} {n cap p : Nat} {g : Nat → Int}
theorem Rtx.cntYes (h : Rtx w b ao n cap p g) {most k : Int} {j : Nat} (hm : Ce.cnt (Ce.atF n g) n most p = .ok (k, j)) :
    Calls Tryd.prog 35 #[.pointer (some ⟨b, 0, none⟩), .int .i64 most] w fun e w' => e = .returned (.int .i64 k) ∧ w.grownBy w' (some b) ∧ Rtx w' b ao n cap j g :=
  (count17_any h most).mono fun _ _ ⟨hg, hx⟩ => by
    rcases hx with ⟨a, q, v, h1, h2, ⟨rfl, -⟩, h3, h4⟩ | ⟨q, h1, -⟩
    · rw [hm] at h1
      cases h1
      exact ⟨h2, hg, h.next hg h3 h4⟩
    · rw [hm] at h1
      cases h1
theorem Rtx.cntNo (h : Rtx w b ao n cap p g) {most : Int} {q : Nat} (hm : Ce.cnt (Ce.atF n g) n most p = .error q) :
    Calls Tryd.prog 35 #[.pointer (some ⟨b, 0, none⟩), .int .i64 most] w fun e w' => e = faultAt q ∧ w.grownBy w' (some b) :=
  (count17_any h most).mono fun _ _ ⟨hg, hx⟩ => by
    rcases hx with ⟨a, q, v, h1, -⟩ | ⟨q, h1, h2⟩
    · rw [hm] at h1
      cases h1
    · rw [hm] at h1
      cases h1
      exact ⟨h2, hg⟩
theorem Rtx.lstYes (h : Rtx w b ao n cap p g) {l : List Int} {j : Nat} (hm : Ce.lst (Ce.atF n g) n p = .ok (l, j)) :
    Calls Tryd.prog 36 #[.pointer (some ⟨b, 0, none⟩)] w fun e w' => ∃ xa xc, e = .returned (.slice xa l.length xc) ∧ w.grownBy w' (some b) ∧ OwnZ w' w.heap.size (.slice xa l.length xc) l ∧ Rtx w' b ao n cap j g :=
  (list17_any h).mono fun _ _ ⟨hg, hx⟩ => by
    rcases hx with ⟨a, q, v, h1, h2, h3, h4, h5⟩ | ⟨q, h1, -⟩
    · rw [hm] at h1
      cases h1
      obtain ⟨xa, xc, rfl, -, -⟩ := h3.form
      exact ⟨xa, xc, h2, hg, h3, h.next hg h4 h5⟩
    · rw [hm] at h1
      cases h1
theorem Rtx.lstNo (h : Rtx w b ao n cap p g) {q : Nat} (hm : Ce.lst (Ce.atF n g) n p = .error q) :
    Calls Tryd.prog 36 #[.pointer (some ⟨b, 0, none⟩)] w fun e w' => e = faultAt q ∧ w.grownBy w' (some b) :=
  (list17_any h).mono fun _ _ ⟨hg, hx⟩ => by
    rcases hx with ⟨a, q, v, h1, -⟩ | ⟨q, h1, h2⟩
    · rw [hm] at h1
      cases h1
    · rw [hm] at h1
      cases h1
      exact ⟨h2, hg⟩
theorem Rtx.edgYes (h : Rtx w b ao n cap p g) {la lb u v : Int} {j : Nat} (hm : Ce.edg (Ce.atF n g) n p (la, lb) = .ok ((u, v), j)) :
    Calls Tryd.prog 37 #[.pointer (some ⟨b, 0, none⟩), .agg #[.int .i64 la, .int .i64 lb]] w fun e w' => e = .returned (.agg #[.int .i64 u, .int .i64 v]) ∧ w.grownBy w' (some b) ∧ Rtx w' b ao n cap j g :=
  (edge17_any h la lb).mono fun _ _ ⟨hg, hx⟩ => by
    rcases hx with ⟨a, q, v, h1, h2, rfl, h4, h5⟩ | ⟨q, h1, -⟩
    · rw [hm] at h1
      cases h1
      exact ⟨h2, hg, h.next hg h4 h5⟩
    · rw [hm] at h1
      cases h1
theorem Rtx.edgNo (h : Rtx w b ao n cap p g) {la lb : Int} {q : Nat} (hm : Ce.edg (Ce.atF n g) n p (la, lb) = .error q) :
    Calls Tryd.prog 37 #[.pointer (some ⟨b, 0, none⟩), .agg #[.int .i64 la, .int .i64 lb]] w fun e w' => e = faultAt q ∧ w.grownBy w' (some b) :=
  (edge17_any h la lb).mono fun _ _ ⟨hg, hx⟩ => by
    rcases hx with ⟨a, q, v, h1, -⟩ | ⟨q, h1, h2⟩
    · rw [hm] at h1
      cases h1
    · rw [hm] at h1
      cases h1
      exact ⟨h2, hg⟩
end

/-- 'append(p, x)', p a proof's lists. -/
theorem wpList_pushP17 {ops : Array Oper} {rest : List Oper} {o : Oper} {a : Act} {Q : Exit → Act → World → Prop} (hgd : o.guard = none) (s x : Operand)
    (ho : o.op = .call { callee := .builtin .append, args := #[s, x], argTypes := #[60, 60] }) (W : World) (B : Nat) (v : Value) (vs : List Value) (m : Nat) (xa : Option Addr) (xn xc : Nat) (hown : W.ownsRow B 39 1 v m vs)
    (hB : B ≤ W.heap.size) (hl : m ≤ 4398046511000) (hs : a.eval s = v) (hx : a.eval x = .slice (some ⟨W.heap.size, 0, none⟩) 1 1)
    (h : ∀ v' w', w'.ownsRow B 39 1 v' (m + 1) (vs ++ [.slice xa xn xc]) → (W.alloc (.cells #[.slice xa xn xc] 39)).grownBy w' v.ownBlock → (v'.ownBlock = v.ownBlock ∨ v'.ownBlock = some (W.heap.size + 1)) → wpList Tryd.prog ops Q rest (a.put o.dst v') w') :
    wpList Tryd.prog ops Q (o :: rest) a (W.alloc (.cells #[.slice xa xn xc] 39)) := by
  obtain ⟨i1, hi1, hy0, hy1, hy2⟩ := info_parts Tryd.infoRow
  refine wpList_append_own_at _ hgd s x 60 ho B 39 i1 (.slice none 0 0) 1 24 Tryd.underlying60 hi1 hy0 hy1 hy2 rfl (by decide) _ _ _ hs (World.ownsRow.alloc hown _) ⟨W.heap.size, 0, none⟩ 1 1 [.slice xa xn xc] hx rfl (cell_one_new _ _ _) (by simp [Value.oneCell']) (by unfold maxLen; omega) (by omega) (by simp; omega) ?_
  intro v' w' hown' hg _ h5
  rw [World.size_alloc] at h5
  exact h v' w' hown' hg h5
/-- 'append(p, e)', p a proof's edges. -/
theorem wpList_pushQ17 {ops : Array Oper} {rest : List Oper} {o : Oper} {a : Act} {Q : Exit → Act → World → Prop} (hgd : o.guard = none) (s x : Operand)
    (ho : o.op = .call { callee := .builtin .append, args := #[s, x], argTypes := #[61, 61] }) (W : World) (B : Nat) (v : Value) (l : List (Int × Int)) (y z : Int) (hown : OwnE W B v l)
    (hB : B ≤ W.heap.size) (hl : l.length ≤ 8796093022000) (hs : a.eval s = v) (hx : a.eval x = .slice (some ⟨W.heap.size, 0, none⟩) 1 1)
    (h : ∀ v' w', OwnE w' B v' (l ++ [(y, z)]) → (W.alloc (.cells #[.int .i64 y, .int .i64 z] 41)).grownBy w' v.ownBlock → wpList Tryd.prog ops Q rest (a.put o.dst v') w') :
    wpList Tryd.prog ops Q (o :: rest) a (W.alloc (.cells #[.int .i64 y, .int .i64 z] 41)) := by
  obtain ⟨i0, hi, hz0, hz1, hz2⟩ := info_parts Tryd.infoEdge
  refine wpList_append_own _ hgd s x 61 ho B 41 i0 (.agg #[.int .i64 0, .int .i64 0]) 2 16 Tryd.underlying61 hi hz0 hz1 hz2 rfl (by decide) _ _ _ hs (World.ownsRow.alloc hown _) ⟨W.heap.size, 0, none⟩ 1 1 [.int .i64 y, .int .i64 z] hx rfl (new_two_e _ _ rfl _ _ _) (by simp [Value.oneCell']) (by unfold maxLen; omega) (by omega) (by simp; omega) ?_
  intro v' w' hown' hg _
  refine h v' w' ?_ hg
  unfold OwnE
  rw [flatE_snoc, List.length_append]
  exact hown'

/-- The reader is far from what is appended to. -/
theorem Rtx.appended {w w2 : World} {b B : Nat} {ao : Option Addr} {n cap p : Nat} {g : Nat → Int} {o : Obj} {r : Option Nat} (h : Rtx w b ao n cap p g) (hg : (w.alloc o).grownBy w2 r) (hr : ∀ x, r = some x → B ≤ x) (hb : b < B) : Rtx w2 b ao n cap p g := by
  have ha := h.later ((Below.refl _ _).alloc (Nat.le_refl _) o)
  have hfar : ∀ x, x < B → some x ≠ r := fun x hx e => by have := hr x e.symm; omega
  refine ⟨ha.rdr.kept hg (hfar b hb), fun i hi => ?_, ha.adr, ha.len, ha.fit, ha.pos⟩
  obtain ⟨hb', tb, tq, e, hc⟩ := ha.txt i hi
  exact ⟨hb', tb, tq, e, hg.cell hc (hfar tb (by have := (ha.adr _ e).1; dsimp only at this; omega))⟩
theorem grownBy_appended {w W w2 : World} {o : Obj} {r : Option Nat} {b : Nat} (h : w.grownBy W (some b)) (hg : (W.alloc o).grownBy w2 r) (hr : ∀ x, r = some x → w.heap.size ≤ x) : w.grownBy w2 (some b) := by
  have ha := grownBy_alloc' h o
  refine ⟨hg.os.trans ha.os, hg.tape.trans ha.tape, hg.output.trans ha.output, Nat.le_trans ha.size hg.size, fun k hk hne => ?_⟩
  rw [hg.block k (Nat.lt_of_lt_of_le hk ha.size) (fun e => by have := hr k e.symm; omega)]
  exact ha.block k hk hne
theorem RowsZ.keptR {w w' : World} {B b : Nat} {v : Value} {vs : List Value} {ls : List (List Int)} (h : RowsZ w B v vs ls) (hg : w.grownBy w' (some b)) (hb : b < B) : RowsZ w' B v vs ls :=
  h.same fun k h1 h2 => hg.block k h2 (by simp; omega)
theorem OwnE.keptR {w w' : World} {B b : Nat} {v : Value} {es : List (Int × Int)} (h : OwnE w B v es) (hg : w.grownBy w' (Option.some b)) (hb : b < B) : OwnE w' B v es :=
  row_same h fun k _ h1 h2 => hg.block k h2 (by simp; omega)

/-- Lists, as many as the head says. -/
def Ce.rds (B : Nat → Int) (n i : Nat) : Except Nat (List (List Int) × Nat) := match Ce.cnt B n 1048576 i with | .error e => .error e | .ok (k, j) => Ce.lists B n k.toNat [] j
def Ce.prt (B : Nat → Int) (n i : Nat) : Except Nat (List (Int × Int) × Nat) := match Ce.cnt B n 4194304 i with | .error e => .error e | .ok (k, j) => Ce.edges B n k.toNat [] (0, 0) j
theorem Ce.cnt_le {B : Nat → Int} {n i j : Nat} {most k : Int} (hi : i + 1 ≤ n) (h : Ce.cnt B n most i = .ok (k, j)) : 0 ≤ k ∧ k ≤ most := by
  unfold Ce.cnt at h
  split at h
  · cases h
  · cases hm : Ce.num B n (i + 1) with
    | none => rw [hm] at h; cases h
    | some q =>
      obtain ⟨k', e⟩ := q
      rw [hm] at h
      dsimp only at h
      have := (Ce.num_is hi hm).1.1
      split at h
      · cases h
      · split at h
        · cases h
        · cases h
          omega
theorem Ce.cnt_in {B : Nat → Int} {n i j : Nat} {most k : Int} (hT : Ce.Txt B n) (h : Ce.cnt B n most i = .ok (k, j)) : i + 1 ≤ n := by
  unfold Ce.cnt at h
  split at h
  · cases h
  · rename_i h32
    exact Ce.in_of hT (Classical.byContradiction h32 : B i = 32) (by decide)

set_option maxHeartbeats 4000000 in
set_option maxRecDepth 100000 in
theorem rounds17_any {b : Nat} {ao : Option Addr} {n cap p : Nat} {g : Nat → Int} {w : World} (h : Rtx w b ao n cap p g) :
    Calls Tryd.prog 30 #[.pointer (some ⟨b, 0, none⟩)] w (RdP (Ce.rds (Ce.atF n g) n p) (fun ls w' v => ∃ vs, RowsZ w' w.heap.size v vs ls) b ao n cap w) := by
  have hbs := h.rdr.lt
  obtain ⟨R, hR⟩ : ∃ R, Ce.rds (Ce.atF n g) n p = R := ⟨_, rfl⟩
  rw [hR]
  unfold Ce.rds at hR
  have H := Nu.hid h
  cases hm : Ce.cnt (Ce.atF n g) n 1048576 p with
  | error q =>
    rw [hm] at hR
    clear h
    go_enter Tryd.func30, Tryd.ntmps30
    go_wp2_with (go_at_call 35; refine (H.out.cntNo hm).mono ?_; rintro e w1 ⟨he, hg1⟩; rw [faultAt] at he; subst he)
    exact ⟨rfl, hg1, .inr ⟨q, hR.symm, rfl⟩⟩
  | ok q =>
    obtain ⟨k, j⟩ := q
    rw [hm] at hR
    dsimp only at hR
    obtain ⟨k0, k1⟩ := Ce.cnt_le (Ce.cnt_in h.txt.txt hm) hm
    obtain ⟨K, rfl⟩ : ∃ K : Nat, k = (K : Int) := ⟨k.toNat, by omega⟩
    rw [Int.toNat_natCast] at hR
    have HR := Nu.hid hR
    clear hR h k0
    go_enter Tryd.func30, Tryd.ntmps30
    go_wp2_with (go_at_call 35; refine (H.out.cntYes hm).mono ?_; rintro e w1 ⟨rfl, hg1, h1⟩; have HG1 := Nu.hid hg1; have H1 := Nu.hid h1; clear hg1 h1)
    go_loopw [3, 6] (fun va iv wr => ∃ (i q : Nat) (vs : List Value) (ls : List (List Int)), i ≤ K ∧ iv = .int .i64 (i : Int) ∧ ls.length = i ∧ RowsZ wr w.heap.size va vs ls ∧ Rtx wr b ao n cap q g ∧ w.grownBy wr (some b) ∧ Ce.lists (Ce.atF n g) n (K - i) ls q = R) (fun _ iv _ => K - (intOf iv).toNat)
    case atStart => exact ⟨0, j, [], [], Nat.zero_le _, rfl, rfl, RowsZ.nil _ _, H1.out, HG1.out, HR.out⟩
    case round =>
      obtain ⟨_, q, vs, ls, hi, rfl, rfl, hrows, hrt, hgr, hRi⟩ := hrel
      have HRW := Nu.hid hrows
      have HRT := Nu.hid hrt
      have HGR := Nu.hid hgr
      have hszr := hgr.size
      obtain ⟨va0, vc0, rfl⟩ := row_shape hrows
      clear hrows hrt hgr
      by_cases hlt : ls.length < K
      · have hlti : (ls.length : Int) < (K : Int) := by omega
        obtain ⟨d, hd⟩ : ∃ d, K - ls.length = d + 1 := ⟨K - ls.length - 1, by omega⟩
        rw [hd] at hRi
        have hRi : (match Ce.lst (Ce.atF n g) n q with | .error e => .error e | .ok (l, j) => Ce.lists (Ce.atF n g) n d (ls ++ [l]) j) = R := hRi
        cases hm2 : Ce.lst (Ce.atF n g) n q with
        | error x =>
          rw [hm2] at hRi
          go_wp2_with (go_at_call 36; refine (HRT.out.lstNo hm2).mono ?_; rintro e w2 ⟨he, hg2⟩; rw [faultAt] at he; subst he)
          exact ⟨rfl, grownBy_trans HGR.out hg2, .inr ⟨x, hRi.symm, rfl⟩⟩
        | ok x =>
          obtain ⟨l, q2⟩ := x
          rw [hm2] at hRi
          dsimp only at hRi
          have HRI := Nu.hid hRi
          clear hRi
          go_wp2_with (first | (go_at_call 36; refine (HRT.out.lstYes hm2).mono ?_; rintro e w2 ⟨xa, xc, rfl, hg2, hx, h2⟩; have HG2 := Nu.hid hg2; have HX := Nu.hid hx; have H2 := Nu.hid h2; have HRW2 := Nu.hid (HRW.out.keptR hg2 hbs); have hsz2 := hg2.size; clear hg2 hx h2) | (at_builtin; refine wpList_pushP17 rfl _ _ rfl w2 w.heap.size _ vs ls.length xa l.length xc HRW2.out.outer (by omega) (by omega) rfl rfl ?_; refine Hid.out ?_))
          refine Nu.hid ?_
          intro v' w3 ho3 hg3 hat3
          have hlow : ∀ x, (Value.slice va0 ls.length vc0).ownBlock = some x → w.heap.size ≤ x := fun x e => (World.ownsRow.lt HRW2.out.outer x e).1
          have hrowlt : ∀ (u : Nat) (y : Value) (c : Nat), vs[u]? = some y → y.ownBlock = some c → c < wr.heap.size := fun u y c hy hc => by
            obtain ⟨m, hm⟩ := HRW.out.at hy
            exact (World.ownsRow.lt (HRW.out.row u y m hy hm) c hc).2
          have houtlt : ∀ c, (Value.slice va0 ls.length vc0).ownBlock = some c → c < wr.heap.size := fun c hc => (World.ownsRow.lt HRW.out.outer c hc).2
          have hxlo : ∀ c, (Value.slice xa l.length xc).ownBlock = some c → wr.heap.size ≤ c := fun c hc => (World.ownsRow.lt HX.out c hc).1
          have HR3 := Nu.hid (HRW2.out.grow (HX.out.lower hszr) (fun u y c hy hc hxc => by have := hrowlt u y c hy hc; have := hxlo c hxc; omega) (fun c hc hxc => by have := houtlt c hc; have := hxlo c hxc; omega) ho3 hg3 hat3)
          have H3 := Nu.hid (H2.out.appended hg3 hlow hbs)
          have HG3 := Nu.hid (grownBy_appended (grownBy_trans HGR.out HG2.out) hg3 hlow)
          clear ho3 hg3 hat3 hlow hrowlt houtlt hxlo
          go_wp2
          go_roundw
          case rel => exact ⟨ls.length + 1, q2, vs ++ [.slice xa l.length xc], ls ++ [l], by omega, by go_num, by simp, HR3.out, H3.out, HG3.out, by rw [show K - (ls.length + 1) = d by omega]; exact HRI.out⟩
          case measure => simp [intOf]; omega
      · have hlti : ¬ ((ls.length : Int) < (K : Int)) := by omega
        rw [show K - ls.length = 0 by omega] at hRi
        go_wp2
        go_ret
        exact ⟨HGR.out, .inl ⟨ls, q, _, hRi.symm, rfl, ⟨vs, HRW.out⟩, HRT.out.rdr, HRT.out.pos⟩⟩
end Go.Proofs.YtodlejemkihjnaaDoor

/-
  The program's reader: all lines of edges.
-/
namespace Go.Proofs.YtodlejemkihjnaaDoor
open Go.RowKit

theorem HasLast.set {W : World} {B : Nat} {la lb : Int} (h : W.heap[B]? = some (.cells #[.int .i64 la, .int .i64 lb] 41 (0, 0))) (x y : Int) : ((W.setCell ⟨B, 0, none⟩ (.int .i64 x)).setCell ⟨B, 1, none⟩ (.int .i64 y)).heap[B]? = some (.cells #[.int .i64 x, .int .i64 y] 41 (0, 0)) := by
  rw [heap_setCell_same _ B 1 _ _ _ (heap_setCell_same W B 0 _ _ _ h)]
  simp

set_option maxHeartbeats 4000000 in
set_option maxRecDepth 100000 in
theorem part17_any {b : Nat} {ao : Option Addr} {n cap p : Nat} {g : Nat → Int} {w : World} (h : Rtx w b ao n cap p g) :
    Calls Tryd.prog 32 #[.pointer (some ⟨b, 0, none⟩)] w (RdP (Ce.prt (Ce.atF n g) n p) (fun es w' v => OwnE w' w.heap.size v es) b ao n cap w) := by
  have hbs := h.rdr.lt
  obtain ⟨R, hR⟩ : ∃ R, Ce.prt (Ce.atF n g) n p = R := ⟨_, rfl⟩
  rw [hR]
  unfold Ce.prt at hR
  have H := Nu.hid (h.later ((Below.refl _ _).alloc (Nat.le_refl _) (.cells #[.int .i64 0, .int .i64 0] 41)))
  have HG := Nu.hid (World.grownBy_alloc w (.cells #[.int .i64 0, .int .i64 0] 41) (some b))
  have HL := Nu.hid (heap_alloc_new w (.cells #[.int .i64 0, .int .i64 0] 41))
  cases hm : Ce.cnt (Ce.atF n g) n 4194304 p with
  | error q =>
    rw [hm] at hR
    clear h
    go_enter Tryd.func32, Tryd.ntmps32
    go_wp2_with (go_at_call 35; refine (H.out.cntNo hm).mono ?_; rintro e w1 ⟨he, hg1⟩; rw [faultAt] at he; subst he)
    exact ⟨rfl, grownBy_trans HG.out hg1, .inr ⟨q, hR.symm, rfl⟩⟩
  | ok q =>
    obtain ⟨k, j⟩ := q
    rw [hm] at hR
    dsimp only at hR
    obtain ⟨k0, k1⟩ := Ce.cnt_le (Ce.cnt_in h.txt.txt hm) hm
    obtain ⟨K, rfl⟩ : ∃ K : Nat, k = (K : Int) := ⟨k.toNat, by omega⟩
    rw [Int.toNat_natCast] at hR
    have HR := Nu.hid hR
    clear hR h k0
    go_enter Tryd.func32, Tryd.ntmps32
    go_wp2_with (go_at_call 35; refine (H.out.cntYes hm).mono ?_; rintro e w1 ⟨rfl, hg1, h1⟩; have HG1 := Nu.hid (grownBy_trans HG.out hg1); have H1 := Nu.hid h1; have HL1 := Nu.hid ((hg1.block w.heap.size (by simp) (by simp; omega)).trans HL.out); clear hg1 h1)
    go_loopw [3, 7] (fun va iv wr => ∃ (i q : Nat) (es : List (Int × Int)) (la lb : Int), i ≤ K ∧ iv = .int .i64 (i : Int) ∧ es.length = i ∧ OwnE wr (w.heap.size + 1) va es ∧ wr.heap[w.heap.size]? = some (.cells #[.int .i64 la, .int .i64 lb] 41 (0, 0)) ∧ Rtx wr b ao n cap q g ∧ w.grownBy wr (some b) ∧ Ce.edges (Ce.atF n g) n (K - i) es (la, lb) q = R) (fun _ iv _ => K - (intOf iv).toNat)
    case atStart => exact ⟨0, j, [], 0, 0, Nat.zero_le _, rfl, rfl, OwnE.nil _ _, HL1.out, H1.out, HG1.out, HR.out⟩
    case round =>
      obtain ⟨_, q, es, la, lb, hi, rfl, rfl, hown, hla, hrt, hgr, hRi⟩ := hrel
      have HOW := Nu.hid hown
      have HLA := Nu.hid hla
      have HRT := Nu.hid hrt
      have HGR := Nu.hid hgr
      have hszr : w.heap.size < wr.heap.size := lt_of_block hla
      obtain ⟨va0, vc0, rfl, -⟩ := hown.form
      obtain ⟨c0, c1, -⟩ := two_cells17 hla
      clear hown hla hrt hgr
      by_cases hlt : es.length < K
      · have hlti : (es.length : Int) < (K : Int) := by omega
        obtain ⟨d, hd⟩ : ∃ d, K - es.length = d + 1 := ⟨K - es.length - 1, by omega⟩
        rw [hd] at hRi
        have hRi : (match Ce.edg (Ce.atF n g) n q (la, lb) with | .error e => .error e | .ok (p, j) => Ce.edges (Ce.atF n g) n d (es ++ [p]) p j) = R := hRi
        cases hm2 : Ce.edg (Ce.atF n g) n q (la, lb) with
        | error x =>
          rw [hm2] at hRi
          go_wp2_with (go_at_call 37; refine (HRT.out.edgNo hm2).mono ?_; rintro e w2 ⟨he, hg2⟩; rw [faultAt] at he; subst he)
          exact ⟨rfl, grownBy_trans HGR.out hg2, .inr ⟨x, hRi.symm, rfl⟩⟩
        | ok x =>
          obtain ⟨⟨y, z⟩, q2⟩ := x
          rw [hm2] at hRi
          dsimp only at hRi
          have HRI := Nu.hid hRi
          clear hRi
          go_wp2_with (go_at_call 37; refine (HRT.out.edgYes hm2).mono ?_; rintro e w2 ⟨rfl, hg2, h2⟩; have hl2 := (hg2.block w.heap.size hszr (by simp; omega)).trans HLA.out; have d0 := (two_cells17 hl2).1; have d1 := (two_cells17 hl2).2.1; have df := (two_cells17 hl2).2.2; refine Hid.out ?_)
          refine Nu.hid ?_
          have hown2 := HOW.out.keptR hg2 (by omega)
          have HG3 := Nu.hid (grownBy_set_new (grownBy_set_new (grownBy_trans HGR.out hg2) (b := w.heap.size) (Nat.le_refl _) 0 (.int .i64 y)) (b := w.heap.size) (Nat.le_refl _) 1 (.int .i64 z))
          have H3 := Nu.hid ((h2.set (B := w.heap.size) hbs 0 (.int .i64 y)).set (B := w.heap.size) hbs 1 (.int .i64 z))
          have HL3 := Nu.hid (HasLast.set hl2 y z)
          have hown3 : OwnE ((w2.setCell ⟨w.heap.size, 0, none⟩ (.int .i64 y)).setCell ⟨w.heap.size, 1, none⟩ (.int .i64 z)) (w.heap.size + 1) (.slice va0 es.length vc0) es :=
            row_same hown2 fun c _ h1 _ => by
              rw [heap_setCell_other _ ⟨w.heap.size, 1, none⟩ c _ (by dsimp only; omega), heap_setCell_other _ ⟨w.heap.size, 0, none⟩ c _ (by dsimp only; omega)]
          have hsz3 : w.heap.size + 1 ≤ ((w2.setCell ⟨w.heap.size, 0, none⟩ (.int .i64 y)).setCell ⟨w.heap.size, 1, none⟩ (.int .i64 z)).heap.size := by have := hg2.size; simp; omega
          clear hg2 h2 hl2 hown2 c0 c1
          have hll : es.length ≤ 8796093022000 := by omega
          have HSZW : Hid (w2.heap.size = ((w2.setCell ⟨w.heap.size, 0, none⟩ (.int .i64 y)).setCell ⟨w.heap.size, 1, none⟩ (.int .i64 z)).heap.size) := Nu.hid (by simp)
          go_wp2_with (at_builtin; refine wpList_pushQ17 rfl _ _ rfl _ (w.heap.size + 1) (.slice va0 es.length vc0) es y z hown3 hsz3 hll rfl (by exact congrArg (fun k => Value.slice (some ⟨k, 0, none⟩) 1 1) HSZW.out) ?_; refine Hid.out ?_)
          refine Nu.hid ?_
          intro v' w5 ho5 hg5
          have hw2 : w.heap.size < w2.heap.size := by have := HSZW.out; omega
          have hlow : ∀ x, (Value.slice va0 es.length vc0).ownBlock = some x → w.heap.size + 1 ≤ x := fun x e => (World.ownsRow.lt hown3 x e).1
          have H5 := Nu.hid (H3.out.appended hg5 hlow (by omega))
          have HG5 := Nu.hid (grownBy_appended HG3.out hg5 (fun x e => by have := hlow x e; omega))
          have HL5 := Nu.hid ((hg5.block w.heap.size (by simp; omega) (fun e => by have := hlow _ e.symm; omega)).trans ((Below.heap_alloc _ _ _ (by simp; omega)).trans HL3.out))
          have HO5 := Nu.hid ho5
          clear ho5 hg5 hlow hown3 hsz3 HSZW
          go_wp2
          go_roundw
          case rel => exact ⟨es.length + 1, q2, es ++ [(y, z)], y, z, by omega, by go_num, by simp, HO5.out, HL5.out, H5.out, HG5.out, by rw [show K - (es.length + 1) = d by omega]; exact HRI.out⟩
          case measure => simp [intOf]; omega
      · have hlti : ¬ ((es.length : Int) < (K : Int)) := by omega
        rw [show K - es.length = 0 by omega] at hRi
        go_wp2
        go_ret
        exact ⟨HGR.out, .inl ⟨es, q, _, hRi.symm, rfl, HOW.out.lower (by omega), HRT.out.rdr, HRT.out.pos⟩⟩
end Go.Proofs.YtodlejemkihjnaaDoor

/-
  The program's reader: the whole proof; what the function that read defers does.
-/
namespace Go.Proofs.YtodlejemkihjnaaDoor
open Go.RowKit

/-- A text's certificate, and the place behind its last line. -/
def Ce.prf (B : Nat → Int) (n : Nat) : Except Nat (Ce.Cert × Nat) :=
  if B 0 = 112 then (match Ce.rds B n 1 with | .error e => .error e | .ok (ls, j) => .ok (⟨true, ls, []⟩, j))
  else if B 0 = 110 then (match Ce.prt B n 1 with | .error e => .error e | .ok (es, j) => .ok (⟨false, [], es⟩, j)) else .error 0
/-- What a certificate is, for the program. -/
def PrfV (c : Ce.Cert) (w : World) (B : Nat) (v : Value) : Prop :=
  (c.pl = true ∧ c.es = [] ∧ ∃ va vs, v = .iface 60 va ∧ RowsZ w B va vs c.ar) ∨ (c.pl = false ∧ c.ar = [] ∧ ∃ ve, v = .iface 61 ve ∧ OwnE w B ve c.es)

set_option maxHeartbeats 2000000 in
theorem proof17_any {b : Nat} {ao : Option Addr} {n cap : Nat} {g : Nat → Int} {w : World} (h : Rtx w b ao n cap 0 g) :
    Calls Tryd.prog 26 #[.pointer (some ⟨b, 0, none⟩)] w (RdP (Ce.prf (Ce.atF n g) n) (fun c w' v => PrfV c w' w.heap.size v) b ao n cap w) := by
  obtain ⟨R, hR⟩ : ∃ R, Ce.prf (Ce.atF n g) n = R := ⟨_, rfl⟩
  rw [hR]
  unfold Ce.prf at hR
  have H := Nu.hid h
  clear h
  by_cases h1 : Ce.atF n g 0 = 112
  · rw [if_pos h1] at hR
    go_enter Tryd.func26, Tryd.ntmps26
    go_wp2_with (go_at_call 29; refine (H.out.passYes (by decide) h1).mono ?_; rintro e w1 ⟨rfl, hg1, h1'⟩; have HG1 := Nu.hid hg1; have H1 := Nu.hid h1'; clear hg1 h1'; refine Hid.out ?_)
    refine Nu.hid ?_
    cases hm : Ce.rds (Ce.atF n g) n 1 with
    | error q =>
      rw [hm] at hR
      go_wp2_with (go_at_call 30; refine (rounds17_any H1.out).mono ?_; rintro e w2 ⟨hg2, hx⟩; obtain ⟨_, hx1, he⟩ := hx.resolve_left (by rintro ⟨_, _, _, hx, -⟩; rw [hm] at hx; cases hx); rw [hm] at hx1; cases hx1; rw [faultAt] at he; subst he)
      exact ⟨rfl, grownBy_trans HG1.out hg2, .inr ⟨q, hR.symm, rfl⟩⟩
    | ok q =>
      obtain ⟨ls, j⟩ := q
      rw [hm] at hR
      go_wp2_with (go_at_call 30; refine (rounds17_any H1.out).mono ?_; rintro e w2 ⟨hg2, hx⟩; obtain ⟨_, _, v, hx1, rfl, ⟨vs, hrows⟩, h2, h3⟩ := hx.resolve_right (by rintro ⟨_, hx, -⟩; rw [hm] at hx; cases hx); rw [hm] at hx1; cases hx1)
      go_ret
      exact ⟨grownBy_trans HG1.out hg2, .inl ⟨_, j, _, hR.symm, rfl, .inl ⟨rfl, rfl, _, vs, rfl, hrows.lower HG1.out.size⟩, h2, h3⟩⟩
  · rw [if_neg h1] at hR
    go_enter Tryd.func26, Tryd.ntmps26
    go_wp2_with (go_at_call 29; refine (H.out.passNo h1).mono ?_; rintro e w1 ⟨rfl, hg1, h1'⟩; have HG1 := Nu.hid hg1; have H1 := Nu.hid h1'; clear hg1 h1'; refine Hid.out ?_)
    refine Nu.hid ?_
    by_cases h2 : Ce.atF n g 0 = 110
    · rw [if_pos h2] at hR
      go_wp2_with (go_at_call 31; refine (H1.out.yes (by decide) h2).mono ?_; rintro e w2 ⟨rfl, hg2, h2'⟩; have HG2 := Nu.hid (grownBy_trans HG1.out hg2); have H2 := Nu.hid h2'; clear hg2 h2'; refine Hid.out ?_)
      refine Nu.hid ?_
      cases hm : Ce.prt (Ce.atF n g) n 1 with
      | error q =>
        rw [hm] at hR
        go_wp2_with (go_at_call 32; refine (part17_any H2.out).mono ?_; rintro e w3 ⟨hg3, hx⟩; obtain ⟨_, hx1, he⟩ := hx.resolve_left (by rintro ⟨_, _, _, hx, -⟩; rw [hm] at hx; cases hx); rw [hm] at hx1; cases hx1; rw [faultAt] at he; subst he)
        exact ⟨rfl, grownBy_trans HG2.out hg3, .inr ⟨q, hR.symm, rfl⟩⟩
      | ok q =>
        obtain ⟨es, j⟩ := q
        rw [hm] at hR
        go_wp2_with (go_at_call 32; refine (part17_any H2.out).mono ?_; rintro e w3 ⟨hg3, hx⟩; obtain ⟨_, _, v, hx1, rfl, hown, h3, h4⟩ := hx.resolve_right (by rintro ⟨_, hx, -⟩; rw [hm] at hx; cases hx); rw [hm] at hx1; cases hx1)
        go_ret
        exact ⟨grownBy_trans HG2.out hg3, .inl ⟨_, j, _, hR.symm, rfl, .inr ⟨rfl, rfl, _, rfl, hown.lower HG2.out.size⟩, h3, h4⟩⟩
    · rw [if_neg h2] at hR
      go_wp2_with (go_at_call 31; refine (H1.out.no h2).mono ?_; rintro e w2 ⟨he, hg2⟩; rw [faultAt] at he; subst he)
      exact ⟨rfl, grownBy_trans HG1.out hg2, .inr ⟨0, hR.symm, rfl⟩⟩
end Go.Proofs.YtodlejemkihjnaaDoor

/-
  The program's reader: what the function that read defers does; read.
-/
namespace Go.Proofs.YtodlejemkihjnaaDoor
open Go.RowKit

set_option maxHeartbeats 1000000 in
theorem catch17_idle (p q r : Addr) (w : World) :
    CallsD Tryd.prog 25 #[.pointer (some p), .pointer (some q), .pointer (some r)] .returning w fun e u' w' => e = .returned (.tuple #[]) ∧ u' = .returning ∧ w' = w := by
  refine callsD_of_wpS Tryd.func25 rfl fun c₀ cs hu => ?_
  apply wpS_seq
  apply wpS_region
  simp [wpOpsS, go_sem, recoverD, hu, Tryd.ntmps25, Exit.thenS]
  refine wpS_of_wp ?_
  go_wp2
  cases c₀
  simp_all [bodyPostS, results, Tryd.results25]

/-- The three results of read lie in the blocks A, A + 1, A + 2. -/
structure Rs17 (w : World) (A : Nat) (v : Value) (x : Int) (t : Bool) : Prop where
  prf : w.heap[A]? = some (.cells #[v] 45 (0, 0))
  place : w.heap[A + 1]? = some (.cells #[.int .i64 x] 3 (0, 0))
  is : w.heap[A + 2]? = some (.cells #[.bool t] 4 (0, 0))
theorem Rs17.put3 {w : World} {A : Nat} {v v' : Value} {x x' : Int} {t t' : Bool} (h : Rs17 w A v x t) : Rs17 (((w.setCell ⟨A, 0, none⟩ v').setCell ⟨A + 1, 0, none⟩ (.int .i64 x')).setCell ⟨A + 2, 0, none⟩ (.bool t')) A v' x' t' := by
  refine ⟨?_, ?_, ?_⟩
  · rw [heap_setCell_other _ ⟨A + 2, 0, none⟩ A _ (by simp), heap_setCell_other _ ⟨A + 1, 0, none⟩ A _ (by simp)]
    exact one_setCell h.prf
  · rw [heap_setCell_other _ ⟨A + 2, 0, none⟩ (A + 1) _ (by simp)]
    refine one_setCell (v := .int .i64 x) ?_
    rw [heap_setCell_other _ ⟨A, 0, none⟩ (A + 1) _ (by simp)]
    exact h.place
  · refine one_setCell (v := .bool t) ?_
    rw [heap_setCell_other _ ⟨A + 1, 0, none⟩ (A + 2) _ (by simp), heap_setCell_other _ ⟨A, 0, none⟩ (A + 2) _ (by simp)]
    exact h.is
theorem Rs17.below {w w' : World} {A B : Nat} {v : Value} {x : Int} {t : Bool} (h : Rs17 w A v x t) (hb : w.grownBy w' (some B)) (hB : A + 2 < B) : Rs17 w' A v x t :=
  ⟨(hb.block A (lt_of_block h.prf) (by simp; omega)).trans h.prf, (hb.block (A + 1) (lt_of_block h.place) (by simp; omega)).trans h.place, (hb.block (A + 2) (lt_of_block h.is) (by simp; omega)).trans h.is⟩
theorem below_put3 {w W : World} {A : Nat} (h : Below w.heap.size w W) (hA : w.heap.size ≤ A) (a b c : Value) : Below w.heap.size w (((W.setCell ⟨A, 0, none⟩ a).setCell ⟨A + 1, 0, none⟩ b).setCell ⟨A + 2, 0, none⟩ c) :=
  ((h.setCell (p := ⟨A, 0, none⟩) hA a).setCell (p := ⟨A + 1, 0, none⟩) (by dsimp only; omega) b).setCell (p := ⟨A + 2, 0, none⟩) (by dsimp only; omega) c

set_option maxHeartbeats 1000000 in
theorem catch17_fault (A q : Nat) (v : Value) (x : Int) (t : Bool) (w0 w : World) (hr : Rs17 w A v x t) (h0 : Below w0.heap.size w0 w) (hA : w0.heap.size ≤ A) :
    CallsD Tryd.prog 25 #[.pointer (some ⟨A, 0, none⟩), .pointer (some ⟨A + 1, 0, none⟩), .pointer (some ⟨A + 2, 0, none⟩)] (.panicking [{ v := .iface 72 (.int .i64 (q : Int)), recovered := false }]) w fun e u' w' =>
      e = .returned (.tuple #[]) ∧ u' = .panicking [{ v := .iface 72 (.int .i64 (q : Int)), recovered := true }] ∧ Rs17 w' A .nilIface q false ∧ Below w0.heap.size w0 w' := by
  have c0 := cell_of_one hr.prf
  have c1 := cell_of_one hr.place
  have c2 := cell_of_one hr.is
  have f0 := free_of_one hr.prf
  have f1 := free_of_one hr.place
  have f2 := free_of_one hr.is
  have hta : ∀ (v : Value) (w : World), (Instr.typeAssert (.iface 72 v) 20 72 true).run Tryd.prog w = .ok (.tuple #[v, .bool true]) w := fun _ _ => by kernel_rfl
  refine callsD_of_wpS Tryd.func25 rfl fun c₀ cs hu => ?_
  apply wpS_seq
  apply wpS_region
  simp [wpOpsS, go_sem, recoverD, hu, Tryd.ntmps25, Exit.thenS, Array.replicate]
  refine wpS_of_wp ?_
  have HR := Nu.hid hr
  have H0 := Nu.hid h0
  clear hr h0
  go_wp2
  exact ⟨rfl, _, rfl, .tuple #[], by simp [results, Tryd.results25], rfl, rfl, HR.out.put3, below_put3 H0.out hA _ _ _⟩
end Go.Proofs.YtodlejemkihjnaaDoor
