import Derived.Test.YtfjgmbimapkabaaDoorMg24
import Derived.Test.YtfjgmbimapkabaaDoorMg09
/-
  The program's reader: the head's number; a line of numbers.
-/
namespace Go.Proofs.YtfjgmbimapkabaaDoor
open Go.RowKit

/-- What is read, or the fault. -/
def RdP {α : Type} (R : Except Nat (α × Nat)) (val : α → World → Value → Prop) (b : Nat) (ao : Option Addr) (n cap : Nat) (w : World) (e : Ending) (w' : World) : Prop :=
  w.grownBy w' (some b) ∧ ((∃ a k v, R = .ok (a, k) ∧ e = .returned v ∧ val a w' v ∧ Rdr w' b ao n cap k ∧ k ≤ n) ∨ ∃ p : Nat, R = .error p ∧ e = faultAt p)
/-- The text of a reader. -/
structure Rtx (w : World) (b : Nat) (ao : Option Addr) (n cap p : Nat) (g : Nat → Int) : Prop where
  rdr : Rdr w b ao n cap p
  txt : HasText w ao n g
  adr : ∀ x, ao = some x → x.block < b ∧ x.spot = none
  len : n ≤ 33554432
  fit : n ≤ cap
  pos : p ≤ n
theorem Rtx.next {w w' : World} {b : Nat} {ao : Option Addr} {n cap p q : Nat} {g : Nat → Int} (h : Rtx w b ao n cap p g) (hg : w.grownBy w' (some b)) (hr : Rdr w' b ao n cap q) (hq : q ≤ n) : Rtx w' b ao n cap q g :=
  ⟨hr, h.txt.grown hg (fun x hx => by have := (h.adr x hx).1; omega), h.adr, h.len, h.fit, hq⟩
theorem Rtx.later {w w' : World} {b : Nat} {ao : Option Addr} {n cap p : Nat} {g : Nat → Int} (h : Rtx w b ao n cap p g) (hb : Below w.heap.size w w') : Rtx w' b ao n cap p g :=
  ⟨h.rdr.later hb, h.txt.later hb, h.adr, h.len, h.fit, h.pos⟩
theorem Rtx.yes {w : World} {b : Nat} {ao : Option Addr} {n cap p : Nat} {g : Nat → Int} (h : Rtx w b ao n cap p g) {c : Int} (h0 : 0 ≤ c) (hc : Ce.atF n g p = c) :
    Calls Tryd.prog 38 #[.pointer (some ⟨b, 0, none⟩), .int .u8 c] w fun e w' => e = .returned (.tuple #[]) ∧ w.grownBy w' (some b) ∧ Rtx w' b ao n cap (p + 1) g :=
  (want17_yes h.rdr h.txt h.len h.pos h0 hc).mono fun _ _ ⟨he, hr, hg, hlt⟩ => ⟨he, hg, h.next hg hr hlt⟩
theorem Rtx.no {w : World} {b : Nat} {ao : Option Addr} {n cap p : Nat} {g : Nat → Int} (h : Rtx w b ao n cap p g) {c : Int} (hc : Ce.atF n g p ≠ c) :
    Calls Tryd.prog 38 #[.pointer (some ⟨b, 0, none⟩), .int .u8 c] w fun e w' => e = faultAt p ∧ w.grownBy w' (some b) := want17_no h.rdr h.txt h.len h.pos hc
theorem Rtx.passYes {w : World} {b : Nat} {ao : Option Addr} {n cap p : Nat} {g : Nat → Int} (h : Rtx w b ao n cap p g) {c : Int} (h0 : 0 ≤ c) (hc : Ce.atF n g p = c) :
    Calls Tryd.prog 36 #[.pointer (some ⟨b, 0, none⟩), .int .u8 c] w fun e w' => e = .returned (.bool true) ∧ w.grownBy w' (some b) ∧ Rtx w' b ao n cap (p + 1) g :=
  (passes17_yes h.rdr h.txt h.len h.pos h0 hc).mono fun _ _ ⟨he, hr, hg, hlt⟩ => ⟨he, hg, h.next hg hr hlt⟩
theorem Rtx.passNo {w : World} {b : Nat} {ao : Option Addr} {n cap p : Nat} {g : Nat → Int} (h : Rtx w b ao n cap p g) {c : Int} (hc : Ce.atF n g p ≠ c) :
    Calls Tryd.prog 36 #[.pointer (some ⟨b, 0, none⟩), .int .u8 c] w fun e w' => e = .returned (.bool false) ∧ w.grownBy w' (some b) ∧ Rtx w' b ao n cap p g :=
  (passes17_no h.rdr h.txt h.len h.pos hc).mono fun _ _ ⟨he, hr, hg⟩ => ⟨he, hg, h.next hg hr h.pos⟩
theorem Rtx.num {w : World} {b : Nat} {ao : Option Addr} {n cap p : Nat} {g : Nat → Int} (h : Rtx w b ao n cap p g) (least : Int) :
    Calls Tryd.prog 47 #[.pointer (some ⟨b, 0, none⟩), .int .i64 least] w fun e w' => w.grownBy w' (some b) ∧ ((∃ v k, Ce.num (Ce.atF n g) n p = some (v, k) ∧ least ≤ v ∧ e = .returned (.int .i64 v) ∧ Rtx w' b ao n cap k g ∧ Ce.okN v ∧ p < k) ∨ ((∀ v k, Ce.num (Ce.atF n g) n p = some (v, k) → v < least) ∧ e = faultAt p)) :=
  (number17_any h.rdr h.txt h.adr h.len h.fit h.pos least).mono fun _ _ ⟨hg, hx⟩ => ⟨hg, by
    rcases hx with ⟨v, k, h1, h2, h3, h4⟩ | hx
    · obtain ⟨m1, m2, m3, m4⟩ := Ce.num_is h.pos h1
      have := Ce.dg_some v
      exact .inl ⟨v, k, h1, h2, h3, h.next hg h4 m4, m1, by omega⟩
    · exact .inr hx⟩

theorem Rtx.numYes {w : World} {b : Nat} {ao : Option Addr} {n cap p : Nat} {g : Nat → Int} (h : Rtx w b ao n cap p g) {least v : Int} {k : Nat} (hm : Ce.num (Ce.atF n g) n p = some (v, k)) (hl : least ≤ v) :
    Calls Tryd.prog 47 #[.pointer (some ⟨b, 0, none⟩), .int .i64 least] w fun e w' => e = .returned (.int .i64 v) ∧ w.grownBy w' (some b) ∧ Rtx w' b ao n cap k g :=
  (h.num least).mono fun _ _ ⟨hg, hx⟩ => by
    rcases hx with ⟨v', k', h1, h2, h3, h4, -, -⟩ | ⟨h1, -⟩
    · rw [hm] at h1
      cases h1
      exact ⟨h3, hg, h4⟩
    · have := h1 v k hm
      omega
theorem Rtx.numNo {w : World} {b : Nat} {ao : Option Addr} {n cap p : Nat} {g : Nat → Int} (h : Rtx w b ao n cap p g) {least : Int} (hm : ∀ v k, Ce.num (Ce.atF n g) n p = some (v, k) → v < least) :
    Calls Tryd.prog 47 #[.pointer (some ⟨b, 0, none⟩), .int .i64 least] w fun e w' => e = faultAt p ∧ w.grownBy w' (some b) :=
  (h.num least).mono fun _ _ ⟨hg, hx⟩ => by
    rcases hx with ⟨v', k', h1, h2, -⟩ | ⟨-, h1⟩
    · have := hm v' k' h1
      omega
    · exact ⟨h1, hg⟩
/-- The number of the head, behind its letter. -/
def Ce.cnt (B : Nat → Int) (n : Nat) (most : Int) (i : Nat) : Except Nat (Int × Nat) :=
  if B i ≠ 32 then .error i else match Ce.num B n (i + 1) with
  | none => .error (i + 1)
  | some (k, e) => if most < k then .error (i + 1) else if B e ≠ 10 then .error e else .ok (k, e + 1)

set_option maxHeartbeats 2000000 in
theorem count17_any {b : Nat} {ao : Option Addr} {n cap p : Nat} {g : Nat → Int} {w : World} (h : Rtx w b ao n cap p g) (most : Int) :
    Calls Tryd.prog 42 #[.pointer (some ⟨b, 0, none⟩), .int .i64 most] w (RdP (Ce.cnt (Ce.atF n g) n most p) (fun k _ v => v = .int .i64 k ∧ Ce.okN k) b ao n cap w) := by
  have H := Nu.hid h
  obtain ⟨R, hR⟩ : ∃ R, Ce.cnt (Ce.atF n g) n most p = R := ⟨_, rfl⟩
  rw [hR]
  unfold Ce.cnt at hR
  by_cases h1 : Ce.atF n g p = 32
  · rw [if_neg (by simpa using h1)] at hR
    have HR := Nu.hid hR
    clear hR h
    go_enter Tryd.func42, Tryd.ntmps42
    go_wp2_with (go_at_call 38; refine (H.out.yes (by decide) h1).mono ?_; refine Hid.out ?_)
    refine Nu.hid ?_
    rintro e w1 ⟨rfl, hg1, h1'⟩
    have c1 := h1'.rdr.place
    have H1 := Nu.hid h1'
    have HG1 := Nu.hid hg1
    clear h1' hg1
    go_wp2_with (go_at_call 47; refine (H1.out.num 0).mono ?_; refine Hid.out ?_)
    refine Nu.hid ?_
    rintro e w2 ⟨hg2, ⟨v, k, hnum, hv, rfl, h2, hok, -⟩ | ⟨hno, rfl⟩⟩
    · have hR := HR.out
      rw [hnum] at hR
      dsimp only at hR
      have H2 := Nu.hid h2
      have HG2 := Nu.hid (grownBy_trans HG1.out hg2)
      by_cases hm : most < v
      · rw [if_pos hm] at hR
        have HRR := Nu.hid hR
        clear hR hg2 h2 hnum
        go_wp2
        exact ⟨rfl, HG2.out, .inr ⟨p + 1, HRR.out.symm, rfl⟩⟩
      · rw [if_neg hm] at hR
        by_cases h10 : Ce.atF n g k = 10
        · rw [if_neg (by simpa using h10)] at hR
          have HRR := Nu.hid hR
          clear hR hg2 h2 hnum
          go_wp2_with (go_at_call 38; refine (H2.out.yes (by decide) h10).mono ?_; refine Hid.out ?_)
          refine Nu.hid ?_
          rintro e w3 ⟨rfl, hg3, h3⟩
          go_wp2
          go_ret
          exact ⟨grownBy_trans HG2.out hg3, .inl ⟨v, k + 1, _, HRR.out.symm, rfl, ⟨rfl, hok⟩, h3.rdr, h3.pos⟩⟩
        · rw [if_pos (by simpa using h10)] at hR
          have HRR := Nu.hid hR
          clear hR hg2 h2 hnum
          go_wp2_with (go_at_call 38; refine (H2.out.no h10).mono ?_; refine Hid.out ?_)
          refine Nu.hid ?_
          rintro e w3 ⟨rfl, hg3⟩
          exact ⟨rfl, grownBy_trans HG2.out hg3, .inr ⟨k, HRR.out.symm, rfl⟩⟩
    · have hR := HR.out
      have hm : Ce.num (Ce.atF n g) n (p + 1) = none := by
        cases hm : Ce.num (Ce.atF n g) n (p + 1) with
        | none => rfl
        | some q =>
          have h1 := hno q.1 q.2 hm
          have h2 := (Ce.num_is (H1.out.pos) hm).1.1
          omega
      rw [hm] at hR
      exact ⟨rfl, grownBy_trans HG1.out hg2, .inr ⟨p + 1, hR.symm, rfl⟩⟩
  · rw [if_pos (by simpa using h1)] at hR
    go_enter Tryd.func42, Tryd.ntmps42
    go_wp2_with (go_at_call 38; refine (H.out.no h1).mono ?_; refine Hid.out ?_)
    refine Nu.hid ?_
    rintro e w1 ⟨rfl, hg1⟩
    exact ⟨rfl, hg1, .inr ⟨p, hR.symm, rfl⟩⟩
end Go.Proofs.YtfjgmbimapkabaaDoor
/-
  The program's reader: a line of numbers.
-/
namespace Go.Proofs.YtfjgmbimapkabaaDoor
open Go.RowKit

/-- A line, from behind one of its numbers on. -/
def Ce.tl (B : Nat → Int) (n f : Nat) (l : List Int) (j : Nat) : Except Nat (List Int × Nat) :=
  if B j = 10 then .ok (l, j + 1) else if B j = 32 then Ce.lstF B n f l (j + 1) else .error j
theorem Ce.lstF_tl {B : Nat → Int} {n f : Nat} {l : List Int} {i : Nat} {v : Int} {k : Nat} (h : Ce.num B n i = some (v, k)) (hl : ¬ (l ≠ [] ∧ v < l.headD 0)) : Ce.lstF B n (f + 1) l i = Ce.tl B n f (l ++ [v]) k := by
  rw [Ce.lstF, h]
  dsimp only
  rw [if_neg hl]
  rfl
theorem Ce.lstF_bad {B : Nat → Int} {n f : Nat} {l : List Int} {i : Nat} (hl : l ≠ []) (h : ∀ v k, Ce.num B n i = some (v, k) → v < l.headD 0) : Ce.lstF B n (f + 1) l i = .error i := by
  rw [Ce.lstF]
  cases hm : Ce.num B n i with
  | none => rfl
  | some q =>
    obtain ⟨v, k⟩ := q
    dsimp only
    rw [if_pos ⟨hl, h v k hm⟩]
theorem OwnZ.kept {w w' : World} {B b : Nat} {v : Value} {l : List Int} (h : OwnZ w B v l) (hg : w.grownBy w' (some b)) (hb : b < B) : OwnZ w' B v l :=
  h.same fun g hv hlt => hg.block g hlt (fun e => by
    have := (World.ownsRow.lt h g hv).1
    cases e
    omega)
theorem OwnZ.headed {w : World} {B : Nat} {v : Value} {l : List Int} (h : OwnZ w B v l) (hl : l ≠ []) : ∃ g c, v = .slice (some ⟨g, 0, none⟩) l.length c ∧ w.cell? ⟨g, 0, none⟩ = some (.int .i64 (l.headD 0)) := by
  cases l with
  | nil => exact absurd rfl hl
  | cons x r =>
    obtain ⟨g, c, rfl⟩ := own_succ (k := r.length) h
    obtain ⟨ao, cap, e, hat, -⟩ := h.form
    cases e
    obtain ⟨b, o, e, hc⟩ := hat 0 x rfl
    cases e
    exact ⟨g, c, rfl, hc⟩

set_option maxHeartbeats 4000000 in
set_option maxRecDepth 100000 in
theorem list17_any {b : Nat} {ao : Option Addr} {n cap p : Nat} {g : Nat → Int} {w : World} (h : Rtx w b ao n cap p g) :
    Calls Tryd.prog 43 #[.pointer (some ⟨b, 0, none⟩)] w (RdP (Ce.lst (Ce.atF n g) n p) (fun l w' v => OwnZ w' w.heap.size v l) b ao n cap w) := by
  have hbs := h.rdr.lt
  have H := Nu.hid h
  obtain ⟨R, hR⟩ : ∃ R, Ce.lst (Ce.atF n g) n p = R := ⟨_, rfl⟩
  rw [hR]
  unfold Ce.lst at hR
  have hlen := h.len
  by_cases h1 : Ce.atF n g p = 10
  · rw [if_pos h1] at hR
    clear h
    go_enter Tryd.func43, Tryd.ntmps43
    go_wp2_with (go_at_call 36; refine (H.out.passYes (by decide) h1).mono ?_; refine Hid.out ?_)
    refine Nu.hid ?_
    rintro e w1 ⟨rfl, hg1, h1'⟩
    go_wp2
    go_ret
    exact ⟨hg1, .inl ⟨[], p + 1, _, hR.symm, rfl, OwnZ.nil _ _, h1'.rdr, h1'.pos⟩⟩
  · rw [if_neg h1] at hR
    have HR := Nu.hid hR
    clear h hR
    go_enter Tryd.func43, Tryd.ntmps43
    go_wp2_with (go_at_call 36; refine (H.out.passNo h1).mono ?_; refine Hid.out ?_)
    refine Nu.hid ?_
    rintro e w1 ⟨rfl, hg1, h1'⟩
    have H1 := Nu.hid h1'
    have HG1 := Nu.hid hg1
    clear h1' hg1
    go_wp2_with (go_at_call 47; refine (H1.out.num 0).mono ?_; refine Hid.out ?_)
    refine Nu.hid ?_
    rintro e w2 ⟨hg2, ⟨v, k, hnum, hv, rfl, h2, hok, hpk⟩ | ⟨hno, rfl⟩⟩
    · have hR := HR.out
      rw [Ce.lstF_tl hnum (by simp)] at hR
      have HR2 := Nu.hid hR
      have H2 := Nu.hid h2
      have hgw := grownBy_trans HG1.out hg2
      have HG2 := Nu.hid hgw
      have hsz := hgw.size
      have hkn := h2.pos
      have hown : OwnZ (w2.alloc (.cells #[.int .i64 v] 3)) w.heap.size (.slice (some ⟨w2.heap.size, 0, none⟩) 1 1) [v] := IntsBlk.own (l := [v]) (heap_alloc_new w2 _) hsz rfl (by omega)
      have HOWN := Nu.hid hown
      have H3 := Nu.hid (h2.later ((Below.refl _ _).alloc (Nat.le_refl _) (.cells #[.int .i64 v] 3)))
      have HG3 := Nu.hid (grownBy_alloc' hgw (.cells #[.int .i64 v] 3))
      clear hR hg2 h2 hnum hgw hown
      go_wp2
      go_loopw [3] (fun lv wr => ∃ (j f : Nat) (l : List Int), l ≠ [] ∧ l.length ≤ j ∧ n - j < f ∧ OwnZ wr w.heap.size lv l ∧ Rtx wr b ao n cap j g ∧ w.grownBy wr (some b) ∧ Ce.tl (Ce.atF n g) n f l j = R) (fun _ wr => n - posOf wr b)
      case atStart => exact ⟨k, n, [v], by simp, by simp; omega, by omega, HOWN.out, H3.out, HG3.out, HR2.out⟩
      case round =>
        obtain ⟨j, f, l, hl0, hlj, hf, hown, hrt, hgr, hRj⟩ := hrel
        have HP : Hid (posOf wr b = j) := hrt.rdr.pos
        have hjn := hrt.pos
        have HO := Nu.hid hown
        have HRT := Nu.hid hrt
        have HGR := Nu.hid hgr
        have hszr := hgr.size
        unfold Ce.tl at hRj
        by_cases h32 : Ce.atF n g j = 32
        · rw [if_neg (by omega), if_pos h32] at hRj
          have HRJ := Nu.hid hRj
          clear hRj hown hrt hgr
          go_wp2_with (go_at_call 36; refine (HRT.out.passYes (by decide) h32).mono ?_; refine Hid.out ?_)
          refine Nu.hid ?_
          rintro e w4 ⟨rfl, hg4, h4⟩
          have hown4 := HO.out.kept hg4 (by omega)
          have hj4 := h4.pos
          obtain ⟨gb, gc, hlv, hcl⟩ := hown4.headed hl0
          subst hlv
          have hlen1 : 0 < l.length := by
            cases l with
            | nil => exact absurd rfl hl0
            | cons _ _ => simp
          have H4 := Nu.hid h4
          have HG4 := Nu.hid (grownBy_trans HGR.out hg4)
          have hsz4 := HG4.out.size
          obtain ⟨L, hL⟩ : ∃ L, l.length = L := ⟨_, rfl⟩
          obtain ⟨x0, hx0⟩ : ∃ x0, l.headD 0 = x0 := ⟨_, rfl⟩
          rw [hx0] at hcl
          have HO4 : Hid (OwnZ w4 w.heap.size (.slice (some ⟨gb, 0, none⟩) L gc) l) := by rw [← hL]; exact hown4
          have HL := Nu.hid hL
          have HX := Nu.hid hx0
          rw [hL] at hlen1 hlj ⊢
          have hLi : (0 : Int) < (L : Int) := by omega
          clear hown4 hg4 h4 HO hx0
          go_wp2_with (go_at_call 47; refine (H4.out.num x0).mono ?_; refine Hid.out ?_)
          refine Nu.hid ?_
          rintro e w5 ⟨hg5, ⟨v', k', hnum, hv', rfl, h5, hok', hpk'⟩ | ⟨hno, rfl⟩⟩
          · obtain ⟨f, rfl⟩ : ∃ f', f = f' + 1 := ⟨f - 1, by omega⟩
            have hRn := HRJ.out
            rw [Ce.lstF_tl hnum (fun hh => by have := hh.2; rw [HX.out] at this; omega)] at hRn
            have hown5 := HO4.out.kept hg5 (by omega)
            have HG5 := Nu.hid (grownBy_trans HG4.out hg5)
            have hsz5 := HG5.out.size
            have H5 := Nu.hid h5
            have hk5 := h5.pos
            have HRN := Nu.hid hRn
            have hL' : l.length ≤ 17592186044000 := by rw [HL.out]; omega
            clear hg5 hnum hRn h5 hL
            go_wp2_with (at_builtin; refine wpList_push rfl _ _ rfl w5 w.heap.size _ l v' hown5 hsz5 hL' rfl rfl ?_; refine Hid.out ?_)
            refine Nu.hid ?_
            intro lv' w6 hown6 hg6 hat6 hb6
            have HO6 := Nu.hid hown6
            have hfar : ∀ x, x < w.heap.size → some x ≠ (Value.slice (some ⟨gb, 0, none⟩) L gc).ownBlock := fun x hx e => by
              have := (World.ownsRow.lt hown5 x e.symm).1
              omega
            have h5a := H5.out.later ((Below.refl _ _).alloc (Nat.le_refl _) (.cells #[.int .i64 v'] 3))
            have hg5a := grownBy_alloc' HG5.out (.cells #[.int .i64 v'] 3)
            have hrd6 : Rtx w6 b ao n cap k' g := by
              refine ⟨h5a.rdr.kept hg6 (hfar b hbs), fun i hi => ?_, h5a.adr, h5a.len, h5a.fit, h5a.pos⟩
              obtain ⟨hb, tb, tq, e, hc⟩ := h5a.txt i hi
              exact ⟨hb, tb, tq, e, hg6.cell hc (hfar tb (by have := (h5a.adr _ e).1; dsimp only at this; omega))⟩
            have hg06 : w.grownBy w6 (some b) := ⟨hg6.os.trans hg5a.os, hg6.tape.trans hg5a.tape, hg6.output.trans hg5a.output, Nat.le_trans hg5a.size hg6.size, fun x hx hne => (hg6.block x (Nat.lt_of_lt_of_le hx hg5a.size) (hfar x hx)).trans (hg5a.block x hx hne)⟩
            have HR6 := Nu.hid hrd6
            have HG6 := Nu.hid hg06
            clear hown6 hg6 hat6 hb6 hown5 h5a hg5a hrd6 hg06 hcl
            go_wp2
            go_roundw
            case rel => exact ⟨k', f, l ++ [v'], by simp, by simp; have := HL.out; omega, by omega, HO6.out, HR6.out, HG6.out, HRN.out⟩
            case measure =>
              have e1 : posOf w6 b = k' := HR6.out.rdr.pos
              have e2 : posOf wr b = j := HP.out
              rw [e1, e2]
              omega
          · refine ⟨rfl, grownBy_trans HG4.out hg5, .inr ⟨j + 1, ?_, rfl⟩⟩
            rw [← HRJ.out]
            obtain ⟨f, rfl⟩ : ∃ f', f = f' + 1 := ⟨f - 1, by omega⟩
            exact Ce.lstF_bad hl0 (fun v k hm => by rw [HX.out]; exact hno v k hm)
        · clear hown hrt hgr
          go_wp2_with (go_at_call 36; refine (HRT.out.passNo h32).mono ?_; refine Hid.out ?_)
          refine Nu.hid ?_
          rintro e w4 ⟨rfl, hg4, h4⟩
          have hown4 := HO.out.kept hg4 (by omega)
          have HO4 := Nu.hid hown4
          have H4 := Nu.hid h4
          have HG4 := Nu.hid (grownBy_trans HGR.out hg4)
          clear hown4 h4 hg4
          by_cases h10 : Ce.atF n g j = 10
          · rw [if_pos h10] at hRj
            go_wp2_with (go_at_call 38; refine (H4.out.yes (by decide) h10).mono ?_; refine Hid.out ?_)
            refine Nu.hid ?_
            rintro e w5 ⟨rfl, hg5, h5⟩
            have hown5 := HO4.out.kept hg5 (by omega)
            go_wp2
            go_ret
            exact ⟨grownBy_trans HG4.out hg5, .inl ⟨l, j + 1, _, hRj.symm, rfl, hown5, h5.rdr, h5.pos⟩⟩
          · rw [if_neg h10, if_neg h32] at hRj
            go_wp2_with (go_at_call 38; refine (H4.out.no h10).mono ?_; refine Hid.out ?_)
            refine Nu.hid ?_
            rintro e w5 ⟨rfl, hg5⟩
            exact ⟨rfl, grownBy_trans HG4.out hg5, .inr ⟨j, hRj.symm, rfl⟩⟩
    · have hR := HR.out
      have hm : Ce.num (Ce.atF n g) n p = none := by
        cases hm : Ce.num (Ce.atF n g) n p with
        | none => rfl
        | some q =>
          have h1 := hno q.1 q.2 hm
          have h2 := (Ce.num_is (H1.out.pos) hm).1.1
          omega
      rw [Ce.lstF, hm] at hR
      exact ⟨rfl, grownBy_trans HG1.out hg2, .inr ⟨p, hR.symm, rfl⟩⟩
end Go.Proofs.YtfjgmbimapkabaaDoor
