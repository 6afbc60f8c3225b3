import Derived.Test.YtfkmldopfhdbkaaMg08
import Derived.ArgAppend
import Derived.Deep.DeepAppendRoom
import Derived.Test.YtfkmldopfhdbkaaMg10
import Derived.Test.YtfkmldopfhdbkaaMg09
import Derived.Test.YtfkmldopfhdbkaaMg03
import Derived.Test.YtfkmldopfhdbkaaMg04
import Derived.Test.YtfkmldopfhdbkaaMg02
import Derived.Test.YtfkmldopfhdbkaaMg05
/-
  An append that leaves the list it began with as it was; lists of lists under stores.
-/
namespace Go.Proofs.Ytfkmldopfhdbkaa
open Go.RowKit

theorem grown_any {w w' : World} (h : w.grownBy w' none) (r : Option Nat) : w.grownBy w' r := ⟨h.os, h.tape, h.output, h.size, fun k hk _ => h.block k hk (by simp)⟩

/-- The row that a longer one in its block began with. -/
theorem own_front {w : World} {B g p c : Nat} {xs : List Value} {z : Value} (h : w.ownsRow B 3 1 (.slice (some ⟨g, 0, none⟩) (p + 1) c) (p + 1) (xs ++ [z])) (hx : xs.length = p) : w.ownsRow B 3 1 (.slice (some ⟨g, 0, none⟩) p c) p xs := by
  rcases h.2 with ⟨h', _⟩ | ⟨g', cap, cur, e, hB, hh, hc, hm, hs, ht⟩
  · cases h'
  · cases e
    refine ⟨by omega, .inr ⟨g, c, cur, rfl, hB, hh, by omega, hm, hs, ?_⟩⟩
    have e1 : cur.toList.take (p * 1) = (cur.toList.take ((p + 1) * 1)).take (p * 1) := by rw [List.take_take]; congr 1; omega
    rw [e1, ht, List.take_append_of_le_length (by omega), List.take_of_length_le (by omega)]

/-- 'append(v, z)' of a list of one's own: the list it began with reads as before. -/
theorem wpList_append_keep {W : World} {ops : Array Oper} {rest : List Oper} {o : Oper} {a : Act} {Q : Exit → Act → World → Prop} (hgd : o.guard = none) (s x : Operand)
    (ho : o.op = .call { callee := .builtin .append, args := #[s, x], argTypes := #[36, 36] }) (B p : Nat) (ao : Option Addr) (c : Nat) (xs : List Value) (z : Int)
    (hs : a.eval s = .slice ao p c) (hown : W.ownsRow B 3 1 (.slice ao p c) p xs) (ad : Addr) (hx : a.eval x = .slice (some ad) 1 1) (hnews : ∀ j u, [Value.int .i64 z][j]? = some u → W.cell? (ad.add j) = some u) (hp : p ≤ 17592186044000) (hB : B ≤ W.heap.size)
    (h : ∀ g' c' w', w'.ownsRow B 3 1 (.slice (some ⟨g', 0, none⟩) (p + 1) c') (p + 1) (xs ++ [.int .i64 z]) → w'.ownsRow B 3 1 (.slice ao p c) p xs → W.grownBy w' (Value.slice ao p c).ownBlock → (((Value.slice ao p c).ownBlock = some g' ∧ c' = c) ∨ W.heap.size ≤ g') → g' < w'.heap.size → wpList Try.prog ops Q rest (a.put o.dst (.slice (some ⟨g', 0, none⟩) (p + 1) c')) w') :
    wpList Try.prog ops Q (o :: rest) a W := by
  obtain ⟨i0, hi, hz0, hz1, hz2⟩ := info_parts Try.infoNum
  have hxl : xs.length = p := by have := hown.1; omega
  by_cases hroom : p + 1 ≤ c
  · obtain ⟨g, hg⟩ : ∃ g, ao = some ⟨g, 0, none⟩ := by
      rcases hown.2 with ⟨h', _⟩ | ⟨g, cap, cur, e, _⟩
      · cases h'; omega
      · cases e; exact ⟨g, rfl⟩
    subst hg
    refine wpList_append_own_spare (w := W) hgd s x 36 ho B 3 i0 1 Try.underlying36 hi hz1 g p c xs hs hown ad 1 1 [.int .i64 z] hx rfl hnews (by simp [Value.oneCell']) hroom ?_
    intro w' h2 h3
    exact h g c w' h2 (own_front h2 hxl) h3 (.inl ⟨rfl, rfl⟩) (World.ownsRow.lt h2 g rfl).2
  · refine wpList_append_grows W hgd s x 36 ho 3 i0 (.int .i64 0) 1 8 Try.underlying36 hi hz0 hz1 hz2 rfl (by decide) ao p c xs hs (fun e => ?_) (by omega) (fun b hb j u hj => ?_) ad 1 1 [.int .i64 z] hx rfl hnews (by simp [Value.oneCell']) (by omega) (by unfold maxLen; omega) (by omega) ?_
    · rcases hown.2 with ⟨h', h0⟩ | ⟨g, cap, cur, e', _⟩
      · cases h'; exact ⟨h0, rfl⟩
      · rw [e] at e'; cases e'
    · rcases hown.2 with ⟨h', h0⟩ | ⟨g, cap, cur, e', _⟩
      · rw [hb] at h'; cases h'
      · rw [hb] at e'
        cases e'
        have := World.ownsRow.cells hown (g := g) (by rw [hb]; rfl) j u hj
        exact this
    · intro v' w' h2 h3
      obtain ⟨g', c', rfl⟩ := own_succ h2
      have hlt := World.ownsRow.lt h2 g' rfl
      have h4 : w'.ownsRow B 3 1 (.slice (some ⟨g', 0, none⟩) (p + 1) c') (p + 1) (xs ++ [.int .i64 z]) := by
        rcases h2.2 with h' | ⟨g, cap, cur, e1, hgB, hr⟩
        · exact ⟨h2.1, .inl h'⟩
        · exact ⟨h2.1, .inr ⟨g, cap, cur, e1, Nat.le_trans hB hgB, hr⟩⟩
      exact h g' c' w' h4 (hown.kept h3 (by cases (Value.slice ao p c).ownBlock <;> simp)) (grown_any h3 _) (.inr hlt.1) hlt.2

/-- The same, however much longer. -/
theorem own_prefix {w : World} {B g p i c : Nat} {xs ys : List Value} (h : w.ownsRow B 3 1 (.slice (some ⟨g, 0, none⟩) (p + i) c) (p + i) (xs ++ ys)) (hx : xs.length = p) : w.ownsRow B 3 1 (.slice (some ⟨g, 0, none⟩) p c) p xs := by
  rcases h.2 with ⟨h', _⟩ | ⟨g', cap, cur, e, hB, hh, hc, hm, hs, ht⟩
  · cases h'
  · cases e
    refine ⟨by omega, .inr ⟨g, c, cur, rfl, hB, hh, by omega, hm, hs, ?_⟩⟩
    have e1 : cur.toList.take (p * 1) = (cur.toList.take ((p + i) * 1)).take (p * 1) := by rw [List.take_take]; congr 1; omega
    rw [e1, ht, List.take_append_of_le_length (by omega), List.take_of_length_le (by omega)]

section
variable {w w' : World} {B : Nat} {v : Value} {vs : List Value} {ls : List (List Int)}

/-- b is a block of one of the lists. -/
def inV (vs : List Value) (b : Nat) : Prop := ∃ (u : Nat) (x : Value), vs[u]? = some x ∧ x.ownBlock = some b

/-- What is not written stays. -/
theorem RowsZ.kept (h : RowsZ w B v vs ls) (hb : ∀ b, (v.ownBlock = some b ∨ inV vs b) → b < w.heap.size → w'.heap[b]? = w.heap[b]?) : RowsZ w' B v vs ls :=
  ⟨h.len, row_same h.outer fun g hg _ hl => hb g (.inl hg) hl, fun u x l hx hl => (h.row u x l hx hl).same fun g hg hlt => hb g (.inr ⟨u, x, hx, hg⟩) hlt, h.apart, h.far⟩

/-- A store into list u. -/
theorem RowsZ.write {u g p c i : Nat} {l : List Int} (h : RowsZ w B v vs ls) (hx : vs[u]? = some (.slice (some ⟨g, 0, none⟩) p c)) (hl : ls[u]? = some l) (hp : l.length = p) (hi : i < p) (z : Int) :
    (∃ y : Int, w.cell? ⟨g, i, none⟩ = some (.int .i64 y)) ∧ w.frozen? ⟨g, i, none⟩ = false ∧ RowsZ (w.setCell ⟨g, i, none⟩ (.int .i64 z)) B v vs (ls.set u (l.set i z)) ∧ B ≤ g := by
  have ho := h.row u _ l hx hl
  have hul := (List.getElem?_eq_some_iff.1 hl).1
  unfold OwnZ at ho
  rw [hp] at ho
  obtain ⟨y, hy⟩ : ∃ y, l[i]? = some y := ⟨_, List.getElem?_eq_getElem (by omega)⟩
  have hc := World.ownsRow.cells ho (g := g) rfl i (.int .i64 y) (by rw [List.getElem?_map, hy]; rfl)
  have ea : ((⟨g, 0, none⟩ : Addr).add i) = ⟨g, i, none⟩ := by
    by_cases h0 : i = 0 <;> simp [Addr.add, h0]
  rw [ea] at hc
  have hst := (ho.stored i (.int .i64 z)).1
  have hoth : ∀ b, b ≠ g → (w.setCell ⟨g, i, none⟩ (.int .i64 z)).heap[b]? = w.heap[b]? := fun b hb => heap_setCell_other w ⟨g, i, none⟩ b _ hb
  refine ⟨⟨y, hc⟩, ho.frozenAt i, ⟨by simp [h.len], by rw [List.length_set]; exact row_same h.outer fun b hb _ _ => hoth b (fun e => h.far u _ g hx rfl (by rw [← e]; exact hb)), fun a q k ha hk => ?_, h.apart, h.far⟩, (World.ownsRow.lt ho g rfl).1⟩
  rw [List.getElem?_set] at hk
  by_cases e : u = a
  · subst e
    rw [if_pos rfl, if_pos hul] at hk
    rw [hx] at ha
    cases ha
    cases hk
    unfold OwnZ
    rw [List.length_set, hp, List.map_set]
    exact hst
  · rw [if_neg e] at hk
    exact (h.row a q k ha hk).same fun b hb _ => hoth b (fun e2 => h.apart u a _ q g e hx ha rfl (by rw [← e2]; exact hb))
end

end Go.Proofs.Ytfkmldopfhdbkaa

/-
  Faces, the program: all faces.
-/
namespace Go.Proofs.Ytfkmldopfhdbkaa
open Go.RowKit Go.Sort

theorem BoolsIn.congr12 {w : World} {g n : Nat} {f f' : Nat → Bool} (h : BoolsIn w g n f) (e : ∀ i, i < n → f i = f' i) : BoolsIn w g n f' := by
  unfold BoolsIn at h ⊢
  rw [h]
  congr 2
  unfold Co.bools
  congr 1
  exact List.map_congr_left fun i hi => by rw [e i (List.mem_range.1 hi)]

set_option maxRecDepth 100000 in
set_option maxHeartbeats 8000000 in
theorem faces_any (g n : Nat) (f : Nat → Nat) (w : World) (hs : StepsAt w g n f) :
    Calls Try.prog 32 #[.slice (some ⟨g, 0, none⟩) n n] w (RowsPost (Fa.facesZ f n) w) := by
  obtain ⟨i0, hi, hz0, hz1, hz2⟩ := info_parts Try.infoBool
  obtain ⟨m, ho⟩ := Fa.orb_ex hs.per
  have hfew := hs.few
  have hgl := hs.lt
  have HS := Nu.hid hs
  have HO := Nu.hid ho
  have hmk : ∀ W, (Instr.makeSlice 64 (.int .i64 (n : Int)) (.int .i64 (n : Int))).run Try.prog W = .ok (.slice (some ⟨W.heap.size, 0, none⟩) n n) (W.alloc (.cells (madeCells #[.bool false] n) 4)) := fun W => by
    have := run_make (P := Try.prog) W 64 4 i0 (.bool false) Try.underlying64 hi hz0 .i64 .i64 (n : Int) (n : Int) (by omega) (Int.le_refl _) (by rw [hz2]; omega) (by omega)
    rw [this, hz1]
    simp [Value.cells]
  obtain ⟨w1, hw1⟩ : ∃ w1, w1 = w.alloc (.cells (madeCells #[.bool false] n) 4) := ⟨_, rfl⟩
  have hb1 : Below w.heap.size w w1 := by rw [hw1]; exact (Below.refl _ _).alloc (Nat.le_refl _) _
  have hs1 : w.heap.size < w1.heap.size := by rw [hw1]; simp
  have HI0 : Hid (BoolsIn w1 w.heap.size n (fun x => decide (m x < 0))) := by rw [hw1]; exact (made_bools rfl n).congr12 fun i _ => by simp
  have HS1 := Nu.hid (hs.later hb1)
  have HB1 := Nu.hid hb1
  clear hs ho hb1
  go_enter Try.func32, Try.ntmps32
  go_wp2
  rw [← hw1]
  clear hmk hw1
  go_loopw [3, 14] (fun c3 c14 wr => ∃ (k : Nat) (vs : List Value), k ≤ n ∧ c14 = .int .i64 (k : Int) ∧ RowsZ wr w1.heap.size c3 vs ((Fa.facesTo f n k).map Fa.zl) ∧ BoolsIn wr w.heap.size n (fun x => decide (m x < k)) ∧ StepsAt wr g n f ∧ Below w.heap.size w wr ∧ w1.heap.size ≤ wr.heap.size) (fun _ c14 _ => n - (intOf c14).toNat)
  case atStart => exact ⟨0, [], Nat.zero_le _, rfl, RowsZ.nil _ _, HI0.out, HS1.out, HB1.out, Nat.le_refl _⟩
  case round =>
    obtain ⟨k, vs, hk, rfl, hR, hI, hS, hb, hsz⟩ := hrel
    obtain ⟨W0, rfl⟩ : ∃ W0, W0 = wr := ⟨_, rfl⟩
    obtain ⟨uo, q, uc, rfl⟩ : ∃ a q c, u3 = .slice a q c := by
      obtain ⟨a, c, e⟩ := row_shape hR
      exact ⟨_, _, _, e⟩
    have HR := Nu.hid hR
    have HI := Nu.hid hI
    have HSW := Nu.hid hS
    have HB := Nu.hid hb
    have hwk : IntKind.i64.wrap ((k : Int) + 1) = (k : Int) + 1 := by rw [IntKind.wrap_i64]; omega
    by_cases hlt : k < n
    · have hlti : (k : Int) < (n : Int) := by omega
      have hk0 : (0 : Int) ≤ (k : Int) := by omega
      have hc := hI.cell hlt
      have hle := HO.out.norm.le k hlt
      by_cases e : m k = k
      · have e1 : decide (m k < k) = false := by simp [e]
        rw [e1] at hc
        have HC := Nu.hid (round_any g n f k W0 hS hlt)
        have HE := Nu.hid e
        clear hR hI hS hb e e1 hle
        go_wp2_with (go_at_call 48; refine HC.out.mono ?_; rintro e w2 ⟨v2, rfl, ho2, hb2⟩; refine Hid.out ?_)
        refine Nu.hid ?_
        obtain ⟨fo, fc, hfe, hat2, -⟩ := ho2.form
        rw [Fa.zl_len] at hfe
        obtain ⟨p, hp⟩ : ∃ p, p = (Fa.face f n k).length := ⟨_, rfl⟩
        rw [← hp] at hfe
        subst hfe
        have HO2 := Nu.hid ho2
        have hs2 := hb2.size
        have HR2 := Nu.hid (HR.out.later hb2)
        have HI2 := Nu.hid (HI.out.later hb2)
        have HS2 := Nu.hid (HSW.out.later hb2)
        have HB2 := Nu.hid (HB.out.trans (hb2.mono HB.out.size))
        have HP := Nu.hid hp
        have hpn : p ≤ n := by
          obtain ⟨p', hl⟩ := Fa.len_ex HSW.out.per hlt
          rw [hp, Fa.face_way hl, Fa.way_len]
          exact hl.le
        clear ho2 hb2 hat2 hp hc
        go_wp2
        go_loopw [26] (fun c wr => ∃ i : Nat, i ≤ p ∧ c = .int .i64 (i : Int) ∧ BoolsIn wr w.heap.size n (fun x => decide (m x < k) || ((Fa.face f n k).take i).contains x) ∧ OwnZ wr W0.heap.size (.slice fo p fc) (Fa.zl (Fa.face f n k)) ∧ RowsZ wr w1.heap.size (.slice uo q uc) vs ((Fa.facesTo f n k).map Fa.zl) ∧ StepsAt wr g n f ∧ Below w.heap.size w wr ∧ w2.heap.size ≤ wr.heap.size) (fun c _ => p - (intOf c).toNat)
        case atStart => exact ⟨0, Nat.zero_le _, rfl, HI2.out.congr12 fun i _ => by simp, HO2.out, HR2.out, HS2.out, HB2.out, Nat.le_refl _⟩
        case round =>
          obtain ⟨i, hi', rfl, hI, hO, hR, hS, hb, hsz2⟩ := hrel
          obtain ⟨W1, rfl⟩ : ∃ W1, W1 = wr := ⟨_, rfl⟩
          have HI := Nu.hid hI
          have HOO := Nu.hid hO
          have HRR := Nu.hid hR
          have HSS := Nu.hid hS
          have HBB := Nu.hid hb
          have hwi : IntKind.i64.wrap ((i : Int) + 1) = (i : Int) + 1 := by rw [IntKind.wrap_i64]; omega
          by_cases hip : i < p
          · have hipi : (i : Int) < (p : Int) := by omega
            have hi0 : (0 : Int) ≤ (i : Int) := by omega
            obtain ⟨x, hx⟩ : ∃ x, (Fa.face f n k)[i]? = some x := ⟨_, List.getElem?_eq_getElem (by rw [← HP.out]; exact hip)⟩
            have hxn : x < n := ((Fa.mem_face HSW.out.per HO.out hlt).1 (List.mem_of_getElem? hx)).1
            obtain ⟨xo, xc, hxe, hxa, -⟩ := hO.form
            rw [Fa.zl_len, ← HP.out] at hxe
            cases hxe
            obtain ⟨b, o, rfl, hcx⟩ := hxa i (x : Int) (Fa.zl_at hx)
            have hxni : (x : Int) < (n : Int) := by omega
            have hx0 : (0 : Int) ≤ (x : Int) := by omega
            have hcb := hI.cell hxn
            have hfr := hI.free x
            have HI3 : Hid (BoolsIn (W1.setCell ⟨w.heap.size, x, none⟩ (.bool true)) w.heap.size n (fun y => decide (m y < k) || ((Fa.face f n k).take (i + 1)).contains y)) := by
              refine (hI.set x true).congr12 fun y _ => ?_
              have e1 : (Fa.face f n k).take (i + 1) = (Fa.face f n k).take i ++ [x] := by
                rw [List.take_add_one, hx]
                rfl
              rw [e1]
              by_cases ey : y = x
              · subst ey
                rw [Co.updB_same]
                simp
              · rw [Co.updB_other _ ey]
                simp [ey]
            have hW1s := hb.size
            have HO3 : Hid (OwnZ (W1.setCell ⟨w.heap.size, x, none⟩ (.bool true)) W0.heap.size (.slice (some ⟨b, o, none⟩) p fc) (Fa.zl (Fa.face f n k))) := hO.same fun g' hg _ => blk_same (fun e => by have := (World.ownsRow.lt hO g' hg).1; omega) _
            have HR3 : Hid (RowsZ (W1.setCell ⟨w.heap.size, x, none⟩ (.bool true)) w1.heap.size (.slice uo q uc) vs ((Fa.facesTo f n k).map Fa.zl)) := hR.kept fun b' hb' _ => blk_same (fun e => by
              have : w1.heap.size ≤ b' := by
                rcases hb' with hb' | ⟨u, z, hz, hzb⟩
                · exact (World.ownsRow.lt hR.outer b' hb').1
                · obtain ⟨l, hl⟩ := hR.at hz
                  exact (World.ownsRow.lt (hR.row u z l hz hl) b' hzb).1
              omega) _
            have HS3 : Hid (StepsAt (W1.setCell ⟨w.heap.size, x, none⟩ (.bool true)) g n f) := hS.same (blk_same (by omega) _) (by simp; omega)
            have HB3 : Hid (Below w.heap.size w (W1.setCell ⟨w.heap.size, x, none⟩ (.bool true))) := hb.setCell (Nat.le_refl _) _
            have hs3 : (W1.setCell ⟨w.heap.size, x, none⟩ (.bool true)).heap.size = W1.heap.size := by simp
            have HS4 := Nu.hid hs3
            clear hI hO hR hS hb hx hxa hs3
            go_wp2
            go_roundw
            case rel => exact ⟨i + 1, by omega, by go_num, HI3.out, HO3.out, HR3.out, HS3.out, HB3.out, by rw [HS4.out]; exact hsz2⟩
            case measure => simp [intOf]; omega
          · have hd : ¬ (i : Int) < (p : Int) := by omega
            have hR3 := hR
            have HI3 : Hid (BoolsIn W1 w.heap.size n (fun x => decide (m x < k + 1))) := by
              refine hI.congr12 fun y hy => ?_
              have e1 : (Fa.face f n k).take i = Fa.face f n k := List.take_of_length_le (by rw [← HP.out]; omega)
              rw [e1, Bool.eq_iff_iff]
              simp only [Bool.or_eq_true, decide_eq_true_iff, List.contains_iff_mem]
              rw [Fa.mem_face HSW.out.per HO.out hlt, HE.out]
              omega
            have hrw : ∀ b', ((Value.slice uo q uc).ownBlock = some b' ∨ inV vs b') → b' < W0.heap.size := fun b' hb' => by
              rcases hb' with hb' | ⟨u, z, hz, hzb⟩
              · exact (World.ownsRow.lt HR.out.outer b' hb').2
              · obtain ⟨l, hl⟩ := HR.out.at hz
                exact (World.ownsRow.lt (HR.out.row u z l hz hl) b' hzb).2
            have HRW := Nu.hid hrw
            have HOW : Hid (∀ b', (Value.slice fo p fc).ownBlock = some b' → W0.heap.size ≤ b') := fun b' hb' => (World.ownsRow.lt hO b' hb').1
            have hfl : ((Fa.facesTo f n k).map Fa.zl).length ≤ 8388608 := by
              rw [List.length_map, Fa.facesTo_len HSW.out.per HO.out hk]
              have := Co.cntTo_le (Co.fix m) k
              omega
            clear hI hO hR hS hb hrw hR3
            go_wp2_with (at_builtin; refine wpList_pushRowG rfl _ _ 25 Try.underlying25 rfl W1 w1.heap.size (.slice uo q uc) vs ((Fa.facesTo f n k).map Fa.zl) (.slice fo p fc) (Fa.zl (Fa.face f n k)) HRR.out (HOO.out.lower hsz) (fun u z b hz hzb e => by have h1 := HRW.out b (.inr ⟨u, z, hz, hzb⟩); have h2 := HOW.out b e; omega) (fun b hb e => by have h1 := HRW.out b (.inl hb); have h2 := HOW.out b e; omega) (by omega) (by omega) rfl rfl ?_; refine Hid.out ?_)
            refine Nu.hid ?_
            intro v4 w4 hr4 hk4 hv4 hb4
            have hs4 := hb4.size
            have hbd : ∀ b', (Value.slice uo q uc).ownBlock = some b' → w1.heap.size ≤ b' := fun b' hb' => (World.ownsRow.lt HRR.out.outer b' hb').1
            have HR4 : Hid (RowsZ w4 w1.heap.size v4 (vs ++ [.slice fo p fc]) ((Fa.facesTo f n (k + 1)).map Fa.zl)) := by
              rw [Fa.facesTo_yes HSW.out.per HO.out hlt HE.out, List.map_append]
              exact hr4
            have HI4 : Hid (BoolsIn w4 w.heap.size n (fun x => decide (m x < k + 1))) := HI3.out.same (hk4 _ HI3.out.lt (fun e => by have := hbd _ e; omega))
            have HS4 : Hid (StepsAt w4 g n f) := HSS.out.same (hk4 _ HSS.out.lt (fun e => by have := hbd _ e; omega)) (by have := HSS.out.lt; omega)
            have HB4 := Nu.hid (HBB.out.trans (hb4.mono (by omega)))
            have hsz4 : w1.heap.size ≤ w4.heap.size := by omega
            clear hr4 hk4 hv4 hb4 hbd
            go_wp2
            go_roundw
            case rel => exact ⟨k + 1, _, by omega, by go_num, HR4.out, HI4.out, HS4.out, HB4.out, hsz4⟩
            case measure => simp [intOf]; omega
      · have e1 : decide (m k < k) = true := by simp; omega
        rw [e1] at hc
        have HI3 : Hid (BoolsIn W0 w.heap.size n (fun x => decide (m x < k + 1))) := by
          refine hI.congr12 fun y hy => ?_
          have : m y ≠ k := fun h => by
            have := HO.out.norm.idem y hy
            rw [h] at this
            exact e this
          rw [Bool.eq_iff_iff, decide_eq_true_iff, decide_eq_true_iff]
          omega
        have HR3 : Hid (RowsZ W0 w1.heap.size (.slice uo q uc) vs ((Fa.facesTo f n (k + 1)).map Fa.zl)) := by
          rw [Fa.facesTo_no HSW.out.per HO.out hlt e]
          exact hR
        clear hR hI hS hb e e1 hle
        go_wp2
        go_roundw
        case rel => exact ⟨k + 1, vs, by omega, by go_num, HR3.out, HI3.out, HSW.out, HB.out, hsz⟩
        case measure => simp [intOf]; omega
    · have hd : ¬ (k : Int) < (n : Int) := by omega
      have hkn : k = n := by omega
      have HR3 : Hid (RowsZ W0 w.heap.size (.slice uo q uc) vs (Fa.facesZ f n)) := by
        have h3 : RowsZ W0 w.heap.size (.slice uo q uc) vs ((Fa.facesTo f n k).map Fa.zl) := hR.lower (by omega)
        rw [hkn] at h3
        exact h3
      clear hR hI hS hb hkn
      go_wp2
      go_ret
      exact ⟨_, vs, rfl, HR3.out, HB.out⟩

end Go.Proofs.Ytfkmldopfhdbkaa

/-
  A half-edge's edge.
-/
namespace Go.Proofs.Ytfkmldopfhdbkaa
open Go.RowKit

theorem half_edge {n : Nat} {es : List (Int × Int)} (hv : Si.Val n es) {j : Nat} (hj : j < 2 * es.length) : ∃ e, es[j / 2]? = some e ∧ Si.ok n e ∧ ((j % 2 = 0 ∧ (Cs.fr es j : Int) = e.1 ∧ (Cs.to es j : Int) = e.2) ∨ (j % 2 = 1 ∧ (Cs.fr es j : Int) = e.2 ∧ (Cs.to es j : Int) = e.1)) := by
  obtain ⟨e, he⟩ : ∃ e, es[j / 2]? = some e := ⟨_, List.getElem?_eq_getElem (by omega)⟩
  have hok := hv.each _ e he
  refine ⟨e, he, hok, ?_⟩
  unfold Si.ok at hok
  rcases Nat.mod_two_eq_zero_or_one j with h | h
  · left
    obtain ⟨g1, g2⟩ := Cs.fr_even he
    rw [show 2 * (j / 2) = j by omega] at g1 g2
    exact ⟨h, by omega, by omega⟩
  · right
    obtain ⟨g1, g2⟩ := Cs.fr_odd he
    rw [show 2 * (j / 2) + 1 = j by omega] at g1 g2
    exact ⟨h, by omega, by omega⟩

end Go.Proofs.Ytfkmldopfhdbkaa

/-
  Half-edges: where they begin, where they lead, whether they leave a vertex: the program.
-/
namespace Go.Proofs.Ytfkmldopfhdbkaa
open Go.RowKit Go.Sort

set_option maxRecDepth 100000 in
set_option maxHeartbeats 4000000 in
theorem leadsTo_any (n : Nat) (ao : Option Addr) (ca : Nat) (es : List (Int × Int)) (j : Nat) (w : World) (he : EdgesAt w ao es) (hv : Si.Val n es) (hj : j < 2 * es.length) :
    Calls Try.prog 84 #[.agg #[.int .i64 (n : Int), .slice ao es.length ca], .int .i64 (j : Int)] w fun e w' => e = .returned (.int .i64 (Cs.to es j : Int)) ∧ Below w.heap.size w w' := by
  have hb0 : Below w.heap.size w (w.alloc (.cells #[.int .i64 (n : Int), .slice ao es.length ca] 24)) := (Below.refl _ _).alloc (Nat.le_refl _) _
  have hfew := hv.few
  obtain ⟨e, hee, hok, hpar⟩ := half_edge hv hj
  obtain ⟨b, o, rfl, c0, c1⟩ := (he.later hb0) (j / 2) e hee
  obtain ⟨jh, hjh⟩ : ∃ jh, jh = j / 2 := ⟨_, rfl⟩
  rw [← hjh] at c0 c1 hee
  have hj0 : (0 : Int) ≤ (j : Int) := by omega
  have htd : (j : Int).tdiv 2 = (jh : Int) := by rw [Int.tdiv_eq_ediv_of_nonneg hj0]; omega
  have htd2 : (j : Int) / 2 = (jh : Int) := by omega
  have hjd : j / 2 = jh := hjh.symm
  have hj2 : (0 : Int) ≤ (jh : Int) := by omega
  have hj3 : (jh : Int) < (es.length : Int) := by omega
  have HB0 := Nu.hid hb0
  rcases hpar with ⟨hm, hf, ht⟩ | ⟨hm, hf, ht⟩
  · have hm1 : (j : Int).tmod 2 = 0 := by rw [Int.tmod_eq_emod_of_nonneg hj0]; omega
    have hm2 : (j : Int) % 2 = 0 := by omega
    rw [ht]
    clear he hv hok hee hb0 hf ht hjh hm
    go_enter Try.func84, Try.ntmps84
    go_wp2
    go_ret
    exact ⟨rfl, HB0.out⟩
  · have hm1 : (j : Int).tmod 2 = 1 := by rw [Int.tmod_eq_emod_of_nonneg hj0]; omega
    have hm2 : (j : Int) % 2 = 1 := by omega
    rw [ht]
    clear he hv hok hee hb0 hf ht hjh hm
    go_enter Try.func84, Try.ntmps84
    go_wp2
    go_ret
    exact ⟨rfl, HB0.out⟩

set_option maxRecDepth 100000 in
set_option maxHeartbeats 4000000 in
theorem beginsAt_any (n : Nat) (ao : Option Addr) (ca : Nat) (es : List (Int × Int)) (j : Nat) (w : World) (he : EdgesAt w ao es) (hv : Si.Val n es) (hj : j < 2 * es.length) :
    Calls Try.prog 83 #[.agg #[.int .i64 (n : Int), .slice ao es.length ca], .int .i64 (j : Int)] w fun e w' => e = .returned (.int .i64 (Cs.fr es j : Int)) ∧ Below w.heap.size w w' := by
  have hb0 : Below w.heap.size w (w.alloc (.cells #[.int .i64 (n : Int), .slice ao es.length ca] 24)) := (Below.refl _ _).alloc (Nat.le_refl _) _
  have hfew := hv.few
  have hxt := Cs.xor_twin j (by omega)
  have hfr := leadsTo_any n ao ca es (Cs.twin j) _ (he.later hb0) hv (Cs.twin_lt hj)
  rw [Cs.to_twin] at hfr
  have HFR := Nu.hid hfr
  have HB0 := Nu.hid hb0
  clear he hv hb0 hfr
  go_enter Try.func83, Try.ntmps83
  go_wp2_with (go_at_call 84; refine HFR.out.mono ?_; rintro e w1 ⟨rfl, hb1⟩)
  go_ret
  exact ⟨rfl, HB0.out.trans (hb1.mono HB0.out.size)⟩

set_option maxRecDepth 100000 in
set_option maxHeartbeats 4000000 in
theorem leaves_any (n : Nat) (ao : Option Addr) (ca : Nat) (es : List (Int × Int)) (h : Int) (v : Nat) (w : World) (he : EdgesAt w ao es) (hv : Si.Val n es) :
    Calls Try.prog 80 #[.agg #[.int .i64 (n : Int), .slice ao es.length ca], .int .i64 h, .int .i64 (v : Int)] w fun e w' => e = .returned (.bool (Ro.lv es h v)) ∧ Below w.heap.size w w' := by
  have hb0 : Below w.heap.size w (w.alloc (.cells #[.int .i64 (n : Int), .slice ao es.length ca] 24)) := (Below.refl _ _).alloc (Nat.le_refl _) _
  have hfew := hv.few
  have hin := fun j hj => beginsAt_any n ao ca es j _ (he.later hb0) hv hj
  have HIN := Nu.hid hin
  have HB0 := Nu.hid hb0
  clear he hv hb0 hin
  have hmul : IntKind.i64.wrap (2 * (es.length : Int)) = 2 * (es.length : Int) := by rw [IntKind.wrap_i64]; omega
  by_cases h0 : 0 ≤ h
  · by_cases h1 : h < 2 * (es.length : Int)
    · obtain ⟨j, rfl⟩ : ∃ j : Nat, h = (j : Int) := ⟨h.toNat, by omega⟩
      have hj : j < 2 * es.length := by omega
      have hlv : Ro.lv es (j : Int) v = ((Cs.fr es j : Int) == (v : Int)) := by
        unfold Ro.lv
        rw [Cs.frI_in hj, decide_eq_true h0, decide_eq_true h1]
        rfl
      rw [hlv]
      have HJ := Nu.hid (HIN.out j hj)
      clear hlv hmul
      go_enter Try.func80, Try.ntmps80
      go_wp2_with (go_at_call 83; refine HJ.out.mono ?_; rintro e w1 ⟨rfl, hb1⟩)
      go_ret
      exact ⟨rfl, HB0.out.trans (hb1.mono HB0.out.size)⟩
    · have hlv : Ro.lv es h v = false := by simp [Ro.lv, h1]
      rw [hlv]
      clear hlv
      go_enter Try.func80, Try.ntmps80
      go_wp2
      go_ret
      exact ⟨rfl, HB0.out⟩
  · have hlv : Ro.lv es h v = false := by simp [Ro.lv, h0]
    rw [hlv]
    clear hlv
    go_enter Try.func80, Try.ntmps80
    go_wp2
    go_ret
    exact ⟨rfl, HB0.out⟩

end Go.Proofs.Ytfkmldopfhdbkaa

/-
  Degrees are how many half-edges leave (pure).
-/
namespace Go.Proofs.Ytfkmldopfhdbkaa
open Go.RowKit

/-- How often each vertex is an end. -/
theorem Cs.degs_out {n : Nat} {es : List (Int × Int)} (hv : Si.Val n es) : ∀ k, k ≤ es.length → ∀ v, v < n → (Si.degs n (es.take k))[v]? = some ((Cs.out es v (2 * k)).length : Int) := by
  intro k
  induction k with
  | zero => intro _ v hv; simp [Si.degs, Cs.out, hv]
  | succ k ih =>
    intro hk v hvn
    obtain ⟨q, hq⟩ : ∃ q, es[k]? = some q := ⟨_, List.getElem?_eq_getElem (by omega)⟩
    have hok := hv.each k q hq
    unfold Si.ok at hok
    obtain ⟨qu, qv⟩ := q
    dsimp only at hok
    obtain ⟨a, rfl⟩ : ∃ u : Nat, qu = (u : Int) := ⟨qu.toNat, by omega⟩
    obtain ⟨b, rfl⟩ : ∃ v : Nat, qv = (v : Int) := ⟨qv.toNat, by omega⟩
    obtain ⟨e1, -⟩ := Cs.fr_even hq
    obtain ⟨e3, -⟩ := Cs.fr_odd hq
    dsimp only [Int.toNat_natCast] at e1 e3
    have h1 := ih (by omega) a (by omega)
    have h2 := ih (by omega) b (by omega)
    rw [Si.take_snoc hq, Si.degs_snoc]
    have hne : a ≠ b := by omega
    rw [Si.bump_at h1, Si.bump_at (x := ((Cs.out es b (2 * k)).length : Int)) (by rw [List.getElem?_set, if_neg hne]; exact h2)]
    have e : 2 * (k + 1) = 2 * k + 1 + 1 := by omega
    have hl := Si.degs_length n (es.take k)
    rw [e, Cs.out_len_succ, Cs.out_len_succ, e1, e3, List.getElem?_set]
    by_cases hb : b = v
    · subst hb
      rw [if_pos rfl, if_pos (by simp; omega), if_neg hne, if_pos rfl]
      congr 1
    · rw [if_neg hb, if_neg hb, List.getElem?_set]
      by_cases ha : a = v
      · subst ha
        rw [if_pos rfl, if_pos (by omega), if_pos rfl]
        congr 1
      · rw [if_neg ha, if_neg ha, ih (by omega) v hvn]
        rfl

end Go.Proofs.Ytfkmldopfhdbkaa
