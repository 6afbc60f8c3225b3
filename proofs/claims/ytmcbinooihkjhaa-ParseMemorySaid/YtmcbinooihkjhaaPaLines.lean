/-
  What the document's own lines answers: the lines that have numbers, each a list of its own.
-/
import Derived.Test.YtmcbinooihkjhaaPaRaw
import Derived.Test.YtmcbinooihkjhaaRef
import Derived.Maps.AppendAt
namespace Go.Proofs.Ytmcbinooihkjhaa
open Go.RowKit

theorem Try.infoToks : (Try.prog.info? 41).map (fun i => (i.zero, i.size, i.bytes)) = some (some (.slice none 0 0), 1, 24) := by kernel_rfl

theorem LineAt.grown {w w' : World} {T o : Nat} {l : List Nu.Tok} {r : Option Nat} (h : LineAt w T o l) (hg : w.grownBy w' r) (hr : some T ≠ r) : LineAt w' T o l := fun j t hj => by
  obtain ⟨h0, h1, h2, h3⟩ := h j t hj
  exact ⟨hg.cell h0 hr, hg.cell h1 hr, hg.cell h2 hr, hg.cell h3 hr⟩

/-- The lines ls that are through, the list of them being vo; the present one is cur, its list vl. -/
structure LInv (N : Nat) (w : World) (vo vl : Value) (ls : List (List Nu.Tok)) (cur : List Nu.Tok) : Prop where
  out : ∃ xs : List Value, w.ownsRow N 41 1 vo ls.length xs ∧ ∀ (j : Nat) (l : List Nu.Tok), ls[j]? = some l → l ≠ [] ∧ ∃ g cc : Nat, xs[j]? = some (Value.slice (some ⟨g, 0, none⟩) l.length cc) ∧ g < w.heap.size ∧ LineAt w g 0 l ∧ some g ≠ vo.ownBlock ∧ some g ≠ vl.ownBlock
  line : OwnToks w N vl cur
  apart : ∀ g, vl.ownBlock = some g → vo.ownBlock ≠ some g

theorem LInv.start (N : Nat) (w : World) : LInv N w (.slice none 0 0) (.slice none 0 0) [] [] :=
  ⟨⟨[], World.ownsRow_nil _ _ _ _, fun j l h => by simp at h⟩, World.ownsRow_nil _ _ _ _, fun g h => by simp [Value.ownBlock] at h⟩

theorem flat_line {us : List Nu.Tok} {w : World} {B g n cap : Nat} (h : w.ownsRow B 48 4 (.slice (some ⟨g, 0, none⟩) n cap) us.length (flat us)) : LineAt w g 0 us := fun j t hj => by
  have flat_at : ∀ (us : List Nu.Tok) (j : Nat) (t : Nu.Tok), us[j]? = some t →
      (flat us)[j * 4]? = some (.int .i64 t.kind) ∧ (flat us)[j * 4 + 1]? = some (.int .i64 t.at') ∧ (flat us)[j * 4 + 2]? = some (.int .i64 t.fin) ∧ (flat us)[j * 4 + 3]? = some (.int .i64 t.num) := by
    intro us
    induction us with
    | nil => intro j t h; simp at h
    | cons u us ih =>
      intro j t h
      have e : flat (u :: us) = .int .i64 u.kind :: .int .i64 u.at' :: .int .i64 u.fin :: .int .i64 u.num :: flat us := by simp [flat]
      cases j with
      | zero => simp at h; subst h; rw [e]; simp
      | succ j =>
        have := ih j t (by simpa using h)
        rw [e, show (j + 1) * 4 = j * 4 + 1 + 1 + 1 + 1 by omega, show j * 4 + 1 + 1 + 1 + 1 + 1 = (j * 4 + 1) + 1 + 1 + 1 + 1 by omega, show j * 4 + 1 + 1 + 1 + 1 + 2 = (j * 4 + 2) + 1 + 1 + 1 + 1 by omega, show j * 4 + 1 + 1 + 1 + 1 + 3 = (j * 4 + 3) + 1 + 1 + 1 + 1 by omega]
        simpa using this
  have ea : ∀ i, ((⟨g, 0, none⟩ : Addr).add i) = ⟨g, i, none⟩ := fun i => by
    by_cases hi : i = 0 <;> simp [Addr.add, hi]
  have hc := World.ownsRow.cells h (g := g) rfl
  simp only [ea] at hc
  obtain ⟨h0, h1, h2, h3⟩ := flat_at us j t hj
  rw [Nat.zero_add]
  exact ⟨hc _ _ h0, hc _ _ h1, hc _ _ h2, hc _ _ h3⟩

/-- One token more in the present line. -/
theorem LInv.push {N : Nat} {w w1 : World} {vo vl vl' : Value} {ls : List (List Nu.Tok)} {cur : List Nu.Tok} {x : Obj} (h : LInv N w vo vl ls cur) (t : Nu.Tok)
    (hown : w1.ownsRow N 48 4 vl' (cur.length + 1) (flat cur ++ [.int .i64 t.kind, .int .i64 t.at', .int .i64 t.fin, .int .i64 t.num])) (hg : (w.alloc x).grownBy w1 vl.ownBlock) (hat : vl'.ownBlock = vl.ownBlock ∨ vl'.ownBlock = some (w.heap.size + 1)) :
    LInv N w1 vo vl' ls (cur ++ [t]) := by
  obtain ⟨⟨xs, hxs, hls⟩, hl, hap⟩ := h
  have hsz : w.heap.size + 1 ≤ w1.heap.size := by have := hg.size; simpa using this
  refine ⟨⟨xs, (hxs.alloc x).kept hg ?_, fun j l hj => ?_⟩, ?_, fun g hgv => ?_⟩
  · cases hv : vl.ownBlock with
    | none => cases ho : vo.ownBlock with
      | none => exact .inl rfl
      | some g => exact .inr (by simp)
    | some g => exact .inr (hap g hv)
  · obtain ⟨hne, g, cc, h1, h2, h3, h4, h5⟩ := hls j l hj
    refine ⟨hne, g, cc, h1, by omega, (h3.below ((Below.refl _ _).alloc (Nat.le_refl _) x) h2).grown hg h5, h4, ?_⟩
    rcases hat with h | h
    · rw [h]; exact h5
    · rw [h]; simp; omega
  · unfold OwnToks
    rw [flat_snoc, List.length_append]
    exact hown
  · rcases hat with h | h
    · exact hap g (by rw [← h]; exact hgv)
    · rw [h] at hgv
      intro ho
      have := (hxs.lt g ho).2
      simp at hgv
      omega

/-- The present line is through. -/
theorem LInv.shut {N : Nat} {w w1 : World} {vo vl vo' : Value} {ls : List (List Nu.Tok)} {cur : List Nu.Tok} {x : Obj} (h : LInv N w vo vl ls cur) (hne : cur ≠ []) {ys : List Value} (hys : w.ownsRow N 41 1 vo ls.length ys) (hg0 : w1.ownsRow N 41 1 vo' (ls.length + 1) (ys ++ [vl]))
    (hg : (w.alloc x).grownBy w1 vo.ownBlock) (hat : vo'.ownBlock = vo.ownBlock ∨ vo'.ownBlock = some (w.heap.size + 1)) :
    LInv N w1 vo' (.slice none 0 0) (ls ++ [cur]) [] := by
  obtain ⟨⟨xs, hxs, hls⟩, hl, hap⟩ := h
  have hsz : w.heap.size + 1 ≤ w1.heap.size := by have := hg.size; simpa using this
  have hxl : xs.length = ls.length := by have := hxs.1; omega
  obtain rfl : ys = xs := by
    rcases hxs.2 with ⟨rfl, h0⟩ | ⟨g, cap, cur1, rfl, _, hh, _, _, _, he⟩
    · rw [List.length_eq_zero_iff.1 (show ys.length = 0 by have := hys.1; omega), List.length_eq_zero_iff.1 (show xs.length = 0 by have := hxs.1; omega)]
    · rcases hys.2 with ⟨h, _⟩ | ⟨g', cap', cur2, e', _, hh', _, _, _, he'⟩
      · cases h
      · cases e'
        rw [hh] at hh'
        cases hh'
        rw [← he, ← he']
  refine ⟨⟨ys ++ [vl], by rw [List.length_append]; exact hg0, fun j l hj => ?_⟩, World.ownsRow_nil _ _ _ _, fun g h => by simp [Value.ownBlock] at h⟩
  have hnew : ∀ g, g < w.heap.size → some g ≠ vo.ownBlock → some g ≠ vo'.ownBlock := fun g hg1 hg2 => by
    rcases hat with h | h
    · rw [h]; exact hg2
    · rw [h]; simp; omega
  by_cases hlt : j < ls.length
  · rw [List.getElem?_append_left hlt] at hj
    obtain ⟨hne, g, cc, h1, h2, h3, h4, h5⟩ := hls j l hj
    exact ⟨hne, g, cc, by rw [List.getElem?_append_left (by omega)]; exact h1, by omega, (h3.below ((Below.refl _ _).alloc (Nat.le_refl _) x) h2).grown hg h4, hnew g h2 h4, by simp [Value.ownBlock]⟩
  · have hj' : j = ls.length := by
      have := (List.getElem?_eq_some_iff.1 hj).1
      simp at this
      omega
    subst hj'
    simp at hj
    subst hj
    have hl' := hl
    unfold OwnToks at hl'
    rcases hl.2 with ⟨_, h0⟩ | ⟨g, cap, arr, rfl, hgN, hh, _⟩
    · exact absurd (List.length_eq_zero_iff.1 h0) hne
    · have hgl := lt_of_block hh
      have hgo : some g ≠ vo.ownBlock := fun e => hap g rfl e.symm
      exact ⟨hne, g, cap, by rw [← hxl]; simp, by omega, ((flat_line hl').below ((Below.refl _ _).alloc (Nat.le_refl _) x) hgl).grown hg hgo, hnew g hgl hgo, by simp [Value.ownBlock]⟩

theorem LInv.drop {N : Nat} {w : World} {vo vl : Value} {ls : List (List Nu.Tok)} {cur : List Nu.Tok} (h : LInv N w vo vl ls cur) : LInv N w vo (.slice none 0 0) ls [] := by
  obtain ⟨⟨xs, hxs, hls⟩, _, _⟩ := h
  refine ⟨⟨xs, hxs, fun j l hj => ?_⟩, World.ownsRow_nil _ _ _ _, fun g h => by simp [Value.ownBlock] at h⟩
  obtain ⟨hne, g, cc, h1, h2, h3, h4, _⟩ := hls j l hj
  exact ⟨hne, g, cc, h1, h2, h3, h4, by simp [Value.ownBlock]⟩

/-- v is the list of the lines ls. -/
def LinesAt (w : World) (v : Value) (ls : List (List Nu.Tok)) : Prop := ∃ ao cap, v = .slice ao ls.length cap ∧ ∀ (j : Nat) (l : List Nu.Tok), ls[j]? = some l → l ≠ [] ∧ ∃ O g cc : Nat, ao = some ⟨O, 0, none⟩ ∧ w.cell? ⟨O, j, none⟩ = some (.slice (some ⟨g, 0, none⟩) l.length cc) ∧ LineAt w g 0 l

theorem LInv.lines {N : Nat} {w : World} {vo vl : Value} {ls : List (List Nu.Tok)} {cur : List Nu.Tok} (h : LInv N w vo vl ls cur) : LinesAt w vo ls := by
  obtain ⟨⟨xs, hxs, hls⟩, _, _⟩ := h
  have hxs' := hxs
  rcases hxs.2 with ⟨rfl, h0⟩ | ⟨O, cap, arr, rfl, _⟩
  · refine ⟨none, 0, by rw [h0], fun j l hj => ?_⟩
    rw [List.length_eq_zero_iff.1 h0] at hj
    simp at hj
  · refine ⟨_, cap, rfl, fun j l hj => ?_⟩
    obtain ⟨hne, g, cc, h1, h2, h3, h4, h5⟩ := hls j l hj
    refine ⟨hne, O, g, cc, rfl, ?_, h3⟩
    have ea : ((⟨O, 0, none⟩ : Addr).add j) = ⟨O, j, none⟩ := by
      by_cases hi : j = 0 <;> simp [Addr.add, hi]
    have := World.ownsRow.cells hxs' (g := O) rfl j _ h1
    rwa [ea] at this

set_option maxRecDepth 100000 in
set_option maxHeartbeats 2000000 in
theorem lines_any (T cap : Nat) (ts : List Nu.Tok) (w : World) (ht : LineAt w T 0 ts) (hT : T < w.heap.size) (hlen : ts.length ≤ 16777217) :
    Calls Try.prog 11 #[.slice (some ⟨T, 0, none⟩) ts.length cap] w fun e w' => Below w.heap.size w w' ∧ ∃ vo, e = .returned vo ∧ LinesAt w' vo (Pa.lns [] ts) := by
  obtain ⟨i0, hi, hz0, hz1, hz2⟩ := info_parts Try.infoTok
  obtain ⟨k0, ki, kz0, kz1, kz2⟩ := info_parts Try.infoToks
  have HT := Nu.hid ht
  clear ht
  go_enter Try.func11, Try.ntmps11
  go_wp2
  go_loopw [3, 4, 5] (fun vo vl c wr => ∃ (us vs : List Nu.Tok) (ls : List (List Nu.Tok)) (cur : List Nu.Tok), ts = us ++ vs ∧ c = .int .i64 us.length ∧ Pa.lns [] ts = ls ++ Pa.lns cur vs ∧ ls.length + cur.length ≤ us.length ∧ LInv w.heap.size wr vo vl ls cur ∧ Below w.heap.size w wr) (fun _ _ c _ => ts.length - (intOf c).toNat)
  case atStart => exact ⟨[], ts, [], [], rfl, rfl, rfl, Nat.le_refl _, LInv.start _ _, Below.refl _ _⟩
  case round =>
    obtain ⟨us, vs, ls, cur, hts, rfl, hln, hcl, hinv, hb⟩ := hrel
    have hbs := hb.size
    have HB := Nu.hid hb
    have HLN := Nu.hid hln
    have HTS := Nu.hid hts
    have HINV := Nu.hid hinv
    clear hln
    cases vs with
    | nil =>
      have hd : ¬ ((us.length : Int) < (ts.length : Int)) := by rw [hts]; simp
      clear hts hb hinv
      go_wp2
      go_ret
      refine ⟨HB.out, _, rfl, ?_⟩
      have e : Pa.lns [] ts = ls := by rw [HLN.out]; simp [Pa.lns]
      rw [e]
      exact HINV.out.lines
    | cons t vs =>
      have hl : ts.length = us.length + vs.length + 1 := by rw [hts]; simp; omega
      have hlt : (us.length : Int) < (ts.length : Int) := by omega
      have hlm : us.length ≤ 16777216 := by omega
      have HL := Nu.hid hl
      have hta : TokAt wr T (us.length * 4) t := by
        have := (HT.out.below hb hT) us.length t (by rw [hts]; simp)
        rwa [Nat.zero_add] at this
      obtain ⟨a0, a1, a2, a3⟩ := hta
      have hTl : T < wr.heap.size := block_lt_of_cell a0
      obtain ⟨⟨xs, hxs, _⟩, hcur, _⟩ := hinv
      have hxl : xs.length = ls.length := by have := hxs.1; omega
      have HXS := Nu.hid hxs
      have HCUR := Nu.hid hcur
      clear hts hb hl hxs hcur
      by_cases h1 : t.kind = 1
      · have j1 : (t.kind == 1) = true := by simp [h1]
        have H1 := Nu.hid h1
        clear h1
        go_wp2_with (at_builtin; refine wpList_append_own_at _ rfl _ _ 41 rfl w.heap.size 48 i0 (.agg #[.int .i64 0, .int .i64 0, .int .i64 0, .int .i64 0]) 4 32 Try.underlying41 hi hz0 hz1 hz2 rfl (by decide) _ _ _ rfl (World.ownsRow.alloc HCUR.out _) ⟨wr.heap.size, 0, none⟩ 1 1 [.int .i64 t.kind, .int .i64 t.at', .int .i64 t.fin, .int .i64 t.num] rfl rfl (new_tok _ _ _ _ _) (one_tok _ _ _ _) (by unfold maxLen; omega) (by omega) (by simp; omega) ?_; refine Hid.out ?_)
        refine Nu.hid ?_
        intro v' w1 hown' hg _ hat
        have HI := Nu.hid (HINV.out.push t hown' hg hat)
        have HB1 := Nu.hid ((HB.out.alloc hbs _).grown hg (by simp; omega) (fun k hk => (HCUR.out.lt k hk).1))
        clear hown' hg hat
        go_wp2
        go_roundw
        case rel =>
          refine ⟨us ++ [t], vs, ls, cur ++ [t], by rw [HTS.out]; simp, by simp, ?_, by rw [List.length_append, List.length_append]; simp; omega, HI.out, HB1.out⟩
          rw [HLN.out, Pa.lns_num H1.out]
        case measure => (have := HL.out; simp [intOf]; omega)
      · have j1 : (t.kind == 1) = false := by simp [h1]
        have H1 := Nu.hid h1
        clear h1
        by_cases hc : cur = []
        · subst hc
          obtain ⟨va, vc, rfl⟩ : ∃ va vc, u4 = Value.slice va 0 vc := by
            rcases HCUR.out.2 with ⟨h, _⟩ | ⟨g, cap, _, h, _⟩
            · exact ⟨_, _, h⟩
            · exact ⟨_, _, h⟩
          go_wp2
          go_roundw
          case rel =>
            refine ⟨us ++ [t], vs, ls, [], by rw [HTS.out]; simp, by simp, ?_, by rw [List.length_append]; simp; omega, HINV.out.drop, HB.out⟩
            rw [HLN.out, Pa.lns_empty H1.out]
          case measure => (have := HL.out; simp [intOf]; omega)
        · have hcl' : 0 < cur.length := List.length_pos_iff.2 hc
          have hci : (0 : Int) < (cur.length : Int) := by omega
          obtain ⟨gl, vc, rfl⟩ : ∃ gl vc, u4 = Value.slice (some ⟨gl, 0, none⟩) cur.length vc := by
            rcases HCUR.out.2 with ⟨_, h⟩ | ⟨g, cap, _, h, _⟩
            · omega
            · exact ⟨_, _, h⟩
          go_wp2_with (at_builtin; refine wpList_append_own_at _ rfl _ _ 44 rfl w.heap.size 41 k0 (.slice none 0 0) 1 24 Try.underlying44 ki kz0 kz1 kz2 rfl (by decide) _ _ _ rfl (World.ownsRow.alloc HXS.out _) ⟨wr.heap.size, 0, none⟩ 1 1 [.slice (some ⟨gl, 0, none⟩) cur.length vc] rfl rfl (World.news_of_block (cs := #[.slice (some ⟨gl, 0, none⟩) cur.length vc]) (t := 41) (fr := (0, 0)) (heap_alloc_new wr _)) (by simp [Value.oneCell']) (by unfold maxLen; omega) (by omega) (by simp; omega) ?_; refine Hid.out ?_)
          refine Nu.hid ?_
          intro v' w1 hown' hg _ hat
          have HI := Nu.hid (HINV.out.shut hc HXS.out hown' hg hat)
          have HB1 := Nu.hid ((HB.out.alloc hbs _).grown hg (by simp; omega) (fun k hk => (HXS.out.lt k hk).1))
          clear hown' hg hat
          go_wp2
          go_roundw
          case rel =>
            refine ⟨us ++ [t], vs, ls ++ [cur], [], by rw [HTS.out]; simp, by simp, ?_, by rw [List.length_append, List.length_append]; simp; omega, HI.out, HB1.out⟩
            rw [HLN.out, Pa.lns_line H1.out hc, List.append_assoc]
            rfl
          case measure => (have := HL.out; simp [intOf]; omega)

end Go.Proofs.Ytmcbinooihkjhaa
