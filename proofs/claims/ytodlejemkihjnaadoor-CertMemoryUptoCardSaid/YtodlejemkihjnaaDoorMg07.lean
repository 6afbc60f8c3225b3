import Derived.Test.YtodlejemkihjnaaDoorMg06
/-
  Certificates as text, pure: what is written is read as it was; what is read stands as it is written.
-/
namespace Go.Proofs.YtodlejemkihjnaaDoor
namespace Ce
open Nu
section
variable {B : Nat → Int} {n : Nat}

theorem jn_cons (x y : Int) (r : List Int) : jn (x :: y :: r) = dg x ++ 32 :: jn (y :: r) := rfl
theorem jn_len : ∀ (x : Int) (r : List Int), r.length < (jn (x :: r)).length
  | x, [] => by have := dg_some x; simpa [jn] using this
  | x, y :: r => by
    have := jn_len y r
    rw [jn_cons]
    simp
    omega
theorem head_app {l0 : List Int} (h : l0 ≠ []) (r : List Int) : (l0 ++ r).headD 0 = l0.headD 0 := by
  cases l0 with
  | nil => exact absurd rfl h
  | cons a l => rfl

theorem lstF_at : ∀ (r : List Int) (x : Int) (l0 : List Int) (i f : Nat), r.length < f → okL (l0 ++ x :: r) → At B i (jn (x :: r) ++ [10]) → i + (jn (x :: r)).length + 1 ≤ n → lstF B n f l0 i = .ok (l0 ++ x :: r, i + (jn (x :: r)).length + 1)
  | r, x, l0, i, 0, hf, _, _, _ => by omega
  | r, x, l0, i, f + 1, hf, hok, hat, hn => by
    have hx := hok x (by simp)
    have hno : ¬ (l0 ≠ [] ∧ x < l0.headD 0) := fun h => by
      have := hx.2
      rw [head_app h.1] at this
      omega
    cases r with
    | nil =>
      have h1 := At.app.1 hat
      rw [show jn [x] = dg x from rfl] at h1 hn ⊢
      have h10 : B (i + (dg x).length) = 10 := (At.cons.1 h1.2).1
      unfold lstF
      rw [num_at hx.1 h1.1 (by omega) (by rw [h10]; rfl)]
      dsimp only
      rw [if_neg hno, if_pos h10]
    | cons y r =>
      rw [jn_cons, List.append_assoc, List.cons_append] at hat
      have h1 := At.app.1 hat
      have h2 := At.cons.1 h1.2
      have h32 : B (i + (dg x).length) = 32 := h2.1
      rw [jn_cons, List.length_append, List.length_cons] at hn ⊢
      unfold lstF
      rw [num_at hx.1 h1.1 (by omega) (by rw [h32]; rfl)]
      dsimp only
      rw [if_neg hno, if_neg (by omega), if_pos h32, lstF_at r y (l0 ++ [x]) (i + (dg x).length + 1) f (by simpa using hf) (by simpa using hok) h2.2 (by omega)]
      simp
      omega
theorem lst_at {l : List Int} (hok : okL l) {i : Nat} (hat : At B i (lineB l)) (hn : i + (lineB l).length ≤ n) : lst B n i = .ok (l, i + (lineB l).length) := by
  unfold lst
  cases l with
  | nil =>
    have h := (At.cons.1 hat).1
    rw [if_pos (by exact h)]
    rfl
  | cons x r =>
    have hx := dg_digits x
    have h0 := dg_some x
    have h1 : At B i (dg x) := by
      cases r with
      | nil => exact (At.app.1 hat).1
      | cons y r =>
        unfold lineB at hat
        rw [jn_cons, List.append_assoc] at hat
        exact (At.app.1 hat).1
    have hd := h1 0 _ (List.getElem?_eq_getElem h0)
    have hd2 := hx _ (List.getElem_mem h0)
    rw [Nat.add_zero] at hd
    have hl := jn_len x r
    unfold lineB at hn hat ⊢
    rw [List.length_append, List.length_singleton] at hn ⊢
    rw [if_neg (by omega), lstF_at r x [] i (n + 1) (by omega) (by simpa using hok) hat (by omega)]
    simp
    omega

theorem edg_at {u v : Int} {last : Int × Int} (hu : okN u) (hv : okN v) (huv : u < v) (hl : last.1 < u ∨ (last.1 = u ∧ last.2 < v)) {i : Nat} (hat : At B i (edgeB (u, v))) (hn : i + (edgeB (u, v)).length ≤ n) : edg B n i last = .ok ((u, v), i + (edgeB (u, v)).length) := by
  have hat : At B i (dg u ++ 32 :: (dg v ++ [10])) := hat
  have hn : i + (dg u ++ 32 :: (dg v ++ [10])).length ≤ n := hn
  show edg B n i last = .ok ((u, v), i + (dg u ++ 32 :: (dg v ++ [10])).length)
  have h1 := At.app.1 hat
  have h2 := At.cons.1 h1.2
  have h3 := At.app.1 h2.2
  have h32 : B (i + (dg u).length) = 32 := h2.1
  have h10 : B (i + (dg u).length + 1 + (dg v).length) = 10 := (At.cons.1 h3.2).1
  rw [List.length_append, List.length_cons, List.length_append, List.length_singleton] at hn ⊢
  unfold edg
  rw [num_at hu h1.1 (by omega) (by rw [h32]; rfl)]
  dsimp only
  rw [if_neg (by omega), num_at hv h3.1 (by omega) (by rw [h10]; rfl)]
  dsimp only
  rw [if_neg (by omega), if_neg (by omega), if_neg (by omega)]
  simp
  omega

theorem lists_at : ∀ (ls ls0 : List (List Int)) (i : Nat), (∀ l ∈ ls, okL l) → At B i (ls.flatMap lineB) → i + (ls.flatMap lineB).length ≤ n → lists B n ls.length ls0 i = .ok (ls0 ++ ls, i + (ls.flatMap lineB).length)
  | [], ls0, i, _, _, _ => by simp [lists]
  | l :: ls, ls0, i, hok, hat, hn => by
    rw [List.flatMap_cons] at hat hn ⊢
    have h1 := At.app.1 hat
    rw [List.length_append] at hn ⊢
    show (match lst B n i with | .error e => _ | .ok (l, j) => _) = _
    rw [lst_at (hok l (by simp)) h1.1 (by omega)]
    dsimp only
    rw [lists_at ls (ls0 ++ [l]) (i + (lineB l).length) (fun l h => hok l (by simp [h])) h1.2 (by omega)]
    simp
    omega

/-- They rise, from behind one on. -/
def Up (last : Int × Int) : List (Int × Int) → Prop
  | [] => True
  | p :: es => (okN p.1 ∧ okN p.2 ∧ p.1 < p.2) ∧ (last.1 < p.1 ∨ (last.1 = p.1 ∧ last.2 < p.2)) ∧ Up p es
theorem edges_at : ∀ (es es0 : List (Int × Int)) (last : Int × Int) (i : Nat), Up last es → At B i (es.flatMap edgeB) → i + (es.flatMap edgeB).length ≤ n → edges B n es.length es0 last i = .ok (es0 ++ es, i + (es.flatMap edgeB).length)
  | [], es0, _, i, _, _, _ => by simp [edges]
  | (u, v) :: es, es0, last, i, hok, hat, hn => by
    rw [List.flatMap_cons] at hat hn ⊢
    have h1 := At.app.1 hat
    rw [List.length_append] at hn ⊢
    show (match edg B n i last with | .error e => _ | .ok (p, j) => _) = _
    obtain ⟨⟨q1, q2, q3⟩, q4, q5⟩ := hok
    rw [edg_at (u := u) (v := v) q1 q2 q3 q4 h1.1 (by omega)]
    dsimp only
    rw [edges_at es (es0 ++ [(u, v)]) (u, v) (i + (edgeB (u, v)).length) q5 h1.2 (by omega)]
    simp
    omega
theorem up_okE : ∀ (es : List (Int × Int)) (last : Int × Int), Up last es → okE es
  | [], _, _ => ⟨fun p h => (by cases h), fun i p q h => (by cases h)⟩
  | p :: es, last, ⟨h1, h2, h3⟩ => by
    have ih := up_okE es p h3
    refine ⟨fun r hr => ?_, fun i a b ha hb => ?_⟩
    · rcases List.mem_cons.1 hr with rfl | hr
      · exact h1
      · exact ih.1 r hr
    · cases i with
      | zero =>
        cases ha
        cases es with
        | nil => cases hb
        | cons q es => cases hb; exact h3.2.1
      | succ i => exact ih.2 i a b (by simpa using ha) (by simpa using hb)
theorem okE_up : ∀ (es : List (Int × Int)) (last : Int × Int), okE es → (∀ p, es[0]? = some p → last.1 < p.1 ∨ (last.1 = p.1 ∧ last.2 < p.2)) → Up last es
  | [], _, _, _ => trivial
  | p :: es, last, h, h0 => ⟨h.1 p (by simp), h0 p rfl, okE_up es p ⟨fun q hq => h.1 q (by simp [hq]), fun i a b ha hb => h.2 (i + 1) a b (by simpa using ha) (by simpa using hb)⟩ fun q hq => h.2 0 p q rfl (by simpa using hq)⟩

theorem cnt_ok {c : Cert} (hg : good c) : okN (cntC c : Int) ∧ (cntC c : Int) ≤ most c.pl := by
  unfold good at hg
  unfold cntC most okN
  cases hp : c.pl <;> rw [hp] at hg <;> simp at hg ⊢ <;> omega

theorem text_len (c : Cert) : (textB c).length = 2 + ((dg (cntC c)).length + ((bodyB c).length + 1)) := by
  simp [textB]
  omega
/-- What is written, and perhaps more behind it, is read. -/
theorem parse_at {c : Cert} (hg : good c) (hat : At B 0 (textB c)) (hn : (textB c).length ≤ n) (hm : n ≤ 33554432) : parse B n = if (textB c).length < n then (zero, ((textB c).length : Int), 170) else (c, 0, 0) := by
  obtain ⟨hc1, hc2⟩ := cnt_ok hg
  rw [text_len] at hn ⊢
  unfold textB at hat
  have h1 := At.app.1 hat
  have h2 := At.cons.1 h1.1
  have h3 := At.cons.1 h2.2
  have h4 := At.app.1 h1.2
  have h5 := At.cons.1 h4.2
  have hl2 : ([if c.pl then 112 else 110, 32] : List UInt8).length = 2 := rfl
  rw [hl2] at h4 h5
  rw [Nat.zero_add] at h3 h4 h5
  have hb0 : B 0 = if c.pl then 112 else 110 := by rw [h2.1]; cases c.pl <;> rfl
  have hb1 : B 1 = 32 := h3.1
  have hb2 : B (2 + (dg (cntC c)).length) = 10 := h5.1
  have hd : decide (B 0 = 112) = c.pl := by rw [hb0]; cases c.pl <;> rfl
  unfold parse
  rw [if_neg (by omega), if_neg (by rw [hb0]; cases c.pl <;> simp), if_neg (by omega), num_at hc1 h4.1 (by omega) (by rw [hb2]; rfl)]
  dsimp only
  rw [hd, if_neg (by omega), if_neg (by omega), show ((cntC c : Nat) : Int).toNat = cntC c by omega]
  obtain ⟨pl, ar, es⟩ := c
  unfold bdy bodyB cntC good at *
  cases pl with
  | true =>
    simp only [if_true] at *
    rw [lists_at ar [] _ hg.2.1 h5.2 (by omega)]
    dsimp only
    obtain rfl : es = [] := hg.1
    rw [List.nil_append, show 2 + (dg (ar.length : Int)).length + 1 + (ar.flatMap lineB).length = 2 + ((dg (ar.length : Int)).length + ((ar.flatMap lineB).length + 1)) by omega]
  | false =>
    simp only [Bool.false_eq_true, if_false] at *
    rw [edges_at es [] (-1, 0) _ (okE_up es _ hg.2.1 fun p hp => .inl (by have := (hg.2.1.1 p (List.mem_of_getElem? hp)).1.1; dsimp only; omega)) h5.2 (by omega)]
    dsimp only
    obtain rfl : ar = [] := hg.1
    rw [List.nil_append, show 2 + (dg (es.length : Int)).length + 1 + (es.flatMap edgeB).length = 2 + ((dg (es.length : Int)).length + ((es.flatMap edgeB).length + 1)) by omega]
end
end Ce
end Go.Proofs.YtodlejemkihjnaaDoor

/-
  Certificates as text, pure: what is read stands as it is written; where a fault is told.
-/
namespace Go.Proofs.YtodlejemkihjnaaDoor
namespace Ce
open Nu
section
variable {B : Nat → Int} {n : Nat}

theorem okL_snoc {l : List Int} {x : Int} (h : okL l) (hx : okN x) (hh : ¬ (l ≠ [] ∧ x < l.headD 0)) : okL (l ++ [x]) := by
  cases l with
  | nil =>
    intro y hy
    obtain rfl : y = x := by simpa using hy
    exact ⟨hx, Int.le_refl _⟩
  | cons a l =>
    intro y hy
    rw [head_app (by simp)]
    rcases List.mem_append.1 hy with hy | hy
    · exact h y hy
    · obtain rfl : y = x := by simpa using hy
      exact ⟨hx, by
        have : ¬ y < (a :: l).headD 0 := fun k => hh ⟨by simp, k⟩
        omega⟩
theorem in_of (hT : Txt B n) {i : Nat} {z : Int} (h : B i = z) (hz : z ≠ -1) : i < n := by
  rcases Nat.lt_or_ge i n with h1 | h1
  · exact h1
  · have := hT.out i h1
    omega

theorem lstF_is (hT : Txt B n) : ∀ (f : Nat) (l0 : List Int) (i : Nat) {l : List Int} {k : Nat}, i ≤ n → okL l0 → lstF B n f l0 i = .ok (l, k) → ∃ x r, l = l0 ++ x :: r ∧ okL l ∧ At B i (jn (x :: r) ++ [10]) ∧ k = i + (jn (x :: r)).length + 1 ∧ k ≤ n
  | 0, _, _, _, _, _, _, h => by cases h
  | f + 1, l0, i, l, k, hi, hok, h => by
    unfold lstF at h
    cases hm : num B n i with
    | none => rw [hm] at h; cases h
    | some q =>
      obtain ⟨v, e⟩ := q
      rw [hm] at h
      dsimp only at h
      obtain ⟨n1, n2, n3, n4⟩ := num_is hi hm
      by_cases hh : l0 ≠ [] ∧ v < l0.headD 0
      · rw [if_pos hh] at h; cases h
      · rw [if_neg hh] at h
        have hs := okL_snoc hok n1 hh
        by_cases h10 : B e = 10
        · rw [if_pos h10] at h
          cases h
          have := in_of hT h10 (by decide)
          refine ⟨v, [], by simp, hs, At.app.2 ⟨n2, At.cons.2 ⟨by rw [show jn [v] = dg v from rfl, ← n3]; exact h10, At.nil⟩⟩, by rw [n3]; rfl, by omega⟩
        · rw [if_neg h10] at h
          by_cases h32 : B e = 32
          · rw [if_pos h32] at h
            have hlt := in_of hT h32 (by decide)
            obtain ⟨x, r, h1, h2, h3, h4, h5⟩ := lstF_is hT f (l0 ++ [v]) (e + 1) (by omega) hs h
            refine ⟨v, x :: r, by rw [h1]; simp, h2, ?_, ?_, h5⟩
            · rw [jn_cons, List.append_assoc, List.cons_append]
              exact At.app.2 ⟨n2, At.cons.2 ⟨by rw [← n3]; exact h32, by rw [← n3]; exact h3⟩⟩
            · rw [jn_cons, List.length_append, List.length_cons]
              omega
          · rw [if_neg h32] at h; cases h
theorem lst_is (hT : Txt B n) {i k : Nat} {l : List Int} (hi : i ≤ n) (h : lst B n i = .ok (l, k)) : okL l ∧ At B i (lineB l) ∧ k = i + (lineB l).length ∧ k ≤ n := by
  unfold lst at h
  by_cases h10 : B i = 10
  · rw [if_pos h10] at h
    cases h
    exact ⟨fun y hy => (by cases hy), At.cons.2 ⟨h10, At.nil⟩, rfl, in_of hT h10 (by decide)⟩
  · rw [if_neg h10] at h
    obtain ⟨x, r, h1, h2, h3, h4, h5⟩ := lstF_is hT (n + 1) [] i hi (fun y hy => (by cases hy)) h
    rw [List.nil_append] at h1
    subst h1
    exact ⟨h2, h3, by rw [h4]; simp [lineB]; omega, h5⟩
theorem edg_is (hT : Txt B n) {i k : Nat} {last p : Int × Int} (hi : i ≤ n) (h : edg B n i last = .ok (p, k)) : (okN p.1 ∧ okN p.2 ∧ p.1 < p.2) ∧ (last.1 < p.1 ∨ (last.1 = p.1 ∧ last.2 < p.2)) ∧ At B i (edgeB p) ∧ k = i + (edgeB p).length ∧ k ≤ n := by
  unfold edg at h
  cases hm : num B n i with
  | none => rw [hm] at h; cases h
  | some q =>
    obtain ⟨u, e⟩ := q
    rw [hm] at h
    dsimp only at h
    obtain ⟨n1, n2, n3, n4⟩ := num_is hi hm
    by_cases h32 : B e ≠ 32
    · rw [if_pos h32] at h; cases h
    · rw [if_neg h32] at h
      have h32 : B e = 32 := Classical.byContradiction h32
      have hlt := in_of hT h32 (by decide)
      cases hm2 : num B n (e + 1) with
      | none => rw [hm2] at h; cases h
      | some q =>
        obtain ⟨v, e2⟩ := q
        rw [hm2] at h
        dsimp only at h
        obtain ⟨m1, m2, m3, m4⟩ := num_is (by omega) hm2
        by_cases c1 : v ≤ u
        · rw [if_pos c1] at h; cases h
        · rw [if_neg c1] at h
          by_cases c2 : u < last.1 ∨ (u = last.1 ∧ v ≤ last.2)
          · rw [if_pos c2] at h; cases h
          · rw [if_neg c2] at h
            by_cases c3 : B e2 ≠ 10
            · rw [if_pos c3] at h; cases h
            · rw [if_neg c3] at h
              have c3 : B e2 = 10 := Classical.byContradiction c3
              have hlt2 := in_of hT c3 (by decide)
              cases h
              refine ⟨⟨n1, m1, by dsimp only; omega⟩, by dsimp only; omega, ?_, ?_, by omega⟩
              · show At B i (dg u ++ 32 :: (dg v ++ [10]))
                refine At.app.2 ⟨n2, At.cons.2 ⟨by rw [← n3]; exact h32, At.app.2 ⟨by rw [← n3]; exact m2, At.cons.2 ⟨by rw [← n3, ← m3]; exact c3, At.nil⟩⟩⟩⟩
              · show e2 + 1 = i + (dg u ++ 32 :: (dg v ++ [10])).length
                simp
                omega
theorem lists_is (hT : Txt B n) : ∀ (k : Nat) (ls0 : List (List Int)) (i : Nat) {ls : List (List Int)} {j : Nat}, i ≤ n → lists B n k ls0 i = .ok (ls, j) → ∃ r, ls = ls0 ++ r ∧ r.length = k ∧ (∀ l ∈ r, okL l) ∧ At B i (r.flatMap lineB) ∧ j = i + (r.flatMap lineB).length ∧ j ≤ n
  | 0, ls0, i, ls, j, hi, h => by
    cases h
    exact ⟨[], by simp, rfl, fun l hl => (by cases hl), At.nil, rfl, hi⟩
  | k + 1, ls0, i, ls, j, hi, h => by
    have h : (match lst B n i with | .error e => .error e | .ok (l, j) => lists B n k (ls0 ++ [l]) j) = Except.ok (ls, j) := h
    cases hl : lst B n i with
    | error e => rw [hl] at h; cases h
    | ok q =>
      obtain ⟨l, e⟩ := q
      rw [hl] at h
      dsimp only at h
      obtain ⟨a1, a2, a3, a4⟩ := lst_is hT hi hl
      obtain ⟨r, r1, r2, r3, r4, r5, r6⟩ := lists_is hT k (ls0 ++ [l]) e a4 h
      refine ⟨l :: r, by rw [r1]; simp, by simp [r2], fun x hx => ?_, ?_, ?_, r6⟩
      · rcases List.mem_cons.1 hx with rfl | hx
        · exact a1
        · exact r3 x hx
      · rw [List.flatMap_cons]
        exact At.app.2 ⟨a2, by rw [← a3]; exact r4⟩
      · rw [List.flatMap_cons, List.length_append]
        omega
theorem edges_is (hT : Txt B n) : ∀ (k : Nat) (es0 : List (Int × Int)) (last : Int × Int) (i : Nat) {es : List (Int × Int)} {j : Nat}, i ≤ n → edges B n k es0 last i = .ok (es, j) → ∃ r, es = es0 ++ r ∧ r.length = k ∧ Up last r ∧ At B i (r.flatMap edgeB) ∧ j = i + (r.flatMap edgeB).length ∧ j ≤ n
  | 0, es0, last, i, es, j, hi, h => by
    cases h
    exact ⟨[], by simp, rfl, trivial, At.nil, rfl, hi⟩
  | k + 1, es0, last, i, es, j, hi, h => by
    have h : (match edg B n i last with | .error e => .error e | .ok (p, j) => edges B n k (es0 ++ [p]) p j) = Except.ok (es, j) := h
    cases hl : edg B n i last with
    | error e => rw [hl] at h; cases h
    | ok q =>
      obtain ⟨p, e⟩ := q
      rw [hl] at h
      dsimp only at h
      obtain ⟨a1, a2, a3, a4, a5⟩ := edg_is hT hi hl
      obtain ⟨r, r1, r2, r3, r4, r5, r6⟩ := edges_is hT k (es0 ++ [p]) p e a5 h
      refine ⟨p :: r, by rw [r1]; simp, by simp [r2], ⟨a1, a2, r3⟩, ?_, ?_, r6⟩
      · rw [List.flatMap_cons]
        exact At.app.2 ⟨a3, by rw [← a4]; exact r4⟩
      · rw [List.flatMap_cons, List.length_append]
        omega

/-- What is read, without a fault, stands as it is written, and nothing behind it. -/
theorem parse_is (hT : Txt B n) {c : Cert} {pl : Int} (h : parse B n = (c, pl, 0)) : good c ∧ At B 0 (textB c) ∧ (textB c).length = n ∧ n ≤ 33554432 ∧ pl = 0 := by
  unfold parse at h
  by_cases c0 : 33554432 < n
  · rw [if_pos c0] at h; cases h
  · rw [if_neg c0] at h
    by_cases c1 : B 0 ≠ 112 ∧ B 0 ≠ 110
    · rw [if_pos c1] at h; cases h
    · rw [if_neg c1] at h
      by_cases c2 : B 1 ≠ 32
      · rw [if_pos c2] at h; cases h
      · rw [if_neg c2] at h
        have c2 : B 1 = 32 := Classical.byContradiction c2
        have hn1 := in_of hT c2 (by decide)
        cases hm : num B n 2 with
        | none => rw [hm] at h; cases h
        | some q =>
          obtain ⟨k, i⟩ := q
          rw [hm] at h
          dsimp only at h
          obtain ⟨n1, n2, n3, n4⟩ := num_is (by omega) hm
          obtain ⟨pb, hpb⟩ : ∃ pb, decide (B 0 = 112) = pb := ⟨_, rfl⟩
          rw [hpb] at h
          have hb0 : B 0 = if pb then 112 else 110 := by
            cases pb with
            | true => simpa using hpb
            | false =>
              have : B 0 ≠ 112 := by simpa using hpb
              show B 0 = 110
              omega
          by_cases c3 : most pb < k
          · rw [if_pos c3] at h; cases h
          · rw [if_neg c3] at h
            by_cases c4 : B i ≠ 10
            · rw [if_pos c4] at h; cases h
            · rw [if_neg c4] at h
              have c4 : B i = 10 := Classical.byContradiction c4
              have hni := in_of hT c4 (by decide)
              have fin : ∀ {c' : Cert} {j : Nat}, (if j < n then ((zero, (j : Int), (170 : Int)) : Cert × Int × Int) else (c', 0, 0)) = (c, pl, 0) → ¬ j < n ∧ c' = c ∧ pl = 0 := fun {c' j} h => by
                by_cases hj : j < n
                · rw [if_pos hj] at h; cases h
                · rw [if_neg hj] at h
                  cases h
                  exact ⟨hj, rfl, rfl⟩
              have head : ∀ {c' : Cert}, c'.pl = pb → (cntC c' : Int) = k → At B (i + 1) (bodyB c') → At B 0 (textB c') := fun {c'} e1 e2 e3 => by
                unfold textB
                rw [e1, e2]
                refine At.app.2 ⟨At.cons.2 ⟨by rw [hb0]; cases pb <;> rfl, At.cons.2 ⟨c2, At.nil⟩⟩, ?_⟩
                rw [show 0 + ([if pb then 112 else 110, 32] : List UInt8).length = 2 from rfl]
                exact At.app.2 ⟨n2, At.cons.2 ⟨by rw [← n3]; exact c4, by rw [← n3]; exact e3⟩⟩
              cases pb with
              | true =>
                unfold bdy at h
                rw [if_pos rfl] at h
                cases hb : lists B n k.toNat [] (i + 1) with
                | error e => rw [hb] at h; cases h
                | ok q =>
                  obtain ⟨ls, j⟩ := q
                  rw [hb] at h
                  dsimp only at h
                  obtain ⟨f1, rfl, f2⟩ := fin h
                  obtain ⟨r, r1, r2, r3, r4, r5, r6⟩ := lists_is hT k.toNat [] (i + 1) (by omega) hb
                  rw [List.nil_append] at r1
                  subst r1
                  have hk : (ls.length : Int) = k := by rw [r2]; have := n1.1; omega
                  have hh := head (c' := ⟨true, ls, []⟩) rfl hk r4
                  refine ⟨?_, hh, ?_, by omega, f2⟩
                  · unfold good
                    rw [if_pos rfl]
                    unfold most at c3
                    rw [if_pos rfl] at c3
                    exact ⟨rfl, r3, by dsimp only; omega⟩
                  · rw [text_len]
                    show 2 + ((dg (ls.length : Int)).length + ((ls.flatMap lineB).length + 1)) = n
                    rw [hk]
                    omega
              | false =>
                unfold bdy at h
                rw [if_neg (by simp)] at h
                cases hb : edges B n k.toNat [] (-1, 0) (i + 1) with
                | error e => rw [hb] at h; cases h
                | ok q =>
                  obtain ⟨es, j⟩ := q
                  rw [hb] at h
                  dsimp only at h
                  obtain ⟨f1, rfl, f2⟩ := fin h
                  obtain ⟨r, r1, r2, r3, r4, r5, r6⟩ := edges_is hT k.toNat [] (-1, 0) (i + 1) (by omega) hb
                  rw [List.nil_append] at r1
                  subst r1
                  have hk : (es.length : Int) = k := by rw [r2]; have := n1.1; omega
                  have hh := head (c' := ⟨false, [], es⟩) rfl hk r4
                  refine ⟨?_, hh, ?_, by omega, f2⟩
                  · unfold good
                    rw [if_neg (by simp)]
                    unfold most at c3
                    rw [if_neg (by simp)] at c3
                    exact ⟨rfl, up_okE es _ r3, by dsimp only; omega⟩
                  · rw [text_len]
                    show 2 + ((dg (es.length : Int)).length + ((es.flatMap edgeB).length + 1)) = n
                    rw [hk]
                    omega
end
end Ce
end Go.Proofs.YtodlejemkihjnaaDoor
