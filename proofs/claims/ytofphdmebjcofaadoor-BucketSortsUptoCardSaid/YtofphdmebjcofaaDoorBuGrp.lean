/-
  Group: by key, the places that have it.
-/
import Derived.Test.YtofphdmebjcofaaDoorBuRef
import Derived.Test.YtofphdmebjcofaaDoorCoRows
import Derived.Sort.Grow
namespace Go.Proofs.YtofphdmebjcofaaDoor
open Go.RowKit Go.Sort

section
variable {W : World} {B : Nat} {vs : List Value} {ls : List (List Int)}
/-- A new list is laid at u. -/
theorem RowsZ.lay {u g c K : Nat} {x' : Value} {l' : List Int} {ob : Obj} (h : RowsZ W B (.slice (some ⟨g, 0, none⟩) K c) vs ls) (hls : ls.length = K) (hu : u < K) (hown : OwnZ (W.alloc ob) B x' l') (hat : x'.ownBlock = some W.heap.size) (hB : B ≤ W.heap.size) :
    (∃ y, (W.alloc ob).cell? ⟨g, u, none⟩ = some y) ∧ (W.alloc ob).frozen? ⟨g, u, none⟩ = false ∧ RowsZ ((W.alloc ob).setCell ⟨g, u, none⟩ x') B (.slice (some ⟨g, 0, none⟩) K c) (vs.set u x') (ls.set u l') ∧ Below B W ((W.alloc ob).setCell ⟨g, u, none⟩ x') := by
  subst hls
  have h1 : RowsZ (W.alloc ob) B (.slice (some ⟨g, 0, none⟩) ls.length c) vs ls := h.later ((Below.refl _ _).alloc (Nat.le_refl _) ob)
  have hul : u < vs.length := by rw [h.len]; exact hu
  obtain ⟨hgB, hgl⟩ := World.ownsRow.lt h.outer g rfl
  have hst := h1.outer.stored u x'
  have hc := World.ownsRow.cells h1.outer (g := g) rfl u _ (List.getElem?_eq_getElem hul)
  have ea : ((⟨g, 0, none⟩ : Addr).add u) = ⟨g, u, none⟩ := by
    by_cases h0 : u = 0 <;> simp [Addr.add, h0]
  rw [ea] at hc
  have hset : ∀ b, b ≠ g → ((W.alloc ob).setCell ⟨g, u, none⟩ x').heap[b]? = (W.alloc ob).heap[b]? := fun b hb => heap_setCell_other (W.alloc ob) ⟨g, u, none⟩ b x' hb
  have hold : ∀ (a : Nat) (y : Value) (b : Nat), vs[a]? = some y → y.ownBlock = some b → b < W.heap.size := fun a (y : Value) b hy hb => by
    obtain ⟨k, hk⟩ := h.at hy
    exact (World.ownsRow.lt (h.row a y k hy hk) b hb).2
  refine ⟨⟨_, hc⟩, h1.outer.frozenAt u, ⟨by simp [h.len], by rw [List.length_set]; exact hst.1, fun a y k ha hk => ?_, fun a a' y y' b hne ha ha' hb => ?_, fun a y b ha hb => ?_⟩, ?_⟩
  · rw [List.getElem?_set] at ha hk
    by_cases e : u = a
    · subst e
      rw [if_pos rfl, if_pos hul] at ha
      rw [if_pos rfl, if_pos hu] at hk
      cases ha
      cases hk
      refine hown.same fun b hb _ => hset b (fun e => ?_)
      rw [hat] at hb
      have := Option.some.inj hb
      omega
    · rw [if_neg e] at ha hk
      exact (h1.row a y k ha hk).same fun b hb hl => hset b (fun e => h.far a y b ha hb (by rw [e]; rfl))
  · rw [List.getElem?_set] at ha ha'
    by_cases e : u = a
    · subst e
      rw [if_pos rfl, if_pos hul] at ha
      cases ha
      rw [if_neg hne] at ha'
      intro hc
      have := hold a' y' b ha' hc
      rw [hat] at hb
      have := Option.some.inj hb
      omega
    · rw [if_neg e] at ha
      by_cases e' : u = a'
      · subst e'
        rw [if_pos rfl, if_pos hul] at ha'
        cases ha'
        intro hc
        have := hold a y b ha hb
        rw [hat] at hc
        have := Option.some.inj hc
        omega
      · rw [if_neg e'] at ha'
        exact h.apart a a' y y' b hne ha ha' hb
  · rw [List.getElem?_set] at ha
    by_cases e : u = a
    · subst e
      rw [if_pos rfl, if_pos hul] at ha
      cases ha
      intro hc
      obtain rfl : g = b := by simpa [Value.ownBlock] using hc
      rw [hat] at hb
      have := Option.some.inj hb
      omega
    · rw [if_neg e] at ha
      exact h.far a y b ha hb
  · exact ((Below.refl B W).alloc hB ob).setCell (p := ⟨g, u, none⟩) hgB x'

theorem RowsZ.put' {w1 : World} {u g c K : Nat} {x x' : Value} {l l' : List Int} (h : RowsZ W B (.slice (some ⟨g, 0, none⟩) K c) vs ls) (hls : ls.length = K) (hx : vs[u]? = some x) (hl : ls[u]? = some l)
    {tmp : Obj} (hown : OwnZ w1 B x' l') (hgrow : (W.alloc tmp).grownBy w1 x.ownBlock) (hat : x'.ownBlock = x.ownBlock ∨ x'.ownBlock = some (W.heap.size + 1)) :
    w1.cell? ⟨g, u, none⟩ = some x ∧ w1.frozen? ⟨g, u, none⟩ = false ∧ RowsZ (w1.setCell ⟨g, u, none⟩ x') B (.slice (some ⟨g, 0, none⟩) K c) (vs.set u x') (ls.set u l') ∧ Below B W (w1.setCell ⟨g, u, none⟩ x') := by
  subst hls
  exact h.put hx hl hown hgrow hat
end

theorem rows_made {w : World} {B g K c : Nat} (h : w.ownsRow B 22 1 (.slice (some ⟨g, 0, none⟩) K c) K (List.replicate K (.slice none 0 0))) : RowsZ w B (.slice (some ⟨g, 0, none⟩) K c) (List.replicate K (.slice none 0 0)) (List.replicate K []) := by
  refine ⟨by simp, by rw [List.length_replicate]; exact h, fun u x l hx hl => ?_, fun u u' x x' b _ hx _ hb => ?_, fun u x b hx hb => ?_⟩
  · rw [List.getElem?_replicate] at hx hl
    split at hx
    · rw [if_pos (by assumption)] at hl
      cases hx
      cases hl
      exact OwnZ.nil _ _
    · cases hx
  · rw [List.getElem?_replicate] at hx
    split at hx
    · cases hx
      cases hb
    · cases hx
  · rw [List.getElem?_replicate] at hx
    split at hx
    · cases hx
      cases hb
    · cases hx

theorem set_nil (K u : Nat) : (List.replicate K ([] : List Int)).set u [] = List.replicate K [] := by
  refine List.ext_getElem? fun j => ?_
  rw [List.getElem?_set]
  by_cases e : u = j
  · subst e
    by_cases h : u < K <;> simp [h]
  · rw [if_neg e]

def GroupPost (most : Int) (ks : List Int) (w : World) (e : Ending) (w' : World) : Prop :=
  ((Bu.fault most ks ≠ 0 ∧ e = .returned (.tuple #[.slice none 0 0, .int .i64 (Bu.fault most ks)])) ∨
   (Bu.fault most ks = 0 ∧ ∃ v vs, e = .returned (.tuple #[v, .int .i64 0]) ∧ RowsZ w' w.heap.size v vs (Bu.groups ks (most + 1).toNat))) ∧ Below w.heap.size w w'

set_option maxRecDepth 100000 in
set_option maxHeartbeats 16000000 in
theorem group_any (most : Int) (ao : Option Addr) (ca n : Nat) (ks : List Int) (w : World) (hl : n ≤ 17592186043904) (ha : Lst w ao n ca ks) :
    Calls Tryd.prog 13 #[.slice ao n ca, .int .i64 most] w (GroupPost most ks w) := by
  obtain ⟨i0, hi, hz0, hz1, hz2⟩ := info_parts Tryd.infoNum
  obtain ⟨i1, hi1, hy0, hy1, hy2⟩ := info_parts Tryd.infoRow
  have HN := Nu.hid ha.len
  have HK1 := Nu.hid (own_keys_any most ao ca n ks w hl ha)
  clear ha
  go_enter Tryd.func13, Tryd.ntmps13
  by_cases hf : Bu.fault most ks = 0
  · have HF := Nu.hid hf
    have HIN := Nu.hid (fault_few hf).2.2.1
    have hm0 := (fault_few hf).1
    have hm1 := (fault_few hf).2.1
    obtain ⟨m, rfl⟩ : ∃ m : Nat, most = (m : Int) := ⟨most.toNat, by omega⟩
    have HK2 : Hid (Calls Tryd.prog 19 #[.slice ao n ca, .func (.func 20) #[] #[], .int .i64 (m : Int)] w fun e w' => ∃ g : Nat, e = .returned (.tuple #[.slice (some ⟨g, 0, none⟩) n n, .int .i64 0]) ∧ w.heap.size ≤ g ∧ IntsBlk w' g ks ∧ Below w.heap.size w w') := HK1.out.mono (by
      rintro e w' ⟨⟨h1, _⟩ | ⟨_, g, h2, h3, h4⟩, hb⟩
      · exact absurd HF.out h1
      · rw [HN.out] at h2
        exact ⟨g, h2, h3, h4, hb⟩)
    clear HK1 hf
    go_wp2_with (go_at_call 19; refine HK2.out.mono ?_; rintro e w1 ⟨g0, rfl, hg, hkb, hb1⟩; have HKB := Nu.hid hkb; have HB1 := Nu.hid hb1; have hg0 := hkb.lt; clear hkb hb1 hg; refine Hid.out ?_)
    refine Nu.hid ?_
    clear HK2
    go_wp2_with (at_make; refine wpList_make_full _ rfl _ _ 43 rfl w1.heap.size 22 i1 (.slice none 0 0) 1 Tryd.underlying43 hi1 hy0 hy1 _ _ _ _ (m + 1) rfl rfl rfl rfl (by rw [hy2]; omega) (by unfold maxLen; omega) (Nat.le_refl _) ?_; refine Hid.out ?_)
    refine Nu.hid ?_
    intro w2 hrow hg2
    rw [toList_madeCells_one] at hrow
    have hb2 : Below w1.heap.size w1 w2 := (Below.refl _ _).grown hg2 (Nat.le_refl _) (fun j hj => by cases hj)
    have HR2 := Nu.hid (rows_made hrow)
    have HB2 := Nu.hid hb2
    have HC2 := Nu.hid (counts_lst (some ⟨g0, 0, none⟩) n n ks w2 HN.out hl (HKB.out.later hb2).at (m : Int) hm0 hm1 HIN.out)
    have hG2 := (World.ownsRow.lt hrow w1.heap.size rfl).2
    obtain ⟨K, hK⟩ : ∃ K, m + 1 = K := ⟨_, rfl⟩
    have HKM : Hid (((m : Int) + 1).toNat = K) := by show _ = _; omega
    have hKM : (m : Int) + 1 = (K : Int) := by omega
    rw [hK] at HR2 ⊢
    rw [hKM] at HC2
    obtain ⟨G, hG⟩ : ∃ G, G = w1.heap.size := ⟨_, rfl⟩
    have HGW := Nu.hid hG
    rw [← hG] at HR2 HB2 hG2 hg0 ⊢
    have hKb : K ≤ 4194305 := by omega
    clear hrow hg2 hb2 hG hK hKM
    go_wp2_with (go_at_call 23; refine HC2.out.mono ?_; rintro e w3 ⟨co, K1, C, rfl, hat3, hcnt, hK1, hco, hb3⟩; have HAT3 := Nu.hid hat3; have HCNT := Nu.hid hcnt; have HCO := Nu.hid hco; have HB3 := Nu.hid hb3; clear hat3 hcnt hco hb3; refine Hid.out ?_)
    refine Nu.hid ?_
    have hK1b : K1 ≤ K := by omega
    have HR3 := Nu.hid (HR2.out.later HB3.out)
    have HB3' : Hid (Below G w1 w3) := HB2.out.trans (HB3.out.mono (Nat.le_of_lt hG2))
    clear HC2 hK1
    go_wp2
    go_loopw [28] (fun c wr => ∃ (k : Nat) (vs : List Value), k ≤ K1 ∧ c = .int .i64 k ∧ RowsZ wr G (.slice (some ⟨G, 0, none⟩) K K) vs (List.replicate K []) ∧ IntsAt wr co C ∧ (∀ x, co = some x → x.block ≠ G) ∧ Below G w1 wr) (fun c _ => K1 - (intOf c).toNat)
    case atStart => exact ⟨0, _, Nat.zero_le _, rfl, HR3.out, HAT3.out, fun x hx => by have := (HCO.out x hx).1; omega, HB3'.out⟩
    case round =>
      obtain ⟨k, vs, hkK, rfl, hrows, hat, hne, hb⟩ := hrel
      have HROWS := Nu.hid hrows
      have HAT := Nu.hid hat
      have HNE := Nu.hid hne
      have HB := Nu.hid hb
      have hsz := hb.size
      rw [← HGW.out] at hsz
      clear hrows hat hne hb
      by_cases hlt : k < K1
      · have hk0 : (0 : Int) ≤ (k : Int) := by omega
        have hk1 : (k : Int) < (K1 : Int) := by omega
        have hk2 : (k : Int) < (K : Int) := by omega
        have hck := HCNT.out.put k hlt
        rw [List.take_length] at hck
        have hcl : ks.count (k : Int) ≤ n := by rw [← HN.out]; exact List.count_le_length
        obtain ⟨q, hq⟩ : ∃ q, ks.count (k : Int) = q := ⟨_, rfl⟩
        rw [hq] at hck hcl
        obtain ⟨b, o, hco, c0⟩ := HAT.out k _ hck
        have hmk : ∀ W, (Instr.makeSlice 22 (.int .i64 0) (.int .i64 (q : Int))).run Tryd.prog W = .ok (.slice (some ⟨W.heap.size, 0, none⟩) 0 q) (W.alloc (.cells (madeCells #[.int .i64 0] q) 3)) := fun W => by
          have := run_make (P := Tryd.prog) W 22 3 i0 (.int .i64 0) Tryd.underlying22 hi hz0 .i64 .i64 0 (q : Int) (by omega) (by omega) (by rw [hz2]; omega) (by omega)
          rw [this, hz1]
          simp [Value.cells]
        have hown : OwnZ (wr.alloc (.cells (madeCells #[.int .i64 0] q) 3)) G (.slice (some ⟨wr.heap.size, 0, none⟩) 0 q) [] := World.ownsRow_made wr _ q hsz (by unfold maxLen; omega) (by rw [size_madeCells]; omega)
        obtain ⟨⟨y, c1⟩, f1, hR4, hb4⟩ := RowsZ.lay (u := k) HROWS.out (by simp) (by omega) hown rfl hsz
        rw [set_nil] at hR4
        have HR4 := Nu.hid hR4
        have HB4 := Nu.hid (HB.out.trans hb4)
        have HAT4 : Hid (IntsAt ((wr.alloc (.cells (madeCells #[.int .i64 0] q) 3)).setCell ⟨G, k, none⟩ (.slice (some ⟨wr.heap.size, 0, none⟩) 0 q)) co C) := fun j z hj => by
          obtain ⟨b', o', e', hc⟩ := HAT.out j z hj
          refine ⟨b', o', e', ?_⟩
          have hbG := HNE.out _ e'
          dsimp only at hbG
          have hbl := block_lt_of_cell hc
          dsimp only at hbl
          rw [← hc]
          simp only [World.cell?]
          rw [heap_setCell_other _ ⟨G, k, none⟩ b' _ hbG, Below.heap_alloc _ _ b' hbl]
        have hNE2 := HNE.out
        subst hco
        have HNE4 := Nu.hid hNE2
        clear hck hq hown hR4 hb4 hNE2 HNE
        go_wp2
        go_roundw
        case rel => exact ⟨k + 1, _, by omega, by go_num, HR4.out, HAT4.out, HNE4.out, HB4.out⟩
        case measure => simp [intOf]; omega
      · have hd : ¬ ((k : Int) < (K1 : Int)) := by omega
        clear HCNT HAT HNE HAT3 HCO HR2 HR3 HB3 HB3' HB2
        have H0 : Hid (RowsZ wr G (.slice (some ⟨G, 0, none⟩) K K) vs (Bu.groupsTo ks 0 K)) := by
          rw [Bu.groupsTo_zero]
          exact HROWS.out
        go_wp2
        go_loopw [41] (fun c wx => ∃ (i : Nat) (us : List Value), i ≤ n ∧ c = .int .i64 i ∧ RowsZ wx G (.slice (some ⟨G, 0, none⟩) K K) us (Bu.groupsTo ks i K) ∧ Below G w1 wx) (fun c _ => n - (intOf c).toNat)
        case atStart => exact ⟨0, vs, Nat.zero_le _, rfl, H0.out, HB.out⟩
        case round =>
          obtain ⟨i, us, hin, rfl, hrows, hb⟩ := hrel
          have HR5 := Nu.hid hrows
          have HB5 := Nu.hid hb
          have hsz5 := hb.size
          rw [← HGW.out] at hsz5
          have hkbx : IntsBlk _ g0 ks := HKB.out.below hb (by rw [HGW.out] at hg0 ⊢; exact HKB.out.lt)
          clear hrows hb
          by_cases hlt2 : i < n
          · have hi0 : (0 : Int) ≤ (i : Int) := by omega
            have hi1' : (i : Int) < (n : Int) := by omega
            obtain ⟨x, hx⟩ : ∃ x, ks[i]? = some x := ⟨_, List.getElem?_eq_getElem (by have := HN.out; omega)⟩
            have hx0 := HIN.out x (List.mem_of_getElem? hx)
            obtain ⟨z, rfl⟩ : ∃ z : Nat, x = (z : Int) := ⟨x.toNat, by omega⟩
            have hzK : z < K := by have := HKM.out; omega
            have c0 := hkbx.cell hx
            have HSUCC := Nu.hid (Bu.groupsTo_succ hx hzK)
            have hl5 := Bu.groupsTo_at ks i hzK
            have hll : (Bu.grpTo ks i (z : Int)).length ≤ i := by
              rw [Bu.grpTo_length (by rw [HN.out]; omega)]
              exact Nat.le_trans List.count_le_length (by simp; omega)
            generalize Bu.grpTo ks i (z : Int) = l at hl5 HSUCC hll
            obtain ⟨v5, hv5⟩ := HR5.out.at' hl5
            have ho5 := HR5.out.row z v5 l hv5 hl5
            have cx := World.ownsRow.cells HR5.out.outer (g := G) rfl z _ hv5
            have ea : ((⟨G, 0, none⟩ : Addr).add z) = ⟨G, z, none⟩ := by
              by_cases h0 : z = 0 <;> simp [Addr.add, h0]
            rw [ea] at cx
            have HO5 := Nu.hid ho5
            have HV5 := Nu.hid hv5
            have HL5 := Nu.hid hl5
            have HLL : Hid (l.length ≤ 17592186044000) := Nat.le_trans hll (by omega)
            have z0 : (0 : Int) ≤ (z : Int) := by omega
            have z1 : (z : Int) < (K : Int) := by omega
            clear hx hl5 hll ho5 hv5 ea hkbx
            go_wp2_with (at_builtin; refine wpList_push rfl _ _ rfl _ G _ l (i : Int) HO5.out hsz5 HLL.out rfl rfl ?_; refine Hid.out ?_)
            refine Nu.hid ?_
            intro v6 w6 ho6 hg6 hat6 hb6
            obtain ⟨k1, k2, k3, k4⟩ := HR5.out.put' (Bu.groupsTo_length ks i K) HV5.out HL5.out ho6 hg6 hat6
            obtain ⟨ao6, c6, hv6, -, -⟩ := ho6.form
            rw [← HSUCC.out] at k3
            have HR6 := Nu.hid k3
            have HB6 := Nu.hid (HB5.out.trans k4)
            rw [show (l ++ [(i : Int)]).length = l.length + 1 by simp] at hv6
            subst hv6
            clear ho6 hg6 hat6 hb6 k3 k4
            go_wp2
            go_roundw
            case rel => exact ⟨i + 1, _, by omega, by go_num, HR6.out, HB6.out⟩
            case measure => simp [intOf]; omega
          · have hd2 : ¬ ((i : Int) < (n : Int)) := by omega
            obtain rfl : i = n := by omega
            clear hkbx
            go_wp2
            go_ret2
            have hbw : Below w.heap.size w _ := HB1.out.trans (HB5.out.mono (by rw [HGW.out]; exact HB1.out.size))
            refine ⟨.inr ⟨HF.out, _, us, rfl, ?_⟩, hbw⟩
            rw [HKM.out, ← Bu.groups_to, HN.out]
            exact HR5.out.lower (by rw [HGW.out]; exact HB1.out.size)
  · have HF := Nu.hid hf
    have HK2 : Hid (Calls Tryd.prog 19 #[.slice ao n ca, .func (.func 20) #[] #[], .int .i64 most] w fun e w' => e = .returned (.tuple #[.slice none 0 0, .int .i64 (Bu.fault most ks)]) ∧ Below w.heap.size w w') := HK1.out.mono (by
      rintro e w' ⟨⟨_, h1⟩ | ⟨h1, _⟩, hb⟩
      · exact ⟨h1, hb⟩
      · exact absurd h1 HF.out)
    obtain ⟨q, hq⟩ : ∃ q, Bu.fault most ks = q := ⟨_, rfl⟩
    rw [hq] at HK2 hf
    have j0 : (q != 0) = true := by simp [hf]
    have HQ := Nu.hid hq
    clear HK1 hq
    go_wp2_with (go_at_call 19; refine HK2.out.mono ?_; rintro e w2 ⟨rfl, hb2⟩; have HB2 := Nu.hid hb2; clear hb2; refine Hid.out ?_)
    refine Nu.hid ?_
    go_wp2
    go_ret2
    exact ⟨.inl ⟨HF.out, by rw [HQ.out]; rfl⟩, HB2.out⟩

end Go.Proofs.YtofphdmebjcofaaDoor
