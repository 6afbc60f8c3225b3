/-
  Layer 15, the program: kura.
-/
import Derived.Test.YtdhaaodalchpkaaMgL
import Derived.Test.YtdhaaodalchpkaaKuR
namespace Go.Proofs.Ytdhaaodalchpkaa
open Go.RowKit Go.Sort Go.Maps

theorem results_kura2 {fn : Func} {P : Program} {p q : Tmp} (h : fn.results = #[.cell p 38, .tmp q]) (hP : P = Try.prog) (tmps : Array Value) (w : World) (b : Nat) (x y z u : Value) (hp : tmps.getD p undef = .pointer (some ⟨b, 0, none⟩)) (hq : tmps.getD q undef = u) (h0 : w.cell? ⟨b, 0, none⟩ = some x) (h1 : w.cell? ⟨b, 1, none⟩ = some y) (h2 : w.cell? ⟨b, 2, none⟩ = some z) : (results fn tmps).run P w = .ok (.tuple #[.agg #[x, y, z], u]) w := by
  subst hP
  have hp' : tmps[p]?.getD undef = .pointer (some ⟨b, 0, none⟩) := by simpa using hp
  have hq' : tmps[q]?.getD undef = u := by simpa using hq
  simp [results, h, go_sem, hp', hq', h0, h1, h2]

theorem wrote_far {S : Nat → Prop} {w V : World} (h : Wrote S w V) {b : Nat} (hb : w.heap.size ≤ b) (i : Nat) (x : Value) : Wrote S w (V.setCell ⟨b, i, none⟩ x) :=
  ⟨h.os, h.tape, h.output, by simpa using h.size, fun k hk hn => (heap_setCell_other V ⟨b, i, none⟩ k x (by show k ≠ b; omega)).trans (h.block k hk hn)⟩

namespace Ku
def noKura : Value := .agg #[.int .i64 0, .slice none 0 0, .slice none 0 0]
/-- There are as many chains as pairs, and an open one for each. -/
def All (R : List (List Int)) (ps : List (Int × Int)) : Prop := R.length = ps.length ∧ ∀ p ∈ ps, ∃ i, idx R p = some i
/-- What kura answers. -/
def KurP (B : Nat) (cs : List Value) (R : List (List Int)) (kd : Int) (bv : Value) (ps : List (Int × Int)) (w : World) (e : Ending) (w' : World) : Prop :=
  ((¬ All R ps ∧ e = .returned (.tuple #[noKura, .bool false])) ∨ (All R ps ∧ ∃ pv vs, e = .returned (.tuple #[.agg #[.int .i64 kd, bv, pv], .bool true]) ∧ RowsZ w' B pv vs (ps.map (pathOf R)) ∧ (∀ b, pv.ownBlock = some b → w.heap.size ≤ b) ∧ ∀ b, inV vs b → inV cs b)) ∧ Wrote (fun b => inV cs b) w w'
end Ku

set_option maxRecDepth 100000 in
set_option maxHeartbeats 8000000 in
theorem vkura_any (B : Nat) (ca : Option Addr) (J cc mb nb : Nat) (cs : List Value) (R : List (List Int)) (kd : Int) (bo : Option Addr) (bn bc : Nat) (pa : Option Addr) (pn pc : Nat) (ps : List (Int × Int)) (w : World)
    (hJ : R.length = J) (hBw : B ≤ w.heap.size) (hR : RowsZ w B (.slice ca J cc) cs R) (hS : Ku.Small R) (hom : Ku.OM w mb nb (Ku.opn R R.length)) (hmb : ¬ inV cs mb) (hpn : ps.length = pn) (hpl : pn ≤ 4194304) (hps : EdgesAt w pa ps) (hpa : ∀ x, pa = some x → ¬ inV cs x.block)
    (hin : ∀ p ∈ ps, In64 (Ku.key p)) (hd : ∀ (t t' : Nat) (p p' : Int × Int), t ≠ t' → ps[t]? = some p → ps[t']? = some p' → Ku.key p ≠ Ku.key p') :
    Calls Try.prog 52 #[.agg #[.slice ca J cc, .map (some mb)], .int .i64 kd, .slice bo bn bc, .slice pa pn pc] w (Ku.KurP B cs R kd (.slice bo bn bc) ps w) := by
  obtain ⟨W1, hW1⟩ : ∃ W1, W1 = w.alloc (.cells #[.slice ca J cc, .map (some mb)] 70) := ⟨_, rfl⟩
  obtain ⟨W, hW⟩ : ∃ W, W = W1.alloc (.cells #[.int .i64 0, .slice none 0 0, .slice none 0 0] 38) := ⟨_, rfl⟩
  have hs1 : W1.heap.size = w.heap.size + 1 := by rw [hW1]; simp
  have hB1 : Below w.heap.size w W1 := by rw [hW1]; exact (Below.refl _ _).alloc (Nat.le_refl _) _
  have hB2 : Below W1.heap.size W1 W := by rw [hW]; exact (Below.refl _ _).alloc (Nat.le_refl _) _
  have hBW : Below w.heap.size w W := hB1.trans (hB2.mono hB1.size)
  have g1 : W.heap[w.heap.size]? = some (.cells #[.slice ca J cc, .map (some mb)] 70 (0, 0)) := by
    rw [hB2.block _ (by omega), hW1]
    exact heap_alloc_new w _
  have g2 : W.heap[w.heap.size + 1]? = some (.cells #[.int .i64 0, .slice none 0 0, .slice none 0 0] 38 (0, 0)) := by rw [hW, ← hs1]; exact heap_alloc_new W1 _
  have hWs : w.heap.size + 1 < W.heap.size := lt_of_block g2
  have HW : Hid (W = (w.alloc (.cells #[.slice ca J cc, .map (some mb)] 70)).alloc (.cells #[.int .i64 0, .slice none 0 0, .slice none 0 0] 38)) := by rw [hW, hW1]; exact Nu.hid rfl
  have hcl : ∀ b, ((Value.slice ca J cc).ownBlock = some b ∨ inV cs b) → b < w.heap.size := fun b hb => (hR.within hb).2
  have HLOW : Hid (∀ b, ((Value.slice ca J cc).ownBlock = some b ∨ inV cs b) → b < w.heap.size) := hcl
  have HCL : Hid (∀ b, ((Value.slice ca J cc).ownBlock = some b ∨ inV cs b) → b < W.heap.size) := fun b hb => Nat.lt_trans (hcl b hb) (by omega)
  -- what stays
  have HSTAY : Hid (∀ U : World, Wrote (fun b => inV cs b ∨ W.heap.size ≤ b) W U → ∀ b, b < W.heap.size → ¬ inV cs b → U.heap[b]? = W.heap[b]?) := fun U hU b hb hn => hU.block b hb (fun h => by
    rcases h with h | h
    · exact hn h
    · omega)
  have HOM : Hid (∀ U : World, Wrote (fun b => inV cs b ∨ W.heap.size ≤ b) W U → Ku.OM U mb nb (Ku.opn R R.length)) := fun U hU => (hom.later hBW).kept (HSTAY.out U hU mb (Nat.lt_trans hom.lt (by omega)) hmb)
  have HPS : Hid (∀ U : World, Wrote (fun b => inV cs b ∨ W.heap.size ≤ b) W U → EdgesAt U pa ps) := fun U hU j p hj => by
    obtain ⟨b, o, e, h1, h2⟩ := (hps.later hBW) j p hj
    have hn := hpa _ e
    have hbl := block_lt_of_cell h1
    have := HSTAY.out U hU b hbl hn
    exact ⟨b, o, e, (World.cell?_of_block (a := ⟨b, o + j * 2, none⟩) this).trans h1, (World.cell?_of_block (a := ⟨b, o + j * 2 + 1, none⟩) this).trans h2⟩
  have HG1 : Hid (∀ U : World, Wrote (fun b => inV cs b ∨ W.heap.size ≤ b) W U → U.heap[w.heap.size]? = some (.cells #[.slice ca J cc, .map (some mb)] 70 (0, 0))) := fun U hU => (HSTAY.out U hU _ (by omega) (fun h => by have := hcl _ (.inr h); omega)).trans g1
  have HG2 : Hid (∀ U : World, Wrote (fun b => inV cs b ∨ W.heap.size ≤ b) W U → U.heap[w.heap.size + 1]? = some (.cells #[.int .i64 0, .slice none 0 0, .slice none 0 0] 38 (0, 0))) := fun U hU => (HSTAY.out U hU _ (by omega) (fun h => by have := hcl _ (.inr h); omega)).trans g2
  have HWW : Hid (∀ U : World, Wrote (fun b => inV cs b ∨ W.heap.size ≤ b) W U → Wrote (fun b => inV cs b) w U) := fun U hU => by
    have h1 : Wrote (fun b => inV cs b) w W := (Wrote.refl _ w).later hBW
    exact ⟨hU.os.trans h1.os, hU.tape.trans h1.tape, hU.output.trans h1.output, Nat.le_trans h1.size hU.size, fun b hb hn => (HSTAY.out U hU b (by omega) hn).trans (h1.block b hb hn)⟩
  have HK0 : Hid (Ku.KvM B (.slice ca J cc) cs R ps W 0 (.slice none 0 0) [] W) := ⟨⟨R, hR.later hBW, rfl, fun i l hl _ => hl⟩, RowsZ.nil _ _, fun t x hx => by simp at hx, fun b hb => (by cases hb), Wrote.refl _ _⟩
  have HS := Nu.hid hS
  have HJ := Nu.hid hJ
  have HPN := Nu.hid hpn
  have HD := Nu.hid hd
  have HIN := Nu.hid hin
  have hJl : J ≤ 4194304 := by rw [← hJ]; exact hS.1
  obtain ⟨c0, c1, -⟩ := pair_cells g1
  obtain ⟨z0, z1, z2, zf⟩ := cells3_15 g2
  have hf0 := zf 0
  have hf1 := zf 1
  have hf2 := zf 2
  have hB : Below w.heap.size w W := hBW
  have HBW := Nu.hid hBW
  rw [HW.out] at c0 c1 z0 z1 z2 hf0 hf1 hf2
  clear hW hW1 hs1 hB1 hB2 hBW hB g1 g2 hR hS hom hmb hpn hps hpa hin hd hJ zf
  by_cases hne : J = pn
  · have t1 : ((J : Int) != (pn : Int)) = false := by simp [hne]
    have HEQ : Hid (R.length = ps.length) := by rw [HJ.out, HPN.out]; exact Nu.hid hne
    clear hne
    go_enter Try.func52, Try.ntmps52
    go_wp2_with fail
    rw [← HW.out]
    clear c0 c1 z0 z1 z2 hf0 hf1 hf2
    go_loopw [10, 24] (fun pv cv wr => ∃ (k : Nat) (vs : List Value), k ≤ pn ∧ cv = .int .i64 (k : Int) ∧ Ku.KvM B (.slice ca J cc) cs R ps W k pv vs wr ∧ ∀ t p, t < k → ps[t]? = some p → ∃ i, Ku.idx R p = some i) (fun _ cv _ => pn - (intOf cv).toNat)
    case atStart => exact ⟨0, [], Nat.zero_le _, rfl, HK0.out, fun t p ht => by omega⟩
    case round =>
      obtain ⟨k, vs, hk, rfl, hkm, hall⟩ := hrel
      obtain ⟨U, rfl⟩ : ∃ U, U = wr := ⟨wr, rfl⟩
      have HKM := Nu.hid hkm
      have HALL := Nu.hid hall
      have hwu := hkm.wr
      have hsU := hwu.size
      have hwk : IntKind.i64.wrap ((k : Int) + 1) = (k : Int) + 1 := by rw [IntKind.wrap_i64]; omega
      obtain ⟨va, vc, hve⟩ := row_shape hkm.pz
      have hlv : ((ps.take k).map (Ku.pathOf R)).length = k := by rw [List.length_map, List.length_take, HPN.out]; omega
      rw [hlv] at hve
      subst hve
      by_cases hlt : k < pn
      · have hlti : (k : Int) < (pn : Int) := by omega
        have hk0 : (0 : Int) ≤ (k : Int) := by omega
        obtain ⟨⟨p1, p2⟩, hp⟩ : ∃ p, ps[k]? = some p := ⟨_, List.getElem?_eq_getElem (by rw [HPN.out]; exact hlt)⟩
        obtain ⟨eb, eo, rfl, x0, x1⟩ := HPS.out U hwu k _ hp
        dsimp only at x0 x1
        have hebl : eb < U.heap.size := block_lt_of_cell x0
        have hebn : eb ≠ U.heap.size := by omega
        have HP := Nu.hid hp
        -- the world with the pair's box
        obtain ⟨V, hV⟩ : ∃ V, V = U.alloc (.cells #[.int .i64 p1, .int .i64 p2] 50) := ⟨_, rfl⟩
        have hbV : Below U.heap.size U V := by rw [hV]; exact (Below.refl _ _).alloc (Nat.le_refl _) _
        have gV : V.heap[U.heap.size]? = some (.cells #[.int .i64 p1, .int .i64 p2] 50 (0, 0)) := by rw [hV]; exact heap_alloc_new U _
        have hwV := hwu.later hbV
        obtain ⟨⟨y1, y2⟩, hky⟩ : ∃ ky, Ku.key (p1, p2) = ky := ⟨_, rfl⟩
        have hiny : In64 (y1, y2) := by rw [← hky]; exact HIN.out _ (List.mem_of_getElem? hp)
        obtain ⟨ci, hlook, hci⟩ := (HOM.out V hwV).look hiny
        obtain ⟨jn, hjn⟩ : ∃ jn, (Ku.opn R R.length (y1, y2)).isSome = jn := ⟨_, rfl⟩
        rw [hjn] at hlook
        have hyy : (p2 < p1 ∧ y1 = p2 ∧ y2 = p1) ∨ (¬ p2 < p1 ∧ y1 = p1 ∧ y2 = p2) := by
          unfold Ku.key at hky
          dsimp only at hky
          split at hky
          · rename_i hh
            cases hky
            exact .inl ⟨hh, rfl, rfl⟩
          · rename_i hh
            cases hky
            exact .inr ⟨hh, rfl, rfl⟩
        have hlook1 : (Instr.lookup 68 (.map (some mb)) (.agg #[.int .i64 (min p1 p2), .int .i64 (max p1 p2)]) true).run Try.prog V = .ok (.tuple #[.int .i64 ci, .bool jn]) V := by
          rw [show min p1 p2 = y1 by omega, show max p1 p2 = y2 by omega]
          exact hlook
        obtain ⟨c0, c1, -⟩ := pair_cells (HG1.out V hwV)
        obtain ⟨v0, v1, -⟩ := pair_cells gV
        have HV := Nu.hid hV
        have HWV := Nu.hid hwV
        have HGV := Nu.hid gV
        have HBV := Nu.hid hbV
        have HCI := Nu.hid hci
        have HKE := Nu.hid hky
        rw [HV.out] at hlook1 c0 c1 v0 v1
        have HJN := Nu.hid hjn
        clear hkm hall hwu hp hV hbV gV hwV hci hky hlv hyy hjn hiny hlook
        cases jn with
        | false =>
          have HNO : Hid (¬ Ku.All R ps) := fun h => by
            obtain ⟨i, hi⟩ := h.2 _ (List.mem_of_getElem? HP.out)
            unfold Ku.idx at hi
            rw [HKE.out] at hi
            have := HJN.out
            rw [hi] at this
            cases this
          obtain ⟨z0, z1, z2, zf⟩ := cells3_15 (HG2.out V HWV.out)
          have hf0 := zf 0
          have hf1 := zf 1
          have hf2 := zf 2
          rw [HV.out] at z0 z1 z2 hf0 hf1 hf2
          clear zf
          have hne1 : w.heap.size + 1 ≠ U.heap.size := by omega
          go_wp2
          refine bodyPost_ret (results_kura2 rfl rfl _ _ (w.heap.size + 1) _ _ _ _ rfl rfl (set_three15 z0 z1 z2 _ _ _).1 (set_three15 z0 z1 z2 _ _ _).2.1 (set_three15 z0 z1 z2 _ _ _).2.2) rfl ?_
          rw [← HV.out]
          exact ⟨.inl ⟨HNO.out, rfl⟩, wrote_far (wrote_far (wrote_far (HWW.out V HWV.out) (by omega) _ _) (by omega) _ _) (by omega) _ _⟩
        | true =>
          obtain ⟨i, hi⟩ : ∃ i, Ku.idx R (p1, p2) = some i := by
            unfold Ku.idx
            rw [HKE.out]
            exact Option.isSome_iff_exists.1 HJN.out
          obtain rfl : ci = (i : Int) := HCI.out i (by have := hi; unfold Ku.idx at this; rw [HKE.out] at this; exact this)
          obtain ⟨l, hl, -, -⟩ := Ku.idx_at hi
          obtain ⟨x, hx, hxo, ⟨gc, cg, hce, hcell⟩, hxv⟩ := HKM.out.look HD.out HP.out hi hl
          rw [HJ.out] at hce
          cases hce
          obtain ⟨xa, xc, hxe, -, -⟩ := hxo.form
          obtain ⟨q, hq⟩ : ∃ q, l.length = q := ⟨_, rfl⟩
          rw [hq] at hxe
          subst hxe
          obtain ⟨hq2, hqb, -⟩ := HS.out.2 l (List.mem_of_getElem? hl)
          rw [hq] at hq2 hqb
          have hiJ : (i : Int) < (J : Int) := by have := Ku.idx_lt hi; have h2 := HJ.out; omega
          have hi0 : (0 : Int) ≤ (i : Int) := by omega
          have HX := Nu.hid hx
          have HXO := Nu.hid hxo
          have HXV := Nu.hid hxv
          have HI := Nu.hid hi
          have HL := Nu.hid hl
          have HQ := Nu.hid hq
          have hxl : ∀ b, (Value.slice xa q xc).ownBlock = some b → b < W.heap.size := fun b hb => HCL.out b (.inr ⟨i, _, hx, hb⟩)
          have hgl : gc < W.heap.size := HCL.out gc (.inl rfl)
          have HNX : Hid (∀ t p, t < k + 1 → ps[t]? = some p → ∃ i, Ku.idx R p = some i) := fun t p ht hp => by
            by_cases e : t = k
            · subst e
              rw [HP.out] at hp
              cases hp
              exact ⟨i, HI.out⟩
            · exact HALL.out t p (by omega) hp
          have HFAR : Hid (∀ b, (Value.slice xa q xc).ownBlock = some b → b ≠ gc) := fun b hb e => by
            obtain ⟨C, hC, -, -⟩ := HKM.out.cur
            exact hC.far i _ b HX.out hb (by rw [e]; rfl)
          have hcgV : V.cell? ⟨gc, i, none⟩ = some (.slice xa q xc) := (HBV.out.cell (p := ⟨gc, i, none⟩) (block_lt_of_cell hcell)).trans hcell
          -- the cells that are read, in every world between
          have HS3 : Hid (∀ Y : World, (∀ b, b < V.heap.size → b < W.heap.size → ¬ (Value.slice xa q xc).ownBlock = some b → Y.heap[b]? = V.heap[b]?) → Y.heap[U.heap.size]? = V.heap[U.heap.size]? → (Y.cell? ⟨U.heap.size, 0, none⟩ = some (.int .i64 p1) ∧ Y.cell? ⟨w.heap.size, 0, none⟩ = some (.slice (some ⟨gc, 0, none⟩) J cc) ∧ Y.cell? ⟨gc, i, none⟩ = some (.slice xa q xc))) := fun Y hY hY2 => by
            refine ⟨(pair_cells (hY2.trans HGV.out)).1, ?_, ?_⟩
            · have hb : w.heap.size < V.heap.size := lt_of_block (HG1.out V HWV.out)
              refine (pair_cells ((hY _ hb (by omega) (fun e => ?_)).trans (HG1.out V HWV.out))).1
              obtain ⟨C, hC, -, -⟩ := HKM.out.cur
              have := HLOW.out _ (.inr ⟨i, _, HX.out, e⟩)
              omega
            · exact (World.cell?_of_block (a := ⟨gc, i, none⟩) (hY gc (block_lt_of_cell hcgV) hgl (fun e => HFAR.out gc e rfl))).trans hcgV
          clear hx hxo hxv hi hl hq
          go_wp2_with fail
          rw [← HV.out]
          have hVU := HBV.out.size
          have hUV : U.heap.size < V.heap.size := lt_of_block HGV.out
          have HKV := Nu.hid (HKM.out.later HBV.out)
          have hpl4 : ((ps.take k).map (Ku.pathOf R)).length ≤ 4194304 := by rw [List.length_map, List.length_take]; omega
          have HPVL : Hid (∀ b, (Value.slice va k vc).ownBlock = some b → W.heap.size ≤ b ∧ b < U.heap.size) := fun b hb => ⟨HKM.out.own b hb, (HKM.out.pz.within (.inl hb)).2⟩
          have HSV := HS3.out V (fun _ _ _ _ => rfl) rfl
          have HSD := HS3.out V.drew (fun _ _ _ _ => rfl) rfl
          have HFROM := Nu.hid (vfrom_any B xa q xc p1 l V.drew HQ.out (OwnZ.later HXO.out HBV.out.drew) (by omega) hqb)
          have HST4 : Hid (∀ (u2 X w4 : World) (pv' : Value), V.drew.grownBy u2 (Value.slice xa q xc).ownBlock → OwnZ u2 B (.slice xa q xc) (Ku.fromL p1 l) → Below u2.heap.size u2 X → RowsZ X B (.slice va k vc) vs ((ps.take k).map (Ku.pathOf R)) ∧ OwnZ X B (.slice xa q xc) (Ku.fromL p1 l) ∧ (∀ b, (Value.slice xa q xc).ownBlock = some b → ¬ ((Value.slice va k vc).ownBlock = some b ∨ inV vs b)) ∧ (RowsZ w4 B pv' (vs ++ [.slice xa q xc]) ((ps.take k).map (Ku.pathOf R) ++ [Ku.fromL p1 l]) → X.grownBy w4 (Value.slice va k vc).ownBlock → (pv'.ownBlock = (Value.slice va k vc).ownBlock ∨ pv'.ownBlock = some X.heap.size) → Ku.KvM B (.slice (some ⟨gc, 0, none⟩) J cc) cs R ps W (k + 1) pv' (vs ++ [.slice xa q xc]) w4)) := fun u2 X w4 pv' hg hO hX => (HKV.out.later (Below.refl _ V).drew).step HCL.out HD.out HP.out HI.out HL.out HX.out HXV.out hg hO hX
          go_region_held3 (fun Y => Y.cell? ⟨U.heap.size, 0, none⟩ = some (.int .i64 p1) ∧ Y.cell? ⟨w.heap.size, 0, none⟩ = some (.slice (some ⟨gc, 0, none⟩) J cc) ∧ Y.cell? ⟨gc, i, none⟩ = some (.slice xa q xc))
            (first | exact HSV | exact HSD | exact hS2 | exact hSX _ | exact hS4)
            (first
              | (go_at_call 65; refine HFROM.out.mono ?_; rintro e u2 ⟨rfl, ho2, hg2⟩; have hk2 : ∀ b, b < V.heap.size → ¬ (Value.slice xa q xc).ownBlock = some b → u2.heap[b]? = V.heap[b]? := (fun b hb hn => hg2.block b hb (fun e => hn e.symm)); have hs2 : V.heap.size ≤ u2.heap.size := hg2.size; have hS2 := HS3.out u2 (fun b hb _ hn => hk2 b hb hn) (hk2 _ hUV (fun e => by have := hxl _ e; omega)); have hSX := fun (ob : Obj) => HS3.out (u2.alloc ob).drew (fun b hb _ hn => (heap_alloc_old u2 ob (by omega)).trans (hk2 b hb hn)) ((heap_alloc_old u2 ob (by omega)).trans (hk2 _ hUV (fun e => by have := hxl _ e; omega))))
              | (rw [if_pos (by rfl)]; refine wp_row_push _ _ (by rfl) B (.slice va k vc) vs _ xa q xc _ (HST4.out u2 _ V (.slice none 0 0) hg2 ho2 (by first | exact (Below.refl _ _).alloc (Nat.le_refl _) _ | exact ((Below.refl _ _).alloc (Nat.le_refl _) _).drew)).1 (by simp; omega) (by rfl) u2.heap.size (by rfl) (by exact (cell_one_new _ _ _ 0 _ rfl)) (HST4.out u2 _ V (.slice none 0 0) hg2 ho2 (by first | exact (Below.refl _ _).alloc (Nat.le_refl _) _ | exact ((Below.refl _ _).alloc (Nat.le_refl _) _).drew)).2.1 (HST4.out u2 u2 V (.slice none 0 0) hg2 ho2 (Below.refl _ _)).2.2.1 hpl4 ?_; intro v4 w4 hR4 hg4 hat4; have hK4 := (HST4.out u2 _ w4 v4 hg2 ho2 (by first | exact (Below.refl _ _).alloc (Nat.le_refl _) _ | exact ((Below.refl _ _).alloc (Nat.le_refl _) _).drew)).2.2.2 hR4 hg4 hat4; have hk4 : ∀ b, b < V.heap.size → ¬ (Value.slice xa q xc).ownBlock = some b → ¬ (Value.slice va k vc).ownBlock = some b → w4.heap[b]? = V.heap[b]? := (fun b hb h1 h2 => (hg4.block b (by simp; omega) (fun e => h2 e.symm)).trans ((heap_alloc_old u2 _ (by omega)).trans (hk2 b hb h1))); have hS4 := HS3.out w4 (fun b hb hbW hn => hk4 b hb hn (fun e => by have := (HPVL.out b e).1; omega)) (hk4 _ hUV (fun e => by have := hxl _ e; omega) (fun e => by have := (HPVL.out _ e).2; omega))))
          have HK4 := Nu.hid hK4
          clear hK4 hk4 hS4 hR4 hg4 hat4 hS2 hSX hk2 hs2 ho2 hg2 HSV HSD hpl4
          go_wp2
          go_roundw
          case rel => exact ⟨k + 1, _, by omega, by go_num, HK4.out, HNX.out⟩
          case measure => simp [intOf]; omega
      · have hdn : ¬ ((k : Int) < (pn : Int)) := by omega
        obtain rfl : k = pn := by omega
        obtain ⟨z0, z1, z2, zf⟩ := cells3_15 (HG2.out U hwu)
        have hf0 := zf 0
        have hf1 := zf 1
        have hf2 := zf 2
        have HFIN : Hid (Ku.All R ps ∧ RowsZ U B (.slice va k vc) vs (ps.map (Ku.pathOf R)) ∧ (∀ b, (Value.slice va k vc).ownBlock = some b → W.heap.size ≤ b) ∧ ∀ b, inV vs b → inV cs b) := by
          refine Nu.hid ⟨⟨HEQ.out, fun p hp => ?_⟩, ?_, hkm.own, fun b hb => ?_⟩
          · obtain ⟨t, ht⟩ := List.getElem?_of_mem hp
            exact hall t p (by have := (List.getElem?_eq_some_iff.1 ht).1; rw [HPN.out] at this; exact this) ht
          · have := hkm.pz
            rw [List.take_of_length_le (by rw [HPN.out]; exact Nat.le_refl _)] at this
            exact this
          · obtain ⟨t, y, hy, hyb⟩ := hb
            obtain ⟨_, i, _, _, _, hc⟩ := hkm.link t y hy
            exact ⟨i, y, hc, hyb⟩
        have HWU := Nu.hid hwu
        have HLOW2 : Hid (∀ b, inV cs b → b < w.heap.size) := fun b hb => HLOW.out b (.inr hb)
        have HPZ : Hid (∀ b, inV vs b → b < w.heap.size) := fun b hb => HLOW2.out b (HFIN.out.2.2.2 b hb)
        clear hkm hall hwu zf hlv
        have HKEEP : Hid (∀ (x y z : Value), RowsZ (((U.setCell ⟨w.heap.size + 1, 0, none⟩ x).setCell ⟨w.heap.size + 1, 1, none⟩ y).setCell ⟨w.heap.size + 1, 2, none⟩ z) B (.slice va k vc) vs (ps.map (Ku.pathOf R))) := fun x y z => HFIN.out.2.1.kept fun b hb _ => by
          have hne : b ≠ w.heap.size + 1 := by
            rcases hb with hb | hb
            · have := HFIN.out.2.2.1 b hb
              omega
            · have := HPZ.out b hb
              omega
          rw [heap_setCell_other _ ⟨w.heap.size + 1, 2, none⟩ b _ hne, heap_setCell_other _ ⟨w.heap.size + 1, 1, none⟩ b _ hne, heap_setCell_other _ ⟨w.heap.size + 1, 0, none⟩ b _ hne]
        go_wp2
        refine bodyPost_ret (results_kura2 rfl rfl _ _ (w.heap.size + 1) _ _ _ _ rfl rfl (set_three15 z0 z1 z2 _ _ _).1 (set_three15 z0 z1 z2 _ _ _).2.1 (set_three15 z0 z1 z2 _ _ _).2.2) rfl ?_
        exact ⟨.inr ⟨HFIN.out.1, _, vs, rfl, HKEEP.out _ _ _, fun b hb => by have := HFIN.out.2.2.1 b hb; omega, HFIN.out.2.2.2⟩, wrote_far (wrote_far (wrote_far (HWW.out U HWU.out) (by omega) _ _) (by omega) _ _) (by omega) _ _⟩
  · have t1 : ((J : Int) != (pn : Int)) = true := by simp; omega
    have HNE : Hid (¬ Ku.All R ps) := fun h => hne (by rw [← HJ.out, ← HPN.out]; exact h.1)
    clear hne
    go_enter Try.func52, Try.ntmps52
    go_wp2
    refine bodyPost_ret (results_kura2 rfl rfl _ _ (w.heap.size + 1) _ _ _ _ rfl rfl z0 z1 z2) rfl ?_
    rw [← HW.out]
    exact ⟨.inl ⟨HNE.out, rfl⟩, HWW.out W (Wrote.refl _ _)⟩
end Go.Proofs.Ytdhaaodalchpkaa
