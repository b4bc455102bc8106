/- The document's Change. -/
import Derived.Test.YtiliffnflamkjaaQE
namespace Go.Proofs.Ytiliffnflamkjaa.Sp
open Go.RowKit
set_option linter.unusedVariables false

/-- an own row of numbers, one of which is written -/
theorem own_int {B : Nat} {w : World} {v : Value} {fx : List Int} (h : OwnR intC 1 3 B w v fx) {i : Nat} (hi : i < fx.length) :
    ∃ g c, v = .slice (some ⟨g, 0, none⟩) fx.length c ∧ (∃ u, w.cell? ⟨g, i, none⟩ = some u) ∧ w.frozen? ⟨g, i, none⟩ = false ∧ ∀ f : Int, OwnR intC 1 3 B (w.setCell ⟨g, i, none⟩ (.int .i64 f)) (.slice (some ⟨g, 0, none⟩) fx.length c) (fx.set i f) := by
  rcases h.2 with ⟨rfl, h0⟩ | ⟨g, cap, cur, rfl, hb, hg, hn, hc, hs, ht⟩
  · omega
  · have hfl : ∀ l : List Int, l.flatMap intC = l.map (fun z => Value.int .i64 z) := fun l => by
      induction l with
      | nil => rfl
      | cons x l ih => simp [intC, ih]
    have hcl : i < cur.size := by omega
    refine ⟨g, cap, rfl, ⟨cur[i], by rw [cell_of_row w g i cur 3 (0, 0) hg]; exact Array.getElem?_eq_getElem hcl⟩, frozen_of_row w g i cur 3 hg, fun f => ⟨by simp [hfl], Or.inr ⟨g, cap, _, by rw [List.length_set], hb, heap_setCell_same w g i cur 3 _ hg, by rw [List.length_set]; exact hn, hc, by simpa using hs, ?_⟩⟩⟩
    rw [hfl] at ht ⊢
    rw [List.map_set, ← ht, List.length_set]
    simp only [Array.toList_setIfInBounds]
    rw [List.take_set]

set_option maxRecDepth 100000 in
set_option maxHeartbeats 64000000 in
theorem rchange_any (N : Nat → Prop) (w : World) (m : Int) (s : Sli RS) (L : List Sh) (h : RTree N w s L) (n : Int) (k : ByteArray) (f : Int) (hN : ∀ b, w.heap.size ≤ b → N b) (hcap : m ≤ top ∨ L.length + 1 ≤ top) (hks : ∀ s ∈ L, s.ks.length ≤ top ∧ s.fs.length ≤ top ∧ s.st.length ≤ top) (hfl : ∀ s ∈ L, s.fs.length = s.ks.length) :
    Calls Try.prog 20 #[.agg #[.int .i64 m, .slice s.at' s.xs.length s.cap], .int .i64 n, .string k, .int .i64 f] w fun e w' => RWent N w m (changeD m L n k f) e w' := by
  obtain ⟨sa, sc, sx⟩ := s
  simp only
  obtain ⟨hlim, hlen⟩ := h.lim
  simp only at hlim hlen
  have HLEN : Hid (sx.length = L.length) := hlen
  clear hlen
  obtain ⟨wb, hwb⟩ : ∃ wb, wb = (w.alloc (.cells #[.int .i64 m, .slice sa sx.length sc] 27)).alloc (.cells #[.int .i64 0, .slice none 0 0] 27) := ⟨_, rfl⟩
  have hB : Below w.heap.size w wb := by rw [hwb]; exact B2 _ _ _
  have g0 : wb.heap[w.heap.size]? = some (.cells #[.int .i64 m, .slice sa sx.length sc] 27 (0, 0)) := by rw [hwb]; exact at_old _ _ _ _ (at_new _ _)
  have g1 : wb.heap[w.heap.size + 1]? = some (.cells #[.int .i64 0, .slice none 0 0] 27 (0, 0)) := by rw [hwb]; exact at_two _ _ _
  have hsz : wb.heap.size = w.heap.size + 2 := by rw [hwb, size_new, size_new]
  have a0 : wb.cell? ⟨w.heap.size, 0, none⟩ = some (.int .i64 m) := by rw [cell_of_row wb _ 0 _ 27 (0, 0) g0]; rfl
  have a1 : wb.cell? ⟨w.heap.size, 1, none⟩ = some (.slice sa sx.length sc) := by rw [cell_of_row wb _ 1 _ 27 (0, 0) g0]; rfl
  have c0 : wb.cell? ⟨w.heap.size + 1, 0, none⟩ = some (.int .i64 0) := by rw [cell_of_row wb _ 0 _ 27 (0, 0) g1]; rfl
  have c1 : wb.cell? ⟨w.heap.size + 1, 1, none⟩ = some (.slice none 0 0) := by rw [cell_of_row wb _ 1 _ 27 (0, 0) g1]; rfl
  have f0 := frozen_of_row wb _ 0 _ 27 g1
  have f1 := frozen_of_row wb _ 1 _ 27 g1
  have HG : Hid (∀ w2, Below wb.heap.size wb w2 → w2.cell? ⟨w.heap.size, 0, none⟩ = some (.int .i64 m) ∧ w2.cell? ⟨w.heap.size, 1, none⟩ = some (.slice sa sx.length sc) ∧ w2.heap[w.heap.size + 1]? = some (.cells #[.int .i64 0, .slice none 0 0] 27 (0, 0)) ∧ Below w.heap.size w w2 ∧ w.heap.size + 2 ≤ w2.heap.size) := fun w2 hb => ⟨cells_below hb _ _ a0, cells_below hb _ _ a1, (hb.block _ (by omega)).trans g1, hB.trans (hb.mono hB.size), by have := hb.size; omega⟩
  have HR : Hid (RTree N w ⟨sa, sc, sx⟩ L) := h
  have HBW : Hid (Below w.heap.size w wb) := hB
  -- what is refused
  have HNO : Hid (∀ w2, Below wb.heap.size wb w2 → RWent N w m (L, 0, false) (.returned (.tuple #[.agg #[.int .i64 m, .slice sa sx.length sc], .int .i64 0, .bool false])) ((w2.setCell ⟨w.heap.size + 1, 0, none⟩ (.int .i64 m)).setCell ⟨w.heap.size + 1, 1, none⟩ (.slice sa sx.length sc))) := fun w2 hb => by
    have hbf := set2_below (hB.trans (hb.mono hB.size)) (show w.heap.size ≤ w.heap.size + 1 by omega) (.int .i64 m) (.slice sa sx.length sc)
    exact ⟨⟨sa, sc, sx⟩, rfl, h.below hbf, hbf⟩
  have ka := at_any N wb m ⟨sa, sc, sx⟩ L (h.below hB) n k
  simp only at ka
  by_cases hneg : atI L n k = -1
  · have e0 : changeD m L n k f = (L, 0, false) := by
      unfold changeD
      unfold atI at hneg
      cases hs : shOf L n with
      | none => rfl
      | some q =>
        simp only
        rw [hs] at hneg
        simp only [Option.bind_some] at hneg
        cases hi : idx q.ks k with
        | none => rfl
        | some i => rw [hi] at hneg; simp only at hneg; omega
    rw [e0]
    rw [hneg] at ka
    clear h e0 hneg hB g0 g1 hsz HR HBW hcap hN hks
    go_enter Try.func20, Try.ntmps20
    go_upto_region 1 with fail
    rw [← hwb]
    clear hwb
    go_wp2_with fail
    refine ka.mono ?_
    rintro e w2 ⟨rfl, hb2⟩
    obtain ⟨z0, z1, bl, _, _⟩ := HG.out w2 hb2
    have c0 : w2.cell? ⟨w.heap.size + 1, 0, none⟩ = some (.int .i64 0) := by rw [cell_of_row w2 _ 0 _ 27 (0, 0) bl]; rfl
    have c1 : w2.cell? ⟨w.heap.size + 1, 1, none⟩ = some (.slice none 0 0) := by rw [cell_of_row w2 _ 1 _ 27 (0, 0) bl]; rfl
    have f0 := frozen_of_row w2 _ 0 _ 27 bl
    have f1 := frozen_of_row w2 _ 1 _ 27 bl
    have HBL : Hid (w2.heap[w.heap.size + 1]? = some (.cells #[.int .i64 0, .slice none 0 0] 27 (0, 0)) ∧ Below wb.heap.size wb w2) := ⟨bl, hb2⟩
    clear bl hb2 ka
    go_wp2_with fail
    refine bodyPost_ret (res3 rfl _ _ (w.heap.size + 1) 27 _ (0, 0) _ rfl (set2_same w2 _ _ _ _ _ HBL.out.1) Try.underlying27 rfl (by kernel_rfl)) rfl ?_
    exact HNO.out w2 HBL.out.2
  · have ht : thereB L n = true := by
      cases ht : thereB L n with
      | true => rfl
      | false => exact absurd (by unfold atI; rw [there_not ht]; rfl) hneg
    obtain ⟨j, q, rfl, hs, hs2, hj⟩ := there_of ht
    rw [at_there hs] at ka hneg
    obtain ⟨i, hi⟩ : ∃ i, idx q.ks k = some i := by
      cases hi : idx q.ks k with
      | some i => exact ⟨i, rfl⟩
      | none => exact absurd (by unfold idxI; rw [hi]) hneg
    have e1 : idxI q.ks k = (i : Int) := by unfold idxI; rw [hi]
    rw [e1] at ka
    obtain ⟨b, off, r, r1, r2, r3, hc, hjl, hx1, hx2⟩ := h.open hs
    clear hx1 hx2
    simp only at r1 hjl
    subst r1
    have hqs := hks q (List.mem_of_getElem? hs)
    have hil : i < q.fs.length := by rw [hfl q (List.mem_of_getElem? hs)]; exact idx_lt hi
    obtain ⟨pr, ⟨ka', kc, kx⟩, ⟨fa, fc, fx⟩, ⟨ta, tc, tx⟩⟩ := r
    unfold RS.sh at r2
    simp only at r2
    subst r2
    simp only at hqs hil
    unfold top at hqs
    have hjj : (j : Int) < sx.length := by have := HLEN.out; omega
    have hii : (i : Int) < fx.length := by omega
    have hfxl : (fx.length : Int) ≤ 1700000000000 := by omega
    obtain ⟨fb, fo, fe, hfc⟩ := r3.fs.ok.cells (by intro e; simp only at e; rw [e] at hil; simp at hil)
    simp only at fe
    subst fe
    have hex : ∃ fl, fx[i]? = some fl := ⟨_, List.getElem?_eq_getElem hil⟩
    obtain ⟨fl, hfl2⟩ := hex
    have HFI : Hid (∀ w2, Below w.heap.size w w2 → w2.cell? ⟨fb, fo + i, none⟩ = some (.int .i64 fl)) := fun w2 hb => by
      have := cells_below hb _ _ (hfc i fl hfl2 0 _ rfl)
      rw [Nat.add_zero, Nat.mul_one] at this
      exact this
    have HQS : Hid (kx.length ≤ 1700000000000 ∧ fx.length ≤ 1700000000000 ∧ tx.length ≤ 1700000000000) := hqs
    have HIL : Hid (i < fx.length) := hil
    have HD : Hid (∀ w2, Below w.heap.size w w2 → w2.cell? ⟨b, off + j * 4, none⟩ = some (.int .u64 pr) ∧ w2.cell? ⟨b, off + j * 4 + 1, none⟩ = some (.slice ka' kx.length kc) ∧ w2.cell? ⟨b, off + j * 4 + 2, none⟩ = some (.slice (some ⟨fb, fo, none⟩) fx.length fc) ∧ w2.cell? ⟨b, off + j * 4 + 3, none⟩ = some (.slice ta tx.length tc)) := fun w2 hb => ⟨cells_below hb _ _ (hc 0 _ rfl), cells_below hb _ _ (hc 1 _ rfl), cells_below hb _ _ (hc 2 _ rfl), cells_below hb _ _ (hc 3 _ rfl)⟩
    have HOK : Hid (∀ w2, Below w.heap.size w w2 → Sli.ok intC 1 w2 ⟨some ⟨fb, fo, none⟩, fc, fx⟩ ∧ Sli.ok stpC 3 w2 ⟨ta, tc, tx⟩) := fun w2 hb => ⟨(r3.below hb).fs.ok, (r3.below hb).st.ok⟩
    have hfeq : fx[i]? = some f ↔ fl = f := by rw [hfl2]; exact ⟨fun e => Option.some.inj e, fun e => by rw [e]⟩
    by_cases hf : fl = f
    · subst hf
      have e0 : changeD m L j k fl = (L, (j : Int), true) := by unfold changeD; rw [hs2]; simp only; rw [hi]; simp only; rw [if_pos hfl2]
      rw [e0]
      have t1 : (fl == fl) = true := by simp
      have HYES : Hid (∀ w2, Below w.heap.size w w2 → RWent N w m (L, (j : Int), true) (.returned (.tuple #[.agg #[.int .i64 m, .slice (some ⟨b, off, none⟩) sx.length sc], .int .i64 (j : Int), .bool true])) ((w2.setCell ⟨w.heap.size + 1, 0, none⟩ (.int .i64 m)).setCell ⟨w.heap.size + 1, 1, none⟩ (.slice (some ⟨b, off, none⟩) sx.length sc))) := fun w2 hb => by
        have hbf := set2_below hb (show w.heap.size ≤ w.heap.size + 1 by omega) (.int .i64 m) (.slice (some ⟨b, off, none⟩) sx.length sc)
        exact ⟨⟨some ⟨b, off, none⟩, sc, sx⟩, rfl, h.below hbf, hbf⟩
      clear h e0 e1 ht hB g0 g1 hsz hcap hN hks hs hs2 hi hc r3 hqs HR hneg hfc hfl2 hfeq HOK
      go_enter Try.func20, Try.ntmps20
      go_upto_region 1 with fail
      rw [← hwb]
      clear hwb
      go_wp2_with fail
      refine ka.mono ?_
      rintro e w2 ⟨rfl, hb2⟩
      obtain ⟨z0, z1, bl, hbw2, hs22⟩ := HG.out w2 hb2
      obtain ⟨d0, d1, d2, d3⟩ := HD.out w2 hbw2
      have d4 := HFI.out w2 hbw2
      have hne2 : ¬ w.heap.size + 1 = w2.heap.size := by omega
      have bl3 : (w2.alloc (.cells #[.int .u64 pr, .slice ka' kx.length kc, .slice (some ⟨fb, fo, none⟩) fx.length fc, .slice ta tx.length tc] 74)).heap[w.heap.size + 1]? = some (.cells #[.int .i64 0, .slice none 0 0] 27 (0, 0)) := at_old _ _ _ _ bl
      have HA : Hid (Below w2.heap.size w2 (w2.alloc (.cells #[.int .u64 pr, .slice ka' kx.length kc, .slice (some ⟨fb, fo, none⟩) fx.length fc, .slice ta tx.length tc] 74))) := (Below.refl _ _).alloc (Nat.le_refl _) _
      have HBL : Hid ((w2.alloc (.cells #[.int .u64 pr, .slice ka' kx.length kc, .slice (some ⟨fb, fo, none⟩) fx.length fc, .slice ta tx.length tc] 74)).heap[w.heap.size + 1]? = some (.cells #[.int .i64 0, .slice none 0 0] 27 (0, 0)) ∧ Below w.heap.size w (w2.alloc (.cells #[.int .u64 pr, .slice ka' kx.length kc, .slice (some ⟨fb, fo, none⟩) fx.length fc, .slice ta tx.length tc] 74))) := ⟨bl3, hbw2.trans (HA.out.mono hbw2.size)⟩
      obtain ⟨w3, hw3⟩ : ∃ w3, w3 = w2.alloc (.cells #[.int .u64 pr, .slice ka' kx.length kc, .slice (some ⟨fb, fo, none⟩) fx.length fc, .slice ta tx.length tc] 74) := ⟨_, rfl⟩
      have u2 : w3.cell? ⟨w2.heap.size, 2, none⟩ = some (.slice (some ⟨fb, fo, none⟩) fx.length fc) := by rw [hw3]; exact box_new w2 _ _ 2 _ rfl
      rw [← hw3] at HA HBL bl3
      have u4 := cells_below HA.out _ _ d4
      have u5 := cells_below HA.out _ _ z0
      have u6 := cells_below HA.out _ _ z1
      have c0 : w3.cell? ⟨w.heap.size + 1, 0, none⟩ = some (.int .i64 0) := by rw [cell_of_row w3 _ 0 _ 27 (0, 0) bl3]; rfl
      have c1 : w3.cell? ⟨w.heap.size + 1, 1, none⟩ = some (.slice none 0 0) := by rw [cell_of_row w3 _ 1 _ 27 (0, 0) bl3]; rfl
      have f0 := frozen_of_row w3 _ 0 _ 27 bl3
      have f1 := frozen_of_row w3 _ 1 _ 27 bl3
      clear bl ka hb2 hbw2 hs22 a0 a1 bl3
      go_upto_region 5 with fail
      rw [← hw3]
      clear hw3 HA z0 z1 d0 d1 d2 d3 d4
      go_wp2_with fail
      refine bodyPost_ret (res3 rfl _ _ (w.heap.size + 1) 27 _ (0, 0) _ rfl (set2_same w3 _ _ _ _ _ HBL.out.1) Try.underlying27 rfl (by kernel_rfl)) rfl ?_
      exact HYES.out w3 HBL.out.2
    · have e0 : changeD m L j k f = layD m L (chg ⟨pr, kx, fx, tx⟩ i k f) := by unfold changeD; rw [hs2]; simp only; rw [hi]; simp only; rw [if_neg (fun e => hf (hfeq.1 e))]
      rw [e0]
      have t1 : (fl == f) = false := by simpa using hf
      have HKL : Hid (∀ (D : Nat) (W : World) (gF cF gT cT : Nat), w.heap.size + 2 ≤ D → Below w.heap.size w W → OwnR intC 1 3 D W (.slice (some ⟨gF, 0, none⟩) fx.length cF) (fx.set i f) → OwnR stpC 3 77 D W (.slice (some ⟨gT, 0, none⟩) (tx.length + 1) cT) (tx ++ [(true, k, f)]) → w.heap.size + 2 ≤ W.heap.size →
          Calls Try.prog 28 #[.agg #[.int .i64 m, .slice (some ⟨b, off, none⟩) sx.length sc], .agg #[.int .u64 pr, .slice ka' kx.length kc, .slice (some ⟨gF, 0, none⟩) fx.length cF, .slice (some ⟨gT, 0, none⟩) (tx.length + 1) cT]] W fun e w' => RWent (fun b => N b ∧ b ≠ w.heap.size + 1) W m (layD m L (chg ⟨pr, kx, fx, tx⟩ i k f)) e w') := fun D W gF cF gT cT hD hbW h2 h3 hW => by
        have n1 : ∀ b, D ≤ b → (N b ∧ b ≠ w.heap.size + 1) := fun b q => ⟨hN b (by omega), by omega⟩
        have o1 : Sli.okn (fun b => N b ∧ b ≠ w.heap.size + 1) strC 1 W ⟨ka', kc, kx⟩ := (r3.ks.mono (fun b q hl => ⟨q, by omega⟩)).below hbW
        have o2 := own_okn (N := fun b => N b ∧ b ≠ w.heap.size + 1) rtInt.len h2 n1
        have o3 := own_okn (N := fun b => N b ∧ b ≠ w.heap.size + 1) rtStp.len h3 n1
        have hk := rlay_any (fun b => N b ∧ b ≠ w.heap.size + 1) W m ⟨some ⟨b, off, none⟩, sc, sx⟩ L (h.inside hbW _ (by omega)) ⟨pr, ⟨ka', kc, kx⟩, ⟨some ⟨gF, 0, none⟩, cF, fx.set i f⟩, ⟨some ⟨gT, 0, none⟩, cT, tx ++ [(true, k, f)]⟩⟩ ⟨o1, o2, o3⟩ (fun b q => ⟨hN b (by omega), by omega⟩) hcap
        unfold rsV RS.sh at hk
        simp only [List.length_append, List.length_singleton, List.length_set] at hk
        exact hk
      generalize layD m L (chg ⟨pr, kx, fx, tx⟩ i k f) = r at *
      clear h e0 e1 ht hB g0 g1 hsz hcap hN hks hs hs2 hi hc r3 hqs HR hneg hfc hfl2 hfeq hfl
      go_enter Try.func20, Try.ntmps20
      go_upto_region 1 with fail
      rw [← hwb]
      clear hwb
      go_wp2_with fail
      refine ka.mono ?_
      rintro e w2 ⟨rfl, hb2⟩
      obtain ⟨z0, z1, bl, hbw2, hs22⟩ := HG.out w2 hb2
      obtain ⟨d0, d1, d2, d3⟩ := HD.out w2 hbw2
      have HB2 : Hid (Below wb.heap.size wb w2) := hb2
      have HN2 : Hid (w.heap.size ≠ w.heap.size + 1 ∧ w2.heap.size ≠ w.heap.size + 1) := ⟨by omega, by omega⟩
      clear bl ka hb2 hbw2 hs22 c0 c1 f0 f1 a0 a1
      go_upto_region 5 with fail
      obtain ⟨wd, hwd⟩ : ∃ wd, wd = w2.alloc (.cells #[.int .u64 pr, .slice ka' kx.length kc, .slice (some ⟨fb, fo, none⟩) fx.length fc, .slice ta tx.length tc] 74) := ⟨_, rfl⟩
      rw [← hwd]
      have hbd : Below wb.heap.size wb wd := by rw [hwd]; exact below_new HB2.out HB2.out.size _
      have HSB : Hid (∀ W, Below wd.heap.size wd W → W.cell? ⟨w2.heap.size, 0, none⟩ = some (.int .u64 pr) ∧ W.cell? ⟨w2.heap.size, 1, none⟩ = some (.slice ka' kx.length kc) ∧ W.cell? ⟨w2.heap.size, 2, none⟩ = some (.slice (some ⟨fb, fo, none⟩) fx.length fc) ∧ W.cell? ⟨w2.heap.size, 3, none⟩ = some (.slice ta tx.length tc) ∧ Below wb.heap.size wb W ∧ W.cell? ⟨w.heap.size, 0, none⟩ = some (.int .i64 m) ∧ W.cell? ⟨w.heap.size, 1, none⟩ = some (.slice (some ⟨b, off, none⟩) sx.length sc) ∧ W.heap[w.heap.size + 1]? = some (.cells #[.int .i64 0, .slice none 0 0] 27 (0, 0)) ∧ Below w.heap.size w W ∧ w.heap.size + 2 ≤ W.heap.size) := fun W hW => by
        have e0 : wd.cell? ⟨w2.heap.size, 0, none⟩ = some (.int .u64 pr) := by rw [hwd]; exact box_new w2 _ _ 0 _ rfl
        have e1 : wd.cell? ⟨w2.heap.size, 1, none⟩ = some (.slice ka' kx.length kc) := by rw [hwd]; exact box_new w2 _ _ 1 _ rfl
        have e2 : wd.cell? ⟨w2.heap.size, 2, none⟩ = some (.slice (some ⟨fb, fo, none⟩) fx.length fc) := by rw [hwd]; exact box_new w2 _ _ 2 _ rfl
        have e3 : wd.cell? ⟨w2.heap.size, 3, none⟩ = some (.slice ta tx.length tc) := by rw [hwd]; exact box_new w2 _ _ 3 _ rfl
        have hbW := hbd.trans (hW.mono hbd.size)
        obtain ⟨y1, y2, y3, y4, y5⟩ := HG.out W hbW
        exact ⟨cells_below hW _ _ e0, cells_below hW _ _ e1, cells_below hW _ _ e2, cells_below hW _ _ e3, hbW, y1, y2, y3, y4, y5⟩
      have HSD : Hid (w.heap.size + 2 ≤ wd.heap.size) := (HSB.out wd (Below.refl _ _)).2.2.2.2.2.2.2.2.2
      have u2 := (HSB.out wd (Below.refl _ _)).2.2.1
      have u4 := HFI.out wd (HSB.out wd (Below.refl _ _)).2.2.2.2.2.2.2.2.1
      clear hwd hbd d0 d1 d2 d3 z0 z1 HG HB2 HD HBW HFI
      go_upto_region 7 with fail
      clear u2 u4
      have HA2 : Hid (Below wd.heap.size wd (wd.alloc (.cells #[] 3))) := (Below.refl _ _).alloc (Nat.le_refl _) _
      have p2 := (HSB.out _ HA2.out).2.2.1
      have HP2 : Hid (Sli.ok intC 1 (wd.alloc (.cells #[] 3)) ⟨(some ⟨fb, fo, none⟩), fc, fx⟩) := (HOK.out _ (HSB.out _ HA2.out).2.2.2.2.2.2.2.2.1).1
      go_wp2_with (at_builtin; refine app_row rtInt rfl _ _ rfl wd.heap.size (.slice (some ⟨wd.heap.size, 0, none⟩) 0 0) [] rfl (empty_own (at_new _ _) (Nat.le_refl _)) ⟨(some ⟨fb, fo, none⟩), fc, fx⟩ rfl HP2.out ?o3 ?o4 (by rw [size_new]; omega) ?_)
      case o3 => have := HQS.out; unfold maxLen; (try simp only [List.length_nil]); omega
      case o4 => have := HQS.out; (try simp only [List.length_nil]); omega
      intro fv w4 ho4 hg4 hl4
      have HB4 : Hid (Below wd.heap.size wd w4) := bel_by hg4 (fun b q => by simp [Value.ownBlock] at q; omega) (Nat.le_refl _) HA2.out
      obtain ⟨gF, cF, rfl, ⟨uu4, hfc4⟩, hff4, hset4⟩ := own_int ho4 HIL.out
      have HSET : Hid (OwnR intC 1 3 wd.heap.size (w4.setCell ⟨gF, i, none⟩ (.int .i64 f)) (.slice (some ⟨gF, 0, none⟩) fx.length cF) (fx.set i f) ∧ Below wd.heap.size wd (w4.setCell ⟨gF, i, none⟩ (.int .i64 f))) := ⟨hset4 f, HB4.out.setCell (p := ⟨gF, i, none⟩) (ho4.lt gF rfl).1 _⟩
      clear ho4 hg4 hl4 p2 HP2 HA2 hset4 HB4
      go_upto_region 9 with fail
      obtain ⟨w5, hw5⟩ : ∃ w5, w5 = w4.setCell ⟨gF, i, none⟩ (.int .i64 f) := ⟨_, rfl⟩
      rw [← hw5] at HSET ⊢
      clear hw5 hfc4 hff4
      have HB5 : Hid (Below wd.heap.size wd w5) := HSET.out.2
      have HF5 : Hid (OwnR intC 1 3 wd.heap.size w5 (.slice (some ⟨gF, 0, none⟩) fx.length cF) (fx.set i f)) := HSET.out.1
      have HA3 : Hid (Below wd.heap.size wd (w5.alloc (.cells #[] 77))) := bel_new (Nat.le_refl _) HB5.out
      have p3 := (HSB.out _ HA3.out).2.2.2.1
      have HP3 : Hid (Sli.ok stpC 3 (w5.alloc (.cells #[] 77)) ⟨ta, tc, tx⟩) := (HOK.out _ (HSB.out _ HA3.out).2.2.2.2.2.2.2.2.1).2
      go_wp2_with (at_builtin; refine app_row rtStp rfl _ _ rfl w5.heap.size (.slice (some ⟨w5.heap.size, 0, none⟩) 0 0) [] rfl (empty_own (at_new _ _) (Nat.le_refl _)) ⟨ta, tc, tx⟩ rfl HP3.out ?o3 ?o4 (by rw [size_new]; omega) ?_)
      case o3 => have := HQS.out; unfold maxLen; (try simp only [List.length_nil]); omega
      case o4 => have := HQS.out; (try simp only [List.length_nil]); omega
      intro tv wc ho6 hg6 hl6
      have HB56 : Hid (Below w5.heap.size w5 wc) := bel_by hg6 (fun b q => by simp [Value.ownBlock] at q; omega) (Nat.le_refl _) ((Below.refl _ _).alloc (Nat.le_refl _) _)
      have HB6 : Hid (Below wd.heap.size wd wc) := HB5.out.trans (HB56.out.mono HB5.out.size)
      have HT6 : Hid (OwnR stpC 3 77 w5.heap.size wc tv tx) := ho6
      have HF6 : Hid (OwnR intC 1 3 wd.heap.size wc (.slice (some ⟨gF, 0, none⟩) fx.length cF) (fx.set i f)) := HF5.out.below HB56.out
      have HTR : Hid (∀ b, tv.ownBlock = some b → w5.heap.size ≤ b ∧ b < wc.heap.size) := HT6.out.lt
      have HSS : Hid (wd.heap.size ≤ w5.heap.size ∧ w5.heap.size ≤ wc.heap.size) := ⟨HB5.out.size, HB56.out.size⟩
      have HNE : Hid (∀ b, (Value.slice (some ⟨gF, 0, none⟩) fx.length cF).ownBlock = some b → tv.ownBlock ≠ some b) := fun b q q2 => by
        have h1 := HF5.out.lt b q
        have h2 := HTR.out b q2
        omega
      have HQM : Hid (tx.length + 1 ≤ maxLen ∧ (tx.length + 1) * 32 ≤ 140737488355328) := by
        have := HQS.out
        unfold maxLen
        refine ⟨?_, ?_⟩ <;> omega
      have HS3 : Hid (∀ W, Below wd.heap.size wd W → W.cell? ⟨w.heap.size, 0, none⟩ = some (.int .i64 m) ∧ W.cell? ⟨w.heap.size, 1, none⟩ = some (.slice (some ⟨b, off, none⟩) sx.length sc) ∧ W.cell? ⟨w2.heap.size, 0, none⟩ = some (.int .u64 pr) ∧ W.cell? ⟨w2.heap.size, 1, none⟩ = some (.slice ka' kx.length kc)) := fun W hW => by
        obtain ⟨e0, e1, e2, e3, e4, e5, e6, e7⟩ := HSB.out W hW
        exact ⟨e5, e6, e0, e1⟩
      have HEND : Hid (∀ W w9, Below wd.heap.size wd W → Below W.heap.size W w9 → w9.cell? ⟨w.heap.size, 0, none⟩ = some (.int .i64 m) ∧ w9.cell? ⟨w.heap.size, 1, none⟩ = some (.slice (some ⟨b, off, none⟩) sx.length sc) ∧ w9.cell? ⟨w2.heap.size, 0, none⟩ = some (.int .u64 pr) ∧ w9.cell? ⟨w2.heap.size, 1, none⟩ = some (.slice ka' kx.length kc) ∧ w9.heap[w.heap.size + 1]? = some (.cells #[.int .i64 0, .slice none 0 0] 27 (0, 0)) ∧ Below w.heap.size w w9) := fun W w9 hW h9 => by
        obtain ⟨e0, e1, e2, e3, e4, e5, e6, e7, e8, e9⟩ := HSB.out W hW
        exact ⟨cells_below h9 _ _ e5, cells_below h9 _ _ e6, cells_below h9 _ _ e0, cells_below h9 _ _ e1, (h9.block _ (by omega)).trans e7, e8.trans (h9.mono e8.size)⟩
      clear ho6 hg6 hl6 p3 HP3 HA3 HF5 HB56 HB5 HSET
      go_upto_region 10 with fail
      obtain ⟨t0, t1', t2, t3⟩ := HS3.out wc HB6.out
      clear hlim hj hjj hjl hii hfxl
      go_region_held_law (fun W => W.cell? ⟨w.heap.size, 0, none⟩ = some (.int .i64 m) ∧ W.cell? ⟨w.heap.size, 1, none⟩ = some (.slice (some ⟨b, off, none⟩) sx.length sc) ∧ W.cell? ⟨w2.heap.size, 0, none⟩ = some (.int .u64 pr) ∧ W.cell? ⟨w2.heap.size, 1, none⟩ = some (.slice ka' kx.length kc)) (first | exact ⟨i0, i1, j0, j1⟩ | exact ⟨set2_cell i0 HN2.out.1, set2_cell i1 HN2.out.1, set2_cell j0 HN2.out.2, set2_cell j1 HN2.out.2⟩ | exact HS3.out _ (by (repeat (first | with_reducible exact HB6.out | with_reducible exact hbT | with_reducible refine Below.drew ?_ | with_reducible refine bel_new (Nat.le_refl _) ?_ | exact HB6.out | exact hbT))) | go_keep) ((first | (refine step_row2 rtStp (by rfl) _ _ (by rfl) w5.heap.size tv tx (by rfl) (by (repeat (first | with_reducible exact HT6.out | with_reducible refine own_drew ?_ | with_reducible refine own_new ?_ | exact HT6.out))) _ (true, k, f) #[.bool true, .string k, .int .i64 f] 77 (by rfl) (by (repeat (first | with_reducible exact at_new _ _ | with_reducible exact at_two _ _ _ | with_reducible refine at_drew ?_ | with_reducible refine at_old _ _ _ _ ?_ | exact at_new _ _ | exact at_two _ _ _))) (by rfl) (by exact HQM.out.1) (by exact HQM.out.2) (by refine Nat.le_trans HSS.out.2 ?_; (repeat (first | with_reducible exact Nat.le_refl _ | with_reducible exact hszT | with_reducible refine sz_new ?_ | with_reducible refine sz_drew ?_ | exact Nat.le_refl _ | exact hszT))) ?_; intro gT cT wT hoT0 hgT hlT; have hoT := hoT0.low HSS.out.1; have hszT : wc.heap.size ≤ wT.heap.size := sz_by hgT (by (repeat (first | with_reducible exact Nat.le_refl _ | with_reducible exact hszT | with_reducible refine sz_new ?_ | with_reducible refine sz_drew ?_ | exact Nat.le_refl _ | exact hszT))); have hbT : Below wd.heap.size wd wT := bel_by hgT (fun b q => Nat.le_trans HSS.out.1 (HTR.out b q).1) (Nat.le_refl _) (by (repeat (first | with_reducible exact HB6.out | with_reducible exact hbT | with_reducible refine Below.drew ?_ | with_reducible refine bel_new (Nat.le_refl _) ?_ | exact HB6.out | exact hbT))); clear hoT0 hlT) | (go_at_call 28; refine (HKL.out wd.heap.size _ gF cF gT cT HSD.out (HSB.out _ (by (repeat (first | with_reducible exact HB6.out | with_reducible exact hbT | with_reducible refine Below.drew ?_ | with_reducible refine bel_new (Nat.le_refl _) ?_ | exact HB6.out | exact hbT)))).2.2.2.2.2.2.2.2.1 (by (repeat (first | with_reducible exact HF6.out | with_reducible refine own_drew ?_ | with_reducible refine own_new ?_ | with_reducible refine own_by hgT HNE.out ?_ | exact HF6.out))) (by (repeat (first | with_reducible exact hoT | with_reducible refine own_drew ?_ | with_reducible refine own_new ?_ | exact hoT))) (HSB.out _ (by (repeat (first | with_reducible exact HB6.out | with_reducible exact hbT | with_reducible refine Below.drew ?_ | with_reducible refine bel_new (Nat.le_refl _) ?_ | exact HB6.out | exact hbT)))).2.2.2.2.2.2.2.2.2).mono ?_; rintro e w9 ⟨⟨za, zc, zx⟩, rfl, hrt9, hb9⟩; obtain ⟨i0, i1, j0, j1, bl9, bw9⟩ := HEND.out _ w9 (by (repeat (first | with_reducible exact HB6.out | with_reducible exact hbT | with_reducible refine Below.drew ?_ | with_reducible refine bel_new (Nat.le_refl _) ?_ | exact HB6.out | exact hbT))) hb9; have c90 := cell_of_row w9 (w.heap.size + 1) 0 _ 27 (0, 0) bl9; have c91 := cell_of_row w9 (w.heap.size + 1) 1 _ 27 (0, 0) bl9; have f90 := frozen_of_row w9 (w.heap.size + 1) 0 _ 27 bl9; have f91 := frozen_of_row w9 (w.heap.size + 1) 1 _ 27 bl9; have HBL9 : Hid (w9.heap[w.heap.size + 1]? = some (.cells #[.int .i64 0, .slice none 0 0] 27 (0, 0)) ∧ RTree (fun b => N b ∧ b ≠ w.heap.size + 1) w9 ⟨za, zc, zx⟩ r.1 ∧ Below w.heap.size w w9) := ⟨bl9, hrt9, bw9⟩; clear bl9 hrt9 bw9 hb9)))
      all_goals
        go_wp2_with fail
        refine bodyPost_ret (res3 rfl _ _ (w.heap.size + 1) 27 _ (0, 0) _ rfl (set2_same w9 _ _ _ _ _ HBL9.out.1) Try.underlying27 rfl (by kernel_rfl)) rfl ?_
        exact ⟨⟨za, zc, zx⟩, rfl, HBL9.out.2.1.laid _ _, set2_below HBL9.out.2.2 (by omega) _ _⟩

end Go.Proofs.Ytiliffnflamkjaa.Sp
