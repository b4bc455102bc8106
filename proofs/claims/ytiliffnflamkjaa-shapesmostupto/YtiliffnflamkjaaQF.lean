/- The document's Add. -/
import Derived.Test.YtiliffnflamkjaaQE
namespace Go.Proofs.Ytiliffnflamkjaa.Sp
open Go.RowKit
set_option linter.unusedVariables false

set_option maxRecDepth 100000 in
set_option maxHeartbeats 64000000 in
theorem radd_any (N : Nat → Prop) (w : World) (m : Int) (s : Sli RS) (L : List Sh) (h : RTree N w s L) (n : Int) (k : ByteArray) (f : Int) (hN : ∀ b, w.heap.size ≤ b → N b) (hcap : m ≤ top ∨ L.length + 1 ≤ top) (hks : ∀ s ∈ L, s.ks.length ≤ top ∧ s.fs.length ≤ top ∧ s.st.length ≤ top) :
    Calls Try.prog 18 #[.agg #[.int .i64 m, .slice s.at' s.xs.length s.cap], .int .i64 n, .string k, .int .i64 f] w fun e w' => RWent N w m (addD m L n k f) e w' := by
  obtain ⟨sa, sc, sx⟩ := s
  simp only
  obtain ⟨hlim, hlen⟩ := h.lim
  simp only at hlim hlen
  have HLEN : Hid (sx.length = L.length) := hlen
  clear hlen
  obtain ⟨wb, hwb⟩ : ∃ wb, wb = (w.alloc (.cells #[.int .i64 m, .slice sa sx.length sc] 27)).alloc (.cells #[.int .i64 0, .slice none 0 0] 27) := ⟨_, rfl⟩
  have hB : Below w.heap.size w wb := by rw [hwb]; exact B2 _ _ _
  have g0 : wb.heap[w.heap.size]? = some (.cells #[.int .i64 m, .slice sa sx.length sc] 27 (0, 0)) := by rw [hwb]; exact at_old _ _ _ _ (at_new _ _)
  have g1 : wb.heap[w.heap.size + 1]? = some (.cells #[.int .i64 0, .slice none 0 0] 27 (0, 0)) := by rw [hwb]; exact at_two _ _ _
  have hsz : wb.heap.size = w.heap.size + 2 := by rw [hwb, size_new, size_new]
  have a0 : wb.cell? ⟨w.heap.size, 0, none⟩ = some (.int .i64 m) := by rw [cell_of_row wb _ 0 _ 27 (0, 0) g0]; rfl
  have a1 : wb.cell? ⟨w.heap.size, 1, none⟩ = some (.slice sa sx.length sc) := by rw [cell_of_row wb _ 1 _ 27 (0, 0) g0]; rfl
  have c0 : wb.cell? ⟨w.heap.size + 1, 0, none⟩ = some (.int .i64 0) := by rw [cell_of_row wb _ 0 _ 27 (0, 0) g1]; rfl
  have c1 : wb.cell? ⟨w.heap.size + 1, 1, none⟩ = some (.slice none 0 0) := by rw [cell_of_row wb _ 1 _ 27 (0, 0) g1]; rfl
  have f0 := frozen_of_row wb _ 0 _ 27 g1
  have f1 := frozen_of_row wb _ 1 _ 27 g1
  have HG : Hid (∀ w2, Below wb.heap.size wb w2 → w2.cell? ⟨w.heap.size, 0, none⟩ = some (.int .i64 m) ∧ w2.cell? ⟨w.heap.size, 1, none⟩ = some (.slice sa sx.length sc) ∧ w2.heap[w.heap.size + 1]? = some (.cells #[.int .i64 0, .slice none 0 0] 27 (0, 0)) ∧ Below w.heap.size w w2 ∧ w.heap.size + 2 ≤ w2.heap.size) := fun w2 hb => ⟨cells_below hb _ _ a0, cells_below hb _ _ a1, (hb.block _ (by omega)).trans g1, hB.trans (hb.mono hB.size), by have := hb.size; omega⟩
  have HR : Hid (RTree N w ⟨sa, sc, sx⟩ L) := h
  have HBW : Hid (Below w.heap.size w wb) := hB
  -- what is refused
  have HNO : Hid (∀ w2, Below wb.heap.size wb w2 → RWent N w m (L, 0, false) (.returned (.tuple #[.agg #[.int .i64 m, .slice sa sx.length sc], .int .i64 0, .bool false])) ((w2.setCell ⟨w.heap.size + 1, 0, none⟩ (.int .i64 m)).setCell ⟨w.heap.size + 1, 1, none⟩ (.slice sa sx.length sc))) := fun w2 hb => by
    have hbf := set2_below (hB.trans (hb.mono hB.size)) (show w.heap.size ≤ w.heap.size + 1 by omega) (.int .i64 m) (.slice sa sx.length sc)
    exact ⟨⟨sa, sc, sx⟩, rfl, h.below hbf, hbf⟩
  cases ht : thereB L n with
  | false =>
    have e0 : addD m L n k f = (L, 0, false) := by unfold addD; rw [there_not ht]
    rw [e0]
    have ht2 : n < 0 ∨ (sx.length : Int) ≤ n := by
      unfold thereB at ht
      by_cases c : 0 ≤ n
      · rw [decide_eq_true c, Bool.true_and] at ht
        have := of_decide_eq_false ht
        have := HLEN.out
        omega
      · omega
    have HG1 : Hid (wb.heap[w.heap.size + 1]? = some (.cells #[.int .i64 0, .slice none 0 0] 27 (0, 0))) := g1
    clear h e0 ht hB g0 g1 hsz HG HR HBW hcap hN hks
    go_enter Try.func18, Try.ntmps18
    go_upto_region 1 with fail
    rw [← hwb]
    clear hwb
    by_cases c : n < 0
    · go_wp2_with fail
      refine bodyPost_ret (res3 rfl _ _ (w.heap.size + 1) 27 _ (0, 0) _ rfl (set2_same wb _ _ _ _ _ HG1.out) Try.underlying27 rfl (by kernel_rfl)) rfl ?_
      exact HNO.out wb (Below.refl _ _)
    · have c2 : (sx.length : Int) ≤ n := by omega
      have c3 : 0 ≤ n := by omega
      clear ht2
      go_wp2_with fail
      refine bodyPost_ret (res3 rfl _ _ (w.heap.size + 1) 27 _ (0, 0) _ rfl (set2_same wb _ _ _ _ _ HG1.out) Try.underlying27 rfl (by kernel_rfl)) rfl ?_
      exact HNO.out wb (Below.refl _ _)
  | true =>
    obtain ⟨j, q, rfl, hs, hs2, hj⟩ := there_of ht
    have ka := at_any N wb m ⟨sa, sc, sx⟩ L (h.below hB) j k
    rw [at_there hs] at ka
    simp only at ka
    have hj0 : ¬ (j : Int) < 0 := by omega
    have hj1 : ¬ (sx.length : Int) ≤ j := by have := HLEN.out; omega
    cases hi : idx q.ks k with
    | some i =>
      have e0 : addD m L j k f = (L, 0, false) := by unfold addD; rw [hs2]; simp only; rw [hi]
      rw [e0]
      have e1 : idxI q.ks k = (i : Int) := by unfold idxI; rw [hi]
      rw [e1] at ka
      clear h e0 e1 ht hB g0 g1 hsz HR HBW hcap hN hks hs hs2 hi
      go_enter Try.func18, Try.ntmps18
      go_upto_region 1 with fail
      rw [← hwb]
      clear hwb
      go_wp2_with fail
      refine ka.mono ?_
      rintro e w2 ⟨rfl, hb2⟩
      obtain ⟨z0, z1, bl, _, _⟩ := HG.out w2 hb2
      have c0 : w2.cell? ⟨w.heap.size + 1, 0, none⟩ = some (.int .i64 0) := by rw [cell_of_row w2 _ 0 _ 27 (0, 0) bl]; rfl
      have c1 : w2.cell? ⟨w.heap.size + 1, 1, none⟩ = some (.slice none 0 0) := by rw [cell_of_row w2 _ 1 _ 27 (0, 0) bl]; rfl
      have f0 := frozen_of_row w2 _ 0 _ 27 bl
      have f1 := frozen_of_row w2 _ 1 _ 27 bl
      have HBL : Hid (w2.heap[w.heap.size + 1]? = some (.cells #[.int .i64 0, .slice none 0 0] 27 (0, 0)) ∧ Below wb.heap.size wb w2) := ⟨bl, hb2⟩
      have hi0 : (0 : Int) ≤ (i : Int) := by omega
      clear bl hb2 ka
      go_wp2_with fail
      refine bodyPost_ret (res3 rfl _ _ (w.heap.size + 1) 27 _ (0, 0) _ rfl (set2_same w2 _ _ _ _ _ HBL.out.1) Try.underlying27 rfl (by kernel_rfl)) rfl ?_
      exact HNO.out w2 HBL.out.2
    | none =>
      have e0 : addD m L j k f = layD m L (grow q k f) := by unfold addD; rw [hs2]; simp only; rw [hi]
      rw [e0]
      have e1 : idxI q.ks k = -1 := by unfold idxI; rw [hi]
      rw [e1] at ka
      obtain ⟨b, off, r, r1, r2, r3, hc, hjl, hx1, hx2⟩ := h.open hs
      clear hx1 hx2
      simp only at r1 hjl
      subst r1
      have hqs := hks q (List.mem_of_getElem? hs)
      obtain ⟨pr, ⟨ka', kc, kx⟩, ⟨fa, fc, fx⟩, ⟨ta, tc, tx⟩⟩ := r
      unfold RS.sh at r2
      simp only at r2
      subst r2
      simp only at hqs
      unfold top at hqs
      have HQS : Hid (kx.length ≤ 1700000000000 ∧ fx.length ≤ 1700000000000 ∧ tx.length ≤ 1700000000000) := hqs
      have HD : Hid (∀ w2, Below w.heap.size w w2 → w2.cell? ⟨b, off + j * 4, none⟩ = some (.int .u64 pr) ∧ w2.cell? ⟨b, off + j * 4 + 1, none⟩ = some (.slice ka' kx.length kc) ∧ w2.cell? ⟨b, off + j * 4 + 2, none⟩ = some (.slice fa fx.length fc) ∧ w2.cell? ⟨b, off + j * 4 + 3, none⟩ = some (.slice ta tx.length tc)) := fun w2 hb => ⟨cells_below hb _ _ (hc 0 _ rfl), cells_below hb _ _ (hc 1 _ rfl), cells_below hb _ _ (hc 2 _ rfl), cells_below hb _ _ (hc 3 _ rfl)⟩
      have HOK : Hid (∀ w2, Below w.heap.size w w2 → Sli.ok strC 1 w2 ⟨ka', kc, kx⟩ ∧ Sli.ok intC 1 w2 ⟨fa, fc, fx⟩ ∧ Sli.ok stpC 3 w2 ⟨ta, tc, tx⟩) := fun w2 hb => ⟨(r3.below hb).ks.ok, (r3.below hb).fs.ok, (r3.below hb).st.ok⟩
      -- the call of lay
      have HKL : Hid (∀ (D : Nat) (W : World) (gK cK gF cF gT cT : Nat), w.heap.size + 2 ≤ D → Below w.heap.size w W → OwnR strC 1 9 D W (.slice (some ⟨gK, 0, none⟩) (kx.length + 1) cK) (kx ++ [k]) → OwnR intC 1 3 D W (.slice (some ⟨gF, 0, none⟩) (fx.length + 1) cF) (fx ++ [f]) → OwnR stpC 3 77 D W (.slice (some ⟨gT, 0, none⟩) (tx.length + 1) cT) (tx ++ [(false, k, f)]) → w.heap.size + 2 ≤ W.heap.size →
          Calls Try.prog 28 #[.agg #[.int .i64 m, .slice (some ⟨b, off, none⟩) sx.length sc], .agg #[.int .u64 pr, .slice (some ⟨gK, 0, none⟩) (kx.length + 1) cK, .slice (some ⟨gF, 0, none⟩) (fx.length + 1) cF, .slice (some ⟨gT, 0, none⟩) (tx.length + 1) cT]] W fun e w' => RWent (fun b => N b ∧ b ≠ w.heap.size + 1) W m (layD m L (grow ⟨pr, kx, fx, tx⟩ k f)) e w') := fun D W gK cK gF cF gT cT hD hbW h1 h2 h3 hW => by
        have n1 : ∀ b, D ≤ b → (N b ∧ b ≠ w.heap.size + 1) := fun b q => ⟨hN b (by omega), by omega⟩
        have o1 := own_okn (N := fun b => N b ∧ b ≠ w.heap.size + 1) rtStr.len h1 n1
        have o2 := own_okn (N := fun b => N b ∧ b ≠ w.heap.size + 1) rtInt.len h2 n1
        have o3 := own_okn (N := fun b => N b ∧ b ≠ w.heap.size + 1) rtStp.len h3 n1
        have hk := rlay_any (fun b => N b ∧ b ≠ w.heap.size + 1) W m ⟨some ⟨b, off, none⟩, sc, sx⟩ L (h.inside hbW _ (by omega)) ⟨pr, ⟨some ⟨gK, 0, none⟩, cK, kx ++ [k]⟩, ⟨some ⟨gF, 0, none⟩, cF, fx ++ [f]⟩, ⟨some ⟨gT, 0, none⟩, cT, tx ++ [(false, k, f)]⟩⟩ ⟨o1, o2, o3⟩ (fun b q => ⟨hN b (by omega), by omega⟩) hcap
        unfold rsV RS.sh at hk
        simp only [List.length_append, List.length_singleton] at hk
        exact hk
      have hjj : (j : Int) < sx.length := by have := HLEN.out; omega
      generalize layD m L (grow ⟨pr, kx, fx, tx⟩ k f) = r at *
      have HLR : Hid (1 ≤ w.heap.size + 2) := by show _ ≤ _; omega
      clear h e0 e1 ht hB g0 g1 hsz hcap hN hks hs hs2 hi hc r3 hqs HR
      go_enter Try.func18, Try.ntmps18
      go_upto_region 1 with fail
      rw [← hwb]
      clear hwb
      go_wp2_with fail
      refine ka.mono ?_
      rintro e w2 ⟨rfl, hb2⟩
      obtain ⟨z0, z1, bl, hbw2, hs22⟩ := HG.out w2 hb2
      obtain ⟨d0, d1, d2, d3⟩ := HD.out w2 hbw2
      have HB2 : Hid (Below wb.heap.size wb w2) := hb2
      have HN2 : Hid (w.heap.size ≠ w.heap.size + 1 ∧ w2.heap.size ≠ w.heap.size + 1) := ⟨by omega, by omega⟩
      clear bl ka hb2 hbw2 hs22 c0 c1 f0 f1 a0 a1
      go_upto_region 4 with fail
      -- the shape's own variable
      obtain ⟨wd, hwd⟩ : ∃ wd, wd = w2.alloc (.cells #[.int .u64 pr, .slice ka' kx.length kc, .slice fa fx.length fc, .slice ta tx.length tc] 74) := ⟨_, rfl⟩
      rw [← hwd]
      have hbd : Below wb.heap.size wb wd := by rw [hwd]; exact below_new HB2.out HB2.out.size _
      have hsd : wd.heap.size = w2.heap.size + 1 := by rw [hwd, size_new]
      have HSB : Hid (∀ W, Below wd.heap.size wd W → W.cell? ⟨w2.heap.size, 0, none⟩ = some (.int .u64 pr) ∧ W.cell? ⟨w2.heap.size, 1, none⟩ = some (.slice ka' kx.length kc) ∧ W.cell? ⟨w2.heap.size, 2, none⟩ = some (.slice fa fx.length fc) ∧ W.cell? ⟨w2.heap.size, 3, none⟩ = some (.slice ta tx.length tc) ∧ Below wb.heap.size wb W ∧ W.cell? ⟨w.heap.size, 0, none⟩ = some (.int .i64 m) ∧ W.cell? ⟨w.heap.size, 1, none⟩ = some (.slice (some ⟨b, off, none⟩) sx.length sc) ∧ W.heap[w.heap.size + 1]? = some (.cells #[.int .i64 0, .slice none 0 0] 27 (0, 0)) ∧ Below w.heap.size w W ∧ w.heap.size + 2 ≤ W.heap.size) := fun W hW => by
        have e0 : wd.cell? ⟨w2.heap.size, 0, none⟩ = some (.int .u64 pr) := by rw [hwd]; exact box_new w2 _ _ 0 _ rfl
        have e1 : wd.cell? ⟨w2.heap.size, 1, none⟩ = some (.slice ka' kx.length kc) := by rw [hwd]; exact box_new w2 _ _ 1 _ rfl
        have e2 : wd.cell? ⟨w2.heap.size, 2, none⟩ = some (.slice fa fx.length fc) := by rw [hwd]; exact box_new w2 _ _ 2 _ rfl
        have e3 : wd.cell? ⟨w2.heap.size, 3, none⟩ = some (.slice ta tx.length tc) := by rw [hwd]; exact box_new w2 _ _ 3 _ rfl
        have hbW := hbd.trans (hW.mono hbd.size)
        obtain ⟨y1, y2, y3, y4, y5⟩ := HG.out W hbW
        exact ⟨cells_below hW _ _ e0, cells_below hW _ _ e1, cells_below hW _ _ e2, cells_below hW _ _ e3, hbW, y1, y2, y3, y4, y5⟩
      have HSD : Hid (w.heap.size + 2 ≤ wd.heap.size) := (HSB.out wd (Below.refl _ _)).2.2.2.2.2.2.2.2.2
      clear hwd hbd hsd d0 d1 d2 d3 z0 z1 HG HB2 HD HBW
      -- copies of the three rows
      have HA1 : Hid (Below wd.heap.size wd (wd.alloc (.cells #[] 9))) := (Below.refl _ _).alloc (Nat.le_refl _) _
      have p1 := (HSB.out _ HA1.out).2.1
      have HP1 : Hid (Sli.ok strC 1 (wd.alloc (.cells #[] 9)) ⟨ka', kc, kx⟩) := (HOK.out _ (HSB.out _ HA1.out).2.2.2.2.2.2.2.2.1).1
      go_wp2_with (at_builtin; refine app_row rtStr rfl _ _ rfl wd.heap.size (.slice (some ⟨wd.heap.size, 0, none⟩) 0 0) [] rfl (empty_own (at_new _ _) (Nat.le_refl _)) ⟨ka', kc, kx⟩ rfl HP1.out ?o3 ?o4 (by rw [size_new]; omega) ?_)
      case o3 => have := HQS.out; unfold maxLen; (try simp only [List.length_nil]); omega
      case o4 => have := HQS.out; (try simp only [List.length_nil]); omega
      intro kv w4 ho4 hg4 hl4
      have HB4 : Hid (Below wd.heap.size wd w4) := bel_by hg4 (fun b q => by simp [Value.ownBlock] at q; omega) (Nat.le_refl _) HA1.out
      have HK4 : Hid (OwnR strC 1 9 wd.heap.size w4 kv kx) := ho4
      clear ho4 hg4 hl4 p1 HP1 HA1
      go_upto_region 5 with fail
      have HA2 : Hid (Below wd.heap.size wd (w4.alloc (.cells #[] 3))) := bel_new (Nat.le_refl _) HB4.out
      have p2 := (HSB.out _ HA2.out).2.2.1
      have HP2 : Hid (Sli.ok intC 1 (w4.alloc (.cells #[] 3)) ⟨fa, fc, fx⟩) := (HOK.out _ (HSB.out _ HA2.out).2.2.2.2.2.2.2.2.1).2.1
      go_wp2_with (at_builtin; refine app_row rtInt rfl _ _ rfl w4.heap.size (.slice (some ⟨w4.heap.size, 0, none⟩) 0 0) [] rfl (empty_own (at_new _ _) (Nat.le_refl _)) ⟨fa, fc, fx⟩ rfl HP2.out ?o3 ?o4 (by rw [size_new]; omega) ?_)
      case o3 => have := HQS.out; unfold maxLen; (try simp only [List.length_nil]); omega
      case o4 => have := HQS.out; (try simp only [List.length_nil]); omega
      intro fv w5 ho5 hg5 hl5
      have HB45 : Hid (Below w4.heap.size w4 w5) := bel_by hg5 (fun b q => by simp [Value.ownBlock] at q; omega) (Nat.le_refl _) ((Below.refl _ _).alloc (Nat.le_refl _) _)
      have HB5 : Hid (Below wd.heap.size wd w5) := HB4.out.trans (HB45.out.mono HB4.out.size)
      have HF5 : Hid (OwnR intC 1 3 w4.heap.size w5 fv fx) := ho5
      clear ho5 hg5 hl5 p2 HP2 HA2
      go_upto_region 6 with fail
      have HA3 : Hid (Below wd.heap.size wd (w5.alloc (.cells #[] 77))) := bel_new (Nat.le_refl _) HB5.out
      have p3 := (HSB.out _ HA3.out).2.2.2.1
      have HP3 : Hid (Sli.ok stpC 3 (w5.alloc (.cells #[] 77)) ⟨ta, tc, tx⟩) := (HOK.out _ (HSB.out _ HA3.out).2.2.2.2.2.2.2.2.1).2.2
      go_wp2_with (at_builtin; refine app_row rtStp rfl _ _ rfl w5.heap.size (.slice (some ⟨w5.heap.size, 0, none⟩) 0 0) [] rfl (empty_own (at_new _ _) (Nat.le_refl _)) ⟨ta, tc, tx⟩ rfl HP3.out ?o3 ?o4 (by rw [size_new]; omega) ?_)
      case o3 => have := HQS.out; unfold maxLen; (try simp only [List.length_nil]); omega
      case o4 => have := HQS.out; (try simp only [List.length_nil]); omega
      intro tv wc ho6 hg6 hl6
      have HB56 : Hid (Below w5.heap.size w5 wc) := bel_by hg6 (fun b q => by simp [Value.ownBlock] at q; omega) (Nat.le_refl _) ((Below.refl _ _).alloc (Nat.le_refl _) _)
      have HB6 : Hid (Below wd.heap.size wd wc) := HB5.out.trans (HB56.out.mono HB5.out.size)
      have HT6 : Hid (OwnR stpC 3 77 w5.heap.size wc tv tx) := ho6
      have HF6 : Hid (OwnR intC 1 3 w4.heap.size wc fv fx) := HF5.out.below HB56.out
      have HK6 : Hid (OwnR strC 1 9 wd.heap.size wc kv kx) := (HK4.out.below HB45.out).below HB56.out
      have HKR : Hid (∀ b, kv.ownBlock = some b → wd.heap.size ≤ b ∧ b < w4.heap.size) := HK4.out.lt
      have HFR : Hid (∀ b, fv.ownBlock = some b → w4.heap.size ≤ b ∧ b < w5.heap.size) := HF5.out.lt
      have HTR : Hid (∀ b, tv.ownBlock = some b → w5.heap.size ≤ b ∧ b < wc.heap.size) := HT6.out.lt
      have HSS : Hid (wd.heap.size ≤ w4.heap.size ∧ w4.heap.size ≤ w5.heap.size ∧ w5.heap.size ≤ wc.heap.size) := ⟨HB4.out.size, HB45.out.size, HB56.out.size⟩
      clear ho6 hg6 hl6 p3 HP3 HA3 HF5 HK4 HB45 HB56 HB4 HB5
      go_upto_region 7 with fail
      have HS3 : Hid (∀ W, Below wd.heap.size wd W → W.cell? ⟨w.heap.size, 0, none⟩ = some (.int .i64 m) ∧ W.cell? ⟨w.heap.size, 1, none⟩ = some (.slice (some ⟨b, off, none⟩) sx.length sc) ∧ W.cell? ⟨w2.heap.size, 0, none⟩ = some (.int .u64 pr)) := fun W hW => by
        obtain ⟨e0, e1, e2, e3, e4, e5, e6, e7⟩ := HSB.out W hW
        exact ⟨e5, e6, e0⟩
      have HEND : Hid (∀ W w9, Below wd.heap.size wd W → Below W.heap.size W w9 → w9.cell? ⟨w.heap.size, 0, none⟩ = some (.int .i64 m) ∧ w9.cell? ⟨w.heap.size, 1, none⟩ = some (.slice (some ⟨b, off, none⟩) sx.length sc) ∧ w9.cell? ⟨w2.heap.size, 0, none⟩ = some (.int .u64 pr) ∧ w9.heap[w.heap.size + 1]? = some (.cells #[.int .i64 0, .slice none 0 0] 27 (0, 0)) ∧ Below w.heap.size w w9) := fun W w9 hW h9 => by
        obtain ⟨e0, e1, e2, e3, e4, e5, e6, e7, e8, e9⟩ := HSB.out W hW
        exact ⟨cells_below h9 _ _ e5, cells_below h9 _ _ e6, cells_below h9 _ _ e0, (h9.block _ (by omega)).trans e7, e8.trans (h9.mono e8.size)⟩
      have HOLD : Hid (∀ b, wc.heap.size ≤ b → kv.ownBlock ≠ some b ∧ fv.ownBlock ≠ some b ∧ tv.ownBlock ≠ some b) := fun b hb => by
        have h5 := HSS.out
        refine ⟨fun q => ?_, fun q => ?_, fun q => ?_⟩
        · have := HKR.out b q; omega
        · have := HFR.out b q; omega
        · have := HTR.out b q; omega
      have HNE : Hid ((∀ b, kv.ownBlock = some b → fv.ownBlock ≠ some b) ∧ (∀ b, kv.ownBlock = some b → tv.ownBlock ≠ some b) ∧ (∀ b, fv.ownBlock = some b → kv.ownBlock ≠ some b) ∧ (∀ b, fv.ownBlock = some b → tv.ownBlock ≠ some b) ∧ (∀ b, tv.ownBlock = some b → kv.ownBlock ≠ some b) ∧ (∀ b, tv.ownBlock = some b → fv.ownBlock ≠ some b)) := by
        have h5 := HSS.out
        refine ⟨fun b q q2 => ?_, fun b q q2 => ?_, fun b q q2 => ?_, fun b q q2 => ?_, fun b q q2 => ?_, fun b q q2 => ?_⟩
        · have := HKR.out b q; have := HFR.out b q2; omega
        · have := HKR.out b q; have := HTR.out b q2; omega
        · have := HFR.out b q; have := HKR.out b q2; omega
        · have := HFR.out b q; have := HTR.out b q2; omega
        · have := HTR.out b q; have := HKR.out b q2; omega
        · have := HTR.out b q; have := HFR.out b q2; omega
      have HNEWK : Hid (∀ g, (kv.ownBlock = some g ∨ wc.heap.size ≤ g) → fv.ownBlock ≠ some g ∧ tv.ownBlock ≠ some g) := fun g hg => hg.elim (fun q => ⟨HNE.out.1 g q, HNE.out.2.1 g q⟩) (fun q => ⟨(HOLD.out g q).2.1, (HOLD.out g q).2.2⟩)
      have HNEWF : Hid (∀ g, (fv.ownBlock = some g ∨ wc.heap.size ≤ g) → kv.ownBlock ≠ some g ∧ tv.ownBlock ≠ some g) := fun g hg => hg.elim (fun q => ⟨HNE.out.2.2.1 g q, HNE.out.2.2.2.1 g q⟩) (fun q => ⟨(HOLD.out g q).1, (HOLD.out g q).2.2⟩)
      have HNEWT : Hid (∀ g, (tv.ownBlock = some g ∨ wc.heap.size ≤ g) → kv.ownBlock ≠ some g ∧ fv.ownBlock ≠ some g) := fun g hg => hg.elim (fun q => ⟨HNE.out.2.2.2.2.1 g q, HNE.out.2.2.2.2.2 g q⟩) (fun q => ⟨(HOLD.out g q).1, (HOLD.out g q).2.1⟩)
      have HQM : Hid (kx.length + 1 ≤ maxLen ∧ (kx.length + 1) * 16 ≤ 140737488355328 ∧ fx.length + 1 ≤ maxLen ∧ (fx.length + 1) * 8 ≤ 140737488355328 ∧ tx.length + 1 ≤ maxLen ∧ (tx.length + 1) * 32 ≤ 140737488355328) := by
        have := HQS.out
        unfold maxLen
        refine ⟨?_, ?_, ?_, ?_, ?_, ?_⟩ <;> omega
      obtain ⟨t0, t1, t2⟩ := HS3.out wc HB6.out
      clear hlim hj hj0 hj1 hjj hjl
      go_region_held_law (fun W => W.cell? ⟨w.heap.size, 0, none⟩ = some (.int .i64 m) ∧ W.cell? ⟨w.heap.size, 1, none⟩ = some (.slice (some ⟨b, off, none⟩) sx.length sc) ∧ W.cell? ⟨w2.heap.size, 0, none⟩ = some (.int .u64 pr)) (first | exact ⟨i0, i1, j0⟩ | exact ⟨set2_cell i0 HN2.out.1, set2_cell i1 HN2.out.1, set2_cell j0 HN2.out.2⟩ | exact HS3.out _ (by (repeat (first | with_reducible exact HB6.out | with_reducible exact hbK | with_reducible exact hbF | with_reducible exact hbT | with_reducible refine Below.drew ?_ | with_reducible refine bel_new (Nat.le_refl _) ?_ | exact HB6.out | exact hbK | exact hbF | exact hbT))) | go_keep) ((first | (refine step_row2 rtStr (by rfl) _ _ (by rfl) wd.heap.size kv kx (by rfl) (by (repeat (first | with_reducible exact HK6.out | with_reducible refine own_drew ?_ | with_reducible refine own_new ?_ | with_reducible refine own_by hgF HNE.out.1 ?_ | with_reducible refine own_by hgT HNE.out.2.1 ?_ | exact HK6.out))) _ k #[.string k] 9 (by rfl) (by (repeat (first | with_reducible exact at_new _ _ | with_reducible exact at_two _ _ _ | with_reducible exact at_three _ _ _ _ | with_reducible refine at_drew ?_ | with_reducible refine at_old _ _ _ _ ?_ | with_reducible refine at_by hgF (HOLD.out _ (by omega)).2.1 ?_ | with_reducible refine at_by hgT (HOLD.out _ (by omega)).2.2 ?_ | exact at_new _ _ | exact at_two _ _ _ | exact at_three _ _ _ _))) (by rfl) (by exact HQM.out.1) (by exact HQM.out.2.1) (by refine Nat.le_trans (Nat.le_trans HSS.out.1 (Nat.le_trans HSS.out.2.1 HSS.out.2.2)) ?_; (repeat (first | with_reducible exact Nat.le_refl _ | with_reducible exact hszK | with_reducible exact hszF | with_reducible exact hszT | with_reducible refine sz_new ?_ | with_reducible refine sz_drew ?_ | exact Nat.le_refl _ | exact hszK | exact hszF | exact hszT))) ?_; intro gK cK wK hoK0 hgK hlK; have hoK := hoK0; have hszK : wc.heap.size ≤ wK.heap.size := sz_by hgK (by (repeat (first | with_reducible exact Nat.le_refl _ | with_reducible exact hszK | with_reducible exact hszF | with_reducible exact hszT | with_reducible refine sz_new ?_ | with_reducible refine sz_drew ?_ | exact Nat.le_refl _ | exact hszK | exact hszF | exact hszT))); have hbK : Below wd.heap.size wd wK := bel_by hgK (fun b q => (HKR.out b q).1) (Nat.le_refl _) (by (repeat (first | with_reducible exact HB6.out | with_reducible exact hbK | with_reducible exact hbF | with_reducible exact hbT | with_reducible refine Below.drew ?_ | with_reducible refine bel_new (Nat.le_refl _) ?_ | exact HB6.out | exact hbK | exact hbF | exact hbT))); have neK := HNEWK.out gK (hlK.imp id (fun q => Nat.le_trans (show wc.heap.size ≤ _ by (repeat (first | with_reducible exact Nat.le_refl _ | with_reducible exact hszK | with_reducible exact hszF | with_reducible exact hszT | with_reducible refine sz_new ?_ | with_reducible refine sz_drew ?_ | exact Nat.le_refl _ | exact hszK | exact hszF | exact hszT))) q)); clear hoK0 hlK) | (refine step_row2 rtInt (by rfl) _ _ (by rfl) w4.heap.size fv fx (by rfl) (by (repeat (first | with_reducible exact HF6.out | with_reducible refine own_drew ?_ | with_reducible refine own_new ?_ | with_reducible refine own_by hgK HNE.out.2.2.1 ?_ | with_reducible refine own_by hgT HNE.out.2.2.2.1 ?_ | exact HF6.out))) _ f #[.int .i64 f] 3 (by rfl) (by (repeat (first | with_reducible exact at_new _ _ | with_reducible exact at_two _ _ _ | with_reducible exact at_three _ _ _ _ | with_reducible refine at_drew ?_ | with_reducible refine at_old _ _ _ _ ?_ | with_reducible refine at_by hgK (HOLD.out _ (by omega)).1 ?_ | with_reducible refine at_by hgT (HOLD.out _ (by omega)).2.2 ?_ | exact at_new _ _ | exact at_two _ _ _ | exact at_three _ _ _ _))) (by rfl) (by exact HQM.out.2.2.1) (by exact HQM.out.2.2.2.1) (by refine Nat.le_trans (Nat.le_trans HSS.out.2.1 HSS.out.2.2) ?_; (repeat (first | with_reducible exact Nat.le_refl _ | with_reducible exact hszK | with_reducible exact hszF | with_reducible exact hszT | with_reducible refine sz_new ?_ | with_reducible refine sz_drew ?_ | exact Nat.le_refl _ | exact hszK | exact hszF | exact hszT))) ?_; intro gF cF wF hoF0 hgF hlF; have hoF := hoF0.low HSS.out.1; have hszF : wc.heap.size ≤ wF.heap.size := sz_by hgF (by (repeat (first | with_reducible exact Nat.le_refl _ | with_reducible exact hszK | with_reducible exact hszF | with_reducible exact hszT | with_reducible refine sz_new ?_ | with_reducible refine sz_drew ?_ | exact Nat.le_refl _ | exact hszK | exact hszF | exact hszT))); have hbF : Below wd.heap.size wd wF := bel_by hgF (fun b q => Nat.le_trans HSS.out.1 (HFR.out b q).1) (Nat.le_refl _) (by (repeat (first | with_reducible exact HB6.out | with_reducible exact hbK | with_reducible exact hbF | with_reducible exact hbT | with_reducible refine Below.drew ?_ | with_reducible refine bel_new (Nat.le_refl _) ?_ | exact HB6.out | exact hbK | exact hbF | exact hbT))); have neF := HNEWF.out gF (hlF.imp id (fun q => Nat.le_trans (show wc.heap.size ≤ _ by (repeat (first | with_reducible exact Nat.le_refl _ | with_reducible exact hszK | with_reducible exact hszF | with_reducible exact hszT | with_reducible refine sz_new ?_ | with_reducible refine sz_drew ?_ | exact Nat.le_refl _ | exact hszK | exact hszF | exact hszT))) q)); clear hoF0 hlF) | (refine step_row2 rtStp (by rfl) _ _ (by rfl) w5.heap.size tv tx (by rfl) (by (repeat (first | with_reducible exact HT6.out | with_reducible refine own_drew ?_ | with_reducible refine own_new ?_ | with_reducible refine own_by hgK HNE.out.2.2.2.2.1 ?_ | with_reducible refine own_by hgF HNE.out.2.2.2.2.2 ?_ | exact HT6.out))) _ (false, k, f) #[.bool false, .string k, .int .i64 f] 77 (by rfl) (by (repeat (first | with_reducible exact at_new _ _ | with_reducible exact at_two _ _ _ | with_reducible exact at_three _ _ _ _ | with_reducible refine at_drew ?_ | with_reducible refine at_old _ _ _ _ ?_ | with_reducible refine at_by hgK (HOLD.out _ (by omega)).1 ?_ | with_reducible refine at_by hgF (HOLD.out _ (by omega)).2.1 ?_ | exact at_new _ _ | exact at_two _ _ _ | exact at_three _ _ _ _))) (by rfl) (by exact HQM.out.2.2.2.2.1) (by exact HQM.out.2.2.2.2.2) (by refine Nat.le_trans HSS.out.2.2 ?_; (repeat (first | with_reducible exact Nat.le_refl _ | with_reducible exact hszK | with_reducible exact hszF | with_reducible exact hszT | with_reducible refine sz_new ?_ | with_reducible refine sz_drew ?_ | exact Nat.le_refl _ | exact hszK | exact hszF | exact hszT))) ?_; intro gT cT wT hoT0 hgT hlT; have hoT := hoT0.low (Nat.le_trans HSS.out.1 HSS.out.2.1); have hszT : wc.heap.size ≤ wT.heap.size := sz_by hgT (by (repeat (first | with_reducible exact Nat.le_refl _ | with_reducible exact hszK | with_reducible exact hszF | with_reducible exact hszT | with_reducible refine sz_new ?_ | with_reducible refine sz_drew ?_ | exact Nat.le_refl _ | exact hszK | exact hszF | exact hszT))); have hbT : Below wd.heap.size wd wT := bel_by hgT (fun b q => Nat.le_trans (Nat.le_trans HSS.out.1 HSS.out.2.1) (HTR.out b q).1) (Nat.le_refl _) (by (repeat (first | with_reducible exact HB6.out | with_reducible exact hbK | with_reducible exact hbF | with_reducible exact hbT | with_reducible refine Below.drew ?_ | with_reducible refine bel_new (Nat.le_refl _) ?_ | exact HB6.out | exact hbK | exact hbF | exact hbT))); have neT := HNEWT.out gT (hlT.imp id (fun q => Nat.le_trans (show wc.heap.size ≤ _ by (repeat (first | with_reducible exact Nat.le_refl _ | with_reducible exact hszK | with_reducible exact hszF | with_reducible exact hszT | with_reducible refine sz_new ?_ | with_reducible refine sz_drew ?_ | exact Nat.le_refl _ | exact hszK | exact hszF | exact hszT))) q)); clear hoT0 hlT) | (go_at_call 28; refine (HKL.out wd.heap.size _ gK cK gF cF gT cT HSD.out (HSB.out _ (by (repeat (first | with_reducible exact HB6.out | with_reducible exact hbK | with_reducible exact hbF | with_reducible exact hbT | with_reducible refine Below.drew ?_ | with_reducible refine bel_new (Nat.le_refl _) ?_ | exact HB6.out | exact hbK | exact hbF | exact hbT)))).2.2.2.2.2.2.2.2.1 (by (repeat (first | with_reducible exact hoK | with_reducible refine own_drew ?_ | with_reducible refine own_new ?_ | with_reducible refine own_by hgF (fun b q => by (simp [Value.ownBlock] at q; subst q; exact neK.1)) ?_ | with_reducible refine own_by hgT (fun b q => by (simp [Value.ownBlock] at q; subst q; exact neK.2)) ?_ | exact hoK))) (by (repeat (first | with_reducible exact hoF | with_reducible refine own_drew ?_ | with_reducible refine own_new ?_ | with_reducible refine own_by hgK (fun b q => by (simp [Value.ownBlock] at q; subst q; exact neF.1)) ?_ | with_reducible refine own_by hgT (fun b q => by (simp [Value.ownBlock] at q; subst q; exact neF.2)) ?_ | exact hoF))) (by (repeat (first | with_reducible exact hoT | with_reducible refine own_drew ?_ | with_reducible refine own_new ?_ | with_reducible refine own_by hgK (fun b q => by (simp [Value.ownBlock] at q; subst q; exact neT.1)) ?_ | with_reducible refine own_by hgF (fun b q => by (simp [Value.ownBlock] at q; subst q; exact neT.2)) ?_ | exact hoT))) (HSB.out _ (by (repeat (first | with_reducible exact HB6.out | with_reducible exact hbK | with_reducible exact hbF | with_reducible exact hbT | with_reducible refine Below.drew ?_ | with_reducible refine bel_new (Nat.le_refl _) ?_ | exact HB6.out | exact hbK | exact hbF | exact hbT)))).2.2.2.2.2.2.2.2.2).mono ?_; rintro e w9 ⟨⟨za, zc, zx⟩, rfl, hrt9, hb9⟩; obtain ⟨i0, i1, j0, bl9, bw9⟩ := HEND.out _ w9 (by (repeat (first | with_reducible exact HB6.out | with_reducible exact hbK | with_reducible exact hbF | with_reducible exact hbT | with_reducible refine Below.drew ?_ | with_reducible refine bel_new (Nat.le_refl _) ?_ | exact HB6.out | exact hbK | exact hbF | exact hbT))) hb9; have c90 := cell_of_row w9 (w.heap.size + 1) 0 _ 27 (0, 0) bl9; have c91 := cell_of_row w9 (w.heap.size + 1) 1 _ 27 (0, 0) bl9; have f90 := frozen_of_row w9 (w.heap.size + 1) 0 _ 27 bl9; have f91 := frozen_of_row w9 (w.heap.size + 1) 1 _ 27 bl9; have HBL9 : Hid (w9.heap[w.heap.size + 1]? = some (.cells #[.int .i64 0, .slice none 0 0] 27 (0, 0)) ∧ RTree (fun b => N b ∧ b ≠ w.heap.size + 1) w9 ⟨za, zc, zx⟩ r.1 ∧ Below w.heap.size w w9) := ⟨bl9, hrt9, bw9⟩; clear bl9 hrt9 bw9 hb9)))
      all_goals
        go_wp2_with fail
        refine bodyPost_ret (res3 rfl _ _ (w.heap.size + 1) 27 _ (0, 0) _ rfl (set2_same w9 _ _ _ _ _ HBL9.out.1) Try.underlying27 rfl (by kernel_rfl)) rfl ?_
        exact ⟨⟨za, zc, zx⟩, rfl, HBL9.out.2.1.laid _ _, set2_below HBL9.out.2.2 (by omega) _ _⟩
end Go.Proofs.Ytiliffnflamkjaa.Sp
