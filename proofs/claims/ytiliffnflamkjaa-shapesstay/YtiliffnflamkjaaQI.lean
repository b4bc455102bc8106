/- told: what a tree tells is what the document says. -/
import Derived.Test.YtiliffnflamkjaaQH
namespace Go.Proofs.Ytiliffnflamkjaa.Sp
open Go.RowKit
set_option linter.unusedVariables false

/-- a call of the law's script -/
structure Cl where
  kd : Int
  sh : Int
  fl : Int
  pr : Int
  ke : ByteArray

def clV (o : Cl) : Value := .agg #[.int .i64 o.kd, .int .i64 o.sh, .int .i64 o.fl, .int .u64 o.pr, .string o.ke]

structure Cl.wf (o : Cl) : Prop where
  key : KeyOk o.ke o.fl
  pr1 : 0 ≤ o.pr
  pr2 : o.pr ≤ 18446744073709551615

set_option maxRecDepth 100000 in
set_option maxHeartbeats 8000000 in
theorem told_any (N : Nat → Prop) (w : World) (B tb : Nat) (O : Nat → Prop) (most m : Int) (L : List Sh) (hT : Tree w B tb O most L) (s : Sli RS) (hR : RTree N w s L) (o : Cl) :
    Calls Try.prog 23 #[.pointer (some ⟨tb, 0, none⟩), .agg #[.int .i64 m, .slice s.at' s.xs.length s.cap], clV o] w fun e w' => e = .returned (.bool true) ∧ Below w.heap.size w w' := by
  obtain ⟨kd, n, fl, pr, k⟩ := o
  obtain ⟨sa, sc, sx⟩ := s
  unfold clV
  simp only
  obtain ⟨hlim, hlen⟩ := hR.lim
  simp only at hlim hlen
  have HLEN : Hid (sx.length = L.length) := hlen
  clear hlen
  obtain ⟨wb, hwb⟩ : ∃ wb, wb = (w.alloc (.cells #[.int .i64 m, .slice sa sx.length sc] 27)).alloc (.cells #[.int .i64 kd, .int .i64 n, .int .i64 fl, .int .u64 pr, .string k] 33) := ⟨_, rfl⟩
  have hB : Below w.heap.size w wb := by rw [hwb]; exact B2 _ _ _
  have g0 : wb.heap[w.heap.size]? = some (.cells #[.int .i64 m, .slice sa sx.length sc] 27 (0, 0)) := by rw [hwb]; exact at_old _ _ _ _ (at_new _ _)
  have g1 : wb.heap[w.heap.size + 1]? = some (.cells #[.int .i64 kd, .int .i64 n, .int .i64 fl, .int .u64 pr, .string k] 33 (0, 0)) := by rw [hwb]; exact at_two _ _ _
  have a0 : wb.cell? ⟨w.heap.size, 0, none⟩ = some (.int .i64 m) := by rw [cell_of_row wb _ 0 _ 27 (0, 0) g0]; rfl
  have a1 : wb.cell? ⟨w.heap.size, 1, none⟩ = some (.slice sa sx.length sc) := by rw [cell_of_row wb _ 1 _ 27 (0, 0) g0]; rfl
  have a2 : wb.cell? ⟨w.heap.size + 1, 1, none⟩ = some (.int .i64 n) := by rw [cell_of_row wb _ 1 _ 33 (0, 0) g1]; rfl
  have a3 : wb.cell? ⟨w.heap.size + 1, 4, none⟩ = some (.string k) := by rw [cell_of_row wb _ 4 _ 33 (0, 0) g1]; rfl
  have HG : Hid (∀ W, Below wb.heap.size wb W → W.cell? ⟨w.heap.size, 0, none⟩ = some (.int .i64 m) ∧ W.cell? ⟨w.heap.size, 1, none⟩ = some (.slice sa sx.length sc) ∧ (W.cell? ⟨w.heap.size + 1, 1, none⟩ = some (.int .i64 n) ∧ W.cell? ⟨w.heap.size + 1, 4, none⟩ = some (.string k)) ∧ Below w.heap.size w W) := fun W hW => ⟨cells_below hW _ _ a0, cells_below hW _ _ a1, ⟨cells_below hW _ _ a2, cells_below hW _ _ a3⟩, hB.trans (hW.mono hB.size)⟩
  have kf := find_any wb B tb O most L (hT.below hB) n k
  have HAT : Hid (∀ W, Below w.heap.size w W → Calls Try.prog 29 #[.agg #[.int .i64 m, .slice sa sx.length sc], .int .i64 n, .string k] W fun e w' => e = .returned (.int .i64 (atI L n k)) ∧ Below W.heap.size W w') := fun W hW => at_any N W m ⟨sa, sc, sx⟩ L (hR.below hW) n k
  have HKEYS : Hid (∀ W, Below w.heap.size w W → Calls Try.prog 13 #[.pointer (some ⟨tb, 0, none⟩), .int .i64 n] W fun e w' => ∃ v, e = .returned v ∧ OwnR strC 1 9 W.heap.size w' v (keysOf L n) ∧ Below W.heap.size W w') := fun W hW => keys_any W B tb O most L (hT.below hW) n
  have HPROTO : Hid (∀ W, Below w.heap.size w W → Calls Try.prog 15 #[.pointer (some ⟨tb, 0, none⟩), .int .i64 n] W fun e w' => e = .returned (.tuple #[.int .u64 (((shOf L n).map Sh.pr).getD 0), .bool (thereB L n)]) ∧ w' = W) := fun W hW => proto_any W B tb O most L (hT.below hW) n
  cases ht : thereB L n with
  | false =>
    have hs := there_not ht
    have e1 : atI L n k = -1 := by unfold atI; rw [hs]; rfl
    have e2 : keysOf L n = [] := by unfold keysOf; rw [hs]; rfl
    rw [find_none hs] at kf
    rw [e1] at HAT
    rw [e2] at HKEYS
    rw [ht, hs] at HPROTO
    simp only [Option.map_none, Option.getD_none] at HPROTO
    unfold slotI flagI at kf
    simp only [Option.isSome_none] at kf
    have ht2 : n < 0 ∨ (sx.length : Int) ≤ n := by
      unfold thereB at ht
      by_cases c : 0 ≤ n
      · rw [decide_eq_true c, Bool.true_and] at ht
        have := of_decide_eq_false ht
        have := HLEN.out
        omega
      · omega
    clear hT hR ht hs e1 e2 hB g0 g1
    go_enter Try.func23, Try.ntmps23
    go_upto_region 1 with fail
    rw [← hwb]
    clear hwb
    go_wp2_with fail
    refine kf.mono ?_
    rintro e w2 ⟨rfl, hb2⟩
    obtain ⟨u0, u1, ⟨u2, u3⟩, hbw2⟩ := HG.out w2 hb2
    have ka := HAT.out w2 hbw2
    have HB2 : Hid (Below wb.heap.size wb w2) := hb2
    clear kf hb2 a0 a1 a2 a3 hbw2
    go_wp2_with fail
    refine ka.mono ?_
    rintro e w3 ⟨rfl, hb3⟩
    have hbn := HB2.out.trans (hb3.mono HB2.out.size)
    obtain ⟨u0, u1, ⟨u2, u3⟩, hbw3⟩ := HG.out w3 hbn
    have kk := HKEYS.out w3 hbw3
    have HB3 : Hid (Below wb.heap.size wb w3) := hbn
    clear ka hb3 hbn hbw3 HAT
    go_wp2_with fail
    refine kk.mono ?_
    rintro e w4 ⟨v4, rfl, ho4, hb4⟩
    have hbn4 : Below wb.heap.size wb w4 := HB3.out.trans (hb4.mono HB3.out.size)
    obtain ⟨u0, u1, ⟨u2, u3⟩, hbw4⟩ := HG.out w4 hbn4
    have kp := HPROTO.out w4 hbw4
    obtain ⟨⟨la, lc, lx⟩, rfl, hlx, hlok, _⟩ := ho4.sl rtStr.len
    simp only at hlx
    subst hlx
    unfold Sli.val
    simp only [List.length_nil]
    have HBW : Hid (Below w.heap.size w w4) := hbw4
    clear kk ho4 hb4 hlok hbn4 hbw4 HKEYS
    go_wp2_with fail
    refine kp.mono ?_
    rintro e w5 ⟨rfl, rfl⟩
    clear kp HPROTO HG
    by_cases c : n < 0
    · go_wp2_with fail
      go_ret
      exact ⟨rfl, HBW.out⟩
    · have c2 : (sx.length : Int) ≤ n := by omega
      have c3 : 0 ≤ n := by omega
      clear ht2
      go_wp2_with fail
      go_ret
      exact ⟨rfl, HBW.out⟩
  | true =>
    obtain ⟨j, q, rfl, hs, hs2, hj⟩ := there_of ht
    have e2 : keysOf L j = q.ks := by unfold keysOf; rw [hs2]; rfl
    rw [at_there hs] at HAT
    rw [e2] at HKEYS
    rw [ht, hs2] at HPROTO
    simp only [Option.map_some, Option.getD_some] at HPROTO
    obtain ⟨b, off, r, r1, r2, r3, hc, hjl, hx1, hx2⟩ := hR.open hs
    clear hx1 hx2
    simp only at r1 hjl
    subst r1
    obtain ⟨rp, ⟨ka', kc, kx⟩, ⟨fa, fc, fx⟩, ⟨ta, tc, tx⟩⟩ := r
    unfold RS.sh at r2
    simp only at r2
    have hkx : kx = q.ks := by rw [← r2]
    have hfx : fx = q.fs := by rw [← r2]
    have hrp : rp = q.pr := by rw [← r2]
    have hj0 : ¬ (j : Int) < 0 := by omega
    have hjj : (j : Int) < sx.length := by have := HLEN.out; omega
    have hj1 : ¬ (sx.length : Int) ≤ j := by omega
    subst hkx
    have HROW : Hid (∀ W, Below w.heap.size w W → W.cell? ⟨b, off + j * 4, none⟩ = some (.int .u64 q.pr) ∧ W.cell? ⟨b, off + j * 4 + 1, none⟩ = some (.slice ka' q.ks.length kc) ∧ W.cell? ⟨b, off + j * 4 + 2, none⟩ = some (.slice fa fx.length fc) ∧ W.cell? ⟨b, off + j * 4 + 3, none⟩ = some (.slice ta tx.length tc)) := fun W hW => ⟨by rw [← hrp]; exact cells_below hW _ _ (hc 0 _ rfl), cells_below hW _ _ (hc 1 _ rfl), cells_below hW _ _ (hc 2 _ rfl), cells_below hW _ _ (hc 3 _ rfl)⟩
    have HKO : Hid (∀ W, Below w.heap.size w W → Sli.ok strC 1 W ⟨ka', kc, q.ks⟩) := fun W hW => (r3.below hW).ks.ok
    have HFO : Hid (∀ W, Below w.heap.size w W → Sli.ok intC 1 W ⟨fa, fc, fx⟩) := fun W hW => (r3.below hW).fs.ok
    have hfo : (∃ T, Rel T L) := by obtain ⟨T, v, mb, h⟩ := hT; exact ⟨T, h.rel⟩
    obtain ⟨T, hrel⟩ := hfo
    have hfi := find_of hrel hs k
    clear hT hR ht hs hs2 e2 hB g0 g1 hc r3 hrel hrp r2
    rcases hfi with ⟨i1, i2⟩ | ⟨i, fl', i1, i2, i3⟩
    · rw [i2] at kf
      have e1 : idxI q.ks k = -1 := by unfold idxI; rw [i1]
      rw [e1] at HAT
      unfold slotI flagI at kf
      simp only [Option.isSome_none] at kf
      clear i1 i2 e1 HFO hfx
      go_enter Try.func23, Try.ntmps23
      go_upto_region 1 with fail
      rw [← hwb]
      clear hwb
      go_wp2_with fail
      refine kf.mono ?_
      rintro e w2 ⟨rfl, hb2⟩
      obtain ⟨u0, u1, ⟨u2, u3⟩, hbw2⟩ := HG.out w2 hb2
      have ka := HAT.out w2 hbw2
      have HB2 : Hid (Below wb.heap.size wb w2) := hb2
      clear kf hb2 a0 a1 a2 a3 hbw2
      go_wp2_with fail
      refine ka.mono ?_
      rintro e w3 ⟨rfl, hb3⟩
      have HBN : Hid (Below wb.heap.size wb w3) := HB2.out.trans (hb3.mono HB2.out.size)
      clear ka hb3 HB2 HAT u0 u1 u2 u3
      · skip
        generalize hwn : w3 = wn at *
        clear hwn
        obtain ⟨u0, u1, ⟨u2, u3⟩, hbn⟩ := HG.out wn HBN.out
        have kk := HKEYS.out wn hbn
        go_wp2_with fail
        refine kk.mono ?_
        rintro e w4 ⟨v4, rfl, ho4, hb4⟩
        have hbn4 : Below wb.heap.size wb w4 := HBN.out.trans (hb4.mono HBN.out.size)
        obtain ⟨u0, u1, ⟨u2, u3⟩, hbw4⟩ := HG.out w4 hbn4
        have kp := HPROTO.out w4 hbw4
        obtain ⟨⟨la, lc, lx⟩, rfl, hlx, hlok, _⟩ := ho4.sl rtStr.len
        simp only at hlx
        subst hlx
        unfold Sli.val
        simp only
        have HLO : Hid (Sli.ok strC 1 w4 ⟨la, lc, q.ks⟩) := hlok
        have hll : (q.ks.length : Int) ≤ 9223372036854775807 := by have h1 := hlok.len; have h2 := hlok.cap; simp only at h1 h2; unfold maxLen at h2; omega
        have HB4 : Hid (Below wb.heap.size wb w4) := hbn4
        clear kk ho4 hb4 hlok hbn4 hbw4 hbn HBN
        go_wp2_with fail
        refine kp.mono ?_
        rintro e w5 ⟨rfl, rfl⟩
        clear kp
        obtain ⟨d0, d1, d2, d3⟩ := HROW.out w5 (HG.out w5 HB4.out).2.2.2
        go_upto_region 13 with fail
        obtain ⟨w6, hw6⟩ : ∃ w6, w6 = w5.alloc (.cells #[.int .u64 q.pr, .slice ka' q.ks.length kc, .slice fa fx.length fc, .slice ta tx.length tc] 74) := ⟨_, rfl⟩
        rw [← hw6]
        have hb6 : Below w5.heap.size w5 w6 := by rw [hw6]; exact (Below.refl _ _).alloc (Nat.le_refl _) _
        have s0 : w6.cell? ⟨w5.heap.size, 0, none⟩ = some (.int .u64 q.pr) := by rw [hw6]; exact box_new w5 _ _ 0 _ rfl
        have s1 : w6.cell? ⟨w5.heap.size, 1, none⟩ = some (.slice ka' q.ks.length kc) := by rw [hw6]; exact box_new w5 _ _ 1 _ rfl
        have hbw6 : Below w.heap.size w w6 := (HG.out w5 HB4.out).2.2.2.trans (hb6.mono (HG.out w5 HB4.out).2.2.2.size)
        have HL6 : Hid (Sli.ok strC 1 w6 ⟨la, lc, q.ks⟩ ∧ Sli.ok strC 1 w6 ⟨ka', kc, q.ks⟩) := ⟨HLO.out.kept (cells_below hb6), HKO.out w6 hbw6⟩
        have HB6 : Hid (Below w.heap.size w w6) := hbw6
        have HS1 : Hid (w6.cell? ⟨w5.heap.size, 1, none⟩ = some (.slice ka' q.ks.length kc)) := s1
        have t9 : (q.pr == q.pr) = true := by simp
        have t8 : ((q.ks.length : Int) == q.ks.length) = true := by simp
        clear hw6 hb6 hbw6 d0 d1 d2 d3 u0 u1 u2 u3 HROW HKO HLO HG HKEYS HPROTO HB4
        go_wp2_with fail
        go_loopw [117] (fun i wr => ∃ m : Nat, (m ≤ q.ks.length ∧ Below w6.heap.size w6 wr) ∧ i = .int .i64 m) (fun i wr => q.ks.length - (intOf i).toNat)
        case atStart => exact ⟨0, ⟨Nat.zero_le _, Below.refl _ _⟩, rfl⟩
        case round =>
          obtain ⟨m', ⟨ple, hbr⟩, rfl⟩ := hrel
          have HBR : Hid (Below w6.heap.size w6 wr) := hbr
          have s1 := cells_below hbr _ _ HS1.out
          clear hbr
          rcases Nat.lt_or_ge m' q.ks.length with c | c
          · have hex : ∃ y, q.ks[m']? = some y := ⟨_, List.getElem?_eq_getElem c⟩
            obtain ⟨y, hy⟩ := hex
            obtain ⟨b1, o1, e1, hc1⟩ := HL6.out.1.cells (by intro e; simp only at e; rw [e] at c; simp at c)
            obtain ⟨b2, o2, e2, hc2⟩ := HL6.out.2.cells (by intro e; simp only at e; rw [e] at c; simp at c)
            simp only at e1 e2
            subst e1 e2
            have y1 := cells_below HBR.out _ _ (hc1 m' y hy 0 _ rfl)
            have y2 := cells_below HBR.out _ _ (hc2 m' y hy 0 _ rfl)
            rw [Nat.add_zero, Nat.mul_one] at y1 y2
            have t7 := bytes_yes y
            clear hc1 hc2 hy HL6
            go_wp2_with fail
            go_region
            all_goals
              go_wp2_with fail
              refine ⟨⟨m' + 1, ⟨c, HBR.out.drew⟩, by go_num⟩, ?_⟩
              simp [intOf]
              omega
          · have HBF : Hid (Below w.heap.size w wr) := HB6.out.trans (HBR.out.mono HB6.out.size)
            clear HL6 HBR
            go_wp2_with fail
            go_ret
            exact ⟨rfl, HBF.out⟩
    · rw [i3] at kf
      have e1 : idxI q.ks k = (i : Int) := by unfold idxI; rw [i1]
      rw [e1] at HAT
      unfold slotI flagI at kf
      simp only [Option.isSome_some] at kf
      rw [← hfx] at i2
      have hil : i < fx.length := (List.getElem?_eq_some_iff.1 i2).1
      have hii : (i : Int) < fx.length := by omega
      have hfl : (fx.length : Int) ≤ 9223372036854775807 := by have h1 := (HFO.out w (Below.refl _ _)).len; have h2 := (HFO.out w (Below.refl _ _)).cap; simp only at h1 h2; unfold maxLen at h2; omega
      have HFI : Hid (∃ fb fo, fa = some ⟨fb, fo, none⟩ ∧ ∀ W, Below w.heap.size w W → W.cell? ⟨fb, fo + i, none⟩ = some (.int .i64 fl')) := by
        obtain ⟨fb, fo, f1, f2⟩ := (HFO.out w (Below.refl _ _)).cells (by intro e; simp only at e; rw [e] at hil; simp at hil)
        simp only at f1
        refine ⟨fb, fo, f1, fun W hW => ?_⟩
        have := cells_below hW _ _ (f2 i fl' i2 0 _ rfl)
        rw [Nat.add_zero, Nat.mul_one] at this
        exact this
      obtain ⟨fb, fo, rfl, hfcell⟩ := HFI.out
      have HFC : Hid (∀ W, Below w.heap.size w W → W.cell? ⟨fb, fo + i, none⟩ = some (.int .i64 fl')) := hfcell
      have t1 : ((i : Int) == i) = true := by simp
      have t2 : (fl' == fl') = true := by simp
      have hi0 : (0 : Int) ≤ (i : Int) := by omega
      clear i1 i2 i3 e1 HFO hfx HFI hfcell
      go_enter Try.func23, Try.ntmps23
      go_upto_region 1 with fail
      rw [← hwb]
      clear hwb
      go_wp2_with fail
      refine kf.mono ?_
      rintro e w2 ⟨rfl, hb2⟩
      obtain ⟨u0, u1, ⟨u2, u3⟩, hbw2⟩ := HG.out w2 hb2
      have ka := HAT.out w2 hbw2
      have HB2 : Hid (Below wb.heap.size wb w2) := hb2
      clear kf hb2 a0 a1 a2 a3 hbw2
      go_wp2_with fail
      refine ka.mono ?_
      rintro e w3 ⟨rfl, hb3⟩
      have HBN : Hid (Below wb.heap.size wb w3) := HB2.out.trans (hb3.mono HB2.out.size)
      obtain ⟨u0, u1, ⟨u2, u3⟩, hbw3⟩ := HG.out w3 HBN.out
      obtain ⟨d0, d1, d2, d3⟩ := HROW.out w3 hbw3
      have d4 := HFC.out w3 hbw3
      clear ka hb3 HB2 HAT hbw3 HFC
      go_upto_region 8 with fail
      clear u0 u1 u2 u3 d0 d1 d2 d3 d4
      · skip
        generalize hwn : w3 = wn at *
        clear hwn
        obtain ⟨u0, u1, ⟨u2, u3⟩, hbn⟩ := HG.out wn HBN.out
        have kk := HKEYS.out wn hbn
        go_wp2_with fail
        refine kk.mono ?_
        rintro e w4 ⟨v4, rfl, ho4, hb4⟩
        have hbn4 : Below wb.heap.size wb w4 := HBN.out.trans (hb4.mono HBN.out.size)
        obtain ⟨u0, u1, ⟨u2, u3⟩, hbw4⟩ := HG.out w4 hbn4
        have kp := HPROTO.out w4 hbw4
        obtain ⟨⟨la, lc, lx⟩, rfl, hlx, hlok, _⟩ := ho4.sl rtStr.len
        simp only at hlx
        subst hlx
        unfold Sli.val
        simp only
        have HLO : Hid (Sli.ok strC 1 w4 ⟨la, lc, q.ks⟩) := hlok
        have hll : (q.ks.length : Int) ≤ 9223372036854775807 := by have h1 := hlok.len; have h2 := hlok.cap; simp only at h1 h2; unfold maxLen at h2; omega
        have HB4 : Hid (Below wb.heap.size wb w4) := hbn4
        clear kk ho4 hb4 hlok hbn4 hbw4 hbn HBN
        go_wp2_with fail
        refine kp.mono ?_
        rintro e w5 ⟨rfl, rfl⟩
        clear kp
        obtain ⟨d0, d1, d2, d3⟩ := HROW.out w5 (HG.out w5 HB4.out).2.2.2
        go_upto_region 13 with fail
        obtain ⟨w6, hw6⟩ : ∃ w6, w6 = w5.alloc (.cells #[.int .u64 q.pr, .slice ka' q.ks.length kc, .slice (some ⟨fb, fo, none⟩) fx.length fc, .slice ta tx.length tc] 74) := ⟨_, rfl⟩
        rw [← hw6]
        have hb6 : Below w5.heap.size w5 w6 := by rw [hw6]; exact (Below.refl _ _).alloc (Nat.le_refl _) _
        have s0 : w6.cell? ⟨w5.heap.size, 0, none⟩ = some (.int .u64 q.pr) := by rw [hw6]; exact box_new w5 _ _ 0 _ rfl
        have s1 : w6.cell? ⟨w5.heap.size, 1, none⟩ = some (.slice ka' q.ks.length kc) := by rw [hw6]; exact box_new w5 _ _ 1 _ rfl
        have hbw6 : Below w.heap.size w w6 := (HG.out w5 HB4.out).2.2.2.trans (hb6.mono (HG.out w5 HB4.out).2.2.2.size)
        have HL6 : Hid (Sli.ok strC 1 w6 ⟨la, lc, q.ks⟩ ∧ Sli.ok strC 1 w6 ⟨ka', kc, q.ks⟩) := ⟨HLO.out.kept (cells_below hb6), HKO.out w6 hbw6⟩
        have HB6 : Hid (Below w.heap.size w w6) := hbw6
        have HS1 : Hid (w6.cell? ⟨w5.heap.size, 1, none⟩ = some (.slice ka' q.ks.length kc)) := s1
        have t9 : (q.pr == q.pr) = true := by simp
        have t8 : ((q.ks.length : Int) == q.ks.length) = true := by simp
        clear hw6 hb6 hbw6 d0 d1 d2 d3 u0 u1 u2 u3 HROW HKO HLO HG HKEYS HPROTO HB4
        go_wp2_with fail
        go_loopw [117] (fun i wr => ∃ m : Nat, (m ≤ q.ks.length ∧ Below w6.heap.size w6 wr) ∧ i = .int .i64 m) (fun i wr => q.ks.length - (intOf i).toNat)
        case atStart => exact ⟨0, ⟨Nat.zero_le _, Below.refl _ _⟩, rfl⟩
        case round =>
          obtain ⟨m', ⟨ple, hbr⟩, rfl⟩ := hrel
          have HBR : Hid (Below w6.heap.size w6 wr) := hbr
          have s1 := cells_below hbr _ _ HS1.out
          clear hbr
          rcases Nat.lt_or_ge m' q.ks.length with c | c
          · have hex : ∃ y, q.ks[m']? = some y := ⟨_, List.getElem?_eq_getElem c⟩
            obtain ⟨y, hy⟩ := hex
            obtain ⟨b1, o1, e1, hc1⟩ := HL6.out.1.cells (by intro e; simp only at e; rw [e] at c; simp at c)
            obtain ⟨b2, o2, e2, hc2⟩ := HL6.out.2.cells (by intro e; simp only at e; rw [e] at c; simp at c)
            simp only at e1 e2
            subst e1 e2
            have y1 := cells_below HBR.out _ _ (hc1 m' y hy 0 _ rfl)
            have y2 := cells_below HBR.out _ _ (hc2 m' y hy 0 _ rfl)
            rw [Nat.add_zero, Nat.mul_one] at y1 y2
            have t7 := bytes_yes y
            clear hc1 hc2 hy HL6
            go_wp2_with fail
            go_region
            all_goals
              go_wp2_with fail
              refine ⟨⟨m' + 1, ⟨c, HBR.out.drew⟩, by go_num⟩, ?_⟩
              simp [intOf]
              omega
          · have HBF : Hid (Below w.heap.size w wr) := HB6.out.trans (HBR.out.mono HB6.out.size)
            clear HL6 HBR
            go_wp2_with fail
            go_ret
            exact ⟨rfl, HBF.out⟩

end Go.Proofs.Ytiliffnflamkjaa.Sp
