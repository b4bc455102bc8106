/- wished. -/
import Derived.Test.YtahhionlbfhinaaGreatDoorB19
namespace Go.Proofs.YtahhionlbfhinaaGreatDoor.Hp
open Go.RowKit
set_option linter.unusedVariables false

/-- the table of flags lies in memory -/
def FpAt (w : World) : Prop := ∃ t fr, w.heap[0]? = some (.cells #[.int .i64 2, .int .i64 1, .int .i64 4, .int .i64 2, .int .i64 8, .int .i64 4] t fr)
theorem FpAt.lt {w : World} (h : FpAt w) : 0 < w.heap.size := by
  obtain ⟨t, fr, h⟩ := h
  exact (Array.getElem?_eq_some_iff.1 h).1
theorem FpAt.below {w w' : World} (h : FpAt w) (hb : Below w.heap.size w w') : FpAt w' := by
  obtain ⟨t, fr, k⟩ := h
  exact ⟨t, fr, (hb.block 0 (FpAt.lt ⟨t, fr, k⟩)).trans k⟩
theorem FpAt.cells {w : World} (h : FpAt w) : w.cell? ⟨0, 0, none⟩ = some (.int .i64 2) ∧ w.cell? ⟨0, 1, none⟩ = some (.int .i64 1) ∧ w.cell? ⟨0, 2, none⟩ = some (.int .i64 4) ∧ w.cell? ⟨0, 3, none⟩ = some (.int .i64 2) ∧ w.cell? ⟨0, 4, none⟩ = some (.int .i64 8) ∧ w.cell? ⟨0, 5, none⟩ = some (.int .i64 4) := by
  obtain ⟨t, fr, k⟩ := h
  exact ⟨cell_of_row w 0 0 _ t fr k, cell_of_row w 0 1 _ t fr k, cell_of_row w 0 2 _ t fr k, cell_of_row w 0 3 _ t fr k, cell_of_row w 0 4 _ t fr k, cell_of_row w 0 5 _ t fr k⟩

def stF (u : Ws) (c p fl : Int) : Int := if (bits .and .i64 u.has c != 0) = true then bits .or .i64 (bits .andNot .i64 fl p) (bits .and .i64 u.fl p) else fl
def flR (u : Ws) (fl : Int) : Nat → Int
  | 0 => fl
  | 1 => stF u 2 1 fl
  | 2 => stF u 4 2 (stF u 2 1 fl)
  | _ => stF u 8 4 (stF u 4 2 (stF u 2 1 fl))
def wishD (d : De) (u : Ws) : De := ⟨if (bits .and .i64 u.has 16 != 0) = true then u.ge else if (bits .and .i64 u.has 1 != 0) = true then u.va else (turnD d u).va, if (bits .and .i64 u.has 32 != 0) = true then u.se else (turnD d u).se, flR u (turnD d u).fl 3⟩

structure WiAt (w W : World) (t : De) (u : Ws) (i : Nat) : Prop where
  bx : Bxs w W ⟨t.va, t.se, flR u t.fl i⟩ u zDe

set_option maxRecDepth 100000 in
set_option maxHeartbeats 4000000 in
theorem wished_any (w : World) (hF : FpAt w) (d : De) (u : Ws) : Calls Tryz.prog 60 #[deV d, wsV u] w fun e w' => e = .returned (deV (wishD d u)) ∧ Below w.heap.size w w' := by
  obtain ⟨wb, hwb⟩ : ∃ wb, wb = w3b w d u := ⟨_, rfl⟩
  have h := bxs_new w d u
  rw [← hwb] at h
  have kt := turned_any wb d u
  have HN : Hid (∀ W, Below wb.heap.size wb W → Bxs w W d u zDe) := fun W q => h.below q
  have HFP : Hid (FpAt w) := hF
  obtain ⟨x0, x1, x2⟩ := h.x.ce
  obtain ⟨y0, y1, y2, y3, y4⟩ := h.y.ce
  unfold w3b at hwb
  have HE : Hid (wishD d u = ⟨if (bits .and .i64 u.has 16 != 0) = true then u.ge else if (bits .and .i64 u.has 1 != 0) = true then u.va else (turnD d u).va, if (bits .and .i64 u.has 32 != 0) = true then u.se else (turnD d u).se, flR u (turnD d u).fl 3⟩) := rfl
  generalize hT : turnD d u = t at *
  generalize hW : wishD d u = R at *
  unfold deV wsV at *
  clear h hF hT hW
  have i0 : ∀ w, (Instr.index 159 (.agg #[.int .i64 2, .int .i64 1, .int .i64 4, .int .i64 2, .int .i64 8, .int .i64 4]) (.int .i64 0)).run Tryz.prog w = .ok (.agg #[.int .i64 2, .int .i64 1]) w := fun _ => by kernel_rfl
  have i1 : ∀ w, (Instr.index 159 (.agg #[.int .i64 2, .int .i64 1, .int .i64 4, .int .i64 2, .int .i64 8, .int .i64 4]) (.int .i64 1)).run Tryz.prog w = .ok (.agg #[.int .i64 4, .int .i64 2]) w := fun _ => by kernel_rfl
  have i2 : ∀ w, (Instr.index 159 (.agg #[.int .i64 2, .int .i64 1, .int .i64 4, .int .i64 2, .int .i64 8, .int .i64 4]) (.int .i64 2)).run Tryz.prog w = .ok (.agg #[.int .i64 8, .int .i64 4]) w := fun _ => by kernel_rfl
  go_enter Tryz.func60, Tryz.ntmps60
  go_upto_region 1 with fail
  rw [← hwb]
  clear hwb
  go_wp2_with fail
  refine kt.mono ?_
  rintro e w2 ⟨rfl, hB2⟩
  have hx := HN.out w2 hB2
  obtain ⟨x0, x1, x2⟩ := hx.x.ce
  obtain ⟨f0, f1, f2⟩ := hx.x.fz
  have HX3 : Hid (WiAt w (st3 w2 w.heap.size t) t u 0) := ⟨hx.set _⟩
  clear kt hB2 hx HN y0 y1 y2 y3 y4
  go_upto_region 2 with fail
  generalize hw3 : ((w2.setCell ⟨w.heap.size, 0, none⟩ (.int .u64 t.va)).setCell ⟨w.heap.size, 1, none⟩ (.int .u64 t.se)).setCell ⟨w.heap.size, 2, none⟩ (.int .i64 t.fl) = w3 at *
  have HX3 : Hid (WiAt w w3 t u 0) := by rw [← hw3]; exact HX3.out
  obtain ⟨g0, g1, g2, g3, g4, g5⟩ := (HFP.out.below HX3.out.bx.bel).cells
  clear hw3 x0 x1 x2 f0 f1 f2
  go_wp2_with fail
  go_loopw [11] (fun p wr => ∃ (i : Nat), i ≤ 3 ∧ p = .int .i64 (i : Int) ∧ Hid (WiAt w wr t u i)) (fun p wr => (3 - intOf p).toNat)
  case atStart => exact ⟨0, by omega, rfl, HX3⟩
  case round =>
    clear HX3 g0 g1 g2 g3 g4 g5
    obtain ⟨i, hi, rfl, HW⟩ := hrel
    have hii : i = 0 ∨ i = 1 ∨ i = 2 ∨ i = 3 := by omega
    rcases hii with rfl | rfl | rfl | rfl
    · have hal : Below wr.heap.size wr (wr.alloc (.cells #[.int .i64 2, .int .i64 1] 158)) := (Below.refl _ _).alloc (Nat.le_refl _) _
      have hx := HW.out.bx.below hal
      obtain ⟨x0, x1, x2⟩ := hx.x.ce
      obtain ⟨f0, f1, f2⟩ := hx.x.fz
      obtain ⟨y0, y1, y2, y3, y4⟩ := hx.y.ce
      have n0 := box_new wr #[.int .i64 2, .int .i64 1] 158 0 _ rfl
      have n1 := box_new wr #[.int .i64 2, .int .i64 1] 158 1 _ rfl
      have HX : Hid (Bxs w (wr.alloc (.cells #[.int .i64 2, .int .i64 1] 158)) ⟨t.va, t.se, flR u t.fl 0⟩ u zDe) := hx
      clear hal hx HW
      simp only at x0 x1 x2
      cases hc : (bits .and .i64 u.has 2 != 0) with
      | true =>
        have HNX : Hid (∀ W, Bxs w W ⟨t.va, t.se, bits .or .i64 (bits .andNot .i64 (flR u t.fl 0) 1) (bits .and .i64 u.fl 1)⟩ u zDe → WiAt w W t u 1) := fun W q => ⟨by
          have e : flR u t.fl 1 = stF u 2 1 (flR u t.fl 0) := rfl
          unfold stF at e
          rw [if_pos hc] at e
          rw [e]
          exact q⟩
        generalize flR u t.fl 0 = fl at *
        have HP := (show Hid _ from HX.out.one 2 _ (HX.out.x.pfl (bits .or .i64 (bits .andNot .i64 fl 1) (bits .and .i64 u.fl 1))))
        clear HX
        go_wp2_with fail
        refine ⟨⟨1, by omega, rfl, HNX.out _ HP.out⟩, ?_⟩
        simp [intOf]
      | false =>
        have HNX : Hid (∀ W, Bxs w W ⟨t.va, t.se, flR u t.fl 0⟩ u zDe → WiAt w W t u 1) := fun W q => ⟨by
          have e : flR u t.fl 1 = stF u 2 1 (flR u t.fl 0) := rfl
          unfold stF at e
          rw [if_neg (by rw [hc]; simp)] at e
          rw [e]
          exact q⟩
        generalize flR u t.fl 0 = fl at *
        go_wp2_with fail
        refine ⟨⟨1, by omega, rfl, HNX.out _ HX.out⟩, ?_⟩
        simp [intOf]
    · have hal : Below wr.heap.size wr (wr.alloc (.cells #[.int .i64 4, .int .i64 2] 158)) := (Below.refl _ _).alloc (Nat.le_refl _) _
      have hx := HW.out.bx.below hal
      obtain ⟨x0, x1, x2⟩ := hx.x.ce
      obtain ⟨f0, f1, f2⟩ := hx.x.fz
      obtain ⟨y0, y1, y2, y3, y4⟩ := hx.y.ce
      have n0 := box_new wr #[.int .i64 4, .int .i64 2] 158 0 _ rfl
      have n1 := box_new wr #[.int .i64 4, .int .i64 2] 158 1 _ rfl
      have HX : Hid (Bxs w (wr.alloc (.cells #[.int .i64 4, .int .i64 2] 158)) ⟨t.va, t.se, flR u t.fl 1⟩ u zDe) := hx
      clear hal hx HW
      simp only at x0 x1 x2
      cases hc : (bits .and .i64 u.has 4 != 0) with
      | true =>
        have HNX : Hid (∀ W, Bxs w W ⟨t.va, t.se, bits .or .i64 (bits .andNot .i64 (flR u t.fl 1) 2) (bits .and .i64 u.fl 2)⟩ u zDe → WiAt w W t u 2) := fun W q => ⟨by
          have e : flR u t.fl 2 = stF u 4 2 (flR u t.fl 1) := rfl
          unfold stF at e
          rw [if_pos hc] at e
          rw [e]
          exact q⟩
        generalize flR u t.fl 1 = fl at *
        have HP := (show Hid _ from HX.out.one 2 _ (HX.out.x.pfl (bits .or .i64 (bits .andNot .i64 fl 2) (bits .and .i64 u.fl 2))))
        clear HX
        go_wp2_with fail
        refine ⟨⟨2, by omega, rfl, HNX.out _ HP.out⟩, ?_⟩
        simp [intOf]
      | false =>
        have HNX : Hid (∀ W, Bxs w W ⟨t.va, t.se, flR u t.fl 1⟩ u zDe → WiAt w W t u 2) := fun W q => ⟨by
          have e : flR u t.fl 2 = stF u 4 2 (flR u t.fl 1) := rfl
          unfold stF at e
          rw [if_neg (by rw [hc]; simp)] at e
          rw [e]
          exact q⟩
        generalize flR u t.fl 1 = fl at *
        go_wp2_with fail
        refine ⟨⟨2, by omega, rfl, HNX.out _ HX.out⟩, ?_⟩
        simp [intOf]
    · have hal : Below wr.heap.size wr (wr.alloc (.cells #[.int .i64 8, .int .i64 4] 158)) := (Below.refl _ _).alloc (Nat.le_refl _) _
      have hx := HW.out.bx.below hal
      obtain ⟨x0, x1, x2⟩ := hx.x.ce
      obtain ⟨f0, f1, f2⟩ := hx.x.fz
      obtain ⟨y0, y1, y2, y3, y4⟩ := hx.y.ce
      have n0 := box_new wr #[.int .i64 8, .int .i64 4] 158 0 _ rfl
      have n1 := box_new wr #[.int .i64 8, .int .i64 4] 158 1 _ rfl
      have HX : Hid (Bxs w (wr.alloc (.cells #[.int .i64 8, .int .i64 4] 158)) ⟨t.va, t.se, flR u t.fl 2⟩ u zDe) := hx
      clear hal hx HW
      simp only at x0 x1 x2
      cases hc : (bits .and .i64 u.has 8 != 0) with
      | true =>
        have HNX : Hid (∀ W, Bxs w W ⟨t.va, t.se, bits .or .i64 (bits .andNot .i64 (flR u t.fl 2) 4) (bits .and .i64 u.fl 4)⟩ u zDe → WiAt w W t u 3) := fun W q => ⟨by
          have e : flR u t.fl 3 = stF u 8 4 (flR u t.fl 2) := rfl
          unfold stF at e
          rw [if_pos hc] at e
          rw [e]
          exact q⟩
        generalize flR u t.fl 2 = fl at *
        have HP := (show Hid _ from HX.out.one 2 _ (HX.out.x.pfl (bits .or .i64 (bits .andNot .i64 fl 4) (bits .and .i64 u.fl 4))))
        clear HX
        go_wp2_with fail
        refine ⟨⟨3, by omega, rfl, HNX.out _ HP.out⟩, ?_⟩
        simp [intOf]
      | false =>
        have HNX : Hid (∀ W, Bxs w W ⟨t.va, t.se, flR u t.fl 2⟩ u zDe → WiAt w W t u 3) := fun W q => ⟨by
          have e : flR u t.fl 3 = stF u 8 4 (flR u t.fl 2) := rfl
          unfold stF at e
          rw [if_neg (by rw [hc]; simp)] at e
          rw [e]
          exact q⟩
        generalize flR u t.fl 2 = fl at *
        go_wp2_with fail
        refine ⟨⟨3, by omega, rfl, HNX.out _ HX.out⟩, ?_⟩
        simp [intOf]
    · obtain ⟨x0, x1, x2⟩ := HW.out.bx.x.ce
      obtain ⟨f0, f1, f2⟩ := HW.out.bx.x.fz
      obtain ⟨y0, y1, y2, y3, y4⟩ := HW.out.bx.y.ce
      obtain ⟨z0, z1, z2⟩ := HW.out.bx.z.ce
      obtain ⟨k0, k1, k2⟩ := HW.out.bx.z.fz
      unfold zDe at z0 z1 z2
      simp only at x0 x1 x2
      have HB := (show Hid _ from HW.out.bx)
      generalize flR u t.fl 3 = fl at *
      clear HW i0 i1 i2
      cases ha : (bits .and .i64 u.has 1 != 0) with
      | true =>
        cases hb : (bits .and .i64 u.has 16 != 0) with
        | true =>
          cases hc : (bits .and .i64 u.has 32 != 0) with
          | true =>
            have HB1 := (show Hid _ from HB.out.one 0 _ (HB.out.x.pva u.va))
            have HB2 := (show Hid _ from HB1.out.one 0 _ (HB1.out.x.pva u.ge))
            have HB3 := (show Hid _ from HB2.out.one 1 _ (HB2.out.x.pse u.se))
            have HFI : Hid (Bxs w _ _ u ⟨u.ge, u.se, fl⟩) := HB3.out.res ⟨u.ge, u.se, fl⟩
            have HR : Hid (R = ⟨u.ge, u.se, fl⟩) := by show R = _; rw [HE.out, if_pos hb, if_pos hc]
            clear HE HB HB1 HB2 HB3
            go_wp2_with fail
            refine bodyPost_ret (res1 rfl _ _ (w.heap.size + 2) 41 _ (0, 0) _ rfl HFI.out.z Tryz.underlying41 rfl (by kernel_rfl)) rfl ?_
            rw [HR.out]
            exact ⟨rfl, HFI.out.bel⟩
          | false =>
            have HB1 := (show Hid _ from HB.out.one 0 _ (HB.out.x.pva u.va))
            have HB2 := (show Hid _ from HB1.out.one 0 _ (HB1.out.x.pva u.ge))
            have HFI : Hid (Bxs w _ _ u ⟨u.ge, t.se, fl⟩) := HB2.out.res ⟨u.ge, t.se, fl⟩
            have HR : Hid (R = ⟨u.ge, t.se, fl⟩) := by show R = _; rw [HE.out, if_pos hb, if_neg (by rw [hc]; simp)]
            clear HE HB HB1 HB2
            go_wp2_with fail
            refine bodyPost_ret (res1 rfl _ _ (w.heap.size + 2) 41 _ (0, 0) _ rfl HFI.out.z Tryz.underlying41 rfl (by kernel_rfl)) rfl ?_
            rw [HR.out]
            exact ⟨rfl, HFI.out.bel⟩
        | false =>
          cases hc : (bits .and .i64 u.has 32 != 0) with
          | true =>
            have HB1 := (show Hid _ from HB.out.one 0 _ (HB.out.x.pva u.va))
            have HB2 := (show Hid _ from HB1.out.one 1 _ (HB1.out.x.pse u.se))
            have HFI : Hid (Bxs w _ _ u ⟨u.va, u.se, fl⟩) := HB2.out.res ⟨u.va, u.se, fl⟩
            have HR : Hid (R = ⟨u.va, u.se, fl⟩) := by show R = _; rw [HE.out, if_neg (by rw [hb]; simp), if_pos ha, if_pos hc]
            clear HE HB HB1 HB2
            go_wp2_with fail
            refine bodyPost_ret (res1 rfl _ _ (w.heap.size + 2) 41 _ (0, 0) _ rfl HFI.out.z Tryz.underlying41 rfl (by kernel_rfl)) rfl ?_
            rw [HR.out]
            exact ⟨rfl, HFI.out.bel⟩
          | false =>
            have HB1 := (show Hid _ from HB.out.one 0 _ (HB.out.x.pva u.va))
            have HFI : Hid (Bxs w _ _ u ⟨u.va, t.se, fl⟩) := HB1.out.res ⟨u.va, t.se, fl⟩
            have HR : Hid (R = ⟨u.va, t.se, fl⟩) := by show R = _; rw [HE.out, if_neg (by rw [hb]; simp), if_pos ha, if_neg (by rw [hc]; simp)]
            clear HE HB HB1
            go_wp2_with fail
            refine bodyPost_ret (res1 rfl _ _ (w.heap.size + 2) 41 _ (0, 0) _ rfl HFI.out.z Tryz.underlying41 rfl (by kernel_rfl)) rfl ?_
            rw [HR.out]
            exact ⟨rfl, HFI.out.bel⟩
      | false =>
        cases hb : (bits .and .i64 u.has 16 != 0) with
        | true =>
          cases hc : (bits .and .i64 u.has 32 != 0) with
          | true =>
            have HB1 := (show Hid _ from HB.out.one 0 _ (HB.out.x.pva u.ge))
            have HB2 := (show Hid _ from HB1.out.one 1 _ (HB1.out.x.pse u.se))
            have HFI : Hid (Bxs w _ _ u ⟨u.ge, u.se, fl⟩) := HB2.out.res ⟨u.ge, u.se, fl⟩
            have HR : Hid (R = ⟨u.ge, u.se, fl⟩) := by show R = _; rw [HE.out, if_pos hb, if_pos hc]
            clear HE HB HB1 HB2
            go_wp2_with fail
            refine bodyPost_ret (res1 rfl _ _ (w.heap.size + 2) 41 _ (0, 0) _ rfl HFI.out.z Tryz.underlying41 rfl (by kernel_rfl)) rfl ?_
            rw [HR.out]
            exact ⟨rfl, HFI.out.bel⟩
          | false =>
            have HB1 := (show Hid _ from HB.out.one 0 _ (HB.out.x.pva u.ge))
            have HFI : Hid (Bxs w _ _ u ⟨u.ge, t.se, fl⟩) := HB1.out.res ⟨u.ge, t.se, fl⟩
            have HR : Hid (R = ⟨u.ge, t.se, fl⟩) := by show R = _; rw [HE.out, if_pos hb, if_neg (by rw [hc]; simp)]
            clear HE HB HB1
            go_wp2_with fail
            refine bodyPost_ret (res1 rfl _ _ (w.heap.size + 2) 41 _ (0, 0) _ rfl HFI.out.z Tryz.underlying41 rfl (by kernel_rfl)) rfl ?_
            rw [HR.out]
            exact ⟨rfl, HFI.out.bel⟩
        | false =>
          cases hc : (bits .and .i64 u.has 32 != 0) with
          | true =>
            have HB1 := (show Hid _ from HB.out.one 1 _ (HB.out.x.pse u.se))
            have HFI : Hid (Bxs w _ _ u ⟨t.va, u.se, fl⟩) := HB1.out.res ⟨t.va, u.se, fl⟩
            have HR : Hid (R = ⟨t.va, u.se, fl⟩) := by show R = _; rw [HE.out, if_neg (by rw [hb]; simp), if_neg (by rw [ha]; simp), if_pos hc]
            clear HE HB HB1
            go_wp2_with fail
            refine bodyPost_ret (res1 rfl _ _ (w.heap.size + 2) 41 _ (0, 0) _ rfl HFI.out.z Tryz.underlying41 rfl (by kernel_rfl)) rfl ?_
            rw [HR.out]
            exact ⟨rfl, HFI.out.bel⟩
          | false =>
            have HFI : Hid (Bxs w _ _ u ⟨t.va, t.se, fl⟩) := HB.out.res ⟨t.va, t.se, fl⟩
            have HR : Hid (R = ⟨t.va, t.se, fl⟩) := by show R = _; rw [HE.out, if_neg (by rw [hb]; simp), if_neg (by rw [ha]; simp), if_neg (by rw [hc]; simp)]
            clear HE HB
            go_wp2_with fail
            refine bodyPost_ret (res1 rfl _ _ (w.heap.size + 2) 41 _ (0, 0) _ rfl HFI.out.z Tryz.underlying41 rfl (by kernel_rfl)) rfl ?_
            rw [HR.out]
            exact ⟨rfl, HFI.out.bel⟩

end Go.Proofs.YtahhionlbfhinaaGreatDoor.Hp
