/- Props' alive. -/
import Derived.Test.YtahhionlbfhinaaDoorKR
import Derived.Test.YtahhionlbfhinaaDoorHK
import Derived.Deep.QuietTactic
namespace Go.Proofs.YtahhionlbfhinaaDoor.Hp
open Go.RowKit
set_option linter.unusedVariables false

def keyA : ByteArray := { data := #[97] }
def dA : De := ⟨intW 3, undW, 7⟩
def oA0 : Ob := ⟨0, nulW, false, false, [], 0, [], [], 0, true, -1, false, []⟩
def oA1 : Ob := ⟨0, nulW, false, true, [], 0, [], [], 0, true, -1, false, []⟩
def oA2 : Ob := ⟨0, nulW, false, true, [⟨keyA, 0, dA⟩], 1, [], [], 2, true, -1, false, []⟩
def oB : Ob := ⟨0, objW 0, false, false, [], 0, [], [], 1, true, -1, false, []⟩
def HP1 : He := ⟨[], [oA0], 9, [⟨rootN 0 nulW, [], [], []⟩], [], 0⟩
def HP2 : He := ⟨[], [oA1, oB], 9, [⟨rootN 0 nulW, [], [], []⟩, ⟨rootN 0 (objW 0), [], [], []⟩], [], 0⟩
def HP3 : He := ⟨[], [oA2, oB], 9, [⟨rootN 0 nulW, [], [], []⟩, ⟨rootN 0 (objW 0), [], [], []⟩, ⟨rootN 0 nulW, [keyA], [7], [(false, keyA, 7)]⟩], [], 0⟩

theorem mkP1 : makeH (He.new 9) 0 nulW = HP1 := by
  have h1 : obI (He.new 9) nulW = none := by
    unfold obI
    rw [if_neg (by intro q; have := q.1; rw [isT_nul] at this; cases this)]
  have h2 : raiseH (He.new 9) nulW = He.new 9 := by unfold raiseH; rw [h1]
  unfold makeH
  rw [h2]
  rfl
theorem oiP1 : obI HP1 (objW 0) = some 0 := obI_of (H := HP1) (i := 0) (by decide) (by decide)
theorem mkP2 : makeH HP1 0 (objW 0) = HP2 := by
  have h2 : raiseH HP1 (objW 0) = ⟨[], [oA1], 9, [⟨rootN 0 nulW, [], [], []⟩], [], 0⟩ := by unfold raiseH; rw [oiP1]; rfl
  unfold makeH
  rw [h2]
  rfl
theorem oiP2 : obI HP2 (objW 0) = some 0 := obI_of (H := HP2) (i := 0) (by decide) (by decide)
theorem oiP3 : obI HP3 (objW 0) = some 0 ∧ obI HP3 (objW 1) = some 1 := ⟨obI_of (H := HP3) (i := 0) (by decide) (by decide), obI_of (H := HP3) (i := 1) (by decide) (by decide)⟩
theorem nuP (H : He) : obO H nulW = none := by
  unfold obO
  have h1 : obI H nulW = none := by
    unfold obI
    rw [if_neg (by intro q; have := q.1; rw [isT_nul] at this; cases this)]
  rw [h1]
  rfl
theorem ooP2 : obO HP2 (objW 0) = some oA1 := by unfold obO; rw [oiP2]; rfl
theorem ooP3 : obO HP3 (objW 0) = some oA2 ∧ obO HP3 (objW 1) = some oB := by unfold obO; rw [oiP3.1, oiP3.2]; exact ⟨rfl, rfl⟩
theorem enP2 : EndsH HP2 1 (objW 0) := Or.inr ⟨oA1, ooP2, nuP _⟩
theorem enP3 : EndsH HP3 2 (objW 1) := Or.inr ⟨oB, ooP3.2, Or.inr ⟨oA2, ooP3.1, nuP _⟩⟩
theorem owA1 : ownO oA1 keyA = none := rfl
theorem owB : ownO oB keyA = none := rfl
theorem plA2 : plc oA2.ps keyA = some 0 := plc_at (p := ⟨keyA, 0, dA⟩) rfl rfl (fun j q hj => by omega)
theorem owA2 : ownO oA2 keyA = some dA := by
  unfold ownO
  rw [if_neg (by decide)]
  unfold getO
  rw [plA2]
  rfl
theorem lkP2 : lookF HP2 keyA 1 (objW 0) = none := by rw [look_step ooP2, owA1]; rfl
theorem lkP3 : lookF HP3 keyA 2 (objW 1) = some (objW 0, dA) := by
  rw [look_step ooP3.2, owB]
  show lookF HP3 keyA 1 (objW 0) = _
  rw [look_step ooP3.1, owA2]
theorem wiA : wishD newD (wsAll (intW 3)) = dA := by
  unfold wishD turnD accB newD wsAll flR stF dA
  simp only
  have e1 : bits .and .i64 15 16 = 0 := by decide
  have e2 : bits .and .i64 15 1 = 1 := by decide
  have e3 : bits .and .i64 15 32 = 0 := by decide
  have e4 : bits .and .i64 15 2 = 2 := by decide
  have e5 : bits .and .i64 15 4 = 4 := by decide
  have e6 : bits .and .i64 15 8 = 8 := by decide
  have e7 : bits .and .i64 0 8 = 0 := by decide
  have e8 : bits .and .i64 15 48 = 0 := by decide
  have e9 : bits .or .i64 (bits .andNot .i64 (bits .or .i64 (bits .andNot .i64 (bits .or .i64 (bits .andNot .i64 0 1) (bits .and .i64 7 1)) 2) (bits .and .i64 7 2)) 4) (bits .and .i64 7 4) = 7 := by decide
  rw [e1, e2, e3, e4, e5, e6, e7]
  simp [e8, e9]
theorem dfP : defP HP2 (objW 0) keyA (wsAll (intW 3)) = (true, HP3) := by
  unfold defP
  rw [oiP2]
  show (if (bits .and .i64 15 48 != 0) = true ∧ (bits .and .i64 15 3 != 0) = true then (false, HP2) else match ownO oA1 keyA with
        | none => if oA1.shut = true then (false, HP2) else layP HP2 0 oA1 keyA (wishD newD (wsAll (intW 3)))
        | some old => if mayD old (wishD old (wsAll (intW 3))) = true then layP HP2 0 oA1 keyA (wishD old (wsAll (intW 3))) else (false, HP2)) = _
  rw [if_neg (by intro q; have := q.1; revert this; decide), owA1, wiA]
  show layP HP2 0 oA1 keyA dA = _
  unfold layP
  rw [if_neg (by decide)]
  rfl
theorem asP : asgP HP2 (objW 0) keyA (intW 3) 1 = (undW, 0, HP3) := by
  unfold asgP
  rw [lkP2]
  show asgE (defP HP2 (objW 0) keyA (wsAll (intW 3))) = _
  rw [dfP]
  rfl
theorem gdP2 : HP2.gd 0 := by
  refine ⟨fun ob ho => ?_, fun ob ho => ?_, fun ob ho => ?_⟩
  all_goals
    have ho : ob = oA1 ∨ ob = oB := by simpa [HP2] using ho
    rcases ho with rfl | rfl
  · exact ⟨by simp [oA1], by simp [oA1], by simp [oA1], by simp [oA1], fun q => by cases q⟩
  · exact ⟨by simp [oB], by simp [oB], by simp [oB], by simp [oB], fun q => by cases q⟩
  · exact fun _ => rfl
  · exact fun _ => rfl
  · exact Int.le_refl _
  · exact Int.le_refl _
theorem ntP3 : HP3.neat := by
  intro ob ho
  have ho : ob = oA2 ∨ ob = oB := by simpa [HP3] using ho
  rcases ho with rfl | rfl
  · exact ⟨by simp [oA2], by simp [oA2], by simp [oA2], by simp [oA2], fun q => by cases q⟩
  · exact ⟨by simp [oB], by simp [oB], by simp [oB], by simp [oB], fun q => by cases q⟩

end Go.Proofs.YtahhionlbfhinaaDoor.Hp

/- Props' alive: the walk. -/
namespace Go.Proofs.YtahhionlbfhinaaDoor.Hp
open Go.RowKit
set_option linter.unusedVariables false

set_option maxRecDepth 100000 in
set_option maxHeartbeats 2000000 in
theorem palive_any (w : World) (hF : FpAt w) : Calls Tryd.prog 6 #[] w fun e w' => e = .returned (.bool true) ∧ Below w.heap.size w w' := by
  have kn := new_any w 9
  have ki := fun w => refInt_any 3 w
  have HFP : Hid (FpAt w) := hF
  have HOW : Hid ((0 ≤ objW 0 ∧ objW 0 < 18446744073709551616) ∧ (0 ≤ objW 1 ∧ objW 1 < 18446744073709551616) ∧ (0 ≤ intW 3 ∧ intW 3 < 18446744073709551616)) := by show _ ∧ _ ∧ _; decide
  have HKZ : Hid (keyA.size ≤ maxLen) := by show keyA.size ≤ maxLen; unfold maxLen; decide
  clear hF
  go_enter Tryd.func6, Tryd.ntmps6
  go_wp2_with fail
  refine kn.mono ?_
  rintro e w1 ⟨hb, O, rfl, ⟨tg, M, h, hO⟩, hB⟩
  have HB1 : Hid (Below w.heap.size w w1 ∧ ∀ b, tg b ≠ 0 → w.heap.size ≤ b) := ⟨hB, fun b q => (h.lt b q).1⟩
  have km := make_hit h 0 nulW (by omega) (by omega) (by decide) (by decide) (by unfold mayB; simp) (by decide)
  rw [mkP1, show objW ((He.new 9).obs.length : Int) = objW 0 from rfl] at km
  unfold nulW at km
  clear kn h hO hB
  go_wp2_with fail
  refine km.mono ?_
  rintro e w2 ⟨rfl, M2, tg2, h2, c2, n2⟩
  have HB2 : Hid (Below w.heap.size w w2 ∧ ∀ b, tg2 b ≠ 0 → w.heap.size ≤ b) := ⟨c2.below HB1.out.1 HB1.out.1.size HB1.out.2, fun b q => by rcases n2 b q with c | c; exact HB1.out.2 b c; exact Nat.le_trans HB1.out.1.size c⟩
  have km2 := make_hit h2 0 (objW 0) (by omega) (by omega) HOW.out.1.1 HOW.out.1.2 (by unfold mayB; rw [oiP1]; simp) (by decide)
  rw [mkP2, show objW (HP1.obs.length : Int) = objW 1 from rfl] at km2
  clear km c2 n2 h2 HB1
  generalize hw0 : objW 0 = ow at *
  generalize hw1 : objW 1 = ow1 at *
  have HWE : Hid (objW 0 = ow ∧ objW 1 = ow1) := ⟨hw0, hw1⟩
  clear hw0 hw1
  go_wp2_with fail
  refine km2.mono ?_
  rintro e w3 ⟨rfl, M3, tg3, h3, c3, n3⟩
  have HB3 : Hid (Below w.heap.size w w3 ∧ ∀ b, tg3 b ≠ 0 → w.heap.size ≤ b) := ⟨c3.below HB2.out.1 HB2.out.1.size HB2.out.2, fun b q => by rcases n3 b q with c | c; exact HB2.out.2 b c; exact Nat.le_trans HB2.out.1.size c⟩
  have kas := assign_at h3 (HFP.out.below HB3.out.1) gdP2 (by decide) ow HOW.out.1.1 HOW.out.1.2 keyA HKZ.out (intW 3) HOW.out.2.2 1 (by rw [← HWE.out.1]; exact enP2)
  rw [show asgP HP2 ow keyA (intW 3) 1 = (undW, 0, HP3) from by rw [← HWE.out.1]; exact asP] at kas
  simp only at kas
  unfold keyA undW at kas
  generalize hiw : intW 3 = iw at *
  have HIW : Hid (intW 3 = iw) := hiw
  clear km2 c3 n3 h3 HB2 hiw
  go_wp2_with fail
  refine (ki _).mono ?_
  rintro e w3' ⟨rfl, rfl⟩
  go_wp2_with fail
  refine kas.mono ?_
  rintro e w4 ⟨rfl, M4, tg4, h4, c4, n4⟩
  have HB4 : Hid (Below w.heap.size w w4 ∧ ∀ b, tg4 b ≠ 0 → w.heap.size ≤ b) := ⟨c4.below HB3.out.1 HB3.out.1.size HB3.out.2, fun b q => by rcases n4 b q with c | c; exact HB3.out.2 b c; exact Nat.le_trans HB3.out.1.size c⟩
  have kl := lookup_at h4 ntP3 ow1 HOW.out.2.1.1 HOW.out.2.1.2 keyA HKZ.out 2 (by rw [← HWE.out.2]; exact enP3)
  rw [show lookF HP3 keyA 2 ow1 = some (ow, ⟨iw, undW, 7⟩) from by rw [← HWE.out.2, ← HWE.out.1, ← HIW.out]; exact lkP3] at kl
  simp only [Option.map_some, Option.getD_some, Option.isSome_some] at kl
  unfold keyA undW deV at kl
  simp only at kl
  clear kas c4 n4 h4 HB3
  go_wp2_with fail
  refine kl.mono ?_
  rintro e w5 ⟨rfl, hB5⟩
  have hB6 : Below w5.heap.size w5 (w5.alloc (.cells #[.int .u64 iw, .int .u64 18445336698825998336, .int .i64 7] 37)) := (Below.refl _ _).alloc (Nat.le_refl _) _
  have b0 := box_new w5 #[.int .u64 iw, .int .u64 18445336698825998336, .int .i64 7] 37 0 _ rfl
  have b2 := box_new w5 #[.int .u64 iw, .int .u64 18445336698825998336, .int .i64 7] 37 2 _ rfl
  have HB6 : Hid (Below w.heap.size w (w5.alloc (.cells #[.int .u64 iw, .int .u64 18445336698825998336, .int .i64 7] 37))) := bel_sm (bel_sm HB4.out.1 hB5) hB6
  have hww : (ow == ow) = true := by simp
  have hii : (iw == iw) = true := by simp
  clear kl hB5 hB6 HB4
  go_upto_region 8 with fail
  generalize w5.alloc (.cells #[.int .u64 iw, .int .u64 18445336698825998336, .int .i64 7] 37) = w6 at *
  go_quiet ((go_at_call 11; refine Calls.quiet_of_same (ki _)))
  go_wp2_with fail
  go_ret
  exact ⟨rfl, ⟨HB6.out.os, HB6.out.tape, HB6.out.output, HB6.out.size, HB6.out.block⟩⟩

end Go.Proofs.YtahhionlbfhinaaDoor.Hp
