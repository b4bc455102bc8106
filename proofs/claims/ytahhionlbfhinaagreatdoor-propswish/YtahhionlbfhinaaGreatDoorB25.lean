/- Props' alive. -/
import Derived.Test.YtahhionlbfhinaaGreatDoorKR
import Derived.Test.YtahhionlbfhinaaGreatDoorHK
import Derived.Deep.QuietTactic
import Derived.Test.YtahhionlbfhinaaGreatDoorLV
import Derived.Test.YtahhionlbfhinaaGreatDoorB24
namespace Go.Proofs.YtahhionlbfhinaaGreatDoor.Hp
open Go.RowKit
set_option linter.unusedVariables false

def keyA : ByteArray := { data := #[97] }
def dA : De := ⟨intW 3, undW, 7⟩
def oA0 : Ob := ⟨0, nulW, false, false, [], 0, [], [], 0, true, -1, false, []⟩
def oA1 : Ob := ⟨0, nulW, false, true, [], 0, [], [], 0, true, -1, false, []⟩
def oA2 : Ob := ⟨0, nulW, false, true, [⟨keyA, 0, dA⟩], 1, [], [], 2, true, -1, false, []⟩
def oB : Ob := ⟨0, objW 0, false, false, [], 0, [], [], 1, true, -1, false, []⟩
def HP1 : He := ⟨[], [oA0], 9, [⟨rootN 0 nulW, [], [], []⟩], [], 0⟩
def HP2 : He := ⟨[], [oA1, oB], 9, [⟨rootN 0 nulW, [], [], []⟩, ⟨rootN 0 (objW 0), [], [], []⟩], [], 0⟩
def HP3 : He := ⟨[], [oA2, oB], 9, [⟨rootN 0 nulW, [], [], []⟩, ⟨rootN 0 (objW 0), [], [], []⟩, ⟨rootN 0 nulW, [keyA], [7], [(false, keyA, 7)]⟩], [], 0⟩

theorem mkP1 : makeH (He.new 9) 0 nulW = HP1 := by
  have h1 : obI (He.new 9) nulW = none := by
    unfold obI
    rw [if_neg (by intro q; have := q.1; rw [isT_nul] at this; cases this)]
  have h2 : raiseH (He.new 9) nulW = He.new 9 := by unfold raiseH; rw [h1]
  unfold makeH
  rw [h2]
  rfl
theorem oiP1 : obI HP1 (objW 0) = some 0 := obI_of (H := HP1) (i := 0) (by decide) (by decide)
theorem mkP2 : makeH HP1 0 (objW 0) = HP2 := by
  have h2 : raiseH HP1 (objW 0) = ⟨[], [oA1], 9, [⟨rootN 0 nulW, [], [], []⟩], [], 0⟩ := by unfold raiseH; rw [oiP1]; rfl
  unfold makeH
  rw [h2]
  rfl
theorem oiP2 : obI HP2 (objW 0) = some 0 := obI_of (H := HP2) (i := 0) (by decide) (by decide)
theorem oiP3 : obI HP3 (objW 0) = some 0 ∧ obI HP3 (objW 1) = some 1 := ⟨obI_of (H := HP3) (i := 0) (by decide) (by decide), obI_of (H := HP3) (i := 1) (by decide) (by decide)⟩
theorem nuP (H : He) : obO H nulW = none := by
  unfold obO
  have h1 : obI H nulW = none := by
    unfold obI
    rw [if_neg (by intro q; have := q.1; rw [isT_nul] at this; cases this)]
  rw [h1]
  rfl
theorem ooP2 : obO HP2 (objW 0) = some oA1 := by unfold obO; rw [oiP2]; rfl
theorem ooP3 : obO HP3 (objW 0) = some oA2 ∧ obO HP3 (objW 1) = some oB := by unfold obO; rw [oiP3.1, oiP3.2]; exact ⟨rfl, rfl⟩
theorem enP2 : EndsH HP2 1 (objW 0) := Or.inr ⟨oA1, ooP2, nuP _⟩
theorem enP3 : EndsH HP3 2 (objW 1) := Or.inr ⟨oB, ooP3.2, Or.inr ⟨oA2, ooP3.1, nuP _⟩⟩
theorem owA1 : ownO oA1 keyA = none := rfl
theorem owB : ownO oB keyA = none := rfl
theorem plA2 : plc oA2.ps keyA = some 0 := plc_at (p := ⟨keyA, 0, dA⟩) rfl rfl (fun j q hj => by omega)
theorem owA2 : ownO oA2 keyA = some dA := by
  unfold ownO
  rw [if_neg (by decide)]
  unfold getO
  rw [plA2]
  rfl
theorem lkP2 : lookF HP2 keyA 1 (objW 0) = none := by rw [look_step ooP2, owA1]; rfl
theorem lkP3 : lookF HP3 keyA 2 (objW 1) = some (objW 0, dA) := by
  rw [look_step ooP3.2, owB]
  show lookF HP3 keyA 1 (objW 0) = _
  rw [look_step ooP3.1, owA2]
theorem wiA : wishD newD (wsAll (intW 3)) = dA := by
  unfold wishD turnD accB newD wsAll flR stF dA
  simp only
  have e1 : bits .and .i64 15 16 = 0 := by decide
  have e2 : bits .and .i64 15 1 = 1 := by decide
  have e3 : bits .and .i64 15 32 = 0 := by decide
  have e4 : bits .and .i64 15 2 = 2 := by decide
  have e5 : bits .and .i64 15 4 = 4 := by decide
  have e6 : bits .and .i64 15 8 = 8 := by decide
  have e7 : bits .and .i64 0 8 = 0 := by decide
  have e8 : bits .and .i64 15 48 = 0 := by decide
  have e9 : bits .or .i64 (bits .andNot .i64 (bits .or .i64 (bits .andNot .i64 (bits .or .i64 (bits .andNot .i64 0 1) (bits .and .i64 7 1)) 2) (bits .and .i64 7 2)) 4) (bits .and .i64 7 4) = 7 := by decide
  rw [e1, e2, e3, e4, e5, e6, e7]
  simp [e8, e9]
theorem dfP : defP HP2 (objW 0) keyA (wsAll (intW 3)) = (true, HP3) := by
  unfold defP
  rw [oiP2]
  show (if (bits .and .i64 15 48 != 0) = true ∧ (bits .and .i64 15 3 != 0) = true then (false, HP2) else match ownO oA1 keyA with
        | none => if oA1.shut = true then (false, HP2) else layP HP2 0 oA1 keyA (wishD newD (wsAll (intW 3)))
        | some old => if mayD old (wishD old (wsAll (intW 3))) = true then layP HP2 0 oA1 keyA (wishD old (wsAll (intW 3))) else (false, HP2)) = _
  rw [if_neg (by intro q; have := q.1; revert this; decide), owA1, wiA]
  show layP HP2 0 oA1 keyA dA = _
  unfold layP
  rw [if_neg (by decide)]
  rfl
theorem asP : asgP HP2 (objW 0) keyA (intW 3) 1 = (undW, 0, HP3) := by
  unfold asgP
  rw [lkP2]
  show asgE (defP HP2 (objW 0) keyA (wsAll (intW 3))) = _
  rw [dfP]
  rfl
theorem gdP2 : HP2.gd 0 := by
  refine ⟨fun ob ho => ?_, fun ob ho => ?_, fun ob ho => ?_⟩
  all_goals
    have ho : ob = oA1 ∨ ob = oB := by simpa [HP2] using ho
    rcases ho with rfl | rfl
  · exact ⟨by simp [oA1], by simp [oA1], by simp [oA1], by simp [oA1], fun q => by cases q⟩
  · exact ⟨by simp [oB], by simp [oB], by simp [oB], by simp [oB], fun q => by cases q⟩
  · exact fun _ => rfl
  · exact fun _ => rfl
  · exact Int.le_refl _
  · exact Int.le_refl _
theorem ntP3 : HP3.neat := by
  intro ob ho
  have ho : ob = oA2 ∨ ob = oB := by simpa [HP3] using ho
  rcases ho with rfl | rfl
  · exact ⟨by simp [oA2], by simp [oA2], by simp [oA2], by simp [oA2], fun q => by cases q⟩
  · exact ⟨by simp [oB], by simp [oB], by simp [oB], by simp [oB], fun q => by cases q⟩

end Go.Proofs.YtahhionlbfhinaaGreatDoor.Hp

/- Props' alive: the walk. -/
namespace Go.Proofs.YtahhionlbfhinaaGreatDoor.Hp
open Go.RowKit
set_option linter.unusedVariables false

set_option maxRecDepth 100000 in
set_option maxHeartbeats 2000000 in
theorem palive_any (w : World) (hF : FpAt w) : Calls Tryz.prog 9 #[] w fun e w' => e = .returned (.bool true) ∧ Below w.heap.size w w' := by
  have kn := new_any w 9
  have ki := fun w => refInt_any 3 w
  have HFP : Hid (FpAt w) := hF
  have HOW : Hid ((0 ≤ objW 0 ∧ objW 0 < 18446744073709551616) ∧ (0 ≤ objW 1 ∧ objW 1 < 18446744073709551616) ∧ (0 ≤ intW 3 ∧ intW 3 < 18446744073709551616)) := by show _ ∧ _ ∧ _; decide
  have HKZ : Hid (keyA.size ≤ maxLen) := by show keyA.size ≤ maxLen; unfold maxLen; decide
  clear hF
  go_enter Tryz.func9, Tryz.ntmps9
  go_wp2_with fail
  refine kn.mono ?_
  rintro e w1 ⟨hb, O, rfl, ⟨tg, M, h, hO⟩, hB⟩
  have HB1 : Hid (Below w.heap.size w w1 ∧ ∀ b, tg b ≠ 0 → w.heap.size ≤ b) := ⟨hB, fun b q => (h.lt b q).1⟩
  have km := make_hit h 0 nulW (by omega) (by omega) (by decide) (by decide) (by unfold mayB; simp) (by decide)
  rw [mkP1, show objW ((He.new 9).obs.length : Int) = objW 0 from rfl] at km
  unfold nulW at km
  clear kn h hO hB
  go_wp2_with fail
  refine km.mono ?_
  rintro e w2 ⟨rfl, M2, tg2, h2, c2, n2⟩
  have HB2 : Hid (Below w.heap.size w w2 ∧ ∀ b, tg2 b ≠ 0 → w.heap.size ≤ b) := ⟨c2.below HB1.out.1 HB1.out.1.size HB1.out.2, fun b q => by rcases n2 b q with c | c; exact HB1.out.2 b c; exact Nat.le_trans HB1.out.1.size c⟩
  have km2 := make_hit h2 0 (objW 0) (by omega) (by omega) HOW.out.1.1 HOW.out.1.2 (by unfold mayB; rw [oiP1]; simp) (by decide)
  rw [mkP2, show objW (HP1.obs.length : Int) = objW 1 from rfl] at km2
  clear km c2 n2 h2 HB1
  generalize hw0 : objW 0 = ow at *
  generalize hw1 : objW 1 = ow1 at *
  have HWE : Hid (objW 0 = ow ∧ objW 1 = ow1) := ⟨hw0, hw1⟩
  clear hw0 hw1
  go_wp2_with fail
  refine km2.mono ?_
  rintro e w3 ⟨rfl, M3, tg3, h3, c3, n3⟩
  have HB3 : Hid (Below w.heap.size w w3 ∧ ∀ b, tg3 b ≠ 0 → w.heap.size ≤ b) := ⟨c3.below HB2.out.1 HB2.out.1.size HB2.out.2, fun b q => by rcases n3 b q with c | c; exact HB2.out.2 b c; exact Nat.le_trans HB2.out.1.size c⟩
  have kas := assign_at h3 (HFP.out.below HB3.out.1) gdP2 (by decide) ow HOW.out.1.1 HOW.out.1.2 keyA HKZ.out (intW 3) HOW.out.2.2 1 (by rw [← HWE.out.1]; exact enP2)
  rw [show asgP HP2 ow keyA (intW 3) 1 = (undW, 0, HP3) from by rw [← HWE.out.1]; exact asP] at kas
  simp only at kas
  unfold keyA undW at kas
  generalize hiw : intW 3 = iw at *
  have HIW : Hid (intW 3 = iw) := hiw
  clear km2 c3 n3 h3 HB2 hiw
  go_wp2_with fail
  refine (ki _).mono ?_
  rintro e w3' ⟨rfl, rfl⟩
  go_wp2_with fail
  refine kas.mono ?_
  rintro e w4 ⟨rfl, M4, tg4, h4, c4, n4⟩
  have HB4 : Hid (Below w.heap.size w w4 ∧ ∀ b, tg4 b ≠ 0 → w.heap.size ≤ b) := ⟨c4.below HB3.out.1 HB3.out.1.size HB3.out.2, fun b q => by rcases n4 b q with c | c; exact HB3.out.2 b c; exact Nat.le_trans HB3.out.1.size c⟩
  have kl := lookup_at h4 ntP3 ow1 HOW.out.2.1.1 HOW.out.2.1.2 keyA HKZ.out 2 (by rw [← HWE.out.2]; exact enP3)
  rw [show lookF HP3 keyA 2 ow1 = some (ow, ⟨iw, undW, 7⟩) from by rw [← HWE.out.2, ← HWE.out.1, ← HIW.out]; exact lkP3] at kl
  simp only [Option.map_some, Option.getD_some, Option.isSome_some] at kl
  unfold keyA undW deV at kl
  simp only at kl
  clear kas c4 n4 h4 HB3
  go_wp2_with fail
  refine kl.mono ?_
  rintro e w5 ⟨rfl, hB5⟩
  have hB6 : Below w5.heap.size w5 (w5.alloc (.cells #[.int .u64 iw, .int .u64 18445336698825998336, .int .i64 7] 41)) := (Below.refl _ _).alloc (Nat.le_refl _) _
  have b0 := box_new w5 #[.int .u64 iw, .int .u64 18445336698825998336, .int .i64 7] 41 0 _ rfl
  have b2 := box_new w5 #[.int .u64 iw, .int .u64 18445336698825998336, .int .i64 7] 41 2 _ rfl
  have HB6 : Hid (Below w.heap.size w (w5.alloc (.cells #[.int .u64 iw, .int .u64 18445336698825998336, .int .i64 7] 41))) := bel_sm (bel_sm HB4.out.1 hB5) hB6
  have hww : (ow == ow) = true := by simp
  have hii : (iw == iw) = true := by simp
  clear kl hB5 hB6 HB4
  go_upto_region 8 with fail
  generalize w5.alloc (.cells #[.int .u64 iw, .int .u64 18445336698825998336, .int .i64 7] 41) = w6 at *
  go_quiet ((go_at_call 32; refine Calls.quiet_of_same (ki _)))
  go_wp2_with fail
  go_ret
  exact ⟨rfl, ⟨HB6.out.os, HB6.out.tape, HB6.out.output, HB6.out.size, HB6.out.block⟩⟩

end Go.Proofs.YtahhionlbfhinaaGreatDoor.Hp

/- PropsWish: both sides in one memory. -/
namespace Go.Proofs.YtahhionlbfhinaaGreatDoor.Hp
open Go.RowKit
set_option linter.unusedVariables false

def keyK : ByteArray := { data := #[107] }
theorem keyK_size : keyK.size ≤ maxLen := by unfold maxLen; decide

/-- the program's heap and the document's store, apart, and the store's variable -/
structure Ap (w0 w : World) (hb bs : Nat) (tgH tgS : Nat → Nat) (H : He) (M : HV) (S : List So) (vo vt : SV) (qs : List QV) : Prop where
  hp : HeapAt w w0.heap.size hb tgH H M
  st : StAt w w0.heap.size tgS S vo qs
  ap : ∀ b, tgH b ≠ 0 → tgS b = 0
  bx : BxS w bs vo vt
  b1 : tgH bs = 0
  b2 : tgS bs = 0
  b0 : w0.heap.size ≤ bs
  bel : Below w0.heap.size w0 w
def ApE (w0 w : World) (hb bs : Nat) (H : He) (S : List So) (vo vt : SV) : Prop := ∃ tgH tgS M qs, Ap w0 w hb bs tgH tgS H M S vo vt qs

section
variable {w0 w w' : World} {hb bs : Nat} {tgH tgS : Nat → Nat} {H H' : He} {M : HV} {S S' : List So} {vo vt : SV} {qs : List QV} {x : So} {ob : Ob} {m : Nat}

theorem ApE.below (h : ApE w0 w hb bs H S vo vt) (hB : Below w.heap.size w w') : ApE w0 w' hb bs H S vo vt := by
  obtain ⟨tgH, tgS, M, qs, h⟩ := h
  exact ⟨tgH, tgS, M, qs, h.hp.below hB, h.st.below hB, h.ap, h.bx.below hB, h.b1, h.b2, h.b0, h.bel.trans (hB.mono h.bel.size)⟩
theorem ApE.box (h : ApE w0 w hb bs H S vo vt) : BxS w bs vo vt ∧ Below w0.heap.size w0 w := by
  obtain ⟨tgH, tgS, M, qs, h⟩ := h
  exact ⟨h.bx, h.bel⟩
theorem Ap.heap (h : Ap w0 w hb bs tgH tgS H M S vo vt qs) (hw : ∃ M', WentM w w0.heap.size hb tgH H' M' w') : ApE w0 w' hb bs H' S vo vt := by
  obtain ⟨M', tg', k1, k2, k3⟩ := hw
  have hbl := h.bx.lt
  refine ⟨tg', tgS, M', qs, k1, h.st.kept k2 (fun b q r => q (h.ap b r)), fun b q => ?_, h.bx.kept k2 (fun r => r h.b1), ?_, h.b2, h.b0, k2.below h.bel h.bel.size (fun b q => (h.hp.lt b q).1)⟩
  · rcases k3 b q with c | c
    · exact h.ap b c
    · rcases Nat.eq_zero_or_pos (tgS b) with e | e
      · exact e
      · have := (h.st.lt b (by omega)).2
        omega
  · rcases Nat.eq_zero_or_pos (tg' bs) with e | e
    · exact e
    · rcases k3 bs (by omega) with c | c
      · exact absurd h.b1 c
      · omega
theorem Ap.store (h : Ap w0 w hb bs tgH tgS H M S vo vt qs) (hw : SWent w w0.heap.size tgS S' vo w') : ApE w0 w' hb bs H S' vo vt := by
  obtain ⟨tg', qs', k1, k2, k3⟩ := hw
  have hbl := h.bx.lt
  refine ⟨tgH, tg', M, qs', h.hp.kept k2 (fun b q r => r (h.ap b q)), k1, fun b q => ?_, h.bx.kept k2 (fun r => r h.b2), h.b1, ?_, h.b0, k2.below h.bel h.bel.size (fun b q => (h.st.lt b q).1)⟩
  · rcases Nat.eq_zero_or_pos (tg' b) with e | e
    · exact e
    · rcases k3 b (by omega) with c | c
      · exact absurd (h.ap b q) c
      · have := (h.hp.lt b q).2
        omega
  · rcases Nat.eq_zero_or_pos (tg' bs) with e | e
    · exact e
    · rcases k3 bs (by omega) with c | c
      · exact absurd h.b2 c
      · omega
theorem ApE.one (h : ApE w0 w hb bs H S vo vt) (j : Nat) (v : Value) (hx : BxS (w.setCell ⟨bs, j, none⟩ v) bs vo vt) : ApE w0 (w.setCell ⟨bs, j, none⟩ v) hb bs H S vo vt := by
  obtain ⟨tgH, tgS, M, qs, h⟩ := h
  have hc : Chg (fun b => b = bs) w (w.setCell ⟨bs, j, none⟩ v) := Chg.set (S := fun b => b = bs) w ⟨bs, j, none⟩ v rfl
  exact ⟨tgH, tgS, M, qs, h.hp.kept hc (fun b q r => q (by rw [r]; exact h.b1)), h.st.kept hc (fun b q r => q (by rw [r]; exact h.b2)), h.ap, hx, h.b1, h.b2, h.b0, h.bel.setCell h.b0 _⟩
theorem ApE.set (h : ApE w0 w hb bs H S vo vt) : ApE w0 ((w.setCell ⟨bs, 0, none⟩ vo.val).setCell ⟨bs, 1, none⟩ vt.val) hb bs H S vo vt := by
  have z0 := heap_setCell_same _ bs 0 _ _ vo.val h.box.1
  have z1 := heap_setCell_same _ bs 1 _ _ vt.val z0
  exact (h.one 0 vo.val z0).one 1 vt.val z1
theorem ApE.start (hp : HeapAt w w0.heap.size hb tgH H M) (hB : Below w0.heap.size w0 w) (hs : SWent w w0.heap.size (fun _ => 0) S vo w') (vt : SV) : ApE w0 (((w'.alloc (.cells #[SV.nil.val, SV.nil.val] 28)).setCell ⟨w'.heap.size, 0, none⟩ vo.val).setCell ⟨w'.heap.size, 1, none⟩ vt.val) hb w'.heap.size H S vo vt := by
  obtain ⟨tg', qs', k1, k2, k3⟩ := hs
  have hal : Below w'.heap.size w' (((w'.alloc (.cells #[SV.nil.val, SV.nil.val] 28)).setCell ⟨w'.heap.size, 0, none⟩ vo.val).setCell ⟨w'.heap.size, 1, none⟩ vt.val) := (((Below.refl _ _).alloc (Nat.le_refl _) _).setCell (Nat.le_refl _) _).setCell (Nat.le_refl _) _
  have z0 := heap_setCell_same _ w'.heap.size 0 _ _ vo.val (BxS.new w' .nil .nil)
  have z1 := heap_setCell_same _ w'.heap.size 1 _ _ vt.val z0
  have hp' : HeapAt w' w0.heap.size hb tgH H M := hp.kept k2 (fun b _ r => r rfl)
  have hb' : Below w0.heap.size w0 w' := k2.below hB hB.size (fun b q => absurd rfl q)
  refine ⟨tgH, tg', M, qs', hp'.below hal, k1.below hal, fun b q => ?_, z1, ?_, ?_, hb'.size, hb'.trans (hal.mono hb'.size)⟩
  · rcases Nat.eq_zero_or_pos (tg' b) with e | e
    · exact e
    · rcases k3 b (by omega) with c | c
      · exact absurd rfl c
      · have := (hp.lt b q).2
        omega
  · rcases Nat.eq_zero_or_pos (tgH w'.heap.size) with e | e
    · exact e
    · have := (hp'.lt _ (by omega : tgH w'.heap.size ≠ 0)).2
      omega
  · rcases Nat.eq_zero_or_pos (tg' w'.heap.size) with e | e
    · exact e
    · have := (k1.lt _ (by omega : tg' w'.heap.size ≠ 0)).2
      omega

theorem ApE.start0 (hp : HeapAt w w0.heap.size hb tgH H M) (hB : Below w0.heap.size w0 w) (hs : SWent w w0.heap.size (fun _ => 0) S vo w') (vt : SV) : ApE w0 (w'.alloc (.cells #[vo.val, vt.val] 28)) hb w'.heap.size H S vo vt := by
  obtain ⟨tg', qs', k1, k2, k3⟩ := hs
  have hal : Below w'.heap.size w' (w'.alloc (.cells #[vo.val, vt.val] 28)) := (Below.refl _ _).alloc (Nat.le_refl _) _
  have z1 := BxS.new w' vo vt
  have hp' : HeapAt w' w0.heap.size hb tgH H M := hp.kept k2 (fun b _ r => r rfl)
  have hb' : Below w0.heap.size w0 w' := k2.below hB hB.size (fun b q => absurd rfl q)
  refine ⟨tgH, tg', M, qs', hp'.below hal, k1.below hal, fun b q => ?_, z1, ?_, ?_, hb'.size, hb'.trans (hal.mono hb'.size)⟩
  · rcases Nat.eq_zero_or_pos (tg' b) with e | e
    · exact e
    · rcases k3 b (by omega) with c | c
      · exact absurd rfl c
      · have := (hp.lt b q).2
        omega
  · rcases Nat.eq_zero_or_pos (tgH w'.heap.size) with e | e
    · exact e
    · have := (hp'.lt _ (by omega : tgH w'.heap.size ≠ 0)).2
      omega
  · rcases Nat.eq_zero_or_pos (tg' w'.heap.size) with e | e
    · exact e
    · have := (k1.lt _ (by omega : tg' w'.heap.size ≠ 0)).2
      omega

/-! ## The calls -/
theorem put_e (h : ApE w0 w hb bs H S vo vt) (hs : Sam H x keyK ob m) (hm : m ≤ 100) (d : De) :
    Calls Tryz.prog 14 #[.pointer (some ⟨hb, 0, none⟩), .int .u64 (objW 0), .string keyK, deV d] w fun e w' => e = .returned (.tuple #[]) ∧ ApE w0 w' hb bs (putH H 0 ob keyK d) S vo vt := by
  obtain ⟨tgH, tgS, M, qs, h⟩ := h
  have hnx := hs.nx
  refine (put_any h.hp (objW 0) (by decide) (by decide) hs.at hs.here hs.neat (fun _ => hs.hm) keyK keyK_size d (by omega)).mono ?_
  rintro e w' ⟨rfl, M', _, hw⟩
  exact ⟨rfl, h.heap ⟨M', hw⟩⟩
theorem rput_e (h : ApE w0 w hb bs H [x] vo vt) (hl : x.nm.length ≤ 1) (d : De) :
    Calls Tryz.prog 15 #[stV vo vt, .int .u64 (objW 0), .string keyK, deV d] w fun e w' => e = .returned (stV vo vt) ∧ ApE w0 w' hb bs H [putS x keyK d] vo vt := by
  obtain ⟨tgH, tgS, M, qs, h⟩ := h
  refine (rput_any h.st vt (i := 0) rfl keyK (by omega) d).mono ?_
  rintro e w' ⟨rfl, hw⟩
  exact ⟨rfl, h.store hw⟩
theorem def_e (h : ApE w0 w hb bs H S vo vt) (hF : FpAt w) (hs : Sam H x keyK ob m) (hm : m ≤ 100) (u : Ws) (hu : u.ok) :
    Calls Tryz.prog 16 #[.pointer (some ⟨hb, 0, none⟩), .int .u64 (objW 0), .string keyK, wsV u] w fun e w' => e = .returned (.bool (rdefS x keyK u).1) ∧ ApE w0 w' hb bs (defP H (objW 0) keyK u).2 S vo vt := by
  obtain ⟨tgH, tgS, M, qs, h⟩ := h
  refine (define_at h.hp hF hs.gd (by omega) (objW 0) (by decide) (by decide) keyK keyK_size u hu).mono ?_
  rintro e w' ⟨rfl, hw⟩
  exact ⟨by rw [(hs.def u).1], h.heap hw⟩
theorem rdef_e (h : ApE w0 w hb bs H [x] vo vt) (hk : x.kind = 0) (hl : x.nm.length ≤ 1) (u : Ws) :
    Calls Tryz.prog 17 #[stV vo vt, .int .u64 (objW 0), .string keyK, wsV u] w fun e w' => e = .returned (.tuple #[stV vo vt, .bool (rdefS x keyK u).1]) ∧ ApE w0 w' hb bs H [(rdefS x keyK u).2] vo vt := by
  obtain ⟨tgH, tgS, M, qs, h⟩ := h
  refine (rdefine_plain h.st vt (i := 0) rfl (by rw [hk]; decide) keyK (by omega) u).mono ?_
  rintro e w' ⟨rfl, hw⟩
  exact ⟨rfl, h.store hw⟩
theorem own_e (h : ApE w0 w hb bs H S vo vt) (hs : Sam H x keyK ob m) :
    Calls Tryz.prog 18 #[.pointer (some ⟨hb, 0, none⟩), .int .u64 (objW 0), .string keyK] w fun e w' => e = .returned (.tuple #[deV ((getS x keyK).getD zDe), .bool (getS x keyK).isSome]) ∧ Below w.heap.size w w' := by
  obtain ⟨tgH, tgS, M, qs, h⟩ := h
  have k := own_at h.hp hs.gd.neat (objW 0) (by decide) (by decide) keyK keyK_size
  rw [hs.ownH] at k
  exact k
theorem rown_e (h : ApE w0 w hb bs H [x] vo vt) (hk : x.kind = 0) :
    Calls Tryz.prog 19 #[stV vo vt, .int .u64 (objW 0), .string keyK] w fun e w' => e = .returned (.tuple #[deV ((getS x keyK).getD zDe), .bool (getS x keyK).isSome]) ∧ Below w.heap.size w w' := by
  obtain ⟨tgH, tgS, M, qs, h⟩ := h
  exact rown_plain h.st vt (i := 0) rfl (by rw [hk]; decide) keyK
theorem Sam.len (h : Sam H x keyK ob m) : x.nm.length ≤ 1 := by
  rcases h.ps with ⟨_, e, _⟩ | ⟨p, _, _, e, _⟩
  · rw [e]; decide
  · rw [e]; simp
end

theorem sam0 : Sam HP1 (newS 0 18445336698825998337) keyK oA0 0 := ⟨rfl, rfl, rfl, rfl, ⟨by decide, by decide⟩, rfl, rfl, Or.inl ⟨rfl, rfl, rfl⟩⟩

end Go.Proofs.YtahhionlbfhinaaGreatDoor.Hp
