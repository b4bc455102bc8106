/- The walk of WordApart. -/
import Derived.Test.YtajgoooejobngaaV3
namespace Go.Proofs.Ytajgoooejobngaa
open Go.RowKit
set_option linter.unusedVariables false

def one (b : Bool) : Int := if b then 1 else 0

/-- how many of the first are so -/
def pre (b0 b1 b2 b3 : Bool) (k : Nat) : Int :=
  (if 0 < k then one b0 else 0) + (if 1 < k then one b1 else 0) + (if 2 < k then one b2 else 0) + (if 3 < k then one b3 else 0)

set_option maxHeartbeats 2000000 in
theorem apart_core (a n o x B : Int) (i1 b0 bo b2 r ge le : Bool) (w : World) (hge : decide (18445336698825998336 ≤ a) = ge) (hle : decide (a ≤ 18445336698825998340) = le)
    (hm : Hid ((pre b0 bo b2 (ge && le) 4 = 1 ∧ r = true) ∨ (pre b0 bo b2 (ge && le) 4 = 0 ∧ r = false)))
    (hi : Hid (i1 = true → b0 = true))
    (ci : ∀ w : World, Calls Try.prog 14 #[.int .u64 a] w fun e w' => e = .returned (.tuple #[.int .i32 n, .bool i1]) ∧ w' = w)
    (co : ∀ w : World, Calls Try.prog 16 #[.int .u64 a] w fun e w' => e = .returned (.tuple #[.int .u32 o, .bool bo]) ∧ w' = w)
    (ct : ∀ w : World, Calls Try.prog 17 #[.int .u64 a] w fun e w' => e = .returned (.tuple #[.int .u32 x, .bool b2]) ∧ w' = w)
    (cb : ∀ w : World, Calls Try.prog 10 #[.int .u64 a] w fun e w' => e = .returned (.tuple #[.int .u64 B, .bool b0]) ∧ Below w.heap.size w w')
    (cn : Hid (i1 = true → ∀ w : World, Calls Try.prog 9 #[.int .u64 B] w fun e w' => e = .returned (.int .u64 a) ∧ Below w.heap.size w w'))
    (cr : ∀ w : World, Calls Try.prog 18 #[.int .u64 a] w fun e w' => e = .returned (.bool r) ∧ Below w.heap.size w w') :
    Calls Try.prog 7 #[.int .u64 a] w fun e w' => e = .returned (.bool true) ∧ Below w.heap.size w w' := by
  have al := alive_any
  go_enter Try.func7, Try.ntmps7
  go_wp2_with fail
  refine (ci _).mono ?_
  rintro e wx ⟨rfl, hw⟩
  subst hw
  go_wp2_with fail
  refine (co _).mono ?_
  rintro e wx ⟨rfl, hw⟩
  subst hw
  go_wp2_with fail
  refine (ct _).mono ?_
  rintro e wx ⟨rfl, hw⟩
  subst hw
  go_wp2_with fail
  refine (cb _).mono ?_
  rintro e w1 ⟨rfl, hb1⟩
  go_upto_region 5 with fail
  go_cut [11] (fun s wx => s = .bool (ge && le) ∧ wx = w1)
  case first =>
    cases ge
    · have : ¬ 18445336698825998336 ≤ a := of_decide_eq_false hge
      go_wp2_with fail
      go_meet
      case rel => exact ⟨rfl, rfl⟩
    · have : 18445336698825998336 ≤ a := of_decide_eq_true hge
      cases le
      · have : ¬ a ≤ 18445336698825998340 := of_decide_eq_false hle
        go_wp2_with fail
        go_meet
        case rel => exact ⟨rfl, rfl⟩
      · have : a ≤ 18445336698825998340 := of_decide_eq_true hle
        go_wp2_with fail
        go_meet
        case rel => exact ⟨rfl, rfl⟩
  case rest =>
    obtain ⟨rfl, rfl⟩ := hcut
    generalize hsm : (ge && le) = b3 at *
    go_wp2_with fail
    go_loop [12, 47] (fun m i => ∃ k : Nat, k ≤ 4 ∧ i = .int .i64 k ∧ m = .int .i64 (pre b0 bo b2 b3 k)) (fun _ i => 4 - (intOf i).toNat)
    case atStart => exact ⟨0, by omega, rfl, rfl⟩
    case round =>
      obtain ⟨k, hk, rfl, rfl⟩ := hrel
      have hk' : k = 0 ∨ k = 1 ∨ k = 2 ∨ k = 3 ∨ k = 4 := by omega
      rcases hk' with rfl | rfl | rfl | rfl | rfl
      · cases b0
        · go_wp2
          refine ⟨⟨1, by omega, rfl, ?_⟩, ?_⟩
          · (try cases b0) <;> (try cases bo) <;> (try cases b2) <;> (try cases b3) <;> exact congrArg (Value.int .i64) (by decide +kernel)
          · simp [intOf]
        · go_wp2
          refine ⟨⟨1, by omega, rfl, ?_⟩, ?_⟩
          · (try cases b0) <;> (try cases bo) <;> (try cases b2) <;> (try cases b3) <;> exact congrArg (Value.int .i64) (by decide +kernel)
          · simp [intOf]
      · cases bo
        · go_wp2
          refine ⟨⟨2, by omega, rfl, ?_⟩, ?_⟩
          · (try cases b0) <;> (try cases bo) <;> (try cases b2) <;> (try cases b3) <;> exact congrArg (Value.int .i64) (by decide +kernel)
          · simp [intOf]
        · go_wp2
          refine ⟨⟨2, by omega, rfl, ?_⟩, ?_⟩
          · (try cases b0) <;> (try cases bo) <;> (try cases b2) <;> (try cases b3) <;> exact congrArg (Value.int .i64) (by decide +kernel)
          · simp [intOf]
      · cases b2
        · go_wp2
          refine ⟨⟨3, by omega, rfl, ?_⟩, ?_⟩
          · (try cases b0) <;> (try cases bo) <;> (try cases b2) <;> (try cases b3) <;> exact congrArg (Value.int .i64) (by decide +kernel)
          · simp [intOf]
        · go_wp2
          refine ⟨⟨3, by omega, rfl, ?_⟩, ?_⟩
          · (try cases b0) <;> (try cases bo) <;> (try cases b2) <;> (try cases b3) <;> exact congrArg (Value.int .i64) (by decide +kernel)
          · simp [intOf]
      · cases b3
        · go_wp2
          refine ⟨⟨4, by omega, rfl, ?_⟩, ?_⟩
          · (try cases b0) <;> (try cases bo) <;> (try cases b2) <;> (try cases b3) <;> exact congrArg (Value.int .i64) (by decide +kernel)
          · simp [intOf]
        · go_wp2
          refine ⟨⟨4, by omega, rfl, ?_⟩, ?_⟩
          · (try cases b0) <;> (try cases bo) <;> (try cases b2) <;> (try cases b3) <;> exact congrArg (Value.int .i64) (by decide +kernel)
          · simp [intOf]
      · generalize hP : pre b0 bo b2 b3 4 = P at *
        have hm' : (P = 1 ∧ r = true) ∨ (P = 0 ∧ r = false) := hm.out
        clear hm hsm hge hle
        cases i1
        · rcases hm' with ⟨p1, r1⟩ | ⟨p1, r1⟩
          · subst p1 r1
            go_wp2_with fail
            refine (al _).mono ?_
            rintro e w2 ⟨rfl, hb2⟩
            go_wp2_with fail
            refine (cr _).mono ?_
            rintro e w3 ⟨rfl, hb3⟩
            go_wp2
            go_ret
            exact ⟨rfl, bt (bt (bt hb1 (b1 _)) hb2) hb3⟩
          · subst p1 r1
            go_wp2_with fail
            refine (al _).mono ?_
            rintro e w2 ⟨rfl, hb2⟩
            go_wp2_with fail
            refine (cr _).mono ?_
            rintro e w3 ⟨rfl, hb3⟩
            go_wp2
            go_ret
            exact ⟨rfl, bt (bt (bt hb1 (b1 _)) hb2) hb3⟩
        · have h0 := hi.out rfl
          have cn' := cn.out rfl
          subst h0
          rcases hm' with ⟨p1, r1⟩ | ⟨p1, r1⟩
          · subst p1 r1
            go_wp2_with fail
            refine (cn' _).mono ?_
            rintro e w4 ⟨rfl, hb4⟩
            go_wp2_with fail
            refine (al _).mono ?_
            rintro e w2 ⟨rfl, hb2⟩
            go_wp2_with fail
            refine (cr _).mono ?_
            rintro e w3 ⟨rfl, hb3⟩
            go_wp2
            go_ret
            exact ⟨rfl, bt (bt (bt (bt hb1 (b1 _)) hb4) hb2) hb3⟩
          · subst p1 r1
            go_wp2_with fail
            refine (cn' _).mono ?_
            rintro e w4 ⟨rfl, hb4⟩
            go_wp2_with fail
            refine (al _).mono ?_
            rintro e w2 ⟨rfl, hb2⟩
            go_wp2_with fail
            refine (cr _).mono ?_
            rintro e w3 ⟨rfl, hb3⟩
            go_wp2
            go_ret
            exact ⟨rfl, bt (bt (bt (bt hb1 (b1 _)) hb4) hb2) hb3⟩

theorem pre_many (a : Int) : pre (bitsI a).2 (isT a 65530) (isT a 65532) (decide (18445336698825998336 ≤ a) && decide (a ≤ 18445336698825998340)) 4 = manyI a := by
  unfold pre manyI one
  by_cases c : 18445336698825998336 ≤ a ∧ a ≤ 18445336698825998340
  · rw [if_pos c]; simp [c.1, c.2]
  · have e : (decide (18445336698825998336 ≤ a) && decide (a ≤ 18445336698825998340)) = false := by
      rw [Bool.and_eq_false_iff, decide_eq_false_iff_not, decide_eq_false_iff_not]; omega
    rw [if_neg c, e]; simp

theorem apart_walk (a : Int) (h0 : 0 ≤ a) (h1 : a < 18446744073709551616) (w : World) :
    Calls Try.prog 7 #[.int .u64 a] w fun e w' => e = .returned (.bool true) ∧ Below w.heap.size w w' := by
  have hm := many_right a h0 h1
  rw [← pre_many a] at hm
  refine apart_core a (isIntI a).1 (isObjI a).1 (isTxtI a).1 (bitsI a).1 (isIntI a).2 (bitsI a).2 (isT a 65530) (isT a 65532) (rightI a) _ _ w rfl rfl hm (fun h => (int_number a h0 h1 h).1)
    (fun w => isInt_any a w h0 h1) (fun w => isObject_any a w h0 h1) (fun w => isText_any a w h0 h1) (fun w => bits_any a w h0 h1) (fun h w => ?_) (fun w => right_any a w h0 h1)
  obtain ⟨x0, x1⟩ : 0 ≤ (bitsI a).1 ∧ (bitsI a).1 < 18446744073709551616 := by
    have b : bitsI a = (fromI (lowI a), true) := by unfold bitsI; rw [show isT a 65529 = true from h, if_pos rfl]
    obtain ⟨l0, l1⟩ := lowI_bd a
    rw [b]
    exact from_bd _ (by omega) (by omega)
  have := number_any (bitsI a).1 w x0 x1
  rw [(int_number a h0 h1 h).2] at this
  exact this
end Go.Proofs.Ytajgoooejobngaa
