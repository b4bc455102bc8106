/- The walks of the document's Near, case by case. -/
import Derived.Test.YtnocnodiecihnaaW20
import Derived.Test.YtnocnodiecihnaaW21
namespace Go.Proofs.Ytnocnodiecihnaa
open Go.RowKit

set_option maxHeartbeats 1000000 in
theorem refnear_b_zero (man exp X B L C : Int) (w : World) (_m0 : man = 0)
    (HX : Hid (Brought 5000 exp X)) (_x0 : -5000 ≤ X) (_x1 : X ≤ 5000)
    (cb : ∀ w : World, Calls Try.prog 54 #[.int .u64 man] w fun e w' => e = .returned (.int .i64 B) ∧ w' = w) (_b0 : 0 ≤ B) (_b1 : B ≤ 64)
    (HL : Hid ((X + B - 53 ≤ -1074 ∧ L = -1074) ∨ (-1074 ≤ X + B - 53 ∧ L = X + B - 53))) (_l0 : -1074 ≤ L) (_l1 : L ≤ 6000)
    (hC : L - X = C)  :
    Calls Try.prog 36 #[.int .u64 man, .int .i64 exp, .bool false] w fun e w' => e = .returned (.int .u64 0) ∧ w' = w := by
  subst _m0
  go_enter Try.func36, Try.ntmps36
  go_upto_region 1 with fail
  go_cut [1] from 12 to 15 (fun e wx => e = .int .i64 X ∧ wx = w)
  case first =>
    go_wp2_with fail
    all_goals (go_meet; exact ⟨congrArg (Value.int .i64) (by have h := HX.out; unfold Brought at h; omega), rfl⟩)
  case rest =>
  obtain ⟨rfl, rfl⟩ := hcut
  go_upto_region 6 with fail
  go_cut [7] from 25 to 31 (fun e wx => e = .int .i64 L ∧ wx = wc)
  case first =>
    go_wp2_with fail
    refine (cb _).mono ?_
    rintro e w1 ⟨rfl, hw⟩
    subst hw
    go_wp2_with fail
    all_goals (go_meet; exact ⟨congrArg (Value.int .i64) (by have h := HL.out; omega), rfl⟩)
  case rest =>
  obtain ⟨rfl, rfl⟩ := hcut
  go_wp2
  go_ret
  exact ⟨rfl, rfl⟩

set_option maxHeartbeats 1000000 in
theorem refnear_a1_far (man exp X B L C : Int) (w : World) (_m0 : 0 ≤ man) (_m1 : man < 9223372036854775808)
    (HX : Hid (Brought 5000 exp X)) (_x0 : -5000 ≤ X) (_x1 : X ≤ 5000)
    (cb : ∀ w : World, Calls Try.prog 54 #[.int .u64 (2 * man + 1)] w fun e w' => e = .returned (.int .i64 B) ∧ w' = w) (_b0 : 0 ≤ B) (_b1 : B ≤ 64)
    (HL : Hid (((X - 1) + B - 53 ≤ -1074 ∧ L = -1074) ∨ (-1074 ≤ (X - 1) + B - 53 ∧ L = (X - 1) + B - 53))) (_l0 : -1074 ≤ L) (_l1 : L ≤ 6000)
    (hC : L - (X - 1) = C) (_c : 64 < C) :
    Calls Try.prog 36 #[.int .u64 man, .int .i64 exp, .bool true] w fun e w' => e = .returned (.int .u64 0) ∧ w' = w := by
  have b0 : ((2 * man + 1) == 0) = false := by rw [beq_eq_false_iff_ne]; omega
  go_enter Try.func36, Try.ntmps36
  go_upto_region 1 with fail
  go_cut [1] from 12 to 15 (fun e wx => e = .int .i64 X ∧ wx = w)
  case first =>
    go_wp2_with fail
    all_goals (go_meet; exact ⟨congrArg (Value.int .i64) (by have h := HX.out; unfold Brought at h; omega), rfl⟩)
  case rest =>
  obtain ⟨rfl, rfl⟩ := hcut
  go_upto_region 6 with fail
  go_cut [7] from 25 to 31 (fun e wx => e = .int .i64 L ∧ wx = wc)
  case first =>
    go_wp2_with fail
    refine (cb _).mono ?_
    rintro e w1 ⟨rfl, hw⟩
    subst hw
    go_wp2_with fail
    all_goals (go_meet; exact ⟨congrArg (Value.int .i64) (by have h := HL.out; omega), rfl⟩)
  case rest =>
  obtain ⟨rfl, rfl⟩ := hcut
  go_wp2
  go_ret
  exact ⟨rfl, rfl⟩

set_option maxHeartbeats 1000000 in
theorem refnear_a1_low (man exp X B L C R : Int) (w : World) (_m0 : 0 ≤ man) (_m1 : man < 9223372036854775808)
    (HX : Hid (Brought 5000 exp X)) (_x0 : -5000 ≤ X) (_x1 : X ≤ 5000)
    (cb : ∀ w : World, Calls Try.prog 54 #[.int .u64 (2 * man + 1)] w fun e w' => e = .returned (.int .i64 B) ∧ w' = w) (_b0 : 0 ≤ B) (_b1 : B ≤ 64)
    (HL : Hid (((X - 1) + B - 53 ≤ -1074 ∧ L = -1074) ∨ (-1074 ≤ (X - 1) + B - 53 ∧ L = (X - 1) + B - 53))) (_l0 : -1074 ≤ L) (_l1 : L ≤ 6000)
    (hC : L - (X - 1) = C) (_c : C ≤ 0)
    (ld : ∀ w : World, Calls Try.prog 55 #[.float .f64 (floatOfInt .f64 (2 * man + 1)), .int .i64 (X - 1)] w fun e w' => e = .returned (.float .f64 R.toNat) ∧ w' = w)
    (co : ∀ w : World, Calls Try.prog 12 #[.float .f64 R.toNat] w fun e w' => e = .returned (.int .u64 R) ∧ w' = w) :
    Calls Try.prog 36 #[.int .u64 man, .int .i64 exp, .bool true] w fun e w' => e = .returned (.int .u64 R) ∧ w' = w := by
  have b0 : ((2 * man + 1) == 0) = false := by rw [beq_eq_false_iff_ne]; omega
  go_enter Try.func36, Try.ntmps36
  go_upto_region 1 with fail
  go_cut [1] from 12 to 15 (fun e wx => e = .int .i64 X ∧ wx = w)
  case first =>
    go_wp2_with fail
    all_goals (go_meet; exact ⟨congrArg (Value.int .i64) (by have h := HX.out; unfold Brought at h; omega), rfl⟩)
  case rest =>
  obtain ⟨rfl, rfl⟩ := hcut
  go_upto_region 6 with fail
  go_cut [7] from 25 to 31 (fun e wx => e = .int .i64 L ∧ wx = wc)
  case first =>
    go_wp2_with fail
    refine (cb _).mono ?_
    rintro e w1 ⟨rfl, hw⟩
    subst hw
    go_wp2_with fail
    all_goals (go_meet; exact ⟨congrArg (Value.int .i64) (by have h := HL.out; omega), rfl⟩)
  case rest =>
  obtain ⟨rfl, rfl⟩ := hcut
  go_wp2_with fail
  refine (ld _).mono ?_
  rintro e w1 ⟨rfl, hw⟩
  subst hw
  go_wp2_with fail
  refine (co _).mono ?_
  rintro e w1 ⟨rfl, hw⟩
  subst hw
  go_wp2
  go_ret
  exact ⟨rfl, rfl⟩

set_option maxHeartbeats 1000000 in
theorem refnear_a1_mid (man exp X B L C R : Int) (F : Int → Nat) (G : Int → Int) (w : World) (_m0 : 0 ≤ man) (_m1 : man < 9223372036854775808)
    (HX : Hid (Brought 5000 exp X)) (_x0 : -5000 ≤ X) (_x1 : X ≤ 5000)
    (cb : ∀ w : World, Calls Try.prog 54 #[.int .u64 (2 * man + 1)] w fun e w' => e = .returned (.int .i64 B) ∧ w' = w) (_b0 : 0 ≤ B) (_b1 : B ≤ 64)
    (HL : Hid (((X - 1) + B - 53 ≤ -1074 ∧ L = -1074) ∨ (-1074 ≤ (X - 1) + B - 53 ∧ L = (X - 1) + B - 53))) (_l0 : -1074 ≤ L) (_l1 : L ≤ 6000)
    (hC : L - (X - 1) = C) (_c0 : 0 < C) (_c1 : C < 64) (K T S : Int)
    (hK : (2 * man + 1) / 2 ^ C.toNat = K) (hT : IntKind.u64.wrap (K * 2 ^ C.toNat) = T) (_k0 : 0 ≤ K) (_k1 : K ≤ 9007199254740991) (hS : (2 * man + 1) - T = S) (_s0 : 0 ≤ S) (_s1 : S < 18446744073709551616) (D : Int) (hD : IntKind.u64.wrap (2 ^ (C.toNat - 1)) = D)
    (ld : ∀ (n : Int) (w : World), 0 ≤ n → n ≤ 9007199254740992 → Calls Try.prog 55 #[.float .f64 (floatOfInt .f64 n), .int .i64 L] w fun e w' => e = .returned (.float .f64 (F n)) ∧ w' = w)
    (co : ∀ (n : Int) (w : World), 0 ≤ n → n ≤ 9007199254740992 → Calls Try.prog 12 #[.float .f64 (F n)] w fun e w' => e = .returned (.int .u64 (G n)) ∧ w' = w)
    (HU : Hid (D < S ∨ (S = D ∧ K % 2 = 1) → G (K + 1) = R)) (HD : Hid (¬ (D < S ∨ (S = D ∧ K % 2 = 1)) → G K = R)) :
    Calls Try.prog 36 #[.int .u64 man, .int .i64 exp, .bool true] w fun e w' => e = .returned (.int .u64 R) ∧ w' = w := by
  have b0 : ((2 * man + 1) == 0) = false := by rw [beq_eq_false_iff_ne]; omega
  go_enter Try.func36, Try.ntmps36
  go_upto_region 1 with fail
  go_cut [1] from 12 to 15 (fun e wx => e = .int .i64 X ∧ wx = w)
  case first =>
    go_wp2_with fail
    all_goals (go_meet; exact ⟨congrArg (Value.int .i64) (by have h := HX.out; unfold Brought at h; omega), rfl⟩)
  case rest =>
  obtain ⟨rfl, rfl⟩ := hcut
  go_upto_region 6 with fail
  go_cut [7] from 25 to 31 (fun e wx => e = .int .i64 L ∧ wx = wc)
  case first =>
    go_wp2_with fail
    refine (cb _).mono ?_
    rintro e w1 ⟨rfl, hw⟩
    subst hw
    go_wp2_with fail
    all_goals (go_meet; exact ⟨congrArg (Value.int .i64) (by have h := HL.out; omega), rfl⟩)
  case rest =>
  obtain ⟨rfl, rfl⟩ := hcut
  go_wp2_with fail
  all_goals
    refine (ld _ _ (by omega) (by omega)).mono ?_
    rintro e w1 ⟨rfl, hw⟩
    subst hw
    go_wp2_with fail
    refine (co _ _ (by omega) (by omega)).mono ?_
    rintro e w1 ⟨rfl, hw⟩
    subst hw
    go_wp2
    go_ret
    rename_i hq
    exact ⟨ret_int (by first | exact HU.out (by omega) | exact HD.out (by omega) | exact HU.out (Or.inr ⟨by omega, eq_of_beq hq⟩) | exact HD.out (by have q := beq_eq_false_iff_ne.1 hq; omega)), rfl⟩

set_option maxHeartbeats 1000000 in
theorem refnear_a1_top (man exp X B L C R : Int) (F : Int → Nat) (G : Int → Int) (w : World) (_m0 : 0 ≤ man) (_m1 : man < 9223372036854775808)
    (HX : Hid (Brought 5000 exp X)) (_x0 : -5000 ≤ X) (_x1 : X ≤ 5000)
    (cb : ∀ w : World, Calls Try.prog 54 #[.int .u64 (2 * man + 1)] w fun e w' => e = .returned (.int .i64 B) ∧ w' = w) (_b0 : 0 ≤ B) (_b1 : B ≤ 64)
    (HL : Hid (((X - 1) + B - 53 ≤ -1074 ∧ L = -1074) ∨ (-1074 ≤ (X - 1) + B - 53 ∧ L = (X - 1) + B - 53))) (_l0 : -1074 ≤ L) (_l1 : L ≤ 6000)
    (hC : L - (X - 1) = C) (_c0 : C = 64)
    (ld : ∀ (n : Int) (w : World), 0 ≤ n → n ≤ 9007199254740992 → Calls Try.prog 55 #[.float .f64 (floatOfInt .f64 n), .int .i64 L] w fun e w' => e = .returned (.float .f64 (F n)) ∧ w' = w)
    (co : ∀ (n : Int) (w : World), 0 ≤ n → n ≤ 9007199254740992 → Calls Try.prog 12 #[.float .f64 (F n)] w fun e w' => e = .returned (.int .u64 (G n)) ∧ w' = w)
    (HU : Hid (9223372036854775808 < (2 * man + 1) ∨ ((2 * man + 1) = 9223372036854775808 ∧ 0 % 2 = 1) → G (0 + 1) = R)) (HD : Hid (¬ (9223372036854775808 < (2 * man + 1) ∨ ((2 * man + 1) = 9223372036854775808 ∧ 0 % 2 = 1)) → G 0 = R)) :
    Calls Try.prog 36 #[.int .u64 man, .int .i64 exp, .bool true] w fun e w' => e = .returned (.int .u64 R) ∧ w' = w := by
  have b0 : ((2 * man + 1) == 0) = false := by rw [beq_eq_false_iff_ne]; omega
  go_enter Try.func36, Try.ntmps36
  go_upto_region 1 with fail
  go_cut [1] from 12 to 15 (fun e wx => e = .int .i64 X ∧ wx = w)
  case first =>
    go_wp2_with fail
    all_goals (go_meet; exact ⟨congrArg (Value.int .i64) (by have h := HX.out; unfold Brought at h; omega), rfl⟩)
  case rest =>
  obtain ⟨rfl, rfl⟩ := hcut
  go_upto_region 6 with fail
  go_cut [7] from 25 to 31 (fun e wx => e = .int .i64 L ∧ wx = wc)
  case first =>
    go_wp2_with fail
    refine (cb _).mono ?_
    rintro e w1 ⟨rfl, hw⟩
    subst hw
    go_wp2_with fail
    all_goals (go_meet; exact ⟨congrArg (Value.int .i64) (by have h := HL.out; omega), rfl⟩)
  case rest =>
  obtain ⟨rfl, rfl⟩ := hcut
  go_wp2_with fail
  all_goals
    refine (ld _ _ (by omega) (by omega)).mono ?_
    rintro e w1 ⟨rfl, hw⟩
    subst hw
    go_wp2_with fail
    refine (co _ _ (by omega) (by omega)).mono ?_
    rintro e w1 ⟨rfl, hw⟩
    subst hw
    go_wp2
    go_ret
    rename_i hq
    exact ⟨ret_int (by first | exact HU.out (by omega) | exact HD.out (by omega) | exact HU.out (Or.inr ⟨by omega, eq_of_beq hq⟩) | exact HD.out (by have q := beq_eq_false_iff_ne.1 hq; omega)), rfl⟩

set_option maxHeartbeats 1000000 in
theorem refnear_a2_far (man exp X B L C : Int) (w : World) (_m0 : 9223372036854775808 ≤ man) (_m1 : man < 18446744073709551616)
    (HX : Hid (Brought 5000 exp X)) (_x0 : -5000 ≤ X) (_x1 : X ≤ 5000)
    (cb : ∀ w : World, Calls Try.prog 54 #[.int .u64 man] w fun e w' => e = .returned (.int .i64 B) ∧ w' = w) (_b0 : 0 ≤ B) (_b1 : B ≤ 64)
    (HL : Hid ((X + B - 53 ≤ -1074 ∧ L = -1074) ∨ (-1074 ≤ X + B - 53 ∧ L = X + B - 53))) (_l0 : -1074 ≤ L) (_l1 : L ≤ 6000)
    (hC : L - X = C) (_c : 64 < C) :
    Calls Try.prog 36 #[.int .u64 man, .int .i64 exp, .bool true] w fun e w' => e = .returned (.int .u64 0) ∧ w' = w := by
  have b0 : (man == 0) = false := by rw [beq_eq_false_iff_ne]; omega
  go_enter Try.func36, Try.ntmps36
  go_upto_region 1 with fail
  go_cut [1] from 12 to 15 (fun e wx => e = .int .i64 X ∧ wx = w)
  case first =>
    go_wp2_with fail
    all_goals (go_meet; exact ⟨congrArg (Value.int .i64) (by have h := HX.out; unfold Brought at h; omega), rfl⟩)
  case rest =>
  obtain ⟨rfl, rfl⟩ := hcut
  go_upto_region 6 with fail
  go_cut [7] from 25 to 31 (fun e wx => e = .int .i64 L ∧ wx = wc)
  case first =>
    go_wp2_with fail
    refine (cb _).mono ?_
    rintro e w1 ⟨rfl, hw⟩
    subst hw
    go_wp2_with fail
    all_goals (go_meet; exact ⟨congrArg (Value.int .i64) (by have h := HL.out; omega), rfl⟩)
  case rest =>
  obtain ⟨rfl, rfl⟩ := hcut
  go_wp2
  go_ret
  exact ⟨rfl, rfl⟩

set_option maxHeartbeats 1000000 in
theorem refnear_a2_mid (man exp X B L C R : Int) (F : Int → Nat) (G : Int → Int) (w : World) (_m0 : 9223372036854775808 ≤ man) (_m1 : man < 18446744073709551616)
    (HX : Hid (Brought 5000 exp X)) (_x0 : -5000 ≤ X) (_x1 : X ≤ 5000)
    (cb : ∀ w : World, Calls Try.prog 54 #[.int .u64 man] w fun e w' => e = .returned (.int .i64 B) ∧ w' = w) (_b0 : 0 ≤ B) (_b1 : B ≤ 64)
    (HL : Hid ((X + B - 53 ≤ -1074 ∧ L = -1074) ∨ (-1074 ≤ X + B - 53 ∧ L = X + B - 53))) (_l0 : -1074 ≤ L) (_l1 : L ≤ 6000)
    (hC : L - X = C) (_c0 : 0 < C) (_c1 : C < 64) (K T S : Int)
    (hK : man / 2 ^ C.toNat = K) (hT : IntKind.u64.wrap (K * 2 ^ C.toNat) = T) (_k0 : 0 ≤ K) (_k1 : K ≤ 9007199254740991) (hS : man - T = S) (_s0 : 0 ≤ S) (_s1 : S < 18446744073709551616) (D : Int) (hD : IntKind.u64.wrap (2 ^ (C.toNat - 1)) = D)
    (ld : ∀ (n : Int) (w : World), 0 ≤ n → n ≤ 9007199254740992 → Calls Try.prog 55 #[.float .f64 (floatOfInt .f64 n), .int .i64 L] w fun e w' => e = .returned (.float .f64 (F n)) ∧ w' = w)
    (co : ∀ (n : Int) (w : World), 0 ≤ n → n ≤ 9007199254740992 → Calls Try.prog 12 #[.float .f64 (F n)] w fun e w' => e = .returned (.int .u64 (G n)) ∧ w' = w)
    (HU : Hid (D < S ∨ S = D → G (K + 1) = R)) (HD : Hid (¬ (D < S ∨ S = D) → G K = R)) :
    Calls Try.prog 36 #[.int .u64 man, .int .i64 exp, .bool true] w fun e w' => e = .returned (.int .u64 R) ∧ w' = w := by
  have b0 : (man == 0) = false := by rw [beq_eq_false_iff_ne]; omega
  go_enter Try.func36, Try.ntmps36
  go_upto_region 1 with fail
  go_cut [1] from 12 to 15 (fun e wx => e = .int .i64 X ∧ wx = w)
  case first =>
    go_wp2_with fail
    all_goals (go_meet; exact ⟨congrArg (Value.int .i64) (by have h := HX.out; unfold Brought at h; omega), rfl⟩)
  case rest =>
  obtain ⟨rfl, rfl⟩ := hcut
  go_upto_region 6 with fail
  go_cut [7] from 25 to 31 (fun e wx => e = .int .i64 L ∧ wx = wc)
  case first =>
    go_wp2_with fail
    refine (cb _).mono ?_
    rintro e w1 ⟨rfl, hw⟩
    subst hw
    go_wp2_with fail
    all_goals (go_meet; exact ⟨congrArg (Value.int .i64) (by have h := HL.out; omega), rfl⟩)
  case rest =>
  obtain ⟨rfl, rfl⟩ := hcut
  go_wp2_with fail
  all_goals
    refine (ld _ _ (by omega) (by omega)).mono ?_
    rintro e w1 ⟨rfl, hw⟩
    subst hw
    go_wp2_with fail
    refine (co _ _ (by omega) (by omega)).mono ?_
    rintro e w1 ⟨rfl, hw⟩
    subst hw
    go_wp2
    go_ret
    rename_i hq
    exact ⟨ret_int (by first | exact HU.out (by omega) | exact HD.out (by omega) | exact HU.out (Or.inr ⟨by omega, eq_of_beq hq⟩) | exact HD.out (by have q := beq_eq_false_iff_ne.1 hq; omega)), rfl⟩

set_option maxHeartbeats 1000000 in
theorem refnear_a2_top (man exp X B L C R : Int) (F : Int → Nat) (G : Int → Int) (w : World) (_m0 : 9223372036854775808 ≤ man) (_m1 : man < 18446744073709551616)
    (HX : Hid (Brought 5000 exp X)) (_x0 : -5000 ≤ X) (_x1 : X ≤ 5000)
    (cb : ∀ w : World, Calls Try.prog 54 #[.int .u64 man] w fun e w' => e = .returned (.int .i64 B) ∧ w' = w) (_b0 : 0 ≤ B) (_b1 : B ≤ 64)
    (HL : Hid ((X + B - 53 ≤ -1074 ∧ L = -1074) ∨ (-1074 ≤ X + B - 53 ∧ L = X + B - 53))) (_l0 : -1074 ≤ L) (_l1 : L ≤ 6000)
    (hC : L - X = C) (_c0 : C = 64)
    (ld : ∀ (n : Int) (w : World), 0 ≤ n → n ≤ 9007199254740992 → Calls Try.prog 55 #[.float .f64 (floatOfInt .f64 n), .int .i64 L] w fun e w' => e = .returned (.float .f64 (F n)) ∧ w' = w)
    (co : ∀ (n : Int) (w : World), 0 ≤ n → n ≤ 9007199254740992 → Calls Try.prog 12 #[.float .f64 (F n)] w fun e w' => e = .returned (.int .u64 (G n)) ∧ w' = w)
    (HU : Hid (9223372036854775808 < man ∨ man = 9223372036854775808 → G (0 + 1) = R)) :
    Calls Try.prog 36 #[.int .u64 man, .int .i64 exp, .bool true] w fun e w' => e = .returned (.int .u64 R) ∧ w' = w := by
  have b0 : (man == 0) = false := by rw [beq_eq_false_iff_ne]; omega
  go_enter Try.func36, Try.ntmps36
  go_upto_region 1 with fail
  go_cut [1] from 12 to 15 (fun e wx => e = .int .i64 X ∧ wx = w)
  case first =>
    go_wp2_with fail
    all_goals (go_meet; exact ⟨congrArg (Value.int .i64) (by have h := HX.out; unfold Brought at h; omega), rfl⟩)
  case rest =>
  obtain ⟨rfl, rfl⟩ := hcut
  go_upto_region 6 with fail
  go_cut [7] from 25 to 31 (fun e wx => e = .int .i64 L ∧ wx = wc)
  case first =>
    go_wp2_with fail
    refine (cb _).mono ?_
    rintro e w1 ⟨rfl, hw⟩
    subst hw
    go_wp2_with fail
    all_goals (go_meet; exact ⟨congrArg (Value.int .i64) (by have h := HL.out; omega), rfl⟩)
  case rest =>
  obtain ⟨rfl, rfl⟩ := hcut
  go_wp2_with fail
  all_goals
    refine (ld _ _ (by omega) (by omega)).mono ?_
    rintro e w1 ⟨rfl, hw⟩
    subst hw
    go_wp2_with fail
    refine (co _ _ (by omega) (by omega)).mono ?_
    rintro e w1 ⟨rfl, hw⟩
    subst hw
    go_wp2
    go_ret
    rename_i hq
    exact ⟨ret_int (by first | exact HU.out (by omega) | exact HD.out (by omega) | exact HU.out (Or.inr ⟨by omega, eq_of_beq hq⟩) | exact HD.out (by have q := beq_eq_false_iff_ne.1 hq; omega)), rfl⟩

set_option maxHeartbeats 1000000 in
theorem refnear_b_far (man exp X B L C : Int) (w : World) (_m0 : 0 ≤ man) (_m1 : man < 18446744073709551616)
    (HX : Hid (Brought 5000 exp X)) (_x0 : -5000 ≤ X) (_x1 : X ≤ 5000)
    (cb : ∀ w : World, Calls Try.prog 54 #[.int .u64 man] w fun e w' => e = .returned (.int .i64 B) ∧ w' = w) (_b0 : 0 ≤ B) (_b1 : B ≤ 64)
    (HL : Hid ((X + B - 53 ≤ -1074 ∧ L = -1074) ∨ (-1074 ≤ X + B - 53 ∧ L = X + B - 53))) (_l0 : -1074 ≤ L) (_l1 : L ≤ 6000)
    (hC : L - X = C) (_mz : 0 < man) (_c : 64 < C) :
    Calls Try.prog 36 #[.int .u64 man, .int .i64 exp, .bool false] w fun e w' => e = .returned (.int .u64 0) ∧ w' = w := by
  have b0 : (man == 0) = false := by rw [beq_eq_false_iff_ne]; omega
  go_enter Try.func36, Try.ntmps36
  go_upto_region 1 with fail
  go_cut [1] from 12 to 15 (fun e wx => e = .int .i64 X ∧ wx = w)
  case first =>
    go_wp2_with fail
    all_goals (go_meet; exact ⟨congrArg (Value.int .i64) (by have h := HX.out; unfold Brought at h; omega), rfl⟩)
  case rest =>
  obtain ⟨rfl, rfl⟩ := hcut
  go_upto_region 6 with fail
  go_cut [7] from 25 to 31 (fun e wx => e = .int .i64 L ∧ wx = wc)
  case first =>
    go_wp2_with fail
    refine (cb _).mono ?_
    rintro e w1 ⟨rfl, hw⟩
    subst hw
    go_wp2_with fail
    all_goals (go_meet; exact ⟨congrArg (Value.int .i64) (by have h := HL.out; omega), rfl⟩)
  case rest =>
  obtain ⟨rfl, rfl⟩ := hcut
  go_wp2
  go_ret
  exact ⟨rfl, rfl⟩

set_option maxHeartbeats 1000000 in
theorem refnear_b_low (man exp X B L C R : Int) (w : World) (_m0 : 0 ≤ man) (_m1 : man < 18446744073709551616)
    (HX : Hid (Brought 5000 exp X)) (_x0 : -5000 ≤ X) (_x1 : X ≤ 5000)
    (cb : ∀ w : World, Calls Try.prog 54 #[.int .u64 man] w fun e w' => e = .returned (.int .i64 B) ∧ w' = w) (_b0 : 0 ≤ B) (_b1 : B ≤ 64)
    (HL : Hid ((X + B - 53 ≤ -1074 ∧ L = -1074) ∨ (-1074 ≤ X + B - 53 ∧ L = X + B - 53))) (_l0 : -1074 ≤ L) (_l1 : L ≤ 6000)
    (hC : L - X = C) (_mz : 0 < man) (_c : C ≤ 0)
    (ld : ∀ w : World, Calls Try.prog 55 #[.float .f64 (floatOfInt .f64 man), .int .i64 X] w fun e w' => e = .returned (.float .f64 R.toNat) ∧ w' = w)
    (co : ∀ w : World, Calls Try.prog 12 #[.float .f64 R.toNat] w fun e w' => e = .returned (.int .u64 R) ∧ w' = w) :
    Calls Try.prog 36 #[.int .u64 man, .int .i64 exp, .bool false] w fun e w' => e = .returned (.int .u64 R) ∧ w' = w := by
  have b0 : (man == 0) = false := by rw [beq_eq_false_iff_ne]; omega
  go_enter Try.func36, Try.ntmps36
  go_upto_region 1 with fail
  go_cut [1] from 12 to 15 (fun e wx => e = .int .i64 X ∧ wx = w)
  case first =>
    go_wp2_with fail
    all_goals (go_meet; exact ⟨congrArg (Value.int .i64) (by have h := HX.out; unfold Brought at h; omega), rfl⟩)
  case rest =>
  obtain ⟨rfl, rfl⟩ := hcut
  go_upto_region 6 with fail
  go_cut [7] from 25 to 31 (fun e wx => e = .int .i64 L ∧ wx = wc)
  case first =>
    go_wp2_with fail
    refine (cb _).mono ?_
    rintro e w1 ⟨rfl, hw⟩
    subst hw
    go_wp2_with fail
    all_goals (go_meet; exact ⟨congrArg (Value.int .i64) (by have h := HL.out; omega), rfl⟩)
  case rest =>
  obtain ⟨rfl, rfl⟩ := hcut
  go_wp2_with fail
  refine (ld _).mono ?_
  rintro e w1 ⟨rfl, hw⟩
  subst hw
  go_wp2_with fail
  refine (co _).mono ?_
  rintro e w1 ⟨rfl, hw⟩
  subst hw
  go_wp2
  go_ret
  exact ⟨rfl, rfl⟩

set_option maxHeartbeats 1000000 in
theorem refnear_b_mid (man exp X B L C R : Int) (F : Int → Nat) (G : Int → Int) (w : World) (_m0 : 0 ≤ man) (_m1 : man < 18446744073709551616)
    (HX : Hid (Brought 5000 exp X)) (_x0 : -5000 ≤ X) (_x1 : X ≤ 5000)
    (cb : ∀ w : World, Calls Try.prog 54 #[.int .u64 man] w fun e w' => e = .returned (.int .i64 B) ∧ w' = w) (_b0 : 0 ≤ B) (_b1 : B ≤ 64)
    (HL : Hid ((X + B - 53 ≤ -1074 ∧ L = -1074) ∨ (-1074 ≤ X + B - 53 ∧ L = X + B - 53))) (_l0 : -1074 ≤ L) (_l1 : L ≤ 6000)
    (hC : L - X = C) (_mz : 0 < man) (_c0 : 0 < C) (_c1 : C < 64) (K T S : Int)
    (hK : man / 2 ^ C.toNat = K) (hT : IntKind.u64.wrap (K * 2 ^ C.toNat) = T) (_k0 : 0 ≤ K) (_k1 : K ≤ 9007199254740991) (hS : man - T = S) (_s0 : 0 ≤ S) (_s1 : S < 18446744073709551616) (D : Int) (hD : IntKind.u64.wrap (2 ^ (C.toNat - 1)) = D)
    (ld : ∀ (n : Int) (w : World), 0 ≤ n → n ≤ 9007199254740992 → Calls Try.prog 55 #[.float .f64 (floatOfInt .f64 n), .int .i64 L] w fun e w' => e = .returned (.float .f64 (F n)) ∧ w' = w)
    (co : ∀ (n : Int) (w : World), 0 ≤ n → n ≤ 9007199254740992 → Calls Try.prog 12 #[.float .f64 (F n)] w fun e w' => e = .returned (.int .u64 (G n)) ∧ w' = w)
    (HU : Hid (D < S ∨ (S = D ∧ K % 2 = 1) → G (K + 1) = R)) (HD : Hid (¬ (D < S ∨ (S = D ∧ K % 2 = 1)) → G K = R)) :
    Calls Try.prog 36 #[.int .u64 man, .int .i64 exp, .bool false] w fun e w' => e = .returned (.int .u64 R) ∧ w' = w := by
  have b0 : (man == 0) = false := by rw [beq_eq_false_iff_ne]; omega
  go_enter Try.func36, Try.ntmps36
  go_upto_region 1 with fail
  go_cut [1] from 12 to 15 (fun e wx => e = .int .i64 X ∧ wx = w)
  case first =>
    go_wp2_with fail
    all_goals (go_meet; exact ⟨congrArg (Value.int .i64) (by have h := HX.out; unfold Brought at h; omega), rfl⟩)
  case rest =>
  obtain ⟨rfl, rfl⟩ := hcut
  go_upto_region 6 with fail
  go_cut [7] from 25 to 31 (fun e wx => e = .int .i64 L ∧ wx = wc)
  case first =>
    go_wp2_with fail
    refine (cb _).mono ?_
    rintro e w1 ⟨rfl, hw⟩
    subst hw
    go_wp2_with fail
    all_goals (go_meet; exact ⟨congrArg (Value.int .i64) (by have h := HL.out; omega), rfl⟩)
  case rest =>
  obtain ⟨rfl, rfl⟩ := hcut
  go_wp2_with fail
  all_goals
    refine (ld _ _ (by omega) (by omega)).mono ?_
    rintro e w1 ⟨rfl, hw⟩
    subst hw
    go_wp2_with fail
    refine (co _ _ (by omega) (by omega)).mono ?_
    rintro e w1 ⟨rfl, hw⟩
    subst hw
    go_wp2
    go_ret
    rename_i hq
    exact ⟨ret_int (by first | exact HU.out (by omega) | exact HD.out (by omega) | exact HU.out (Or.inr ⟨by omega, eq_of_beq hq⟩) | exact HD.out (by have q := beq_eq_false_iff_ne.1 hq; omega)), rfl⟩

set_option maxHeartbeats 1000000 in
theorem refnear_b_top (man exp X B L C R : Int) (F : Int → Nat) (G : Int → Int) (w : World) (_m0 : 0 ≤ man) (_m1 : man < 18446744073709551616)
    (HX : Hid (Brought 5000 exp X)) (_x0 : -5000 ≤ X) (_x1 : X ≤ 5000)
    (cb : ∀ w : World, Calls Try.prog 54 #[.int .u64 man] w fun e w' => e = .returned (.int .i64 B) ∧ w' = w) (_b0 : 0 ≤ B) (_b1 : B ≤ 64)
    (HL : Hid ((X + B - 53 ≤ -1074 ∧ L = -1074) ∨ (-1074 ≤ X + B - 53 ∧ L = X + B - 53))) (_l0 : -1074 ≤ L) (_l1 : L ≤ 6000)
    (hC : L - X = C) (_mz : 0 < man) (_c0 : C = 64)
    (ld : ∀ (n : Int) (w : World), 0 ≤ n → n ≤ 9007199254740992 → Calls Try.prog 55 #[.float .f64 (floatOfInt .f64 n), .int .i64 L] w fun e w' => e = .returned (.float .f64 (F n)) ∧ w' = w)
    (co : ∀ (n : Int) (w : World), 0 ≤ n → n ≤ 9007199254740992 → Calls Try.prog 12 #[.float .f64 (F n)] w fun e w' => e = .returned (.int .u64 (G n)) ∧ w' = w)
    (HU : Hid (9223372036854775808 < man ∨ (man = 9223372036854775808 ∧ 0 % 2 = 1) → G (0 + 1) = R)) (HD : Hid (¬ (9223372036854775808 < man ∨ (man = 9223372036854775808 ∧ 0 % 2 = 1)) → G 0 = R)) :
    Calls Try.prog 36 #[.int .u64 man, .int .i64 exp, .bool false] w fun e w' => e = .returned (.int .u64 R) ∧ w' = w := by
  have b0 : (man == 0) = false := by rw [beq_eq_false_iff_ne]; omega
  go_enter Try.func36, Try.ntmps36
  go_upto_region 1 with fail
  go_cut [1] from 12 to 15 (fun e wx => e = .int .i64 X ∧ wx = w)
  case first =>
    go_wp2_with fail
    all_goals (go_meet; exact ⟨congrArg (Value.int .i64) (by have h := HX.out; unfold Brought at h; omega), rfl⟩)
  case rest =>
  obtain ⟨rfl, rfl⟩ := hcut
  go_upto_region 6 with fail
  go_cut [7] from 25 to 31 (fun e wx => e = .int .i64 L ∧ wx = wc)
  case first =>
    go_wp2_with fail
    refine (cb _).mono ?_
    rintro e w1 ⟨rfl, hw⟩
    subst hw
    go_wp2_with fail
    all_goals (go_meet; exact ⟨congrArg (Value.int .i64) (by have h := HL.out; omega), rfl⟩)
  case rest =>
  obtain ⟨rfl, rfl⟩ := hcut
  go_wp2_with fail
  all_goals
    refine (ld _ _ (by omega) (by omega)).mono ?_
    rintro e w1 ⟨rfl, hw⟩
    subst hw
    go_wp2_with fail
    refine (co _ _ (by omega) (by omega)).mono ?_
    rintro e w1 ⟨rfl, hw⟩
    subst hw
    go_wp2
    go_ret
    rename_i hq
    exact ⟨ret_int (by first | exact HU.out (by omega) | exact HD.out (by omega) | exact HU.out (Or.inr ⟨by omega, eq_of_beq hq⟩) | exact HD.out (by have q := beq_eq_false_iff_ne.1 hq; omega)), rfl⟩

end Go.Proofs.Ytnocnodiecihnaa
