/- math.Ldexp: the walk. -/
import Derived.Test.YtnocnodiecihnaaW17
namespace Go.Proofs.Ytnocnodiecihnaa
open Go.RowKit

section
variable (x g : Nat) (k E q f p : Int) (w : World)

set_option maxHeartbeats 1000000 in
theorem ldexp_under (hz : (FloatKind.f64.format.order x 0 == some Ordering.eq) = false)
    (ci : ∀ w : World, Calls Try.prog 23 #[.float .f64 x, .int .i64 0] w fun e w' => e = .returned (.bool false) ∧ w' = w)
    (cn : ∀ w : World, Calls Try.prog 67 #[.float .f64 x] w fun e w' => e = .returned (.bool false) ∧ w' = w)
    (nm : ∀ w : World, Calls Try.prog 72 #[.float .f64 x] w fun e w' => e = .returned (.tuple #[.float .f64 g, .int .i64 E]) ∧ w' = w)
    (hq : (g : Int) / 4503599627370496 = q) (_q0 : 0 ≤ q) (_q1 : q ≤ 2047) (ha : bits .and .i64 q 2047 = q) (_k0 : -100000 ≤ k) (_k1 : k ≤ 100000) (_E0 : -52 ≤ E) (_E1 : E ≤ 0)
    (hp : k + E + (q - 1023) = p)
    (_c1 : p < -1075) (cs : ∀ w : World, Calls Try.prog 70 #[.float .f64 0, .float .f64 g] w fun e w' => e = .returned (.float .f64 0) ∧ w' = w) :
    Calls Try.prog 65 #[.float .f64 x, .int .i64 k] w fun e w' => e = .returned (.float .f64 0) ∧ w' = w := by
  have hx := tobits_run
  go_enter Try.func65, Try.ntmps65
  go_wp2_with fail
  refine (ci _).mono ?_
  rintro e w1 ⟨rfl, hw⟩
  subst hw
  go_wp2_with fail
  refine (cn _).mono ?_
  rintro e w1 ⟨rfl, hw⟩
  subst hw
  go_wp2_with fail
  refine (nm _).mono ?_
  rintro e w1 ⟨rfl, hw⟩
  subst hw
  go_wp2_with fail
  refine (cs _).mono ?_
  rintro e w1 ⟨rfl, hw⟩
  subst hw
  go_wp2
  go_ret
  exact ⟨rfl, rfl⟩

set_option maxHeartbeats 1000000 in
theorem ldexp_over (hz : (FloatKind.f64.format.order x 0 == some Ordering.eq) = false)
    (ci : ∀ w : World, Calls Try.prog 23 #[.float .f64 x, .int .i64 0] w fun e w' => e = .returned (.bool false) ∧ w' = w)
    (cn : ∀ w : World, Calls Try.prog 67 #[.float .f64 x] w fun e w' => e = .returned (.bool false) ∧ w' = w)
    (nm : ∀ w : World, Calls Try.prog 72 #[.float .f64 x] w fun e w' => e = .returned (.tuple #[.float .f64 g, .int .i64 E]) ∧ w' = w)
    (hq : (g : Int) / 4503599627370496 = q) (_q0 : 0 ≤ q) (_q1 : q ≤ 2047) (ha : bits .and .i64 q 2047 = q) (_k0 : -100000 ≤ k) (_k1 : k ≤ 100000) (_E0 : -52 ≤ E) (_E1 : E ≤ 0)
    (hp : k + E + (q - 1023) = p)
    (_c1 : 1023 < p) (hl : (FloatKind.f64.format.order g 0 == some Ordering.lt) = false) :
    Calls Try.prog 65 #[.float .f64 x, .int .i64 k] w fun e w' => e = .returned (.float .f64 9218868437227405312) ∧ w' = w := by
  have hx := tobits_run
  go_enter Try.func65, Try.ntmps65
  go_wp2_with fail
  refine (ci _).mono ?_
  rintro e w1 ⟨rfl, hw⟩
  subst hw
  go_wp2_with fail
  refine (cn _).mono ?_
  rintro e w1 ⟨rfl, hw⟩
  subst hw
  go_wp2_with fail
  refine (nm _).mono ?_
  rintro e w1 ⟨rfl, hw⟩
  subst hw
  go_wp2_with fail
  refine (mathInf1 _).mono ?_
  rintro e w1 ⟨rfl, hw⟩
  subst hw
  go_wp2
  go_ret
  exact ⟨rfl, rfl⟩

set_option maxHeartbeats 1000000 in
theorem ldexp_norm (X : Int) (R : Nat) (hz : (FloatKind.f64.format.order x 0 == some Ordering.eq) = false)
    (ci : ∀ w : World, Calls Try.prog 23 #[.float .f64 x, .int .i64 0] w fun e w' => e = .returned (.bool false) ∧ w' = w)
    (cn : ∀ w : World, Calls Try.prog 67 #[.float .f64 x] w fun e w' => e = .returned (.bool false) ∧ w' = w)
    (nm : ∀ w : World, Calls Try.prog 72 #[.float .f64 x] w fun e w' => e = .returned (.tuple #[.float .f64 g, .int .i64 E]) ∧ w' = w)
    (hq : (g : Int) / 4503599627370496 = q) (_q0 : 0 ≤ q) (_q1 : q ≤ 2047) (ha : bits .and .i64 q 2047 = q) (_k0 : -100000 ≤ k) (_k1 : k ≤ 100000) (_E0 : -52 ≤ E) (_E1 : E ≤ 0)
    (hp : k + E + (q - 1023) = p)
    (_c1 : -1022 ≤ p) (_c2 : p ≤ 1023) (hf : bits .andNot .u64 (g : Int) 9218868437227405312 = f) (hX : bits .or .u64 f ((p + 1023) * 4503599627370496) = X)
    (hm : ∀ w : World, (binOp .mul 23 (.float .f64 4607182418800017408) (.float .f64 X.toNat)).run Try.prog w = .ok (.float .f64 R) w) :
    Calls Try.prog 65 #[.float .f64 x, .int .i64 k] w fun e w' => e = .returned (.float .f64 R) ∧ w' = w := by
  have hx := tobits_run
  have hy := frombits_run
  go_enter Try.func65, Try.ntmps65
  go_wp2_with fail
  refine (ci _).mono ?_
  rintro e w1 ⟨rfl, hw⟩
  subst hw
  go_wp2_with fail
  refine (cn _).mono ?_
  rintro e w1 ⟨rfl, hw⟩
  subst hw
  go_wp2_with fail
  refine (nm _).mono ?_
  rintro e w1 ⟨rfl, hw⟩
  subst hw
  go_wp2
  go_ret
  exact ⟨rfl, rfl⟩

set_option maxHeartbeats 1000000 in
theorem ldexp_denorm (X : Int) (R : Nat) (hz : (FloatKind.f64.format.order x 0 == some Ordering.eq) = false)
    (ci : ∀ w : World, Calls Try.prog 23 #[.float .f64 x, .int .i64 0] w fun e w' => e = .returned (.bool false) ∧ w' = w)
    (cn : ∀ w : World, Calls Try.prog 67 #[.float .f64 x] w fun e w' => e = .returned (.bool false) ∧ w' = w)
    (nm : ∀ w : World, Calls Try.prog 72 #[.float .f64 x] w fun e w' => e = .returned (.tuple #[.float .f64 g, .int .i64 E]) ∧ w' = w)
    (hq : (g : Int) / 4503599627370496 = q) (_q0 : 0 ≤ q) (_q1 : q ≤ 2047) (ha : bits .and .i64 q 2047 = q) (_k0 : -100000 ≤ k) (_k1 : k ≤ 100000) (_E0 : -52 ≤ E) (_E1 : E ≤ 0)
    (hp : k + E + (q - 1023) = p)
    (_c1 : -1075 ≤ p) (_c2 : p < -1022) (hf : bits .andNot .u64 (g : Int) 9218868437227405312 = f) (hX : bits .or .u64 f ((p + 53 + 1023) * 4503599627370496) = X)
    (hm : ∀ w : World, (binOp .mul 23 (.float .f64 4368491638549381120) (.float .f64 X.toNat)).run Try.prog w = .ok (.float .f64 R) w) :
    Calls Try.prog 65 #[.float .f64 x, .int .i64 k] w fun e w' => e = .returned (.float .f64 R) ∧ w' = w := by
  have hx := tobits_run
  have hy := frombits_run
  go_enter Try.func65, Try.ntmps65
  go_wp2_with fail
  refine (ci _).mono ?_
  rintro e w1 ⟨rfl, hw⟩
  subst hw
  go_wp2_with fail
  refine (cn _).mono ?_
  rintro e w1 ⟨rfl, hw⟩
  subst hw
  go_wp2_with fail
  refine (nm _).mono ?_
  rintro e w1 ⟨rfl, hw⟩
  subst hw
  go_wp2
  go_ret
  exact ⟨rfl, rfl⟩
end

theorem and_2047 (q : Int) (h0 : 0 ≤ q) (h1 : q ≤ 2047) : bits .and .i64 q 2047 = q := by
  obtain ⟨n, rfl⟩ := Int.eq_ofNat_of_zero_le h0
  have hn : n < 2048 := by omega
  have all : ∀ m : Fin 2048, bits .and .i64 ((m.val : Nat) : Int) 2047 = ((m.val : Nat) : Int) := by decide +kernel
  exact all ⟨n, hn⟩

theorem mask_exp (a : Int) (h0 : 0 ≤ a) (h1 : a < 9223372036854775808) : bits .andNot .u64 a 9218868437227405312 = a % 4503599627370496 := by
  rw [u64_andNot a _ h0 (by omega) (by omega) (by omega)]
  have e2 : 18446744073709551615 - (9218868437227405312 : Int).toNat = 9223372036854775808 + 4503599627370495 := rfl
  rw [e2]
  have e3 : (9223372036854775808 + 4503599627370495 : Nat) = 9223372036854775808 ||| 4503599627370495 := by decide
  rw [e3, Nat.and_or_distrib_left]
  have e4 := nat_bit 63 a.toNat
  simp only [show (2 : Nat) ^ 63 = 9223372036854775808 from rfl] at e4
  have e5 := Nat.and_two_pow_sub_one_eq_mod a.toNat 52
  simp only [show (2 : Nat) ^ 52 = 4503599627370496 from rfl] at e5
  have e6 : (4503599627370495 : Nat) = 4503599627370496 - 1 := rfl
  rw [e4, e6, e5, show a.toNat / 9223372036854775808 % 2 * 9223372036854775808 = 0 from by omega]
  simp
  omega

theorem or_field (f q : Nat) (hf : f < 4503599627370496) (hq : q ≤ 2047) : bits .or .u64 ((f : Nat) : Int) ((q : Int) * 4503599627370496) = ((q * 4503599627370496 + f : Nat) : Int) := by
  rw [u64_or _ _ (by omega) (by omega) (by omega) (by omega)]
  have e := nat_join 52 (q * 4503599627370496) f (by show q * 4503599627370496 % 4503599627370496 = 0; omega) hf
  rw [Nat.or_comm] at e
  rw [Int.toNat_natCast, show ((q : Int) * 4503599627370496).toNat = q * 4503599627370496 from by omega, e]

theorem one_run : kindI 4607182418800017408 = 1 ∧ manI 4607182418800017408 = 4503599627370496 ∧ expI 4607182418800017408 = -52 := by decide +kernel
theorem c53 : kindI 4368491638549381120 = 1 ∧ manI 4368491638549381120 = 4503599627370496 ∧ expI 4368491638549381120 = -105 := by decide +kernel

/-- far below: nothing is left -/
theorem rung_none (m : Nat) (p : Int) (hm : m < 9007199254740992) (hp : p < -1127) : rung m p = 0 := by
  by_cases hz : m = 0
  · subst hz; exact rung_zero' p
  have l := (Nat.log2_lt hz).2 (show m < 2 ^ 53 from hm)
  have hL : lastPlace m p = -1074 := by unfold lastPlace; omega
  unfold rung
  rw [if_neg hz, hL, show (p - -1074).toNat = 0 from by omega, Nat.pow_zero, Nat.mul_one]
  obtain ⟨d, hd⟩ : ∃ d : Nat, (-1074 - p).toNat = d := ⟨_, rfl⟩
  have h54 : 2 ^ 54 ≤ 2 ^ d := Nat.pow_le_pow_right (by decide) (by omega)
  have h54' : 18014398509481984 ≤ 2 ^ d := h54
  rw [hd]
  have e1 : m / 2 ^ d = 0 := Nat.div_eq_of_lt (by omega)
  have e2 : m % 2 ^ d = m := Nat.mod_eq_of_lt (by omega)
  unfold rne
  rw [e1, e2]
  generalize 2 ^ d = c at *
  rw [if_neg (by omega)]
  rfl

/-- far above: infinite -/
theorem rung_far (m : Nat) (p : Int) (hm : 4503599627370496 ≤ m) (hm1 : m < 9007199254740992) (hp : 971 < p) : rung m p = 9218868437227405312 := by
  have hz : m ≠ 0 := by omega
  have l : m.log2 = 52 := by
    rw [Nat.log2_eq_iff hz]; exact ⟨hm, hm1⟩
  have hL : lastPlace m p = p := by unfold lastPlace; rw [l]; omega
  unfold rung
  rw [if_neg hz, hL, show (p - p).toNat = 0 from by omega, rne_zero, Nat.pow_zero, Nat.mul_one]
  have : 2046 ≤ (p + 1074).toNat := by omega
  generalize (p + 1074).toNat = q at *
  omega


end Go.Proofs.Ytnocnodiecihnaa
