/- math.Ldexp: the walk. -/
import Derived.Test.YtfhdmglfpkmjbaaW17
namespace Go.Proofs.Ytfhdmglfpkmjbaa
open Go.RowKit

section
variable (x g : Nat) (k E q f p : Int) (w : World)

theorem and_2047 (q : Int) (h0 : 0 ≤ q) (h1 : q ≤ 2047) : bits .and .i64 q 2047 = q := by
  obtain ⟨n, rfl⟩ := Int.eq_ofNat_of_zero_le h0
  have hn : n < 2048 := by omega
  have all : ∀ m : Fin 2048, bits .and .i64 ((m.val : Nat) : Int) 2047 = ((m.val : Nat) : Int) := by decide +kernel
  exact all ⟨n, hn⟩

theorem mask_exp (a : Int) (h0 : 0 ≤ a) (h1 : a < 9223372036854775808) : bits .andNot .u64 a 9218868437227405312 = a % 4503599627370496 := by
  rw [u64_andNot a _ h0 (by omega) (by omega) (by omega)]
  have e2 : 18446744073709551615 - (9218868437227405312 : Int).toNat = 9223372036854775808 + 4503599627370495 := rfl
  rw [e2]
  have e3 : (9223372036854775808 + 4503599627370495 : Nat) = 9223372036854775808 ||| 4503599627370495 := by decide
  rw [e3, Nat.and_or_distrib_left]
  have e4 := nat_bit 63 a.toNat
  simp only [show (2 : Nat) ^ 63 = 9223372036854775808 from rfl] at e4
  have e5 := Nat.and_two_pow_sub_one_eq_mod a.toNat 52
  simp only [show (2 : Nat) ^ 52 = 4503599627370496 from rfl] at e5
  have e6 : (4503599627370495 : Nat) = 4503599627370496 - 1 := rfl
  rw [e4, e6, e5, show a.toNat / 9223372036854775808 % 2 * 9223372036854775808 = 0 from by omega]
  simp
  omega

theorem or_field (f q : Nat) (hf : f < 4503599627370496) (hq : q ≤ 2047) : bits .or .u64 ((f : Nat) : Int) ((q : Int) * 4503599627370496) = ((q * 4503599627370496 + f : Nat) : Int) := by
  rw [u64_or _ _ (by omega) (by omega) (by omega) (by omega)]
  have e := nat_join 52 (q * 4503599627370496) f (by show q * 4503599627370496 % 4503599627370496 = 0; omega) hf
  rw [Nat.or_comm] at e
  rw [Int.toNat_natCast, show ((q : Int) * 4503599627370496).toNat = q * 4503599627370496 from by omega, e]

theorem one_run : kindI 4607182418800017408 = 1 ∧ manI 4607182418800017408 = 4503599627370496 ∧ expI 4607182418800017408 = -52 := by decide +kernel
theorem c53 : kindI 4368491638549381120 = 1 ∧ manI 4368491638549381120 = 4503599627370496 ∧ expI 4368491638549381120 = -105 := by decide +kernel

/-- far below: nothing is left -/
theorem rung_none (m : Nat) (p : Int) (hm : m < 9007199254740992) (hp : p < -1127) : rung m p = 0 := by
  by_cases hz : m = 0
  · subst hz; exact rung_zero' p
  have l := (Nat.log2_lt hz).2 (show m < 2 ^ 53 from hm)
  have hL : lastPlace m p = -1074 := by unfold lastPlace; omega
  unfold rung
  rw [if_neg hz, hL, show (p - -1074).toNat = 0 from by omega, Nat.pow_zero, Nat.mul_one]
  obtain ⟨d, hd⟩ : ∃ d : Nat, (-1074 - p).toNat = d := ⟨_, rfl⟩
  have h54 : 2 ^ 54 ≤ 2 ^ d := Nat.pow_le_pow_right (by decide) (by omega)
  have h54' : 18014398509481984 ≤ 2 ^ d := h54
  rw [hd]
  have e1 : m / 2 ^ d = 0 := Nat.div_eq_of_lt (by omega)
  have e2 : m % 2 ^ d = m := Nat.mod_eq_of_lt (by omega)
  unfold rne
  rw [e1, e2]
  generalize 2 ^ d = c at *
  rw [if_neg (by omega)]
  rfl

/-- far above: infinite -/
theorem rung_far (m : Nat) (p : Int) (hm : 4503599627370496 ≤ m) (hm1 : m < 9007199254740992) (hp : 971 < p) : rung m p = 9218868437227405312 := by
  have hz : m ≠ 0 := by omega
  have l : m.log2 = 52 := by
    rw [Nat.log2_eq_iff hz]; exact ⟨hm, hm1⟩
  have hL : lastPlace m p = p := by unfold lastPlace; rw [l]; omega
  unfold rung
  rw [if_neg hz, hL, show (p - p).toNat = 0 from by omega, rne_zero, Nat.pow_zero, Nat.mul_one]
  have : 2046 ≤ (p + 1074).toNat := by omega
  generalize (p + 1074).toNat = q at *
  omega

end

end Go.Proofs.Ytfhdmglfpkmjbaa

/- math.Ldexp of a finite number above 0, whole. -/
namespace Go.Proofs.Ytfhdmglfpkmjbaa
open Go.RowKit

theorem rank_small (n : Nat) (h : n < 9223372036854775808) : rankI ((n : Nat) : Int) = ((n : Nat) : Int) := by unfold rankI; rw [if_pos (by omega)]

theorem not_below (n : Nat) (h : n < 9223372036854775808) : (FloatKind.f64.format.order n 0 == some Ordering.lt) = false := by
  have := less_order ((n : Nat) : Int) 0 (by omega) (by omega) (by omega) (by omega)
  rw [Int.toNat_natCast, show (0 : Int).toNat = 0 from rfl] at this
  rw [this]
  unfold lessI
  rw [rank_small n h, show rankI 0 = 0 from rfl, decide_eq_false (by omega)]
  simp

end Go.Proofs.Ytfhdmglfpkmjbaa

/- math.Frexp of a finite number above 0. -/
namespace Go.Proofs.Ytfhdmglfpkmjbaa
open Go.RowKit

theorem and_2047u (q : Int) (h0 : 0 ≤ q) (h1 : q ≤ 2047) : bits .and .u64 q 2047 = q := by
  obtain ⟨n, rfl⟩ := Int.eq_ofNat_of_zero_le h0
  have hn : n < 2048 := by omega
  have all : ∀ m : Fin 2048, bits .and .u64 ((m.val : Nat) : Int) 2047 = ((m.val : Nat) : Int) := by decide +kernel
  exact all ⟨n, hn⟩

/-- what is ahead of the point, its first bit set, of 53 bits; and the place of its last bit behind 52 and the smallest number's -/
def frgI (F : Int) : Nat := (normI F).toNat % 4503599627370496 + 4503599627370496
def frcE (F : Int) : Int := nexpI F + (((normI F).toNat / 4503599627370496 : Nat) : Int)

end Go.Proofs.Ytfhdmglfpkmjbaa
