/- Numbers as whole ones, by the language; the document's Whole. -/
import Derived.Test.YtfhdmglfpkmjbaaW36
namespace Go.Proofs.Ytfhdmglfpkmjbaa
open Go.RowKit

/-- the whole part -/
def wholeOf (a : Int) : Int := withS (negB a.toNat) (magI a / 2 ^ unitE)

theorem toInt_word (a : Int) (h0 : 0 ≤ a) (h1 : a < 18446744073709551616) (k : kindI a < 2) : (Ieee.double.read a.toNat).toInt .zero = some (wholeOf a) := by
  have hu := ue
  unfold wholeOf Ieee.Datum.toInt Ieee.Datum.integral
  rcases kind_cases a with c | c | c | c
  · have mg : magI a = 0 := by unfold magI; rw [if_neg (by omega)]
    rw [(read_zero a h0 h1 c).1, mg]
    simp only
    rw [cut_zero, Nat.zero_shiftLeft, Nat.zero_div, Nat.zero_div, signed_eq, Nat.zero_mul]
    rfl
  · obtain ⟨r, f, _⟩ := read_fin a h0 h1 c
    have f3 := f.lo
    have mg : magI a = (manI a).toNat * 2 ^ (expI a + 1074).toNat := by unfold magI; rw [if_pos c]
    rw [r, mg]
    simp only
    rw [cut_zero, Nat.shiftLeft_eq, signed_eq, Nat.pow_zero, Nat.mul_one]
    have e : (manI a).toNat * 2 ^ (expI a).toNat / 2 ^ (-expI a).toNat = (manI a).toNat * 2 ^ (expI a + 1074).toNat / 2 ^ unitE := by
      by_cases d : 0 ≤ expI a
      · rw [show (-expI a).toNat = 0 from by omega, Nat.pow_zero, Nat.div_one, show (expI a + 1074).toNat = (expI a).toNat + unitE from by omega, Nat.pow_add, ← Nat.mul_assoc, Nat.mul_div_cancel _ (Nat.two_pow_pos _)]
      · rw [show (expI a).toNat = 0 from by omega, Nat.pow_zero, Nat.mul_one, (mag_split _ _ (by omega)).1, show unitE - (expI a + 1074).toNat = (-expI a).toNat from by omega]
    rw [e]
    rfl
  · omega
  · omega

theorem conv_run (t : TypeId) (k : IntKind) (ht : Try.prog.underlying t = some (.int k))
    (a : Int) (h0 : 0 ≤ a) (h1 : a < 18446744073709551616) (ka : kindI a < 2) (hb : k.min ≤ wholeOf a ∧ wholeOf a ≤ k.max) (w : World) :
    (convert 63 t (.float .f64 a.toNat)).run Try.prog w = .ok (.int k (wholeOf a)) w := by
  have e : (FloatKind.f64.decode a.toNat).toInt .zero = some (wholeOf a) := toInt_word a h0 h1 ka
  refine run_convert_float_int w 63 t .f64 k _ _ (by rw [Try.underlying63]; rfl) ht ?_
  unfold floatToIntVal
  rw [e]
  simp only
  rw [if_pos hb]

theorem leq_order (a b : Int) (h0 : 0 ≤ a) (h1 : a < 18446744073709551616) (h2 : 0 ≤ b) (h3 : b < 18446744073709551616) (ka : kindI a ≠ 3) (kb : kindI b ≠ 3) :
    (FloatKind.f64.format.order a.toNat b.toNat == some Ordering.lt || FloatKind.f64.format.order a.toNat b.toNat == some Ordering.eq) = decide (rankI a ≤ rankI b) := by
  rw [less_order a b h0 h1 h2 h3, equal_order a b h0 h1 h2 h3]
  unfold lessI equalI
  have a1 : (kindI a == 3) = false := by simp [ka]
  have b1 : (kindI b == 3) = false := by simp [kb]
  rw [a1, b1]
  by_cases c : rankI a ≤ rankI b
  · rw [decide_eq_true c]
    by_cases d : rankI a = rankI b
    · simp [d]
    · have : rankI a < rankI b := by omega
      simp [this]
  · have e1 : ¬ rankI a < rankI b := by omega
    have e2 : ¬ rankI a = rankI b := by omega
    simp [e1, e2, c]

theorem geq_order (a b : Int) (h0 : 0 ≤ a) (h1 : a < 18446744073709551616) (h2 : 0 ≤ b) (h3 : b < 18446744073709551616) (ka : kindI a ≠ 3) (kb : kindI b ≠ 3) :
    (FloatKind.f64.format.order a.toNat b.toNat == some Ordering.gt || FloatKind.f64.format.order a.toNat b.toNat == some Ordering.eq) = decide (rankI b ≤ rankI a) := by
  have o : FloatKind.f64.format.order a.toNat b.toNat = some (compare (rankI a) (rankI b)) := order_eq a b h0 h1 h2 h3 ka kb
  rw [o]
  simp only [compare, compareOfLessAndEq]
  by_cases c : rankI b ≤ rankI a
  · rw [decide_eq_true c, if_neg (by omega)]
    split <;> rfl
  · rw [decide_eq_false c, if_pos (by omega)]
    rfl

theorem neq_order (a b : Int) (h0 : 0 ≤ a) (h1 : a < 18446744073709551616) (h2 : 0 ≤ b) (h3 : b < 18446744073709551616) (ka : kindI a ≠ 3) (kb : kindI b ≠ 3) :
    (FloatKind.f64.format.order a.toNat b.toNat != some Ordering.eq) = !decide (rankI a = rankI b) := by
  show (!(FloatKind.f64.format.order a.toNat b.toNat == some Ordering.eq)) = _
  rw [equal_order a b h0 h1 h2 h3]
  unfold equalI
  have a1 : (kindI a == 3) = false := by simp [ka]
  have b1 : (kindI b == 3) = false := by simp [kb]
  rw [a1, b1]
  by_cases d : rankI a = rankI b <;> simp [d]

theorem c53_parts : kindI 14069245235905429504 = 1 ∧ rankI 14069245235905429504 = -4845873199050653696 ∧ kindI 4845873199050653696 = 1 ∧ rankI 4845873199050653696 = 4845873199050653696 := by decide +kernel

/-- the size of the rank: whether 53 bits hold the number -/
theorem rank_big (a : Int) (h0 : 0 ≤ a) (h1 : a < 18446744073709551616) (k : kindI a = 1) :
    (0 < expI a → rankI a ≤ -4845873199050653696 ∨ 4845873199050653696 ≤ rankI a) ∧ (expI a ≤ 0 → -4845873199050653696 < rankI a ∧ rankI a < 4845873199050653696) := by
  obtain ⟨_, f, e⟩ := read_fin a h0 h1 k
  have own := rung_own (manI a).toNat (expI a) ⟨by have := f.pos; omega, by have := f.lt; omega, f.lo, f.hi, fun h => by have := f.top h; omega⟩
  obtain ⟨f1, f2, f3, f4, f5⟩ := f
  have r : rankI a = withS (negB a.toNat) (rung (manI a).toNat (expI a)) := by
    have := rank_signed (negB a.toNat) _ (rung_le (manI a).toNat (expI a))
    rw [← e] at this
    exact this
  rw [r, own]
  clear r own e
  have m1 : (manI a).toNat < 9007199254740992 := by omega
  constructor
  · intro c
    have m0 : 4503599627370496 ≤ (manI a).toNat := by have := f5 (by omega); omega
    have q : 1075 ≤ (expI a + 1074).toNat := by omega
    generalize (expI a + 1074).toNat = z at *
    generalize (manI a).toNat = m at *
    unfold withS
    split
    · left; omega
    · right; omega
  · intro c
    have q : (expI a + 1074).toNat ≤ 1074 := by omega
    generalize (expI a + 1074).toNat = z at *
    generalize (manI a).toNat = m at *
    unfold withS
    split <;> omega

theorem size_whole (a : Int) (h0 : 0 ≤ a) (h1 : a < 18446744073709551616) (k : kindI a = 1) (c : expI a ≤ 0) : sizeI (manI a) (expI a) = ((magI a / 2 ^ unitE : Nat) : Int) ∧ magI a / 2 ^ unitE < 9007199254740992 := by
  have hu := ue
  obtain ⟨_, f, _⟩ := read_fin a h0 h1 k
  obtain ⟨f1, f2, f3, f4, f5⟩ := f
  have mg : magI a = (manI a).toNat * 2 ^ (expI a + 1074).toNat := by unfold magI; rw [if_pos k]
  by_cases d : expI a < 0
  · rw [size_nat a h0 h1 k d, mg, (mag_split _ _ (by omega)).1, show unitE - (expI a + 1074).toNat = (-expI a).toNat from by omega]
    refine ⟨rfl, Nat.lt_of_le_of_lt (Nat.div_le_self _ _) (by omega)⟩
  · have e0 : expI a = 0 := by omega
    rw [mg, e0, show ((0 : Int) + 1074).toNat = unitE from by omega, Nat.mul_div_cancel _ (Nat.two_pow_pos _)]
    unfold sizeI
    rw [if_neg (by omega), show (0 : Int).toNat = 0 from rfl]
    refine ⟨?_, by omega⟩
    omega

theorem neg_sgn (a : Int) (h0 : 0 ≤ a) (h1 : a < 18446744073709551616) : (sgnI a = 0 ↔ negB a.toNat = false) := by
  rw [sgn_sb a h0 h1]
  cases negB a.toNat <;> simp [sb]

theorem kind0_parts : kindI 0 = 0 ∧ kindI 9223372036854775808 = 0 := by decide +kernel

end Go.Proofs.Ytfhdmglfpkmjbaa
