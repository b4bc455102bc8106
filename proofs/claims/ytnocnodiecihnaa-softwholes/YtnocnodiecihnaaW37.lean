/- Numbers as whole ones, by the language; the document's Whole. -/
import Derived.Test.YtnocnodiecihnaaW36
namespace Go.Proofs.Ytnocnodiecihnaa
open Go.RowKit

/-- the whole part -/
def wholeOf (a : Int) : Int := withS (negB a.toNat) (magI a / 2 ^ unitE)

theorem toInt_word (a : Int) (h0 : 0 ≤ a) (h1 : a < 18446744073709551616) (k : kindI a < 2) : (Ieee.double.read a.toNat).toInt .zero = some (wholeOf a) := by
  have hu := ue
  unfold wholeOf Ieee.Datum.toInt Ieee.Datum.integral
  rcases kind_cases a with c | c | c | c
  · have mg : magI a = 0 := by unfold magI; rw [if_neg (by omega)]
    rw [(read_zero a h0 h1 c).1, mg]
    simp only
    rw [cut_zero, Nat.zero_shiftLeft, Nat.zero_div, Nat.zero_div, signed_eq, Nat.zero_mul]
    rfl
  · obtain ⟨r, f, _⟩ := read_fin a h0 h1 c
    have f3 := f.lo
    have mg : magI a = (manI a).toNat * 2 ^ (expI a + 1074).toNat := by unfold magI; rw [if_pos c]
    rw [r, mg]
    simp only
    rw [cut_zero, Nat.shiftLeft_eq, signed_eq, Nat.pow_zero, Nat.mul_one]
    have e : (manI a).toNat * 2 ^ (expI a).toNat / 2 ^ (-expI a).toNat = (manI a).toNat * 2 ^ (expI a + 1074).toNat / 2 ^ unitE := by
      by_cases d : 0 ≤ expI a
      · rw [show (-expI a).toNat = 0 from by omega, Nat.pow_zero, Nat.div_one, show (expI a + 1074).toNat = (expI a).toNat + unitE from by omega, Nat.pow_add, ← Nat.mul_assoc, Nat.mul_div_cancel _ (Nat.two_pow_pos _)]
      · rw [show (expI a).toNat = 0 from by omega, Nat.pow_zero, Nat.mul_one, (mag_split _ _ (by omega)).1, show unitE - (expI a + 1074).toNat = (-expI a).toNat from by omega]
    rw [e]
    rfl
  · omega
  · omega

theorem conv_run (t : TypeId) (k : IntKind) (ht : Try.prog.underlying t = some (.int k))
    (a : Int) (h0 : 0 ≤ a) (h1 : a < 18446744073709551616) (ka : kindI a < 2) (hb : k.min ≤ wholeOf a ∧ wholeOf a ≤ k.max) (w : World) :
    (convert 23 t (.float .f64 a.toNat)).run Try.prog w = .ok (.int k (wholeOf a)) w := by
  have e : (FloatKind.f64.decode a.toNat).toInt .zero = some (wholeOf a) := toInt_word a h0 h1 ka
  refine run_convert_float_int w 23 t .f64 k _ _ (by rw [Try.underlying23]; rfl) ht ?_
  unfold floatToIntVal
  rw [e]
  simp only
  rw [if_pos hb]

theorem leq_order (a b : Int) (h0 : 0 ≤ a) (h1 : a < 18446744073709551616) (h2 : 0 ≤ b) (h3 : b < 18446744073709551616) (ka : kindI a ≠ 3) (kb : kindI b ≠ 3) :
    (FloatKind.f64.format.order a.toNat b.toNat == some Ordering.lt || FloatKind.f64.format.order a.toNat b.toNat == some Ordering.eq) = decide (rankI a ≤ rankI b) := by
  rw [less_order a b h0 h1 h2 h3, equal_order a b h0 h1 h2 h3]
  unfold lessI equalI
  have a1 : (kindI a == 3) = false := by simp [ka]
  have b1 : (kindI b == 3) = false := by simp [kb]
  rw [a1, b1]
  by_cases c : rankI a ≤ rankI b
  · rw [decide_eq_true c]
    by_cases d : rankI a = rankI b
    · simp [d]
    · have : rankI a < rankI b := by omega
      simp [this]
  · have e1 : ¬ rankI a < rankI b := by omega
    have e2 : ¬ rankI a = rankI b := by omega
    simp [e1, e2, c]

theorem geq_order (a b : Int) (h0 : 0 ≤ a) (h1 : a < 18446744073709551616) (h2 : 0 ≤ b) (h3 : b < 18446744073709551616) (ka : kindI a ≠ 3) (kb : kindI b ≠ 3) :
    (FloatKind.f64.format.order a.toNat b.toNat == some Ordering.gt || FloatKind.f64.format.order a.toNat b.toNat == some Ordering.eq) = decide (rankI b ≤ rankI a) := by
  have o : FloatKind.f64.format.order a.toNat b.toNat = some (compare (rankI a) (rankI b)) := order_eq a b h0 h1 h2 h3 ka kb
  rw [o]
  simp only [compare, compareOfLessAndEq]
  by_cases c : rankI b ≤ rankI a
  · rw [decide_eq_true c, if_neg (by omega)]
    split <;> rfl
  · rw [decide_eq_false c, if_pos (by omega)]
    rfl

theorem neq_order (a b : Int) (h0 : 0 ≤ a) (h1 : a < 18446744073709551616) (h2 : 0 ≤ b) (h3 : b < 18446744073709551616) (ka : kindI a ≠ 3) (kb : kindI b ≠ 3) :
    (FloatKind.f64.format.order a.toNat b.toNat != some Ordering.eq) = !decide (rankI a = rankI b) := by
  show (!(FloatKind.f64.format.order a.toNat b.toNat == some Ordering.eq)) = _
  rw [equal_order a b h0 h1 h2 h3]
  unfold equalI
  have a1 : (kindI a == 3) = false := by simp [ka]
  have b1 : (kindI b == 3) = false := by simp [kb]
  rw [a1, b1]
  by_cases d : rankI a = rankI b <;> simp [d]

theorem c53_parts : kindI 14069245235905429504 = 1 ∧ rankI 14069245235905429504 = -4845873199050653696 ∧ kindI 4845873199050653696 = 1 ∧ rankI 4845873199050653696 = 4845873199050653696 := by decide +kernel

/-- the size of the rank: whether 53 bits hold the number -/
theorem rank_big (a : Int) (h0 : 0 ≤ a) (h1 : a < 18446744073709551616) (k : kindI a = 1) :
    (0 < expI a → rankI a ≤ -4845873199050653696 ∨ 4845873199050653696 ≤ rankI a) ∧ (expI a ≤ 0 → -4845873199050653696 < rankI a ∧ rankI a < 4845873199050653696) := by
  obtain ⟨_, f, e⟩ := read_fin a h0 h1 k
  have own := rung_own (manI a).toNat (expI a) ⟨by have := f.pos; omega, by have := f.lt; omega, f.lo, f.hi, fun h => by have := f.top h; omega⟩
  obtain ⟨f1, f2, f3, f4, f5⟩ := f
  have r : rankI a = withS (negB a.toNat) (rung (manI a).toNat (expI a)) := by
    have := rank_signed (negB a.toNat) _ (rung_le (manI a).toNat (expI a))
    rw [← e] at this
    exact this
  rw [r, own]
  clear r own e
  have m1 : (manI a).toNat < 9007199254740992 := by omega
  constructor
  · intro c
    have m0 : 4503599627370496 ≤ (manI a).toNat := by have := f5 (by omega); omega
    have q : 1075 ≤ (expI a + 1074).toNat := by omega
    generalize (expI a + 1074).toNat = z at *
    generalize (manI a).toNat = m at *
    unfold withS
    split
    · left; omega
    · right; omega
  · intro c
    have q : (expI a + 1074).toNat ≤ 1074 := by omega
    generalize (expI a + 1074).toNat = z at *
    generalize (manI a).toNat = m at *
    unfold withS
    split <;> omega

theorem size_whole (a : Int) (h0 : 0 ≤ a) (h1 : a < 18446744073709551616) (k : kindI a = 1) (c : expI a ≤ 0) : sizeI (manI a) (expI a) = ((magI a / 2 ^ unitE : Nat) : Int) ∧ magI a / 2 ^ unitE < 9007199254740992 := by
  have hu := ue
  obtain ⟨_, f, _⟩ := read_fin a h0 h1 k
  obtain ⟨f1, f2, f3, f4, f5⟩ := f
  have mg : magI a = (manI a).toNat * 2 ^ (expI a + 1074).toNat := by unfold magI; rw [if_pos k]
  by_cases d : expI a < 0
  · rw [size_nat a h0 h1 k d, mg, (mag_split _ _ (by omega)).1, show unitE - (expI a + 1074).toNat = (-expI a).toNat from by omega]
    refine ⟨rfl, Nat.lt_of_le_of_lt (Nat.div_le_self _ _) (by omega)⟩
  · have e0 : expI a = 0 := by omega
    rw [mg, e0, show ((0 : Int) + 1074).toNat = unitE from by omega, Nat.mul_div_cancel _ (Nat.two_pow_pos _)]
    unfold sizeI
    rw [if_neg (by omega), show (0 : Int).toNat = 0 from rfl]
    refine ⟨?_, by omega⟩
    omega

theorem neg_sgn (a : Int) (h0 : 0 ≤ a) (h1 : a < 18446744073709551616) : (sgnI a = 0 ↔ negB a.toNat = false) := by
  rw [sgn_sb a h0 h1]
  cases negB a.toNat <;> simp [sb]

theorem kind0_parts : kindI 0 = 0 ∧ kindI 9223372036854775808 = 0 := by decide +kernel

theorem refwhole_any (a : Int) (w : World) (h0 : 0 ≤ a) (h1 : a < 18446744073709551616) :
    Calls Try.prog 25 #[.int .u64 a] w fun e w' => e = .returned (.tuple #[.int .i64 (wholeI a).1, .bool (wholeI a).2]) ∧ Below w.heap.size w w' := by
  have va := fun w => val_any a w
  have mt := fun w => mathTrunc_any a h0 h1 w
  obtain ⟨z1, z2⟩ := kind0_parts
  have not1 : a ≠ 0 → kindI a ≠ 1 → wholeI a = (0, false) := fun x y => by unfold wholeI; rw [if_neg x, if_pos (Or.inl y)]
  by_cases k3 : kindI a = 3
  · rw [not1 (fun h => by rw [h] at k3; omega) (by omega)]
    refine rw_frac a _ w va (fun w => (mt w).mono ?_)
    rintro e w' ⟨n, he, hb, M⟩
    refine ⟨n, he, hb, ?_⟩
    obtain ⟨kn, bn⟩ := M.nan k3
    have o := order_nan a ((n : Nat) : Int) h0 h1 (by omega) (by omega) (Or.inl k3)
    rw [Int.toNat_natCast] at o
    have o' : FloatKind.f64.format.order a.toNat n = none := o
    rw [o']
    rfl
  obtain ⟨t0, t1⟩ := trunc_bd a h0 h1
  have kt := trunc_kind a h0 h1 k3
  have ne := neq_order a (truncI a) h0 h1 t0 t1 k3 kt
  by_cases c : rankI a = rankI (truncI a)
  · rw [decide_eq_true c] at ne
    have ct : ∀ w : World, Calls Try.prog 52 #[.float .f64 a.toNat] w fun e w' => ∃ n, e = .returned (.float .f64 n) ∧ Below w.heap.size w w' ∧ (FloatKind.f64.format.order a.toNat n != some Ordering.eq) = false := fun w => by
      refine (mt w).mono ?_
      rintro e w' ⟨n, he, hb, M⟩
      exact ⟨n, he, hb, by rw [M.num k3]; exact ne⟩
    obtain ⟨p1, p2, p3, p4⟩ := c53_parts
    have lo := leq_order a 14069245235905429504 h0 h1 (by omega) (by omega) k3 (by rw [p1]; decide)
    have hi := geq_order a 4845873199050653696 h0 h1 (by omega) (by omega) k3 (by rw [p3]; decide)
    have n1 : (14069245235905429504 : Int).toNat = 14069245235905429504 := rfl
    have n2 : (4845873199050653696 : Int).toNat = 4845873199050653696 := rfl
    rw [p2, n1] at lo
    rw [p4, n2] at hi
    have big : rankI a ≤ -4845873199050653696 ∨ 4845873199050653696 ≤ rankI a → Calls Try.prog 25 #[.int .u64 a] w fun e w' => e = .returned (.tuple #[.int .i64 0, .bool false]) ∧ Below w.heap.size w w' := fun h => by
      by_cases d : rankI a ≤ -4845873199050653696
      · rw [decide_eq_true d] at lo
        exact rw_low a _ w va ct lo
      · rw [decide_eq_false d] at lo
        rw [decide_eq_true (by omega)] at hi
        exact rw_high a _ w va ct lo hi
    rcases kind_cases a with k | k | k | k
    · have r0 : rankI a = 0 := by
        have := (read_zero a h0 h1 k).2
        rw [this]
        cases negB a.toNat <;> rfl
      rw [r0, decide_eq_false (by omega)] at lo hi
      rcases zero_of_rank a r0 with z | z
      · have wz : wholeOf a = 0 := by
          unfold wholeOf magI
          rw [if_neg (by omega), Nat.zero_div]
          cases negB a.toNat <;> rfl
        have hc := fun w => conv_run 2 .i64 Try.underlying2 a h0 h1 (by omega) (by rw [wz]; decide) w
        rw [wz] at hc
        have e : wholeI a = (0, true) := by unfold wholeI; rw [if_pos z]
        rw [e]
        exact rw_is a _ w va ct 0 lo hi (by rw [z]; decide) hc
      · have e : wholeI a = (0, false) := not1 (by omega) (by omega)
        rw [e]
        exact rw_neg0 a _ w va ct lo hi (by rw [z]; decide)
    · have rb := rank_big a h0 h1 k
      have an : a ≠ 0 := fun h => by rw [h] at k; omega
      have rn : rankI a ≠ 0 := fun h => by
        rcases zero_of_rank a h with z | z
        · exact an z
        · rw [z] at k; omega
      have ta : truncI a = a := word_of_rank _ _ t0 t1 h0 h1 c.symm rn
      by_cases d : 0 < expI a
      · have e : wholeI a = (0, false) := by unfold wholeI; rw [if_neg an, if_pos (Or.inr (Or.inl d))]
        rw [e]
        exact big (rb.1 d)
      · obtain ⟨b0, b1⟩ := rb.2 (by omega)
        rw [decide_eq_false (by omega)] at lo hi
        obtain ⟨sz, sl⟩ := size_whole a h0 h1 k (by omega)
        have e : wholeI a = (wholeOf a, true) := by
          unfold wholeI wholeOf withS
          rw [if_neg an, if_neg (by simp [k, ta]; omega), sz]
          have ns := neg_sgn a h0 h1
          generalize negB a.toNat = s at *
          cases s
          · rw [if_pos (ns.2 rfl), if_neg (by decide)]
          · rw [if_neg (fun h => by have := ns.1 h; cases this), if_pos rfl]
        have wb : -9007199254740992 < wholeOf a ∧ wholeOf a < 9007199254740992 := by
          unfold wholeOf withS
          clear e sz
          generalize magI a / 2 ^ unitE = q at *
          split <;> omega
        have mn : IntKind.i64.min = -9223372036854775808 := by decide
        have mx : IntKind.i64.max = 9223372036854775807 := by decide
        rw [e]
        exact rw_is a _ w va ct _ lo hi (by rw [beq_eq_false_iff_ne]; intro h; rw [h] at k; omega) (fun w => conv_run 2 .i64 Try.underlying2 a h0 h1 (by omega) (by rw [mn, mx]; omega) w)
    · have e : wholeI a = (0, false) := not1 (fun h => by rw [h] at k; omega) (by omega)
      rw [e]
      have r := (kind_fld a h0 h1).2.1.1 k
      exact big (by omega)
    · exact absurd k k3
  · rw [decide_eq_false c] at ne
    have e : wholeI a = (0, false) := by
      unfold wholeI
      rw [if_neg (fun h => by
        subst h
        exact c (by decide +kernel)), if_pos (Or.inr (Or.inr (fun h => c (by rw [h]))))]
    rw [e]
    refine rw_frac a _ w va (fun w => (mt w).mono ?_)
    rintro e w' ⟨n, he, hb, M⟩
    exact ⟨n, he, hb, by rw [M.num k3]; exact ne⟩

end Go.Proofs.Ytnocnodiecihnaa
