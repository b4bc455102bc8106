/- Plain: the value of a rounded number that needed no rounding. -/
import Derived.Test.YtfhdmglfpkmjbaaM10
import Derived.Test.YtfhdmglfpkmjbaaM7
namespace Go.Proofs.Ytfhdmglfpkmjbaa

theorem valN_low (r : Nat) (h : r < 4503599627370496) : valN r = r := by unfold valN; rw [if_pos h]
theorem valN_high (q m : Nat) (h0 : 4503599627370496 ≤ m) (h1 : m < 9007199254740992) : valN (q * 4503599627370496 + m) = m * 2 ^ q := by
  unfold valN
  rw [if_neg (by omega), show (q * 4503599627370496 + m) % 4503599627370496 = m - 4503599627370496 from by omega, show (q * 4503599627370496 + m) / 4503599627370496 - 1 = q from by omega, show 4503599627370496 + (m - 4503599627370496) = m from by omega]

/-- what has no more bits than there is room for is kept -/
theorem val_rung (m : Nat) (e : Int) (hm : m < 9007199254740992) (he : -1074 ≤ e) (he1 : e ≤ 971) : valN (rung m e) = m * 2 ^ (e + 1074).toNat := by
  by_cases hz : m = 0
  · subst hz
    have : rung 0 e = 0 := by simp [rung]
    rw [this, valN_low 0 (by decide)]; simp
  have l1 := Nat.log2_self_le hz
  have l2 := lt_two_log2 m
  have l3 := (Nat.log2_lt hz).2 (show m < 2 ^ 53 from hm)
  obtain ⟨j, hj⟩ : ∃ j : Nat, e = -1074 + j := ⟨(e + 1074).toNat, by omega⟩
  subst hj
  rw [show (-1074 + (j : Int) + 1074).toNat = j from by omega]
  by_cases c : 52 - m.log2 ≤ j
  · obtain ⟨k, hk⟩ : ∃ k, k = 52 - m.log2 := ⟨_, rfl⟩
    have p := Nat.two_pow_pos k
    have b1 : 4503599627370496 ≤ m * 2 ^ k := by
      have := Nat.mul_le_mul_right (2 ^ k) l1
      rw [← Nat.pow_add, show m.log2 + k = 52 from by omega] at this
      exact this
    have b2 : m * 2 ^ k < 9007199254740992 := by
      have := (Nat.mul_lt_mul_right p).2 l2
      rw [← Nat.pow_add, show m.log2 + 1 + k = 53 from by omega] at this
      exact this
    obtain ⟨q, hq⟩ : ∃ q, j = q + k := ⟨j - k, by omega⟩
    have sc := rung_scale m k (-1074 + (q : Int))
    rw [show -1074 + (q : Int) + (k : Int) = -1074 + (j : Int) from by omega] at sc
    have own := rung_own (m * 2 ^ k) (-1074 + (q : Int)) ⟨by omega, by omega, by omega, by omega, fun _ => by omega⟩
    rw [← sc, own, show (-1074 + (q : Int) + 1074).toNat = q from by omega, valN_high q _ b1 b2, hq, Nat.pow_add, Nat.mul_assoc, Nat.mul_comm (2 ^ q)]
  · have sc := rung_scale m j (-1074)
    have b : m * 2 ^ j < 4503599627370496 := by
      have p := Nat.two_pow_pos j
      have := (Nat.mul_lt_mul_right p).2 l2
      rw [← Nat.pow_add] at this
      have h : 2 ^ (m.log2 + 1 + j) ≤ 2 ^ 52 := Nat.pow_le_pow_right (by decide) (by omega)
      have h' : 2 ^ (m.log2 + 1 + j) ≤ 4503599627370496 := h
      omega
    have pos : 0 < m * 2 ^ j := Nat.mul_pos (by omega) (Nat.two_pow_pos j)
    have own := rung_own (m * 2 ^ j) (-1074) ⟨by omega, by omega, by omega, by omega, fun h => by omega⟩
    rw [← sc, own, show ((-1074 : Int) + 1074).toNat = 0 from rfl, Nat.zero_mul, Nat.zero_add, valN_low _ b]

/-- the value of a rank -/
def valR (r : Int) : Int := if r < 0 then -((valN (-r).toNat : Nat) : Int) else ((valN r.toNat : Nat) : Int)

theorem val_of_rank (a : Int) (h0 : 0 ≤ a) : valI a = valR (rankI a) := by
  unfold valI valR rankI
  by_cases c : a < 9223372036854775808
  · rw [if_pos c, if_pos c, if_neg (by omega)]
  · rw [if_neg c, if_neg c]
    by_cases d : a = 9223372036854775808
    · subst d
      rfl
    · rw [if_pos (by omega), show (-(9223372036854775808 - a)).toNat = (a - 9223372036854775808).toNat from by omega]

/-- a number's parts have its value -/
theorem val_parts (a : Int) (h0 : 0 ≤ a) (h : a < 18446744073709551616) (k : kindI a = 1) :
    valI a = if negB a.toNat then -(((manI a).toNat * 2 ^ (expI a + 1074).toNat : Nat) : Int) else (((manI a).toNat * 2 ^ (expI a + 1074).toNat : Nat) : Int) := by
  obtain ⟨_, f, e⟩ := read_fin a h0 h k
  obtain ⟨f1, f2, f3, f4, _⟩ := f
  have v := val_rung (manI a).toNat (expI a) (by omega) f3 f4
  have rl := rung_le (manI a).toNat (expI a)
  rw [← v]
  generalize rung (manI a).toNat (expI a) = R at *
  generalize negB a.toNat = s at *
  cases s
  · have e' : a = (R : Int) := by rw [e]; simp [sb]
    unfold valI
    rw [if_pos (by omega), e', Int.toNat_natCast, if_neg (by decide)]
  · have e' : a = 9223372036854775808 + (R : Int) := by rw [e]; simp [sb]
    unfold valI
    rw [if_neg (by omega), e', show (9223372036854775808 + (R : Int) - 9223372036854775808).toNat = R from by omega, if_pos rfl]

/-- a word that is not 0 in size is known by its rank -/
theorem word_of_rank (a b : Int) (h0 : 0 ≤ a) (h1 : a < 18446744073709551616) (h2 : 0 ≤ b) (h3 : b < 18446744073709551616) (hr : rankI a = rankI b) (hz : rankI b ≠ 0) : a = b := by
  unfold rankI at hr hz
  split at hr <;> split at hr <;> split at hz <;> omega

theorem zero_of_rank (a : Int) (hr : rankI a = 0) : a = 0 ∨ a = 9223372036854775808 := by
  unfold rankI at hr
  split at hr <;> omega

end Go.Proofs.Ytfhdmglfpkmjbaa
