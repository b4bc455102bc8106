/- Plain: the program's rounding of a word of 64 bits is the nearest rung. -/
import Derived.Test.YtfhdmglfpkmjbaaM3
namespace Go.Proofs.Ytfhdmglfpkmjbaa

theorem log2_word (M : Nat) (h0 : 9223372036854775808 ≤ M) (h1 : M < 18446744073709551616) : M.log2 = 63 := by
  rw [Nat.log2_eq_iff (by omega)]
  exact ⟨h0, h1⟩

theorem last_word (M : Nat) (E : Int) (h0 : 9223372036854775808 ≤ M) (h1 : M < 18446744073709551616) : lastPlace M E = max (E + 11) (-1074) := by
  unfold lastPlace; rw [log2_word M h0 h1]; congr 1; omega

theorem rung_mid (M : Nat) (E : Int) (D : Nat) (h0 : 9223372036854775808 ≤ M) (h1 : M < 18446744073709551616) (hD : (D : Int) = max 11 (-1074 - E)) :
    rung M E = min ((E + D + 1074).toNat * 4503599627370496 + rne M D) 9218868437227405312 := by
  have hL := last_word M E h0 h1
  unfold rung
  rw [if_neg (by omega), hL]
  have e1 : max (E + 11) (-1074) = E + D := by omega
  rw [e1, show (E - (E + (D : Int))).toNat = 0 from by omega, show (E + (D : Int) - E).toNat = D from by omega, Nat.pow_zero, Nat.mul_one]

theorem rung_big (M : Nat) (E : Int) (h0 : 9223372036854775808 ≤ M) (h1 : M < 18446744073709551616) (hE : 960 < E) : rung M E = 9218868437227405312 := by
  rw [rung_mid M E 11 h0 h1 (by omega)]
  have := rne_lower M 11 52 h0
  generalize rne M 11 = r at *
  have h2 : 4503599627370496 ≤ r := this
  have h3 : 2046 ≤ (E + (11 : Nat) + 1074).toNat := by omega
  generalize (E + (11 : Nat) + 1074).toNat = q at *
  omega

theorem rung_tiny (M : Nat) (E : Int) (h0 : 9223372036854775808 ≤ M) (h1 : M < 18446744073709551616) (hE : 64 < -1074 - E) : rung M E = 0 := by
  obtain ⟨D, hD⟩ : ∃ D : Nat, (D : Int) = -1074 - E := ⟨(-1074 - E).toNat, by omega⟩
  rw [rung_mid M E D h0 h1 (by omega)]
  have hp : 2 ^ 65 ≤ 2 ^ D := Nat.pow_le_pow_right (by decide) (by omega)
  have hp' : 36893488147419103232 ≤ 2 ^ D := hp
  have e1 : M / 2 ^ D = 0 := Nat.div_eq_of_lt (by omega)
  have e2 : M % 2 ^ D = M := Nat.mod_eq_of_lt (by omega)
  have e3 : rne M D = 0 := by
    unfold rne
    rw [e1, e2]
    generalize 2 ^ D = p at *
    rw [if_neg (by omega)]
  rw [e3, show (E + (D : Int) + 1074).toNat = 0 from by omega]
  rfl

theorem rne_word_le (M D : Nat) (h1 : M < 18446744073709551616) (hD : 11 ≤ D) : rne M D ≤ 9007199254740992 := by
  refine rne_bound M D 53 (Nat.lt_of_lt_of_le h1 ?_)
  exact Nat.pow_le_pow_right (n := 2) (by decide) (show 64 ≤ 53 + D by omega)

theorem rung_in (M : Nat) (E : Int) (D : Nat) (h0 : 9223372036854775808 ≤ M) (h1 : M < 18446744073709551616) (hD : (D : Int) = max 11 (-1074 - E)) (hE : E ≤ 960) :
    rung M E = (E + D + 1074).toNat * 4503599627370496 + rne M D := by
  rw [rung_mid M E D h0 h1 hD]
  have h2 := rne_word_le M D h1 (by omega)
  have h3 : (E + (D : Int) + 1074).toNat ≤ 2045 := by omega
  generalize rne M D = r at *
  generalize (E + (D : Int) + 1074).toNat = q at *
  omega

/-- the rest as the program looks at it: brought to the top of a word -/
theorem rest_top (M D : Nat) (hD : D ≤ 64) : M * 2 ^ (64 - D) % 18446744073709551616 = M % 2 ^ D * 2 ^ (64 - D) := by
  have e : (18446744073709551616 : Nat) = 2 ^ D * 2 ^ (64 - D) := by
    rw [← Nat.pow_add, show D + (64 - D) = 64 from by omega]
  rw [e, Nat.mul_mod_mul_right]

theorem rne_up (M D : Nat) (h1 : 1 ≤ D) (hD : D ≤ 64) :
    rne M D = M / 2 ^ D + (if 9223372036854775808 < M % 2 ^ D * 2 ^ (64 - D) ∨ (M % 2 ^ D * 2 ^ (64 - D) = 9223372036854775808 ∧ M / 2 ^ D % 2 = 1) then 1 else 0) := by
  unfold rne
  have e : (9223372036854775808 : Nat) = 2 ^ (D - 1) * 2 ^ (64 - D) := by
    rw [← Nat.pow_add, show D - 1 + (64 - D) = 63 from by omega]
  have p := Nat.two_pow_pos (64 - D)
  have e2 : 2 ^ D = 2 * 2 ^ (D - 1) := by
    conv => lhs; rw [show D = D - 1 + 1 from by omega, Nat.pow_succ]
    omega
  have c1 : (9223372036854775808 < M % 2 ^ D * 2 ^ (64 - D)) ↔ 2 ^ D < 2 * (M % 2 ^ D) := by
    rw [e, Nat.mul_lt_mul_right p]; omega
  have c2 : (M % 2 ^ D * 2 ^ (64 - D) = 9223372036854775808) ↔ 2 ^ D = 2 * (M % 2 ^ D) := by
    rw [e, Nat.mul_left_inj (by omega)]; omega
  simp only [c1, c2]

end Go.Proofs.Ytfhdmglfpkmjbaa
