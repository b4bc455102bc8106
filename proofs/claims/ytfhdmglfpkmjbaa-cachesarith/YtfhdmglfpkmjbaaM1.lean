/- Plain mathematics of rounding: nothing of the program. -/
import Ieee.Arith
import Derived.Laws.BitsAllLaws
namespace Go.Proofs.Ytfhdmglfpkmjbaa

/-- n / 2^d, to the nearest, ties to even. -/
def rne (n d : Nat) : Nat :=
  n / 2 ^ d + (if 2 ^ d < 2 * (n % 2 ^ d) ∨ (2 ^ d = 2 * (n % 2 ^ d) ∧ n / 2 ^ d % 2 = 1) then 1 else 0)

theorem rne_zero (n : Nat) : rne n 0 = n := by
  simp [rne, Nat.mod_one]

theorem lt_two_log2 (n : Nat) : n < 2 ^ (n.log2 + 1) := Nat.lt_log2_self

theorem cut_even (neg : Bool) (n d : Nat) : Ieee.Toward.even.cut neg n d = rne n d := by
  unfold Ieee.Toward.cut rne
  simp only [Nat.one_shiftLeft]
  by_cases h : d ≤ n.log2 + 2
  · rw [Nat.min_eq_left h]
    by_cases h1 : 2 ^ d < 2 * (n % 2 ^ d)
    · simp [h1]
    · by_cases h2 : 2 ^ d = 2 * (n % 2 ^ d)
      · by_cases h3 : n / 2 ^ d % 2 = 1
        · simp [← h2, h3]
        · simp [← h2, h3]
      · simp [h1, h2]
  · have h' : n.log2 + 2 ≤ d := by omega
    rw [Nat.min_eq_right h']
    have hn := lt_two_log2 n
    have e2 : 2 ^ (n.log2 + 2) = 2 * 2 ^ (n.log2 + 1) := by rw [Nat.pow_succ 2 (n.log2 + 1)]; omega
    have hd : 2 ^ (n.log2 + 2) ≤ 2 ^ d := Nat.pow_le_pow_right (by decide) h'
    have a1 : n / 2 ^ (n.log2 + 2) = 0 := Nat.div_eq_of_lt (by omega)
    have a2 : n % 2 ^ (n.log2 + 2) = n := Nat.mod_eq_of_lt (by omega)
    have b1 : n / 2 ^ d = 0 := Nat.div_eq_of_lt (by omega)
    have b2 : n % 2 ^ d = n := Nat.mod_eq_of_lt (by omega)
    rw [a1, a2, b1, b2]
    have c1 : ¬ 2 ^ (n.log2 + 2) < 2 * n := by omega
    have c2 : ¬ 2 ^ d < 2 * n := by omega
    simp [c1, c2]

theorem rne_mul_pow (n d k : Nat) : rne (n * 2 ^ k) (d + k) = rne n d := by
  unfold rne
  have hk : 0 < 2 ^ k := Nat.two_pow_pos k
  have e1 : n * 2 ^ k / 2 ^ (d + k) = n / 2 ^ d := by
    rw [Nat.pow_add]; exact Nat.mul_div_mul_right _ _ hk
  have e2 : n * 2 ^ k % 2 ^ (d + k) = n % 2 ^ d * 2 ^ k := by
    rw [Nat.pow_add]; exact Nat.mul_mod_mul_right _ _ _
  rw [e1, e2, Nat.pow_add]
  have c1 : (2 ^ d * 2 ^ k < 2 * (n % 2 ^ d * 2 ^ k)) ↔ 2 ^ d < 2 * (n % 2 ^ d) := by
    rw [← Nat.mul_assoc]; exact Nat.mul_lt_mul_right hk
  have c2 : (2 ^ d * 2 ^ k = 2 * (n % 2 ^ d * 2 ^ k)) ↔ 2 ^ d = 2 * (n % 2 ^ d) := by
    rw [← Nat.mul_assoc]; exact Nat.mul_left_inj (by omega)
  simp only [c1, c2]

theorem rne_mono {n m : Nat} (d : Nat) (h : n ≤ m) : rne n d ≤ rne m d := by
  unfold rne
  have hq : n / 2 ^ d ≤ m / 2 ^ d := Nat.div_le_div_right h
  by_cases e : n / 2 ^ d = m / 2 ^ d
  · have hn := Nat.div_add_mod n (2 ^ d)
    have hm := Nat.div_add_mod m (2 ^ d)
    rw [e] at hn
    have hr : n % 2 ^ d ≤ m % 2 ^ d := by omega
    rw [e]
    split
    · split
      · omega
      · omega
    · split <;> omega
  · split <;> split <;> omega

/-- what is lost stays marked in the lowest bit -/
def stk (M k : Nat) : Nat := if M % 2 ^ k = 0 then M / 2 ^ k else M / 2 ^ k ||| 1

theorem or_one (q : Nat) : q ||| 1 = 2 * (q / 2) + 1 := by
  have h := nat_join 1 (2 * (q / 2)) 1 (by omega) (by omega)
  rw [← h]
  apply Nat.eq_of_testBit_eq
  intro i
  rw [Nat.testBit_or, Nat.testBit_or]
  cases i with
  | zero => simp
  | succ i => simp [Nat.testBit_succ]

theorem rne_stk (M k d : Nat) (hd : 2 ≤ d) : rne (stk M k) d = rne M (d + k) := by
  unfold stk
  have hk : 0 < 2 ^ k := Nat.two_pow_pos k
  split
  · rename_i h
    have e : M = M / 2 ^ k * 2 ^ k := by
      have := Nat.div_add_mod M (2 ^ k); rw [h] at this; rw [Nat.mul_comm]; omega
    conv => rhs; rw [e]
    rw [rne_mul_pow]
  · rename_i h
    obtain ⟨d, rfl⟩ : ∃ c, d = c + 2 := ⟨d - 2, by omega⟩
    rw [or_one]
    have hM := Nat.div_add_mod M (2 ^ k)
    have hr : M % 2 ^ k < 2 ^ k := Nat.mod_lt _ hk
    generalize hq : M / 2 ^ k = q at *
    generalize hrr : M % 2 ^ k = r at *
    have p2 : 2 ^ (d + 2) = 4 * 2 ^ d := by rw [Nat.pow_add]; omega
    have hc : 0 < 2 ^ d := Nat.two_pow_pos d
    -- quotient and rest by 2^(d+2)
    have eq1 : (2 * (q / 2) + 1) / 2 ^ (d + 2) = q / 2 ^ (d + 2) := by
      rw [show d + 2 = 1 + (d + 1) from by omega, Nat.pow_add, ← Nat.div_div_eq_div_mul, ← Nat.div_div_eq_div_mul]
      congr 1; omega
    have eq2 : M / 2 ^ (d + 2 + k) = q / 2 ^ (d + 2) := by
      rw [Nat.add_comm, Nat.pow_add, ← Nat.div_div_eq_div_mul, hq]
    have em : M % 2 ^ (d + 2 + k) = (q % 2 ^ (d + 2)) * 2 ^ k + r := by
      have h1 := Nat.div_add_mod M (2 ^ (d + 2 + k))
      have h2 := Nat.div_add_mod q (2 ^ (d + 2))
      rw [eq2] at h1
      have : M = 2 ^ (d + 2 + k) * (q / 2 ^ (d + 2)) + ((q % 2 ^ (d + 2)) * 2 ^ k + r) := by
        rw [← hM]
        conv => lhs; rw [← h2]
        rw [Nat.pow_add 2 (d + 2) k]
        grind
      omega
    have es : (2 * (q / 2) + 1) % 2 ^ (d + 2) = 2 * (q % 2 ^ (d + 2) / 2) + 1 := by
      have h1 := Nat.div_add_mod (2 * (q / 2) + 1) (2 ^ (d + 2))
      have h2 := Nat.div_add_mod q (2 ^ (d + 2))
      rw [eq1] at h1
      rw [p2] at h1 h2 ⊢
      generalize 2 ^ d = c at *
      generalize q / (4 * c) = t at *
      have e4 : 4 * c * t = 2 * (2 * c * t) := by grind
      generalize 2 * c * t = u at *
      omega
    unfold rne
    rw [eq1, eq2, em, es]
    have hlt : q % 2 ^ (d + 2) < 2 ^ (d + 2) := Nat.mod_lt _ (Nat.two_pow_pos _)
    rw [Nat.pow_add 2 (d + 2) k, p2]
    rw [p2] at hlt
    generalize hx : q % (4 * 2 ^ d) = x at *
    generalize 2 ^ d = c at *
    generalize 2 ^ k = b at *
    generalize q / (4 * c) = t at *
    -- 4 c < 2 (2 (x/2) + 1)  iff  4 c b < 2 (x b + r)
    have key : (4 * c < 2 * (2 * (x / 2) + 1)) ↔ 4 * c * b < 2 * (x * b + r) := by
      constructor
      · intro hh
        have : 2 * c ≤ x := by omega
        have := Nat.mul_le_mul_right b this
        have e1 : 4 * c * b = 2 * (2 * c * b) := by grind
        rw [e1]; omega
      · intro hh
        by_cases hx2 : 2 * c ≤ x
        · omega
        · exfalso
          have : x + 1 ≤ 2 * c := by omega
          have := Nat.mul_le_mul_right b this
          have e1 : 4 * c * b = 2 * (2 * c * b) := by grind
          have e2 : (x + 1) * b = x * b + b := by grind
          omega
    have ne1 : ¬ (4 * c = 2 * (2 * (x / 2) + 1)) := by omega
    have ne2 : ¬ (4 * c * b = 2 * (x * b + r)) := by
      intro hh
      have e1 : 4 * c * b = 2 * (2 * c * b) := by grind
      by_cases hx2 : 2 * c ≤ x
      · have := Nat.mul_le_mul_right b hx2
        omega
      · have : x + 1 ≤ 2 * c := by omega
        have := Nat.mul_le_mul_right b this
        have e2 : (x + 1) * b = x * b + b := by grind
        omega
    simp only [key, ne1, ne2, false_and, or_false]

end Go.Proofs.Ytfhdmglfpkmjbaa
