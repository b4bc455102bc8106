/- Plain: products and quotients of words of 64 bits, rounded; the school method for division. -/
import Derived.Test.YtfhdmglfpkmjbaaM7
namespace Go.Proofs.Ytfhdmglfpkmjbaa

/-- the product of two words that are scaled, its lower half marked: the product of the parts -/
theorem rung_product (m n c d : Nat) (i j : Int) (hM : 9223372036854775808 ≤ m * 2 ^ c) (hN : 9223372036854775808 ≤ n * 2 ^ d) :
    rung (stk (m * 2 ^ c * (n * 2 ^ d)) 64) (i - c + (j - d) + 64) = rung (m * n) (i + j) := by
  have h := rung_stk (m * 2 ^ c * (n * 2 ^ d)) 64 (i - c + (j - d)) (Or.inl (by
    have h1 := Nat.mul_le_mul hM hN
    show 18014398509481984 ≤ m * 2 ^ c * (n * 2 ^ d) / 18446744073709551616
    generalize m * 2 ^ c * (n * 2 ^ d) = P at *
    omega))
  have e : m * 2 ^ c * (n * 2 ^ d) = m * n * 2 ^ (c + d) := by rw [Nat.pow_add]; grind
  rw [show i - (c : Int) + (j - (d : Int)) + 64 = i - (c : Int) + (j - (d : Int)) + ((64 : Nat) : Int) from rfl, h, e, rung_scale]
  congr 1
  omega

/-- m times 2^t divided by n, to one bit behind the point, what is left marked -/
def quoN (m n t : Nat) : Nat := 2 * (m * 2 ^ t / n) + (if m * 2 ^ t % n = 0 then 0 else 1)

theorem quo_stk (m n t k : Nat) (hn : 0 < n) (hk : 1 ≤ k) : stk (quoN m n (t + k)) k = quoN m n t := by
  obtain ⟨k, rfl⟩ : ∃ c, k = c + 1 := ⟨k - 1, by omega⟩
  unfold quoN
  have e : m * 2 ^ (t + (k + 1)) = m * 2 ^ t * 2 ^ (k + 1) := by rw [Nat.pow_add, Nat.mul_assoc]
  rw [e]
  generalize m * 2 ^ t = a
  have pk := Nat.two_pow_pos k
  have e2 : a * 2 ^ (k + 1) = 2 * a * 2 ^ k := by rw [Nat.pow_succ]; grind
  -- x = a * 2^(k+1): quotient and rest
  have hx := Nat.div_add_mod (a * 2 ^ (k + 1)) n
  have hxl := Nat.mod_lt (a * 2 ^ (k + 1)) hn
  have hy := Nat.div_add_mod (2 * a) n
  have hyl := Nat.mod_lt (2 * a) hn
  have hz := Nat.div_add_mod a n
  have hzl := Nat.mod_lt a hn
  -- floor (x / n / 2^k) = floor (2a / n)
  have q1 : a * 2 ^ (k + 1) / n / 2 ^ k = 2 * a / n := by
    rw [Nat.div_div_eq_div_mul, e2, Nat.mul_comm n, Nat.mul_comm (2 * a)]
    exact Nat.mul_div_mul_left _ _ pk
  -- nothing is lost just if n goes into 2a
  have q2 : (a * 2 ^ (k + 1) / n % 2 ^ k = 0 ∧ a * 2 ^ (k + 1) % n = 0) ↔ 2 * a % n = 0 := by
    have h3 := Nat.div_add_mod (a * 2 ^ (k + 1) / n) (2 ^ k)
    rw [q1] at h3
    constructor
    · intro ⟨g1, g2⟩
      rw [g1, Nat.add_zero] at h3
      rw [g2, Nat.add_zero, ← h3, e2] at hx
      have : n * (2 * a / n) * 2 ^ k = 2 * a * 2 ^ k := by rw [← hx]; grind
      have := Nat.eq_of_mul_eq_mul_right pk this
      omega
    · intro g
      rw [g, Nat.add_zero] at hy
      have hd : a * 2 ^ (k + 1) = n * (2 * a / n * 2 ^ k) := by rw [e2, ← Nat.mul_assoc n, hy]
      rw [hd]
      rw [Nat.mul_mod_right, Nat.mul_div_cancel_left _ hn, Nat.mul_mod_left]
      exact ⟨rfl, rfl⟩
  -- quotient and rest of what is marked, by 2^(k+1)
  generalize hQ : a * 2 ^ (k + 1) / n = Q at *
  have m1 : ∀ ε, ε ≤ 1 → (2 * Q + ε) / 2 ^ (k + 1) = Q / 2 ^ k := by
    intro ε hε
    rw [show k + 1 = 1 + k from by omega, Nat.pow_add, ← Nat.div_div_eq_div_mul]
    congr 1
    omega
  have m2 : ∀ ε, ε ≤ 1 → (2 * Q + ε) % 2 ^ (k + 1) = 2 * (Q % 2 ^ k) + ε := by
    intro ε hε
    have a1 := Nat.div_add_mod (2 * Q + ε) (2 ^ (k + 1))
    have a2 := Nat.div_add_mod Q (2 ^ k)
    rw [m1 ε hε, Nat.pow_succ] at a1
    rw [Nat.pow_succ]
    generalize Q / 2 ^ k = z at *
    have e5 : 2 ^ k * 2 * z = 2 * (2 ^ k * z) := by grind
    omega
  unfold stk
  have hp : (if a * 2 ^ (k + 1) % n = 0 then 0 else 1) ≤ 1 := by split <;> omega
  rw [m1 _ hp, m2 _ hp, q1]
  have b01 : 2 * a / n = 2 * (a / n) ∨ 2 * a / n = 2 * (a / n) + 1 := by
    have l1 : 2 * (a / n) ≤ 2 * a / n := by
      rw [Nat.le_div_iff_mul_le hn]
      have : 2 * (a / n) * n = 2 * (n * (a / n)) := by grind
      omega
    have l2 : 2 * a / n < 2 * (a / n) + 2 := by
      rw [Nat.div_lt_iff_lt_mul hn]
      have : (2 * (a / n) + 2) * n = 2 * (n * (a / n)) + 2 * n := by grind
      omega
    omega
  by_cases g : 2 * a % n = 0
  · obtain ⟨g1, g2⟩ := q2.2 g
    rw [g1, if_pos g2, if_pos (by omega)]
    rw [g, Nat.add_zero] at hy
    rcases b01 with b | b
    · rw [b] at hy
      have : a % n = 0 := by
        have e6 : n * (2 * (a / n)) = 2 * (n * (a / n)) := by grind
        omega
      rw [if_pos this, b, Nat.add_zero]
    · rw [b] at hy
      have : a % n ≠ 0 := by
        intro h0
        have e6 : n * (2 * (a / n) + 1) = 2 * (n * (a / n)) + n := by grind
        omega
      rw [if_neg this, b]
  · have hne : ¬ (Q % 2 ^ k = 0 ∧ a * 2 ^ (k + 1) % n = 0) := fun h => g (q2.1 h)
    have hl : ¬ (2 * (Q % 2 ^ k) + (if a * 2 ^ (k + 1) % n = 0 then 0 else 1) = 0) := by
      intro h
      apply hne
      split at h <;> omega
    rw [if_neg hl, or_one]
    have : a % n ≠ 0 := by
      intro h0
      apply g
      rw [h0, Nat.add_zero] at hz
      have : 2 * a = n * (2 * (a / n)) := by
        have e7 : n * (2 * (a / n)) = 2 * (n * (a / n)) := by grind
        omega
      rw [this, Nat.mul_mod_right]
    rw [if_neg this]
    omega

/-- the quotient of two scaled words: that of the parts -/
theorem quo_words (m n c d : Nat) (hcd : d ≤ c + 63) :
    m * 2 ^ c * 9223372036854775808 / (n * 2 ^ d) = m * 2 ^ (c + 63 - d) / n ∧ (m * 2 ^ c * 9223372036854775808 % (n * 2 ^ d) = 0 ↔ m * 2 ^ (c + 63 - d) % n = 0) := by
  have pd := Nat.two_pow_pos d
  have e : m * 2 ^ c * 9223372036854775808 = m * 2 ^ (c + 63 - d) * 2 ^ d := by
    rw [Nat.mul_assoc, show (9223372036854775808 : Nat) = 2 ^ 63 from rfl, ← Nat.pow_add, Nat.mul_assoc, ← Nat.pow_add, show c + 63 - d + d = c + 63 from by omega]
  rw [e, Nat.mul_div_mul_right _ _ pd, Nat.mul_mod_mul_right]
  refine ⟨rfl, ?_⟩
  constructor
  · intro h
    rcases Nat.mul_eq_zero.1 h with h | h
    · exact h
    · omega
  · intro h; rw [h, Nat.zero_mul]

/-- the program's quotient, what is left marked in its last bit, is rounded as the exact one -/
theorem rung_quotient (m n : Nat) (i j : Int) (hm : 0 < m) (hn : 0 < n) (hm1 : m < 9007199254740992) (hn1 : n < 9007199254740992) (Q : Nat) (lost : Bool)
    (hQ : Q = m * 2 ^ (63 - m.log2) * 9223372036854775808 / (n * 2 ^ (63 - n.log2)))
    (hl : lost = decide (m * 2 ^ (63 - m.log2) * 9223372036854775808 % (n * 2 ^ (63 - n.log2)) ≠ 0)) :
    rung (if lost then Q ||| 1 else Q) (i - (63 - m.log2 : Nat) - (j - (63 - n.log2 : Nat)) - 63) =
      rung (quoN m n (54 + n.log2 - m.log2)) (i - j - ((54 + n.log2 - m.log2 : Nat) : Int) - 1) := by
  have lm : m.log2 ≤ 52 := by have := (Nat.log2_lt (by omega)).2 (show m < 2 ^ 53 from hm1); omega
  have ln : n.log2 ≤ 52 := by have := (Nat.log2_lt (by omega)).2 (show n < 2 ^ 53 from hn1); omega
  obtain ⟨q1, q2⟩ := quo_words m n (63 - m.log2) (63 - n.log2) (by omega)
  obtain ⟨t, ht⟩ : ∃ t, t = 54 + n.log2 - m.log2 := ⟨_, rfl⟩
  have ht9 : 63 - m.log2 + 63 - (63 - n.log2) = t + 9 := by omega
  rw [ht9] at q1 q2
  rw [← ht]
  have e1 : (if lost then Q ||| 1 else Q) = stk (quoN m n (t + 9)) 1 := by
    rw [hl, hQ, q1]
    unfold stk quoN
    by_cases c : m * 2 ^ (t + 9) % n = 0
    · rw [if_pos c, decide_eq_false (by rw [q2.2 c]; simp), if_neg (by simp), if_pos (by omega)]
      omega
    · rw [if_neg c, decide_eq_true (show m * 2 ^ (63 - m.log2) * 9223372036854775808 % (n * 2 ^ (63 - n.log2)) ≠ 0 from fun h => c (q2.1 h)), if_pos rfl, if_neg (by omega), show (2 * (m * 2 ^ (t + 9) / n) + 1) / 2 ^ 1 = m * 2 ^ (t + 9) / n from by omega]
  have hbig : 9223372036854775808 ≤ quoN m n (t + 9) := by
    have h1 : 4611686018427387904 ≤ m * 2 ^ (t + 9) / n := by
      rw [Nat.le_div_iff_mul_le hn]
      have a1 := Nat.log2_self_le (show m ≠ 0 by omega)
      have a2 := lt_two_log2 n
      have a3 : 2 ^ m.log2 * 2 ^ (t + 9) ≤ m * 2 ^ (t + 9) := Nat.mul_le_mul_right _ a1
      rw [← Nat.pow_add, show m.log2 + (t + 9) = 62 + (n.log2 + 1) from by omega, Nat.pow_add] at a3
      have a4 : 4611686018427387904 * n ≤ 2 ^ 62 * 2 ^ (n.log2 + 1) := Nat.mul_le_mul_left 4611686018427387904 (Nat.le_of_lt a2)
      omega
    unfold quoN
    omega
  rw [e1, show i - ((63 - m.log2 : Nat) : Int) - (j - ((63 - n.log2 : Nat) : Int)) - 63 = (i - j - ((t + 9 : Nat) : Int) - 1) + ((1 : Nat) : Int) from by omega]
  rw [rung_stk _ 1 _ (Or.inl (by show 18014398509481984 ≤ quoN m n (t + 9) / 2; omega))]
  rw [← quo_stk m n t 9 hn (by omega), show i - j - (t : Int) - 1 = (i - j - ((t + 9 : Nat) : Int) - 1) + ((9 : Nat) : Int) from by omega]
  rw [rung_stk _ 9 _ (Or.inl (by show 18014398509481984 ≤ quoN m n (t + 9) / 512; omega))]

end Go.Proofs.Ytfhdmglfpkmjbaa
