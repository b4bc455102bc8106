/- Plain: the program's sum of two finite ones is the exact one, rounded once. -/
import Derived.Test.YtfhdmglfpkmjbaaM4
namespace Go.Proofs.Ytfhdmglfpkmjbaa

theorem stk_add (A B d : Nat) (hA : A % 2 = 0) : A + stk B d = stk (A * 2 ^ d + B) d := by
  unfold stk
  have p := Nat.two_pow_pos d
  have e1 : (A * 2 ^ d + B) % 2 ^ d = B % 2 ^ d := by rw [Nat.add_comm, Nat.add_mul_mod_self_right]
  have e2 : (A * 2 ^ d + B) / 2 ^ d = A + B / 2 ^ d := by rw [Nat.add_comm, Nat.add_mul_div_right _ _ p, Nat.add_comm]
  rw [e1, e2]
  split
  · rfl
  · rw [or_one, or_one]; omega

theorem stk_sub (A B d : Nat) (hA : A % 2 = 0) (h : B ≤ A * 2 ^ d) : A - stk B d = stk (A * 2 ^ d - B) d ∧ stk B d ≤ A := by
  unfold stk
  have p := Nat.two_pow_pos d
  have eB := Nat.div_add_mod B (2 ^ d)
  have hr : B % 2 ^ d < 2 ^ d := Nat.mod_lt _ p
  generalize B / 2 ^ d = q at *
  generalize B % 2 ^ d = r at *
  by_cases c : r = 0
  · subst c
    have hq : q ≤ A := by
      have : q * 2 ^ d ≤ A * 2 ^ d := by rw [Nat.mul_comm q]; omega
      exact Nat.le_of_mul_le_mul_right this p
    have e : A * 2 ^ d - B = (A - q) * 2 ^ d := by rw [Nat.sub_mul, Nat.mul_comm q]; omega
    rw [e, Nat.mul_mod_left, Nat.mul_div_cancel _ p, if_pos rfl, if_pos rfl]
    exact ⟨rfl, hq⟩
  · have hq : q < A := by
      have : q * 2 ^ d < A * 2 ^ d := by rw [Nat.mul_comm q]; omega
      exact Nat.lt_of_mul_lt_mul_right this
    have e : A * 2 ^ d - B = (2 ^ d - r) + (A - q - 1) * 2 ^ d := by
      have e0 : A * 2 ^ d = (A - q - 1) * 2 ^ d + q * 2 ^ d + 2 ^ d := by
        conv => lhs; rw [show A = (A - q - 1) + q + 1 from by omega]
        rw [Nat.add_mul, Nat.add_mul, Nat.one_mul]
      rw [e0, ← eB, Nat.mul_comm q]
      omega
    have e1 : (A * 2 ^ d - B) % 2 ^ d = 2 ^ d - r := by
      rw [e, Nat.add_mul_mod_self_right, Nat.mod_eq_of_lt (by omega)]
    have e2 : (A * 2 ^ d - B) / 2 ^ d = A - q - 1 := by
      rw [e, Nat.add_mul_div_right _ _ p, Nat.div_eq_of_lt (by omega), Nat.zero_add]
    rw [e1, e2, if_neg c, if_neg (by omega), or_one, or_one]
    constructor <;> omega

theorem mul_pow_1024 (M d : Nat) (h : M * 1024 % 2 ^ d ≠ 0) : 10 < d := by
  by_cases c : d ≤ 10
  · exfalso
    apply h
    have : (1024 : Nat) = 2 ^ (10 - d) * 2 ^ d := by rw [← Nat.pow_add, show 10 - d + d = 10 from by omega]
    rw [this, ← Nat.mul_assoc, Nat.mul_mod_left]
  · omega

/-- what the program reckons of M (at place j), cut to ten bits below place j + d: the rung of M at j -/
theorem rung_cut (M d : Nat) (j : Int) (h : 10 < d → 18014398509481984 ≤ M * 1024 / 2 ^ d) : rung (stk (M * 1024) d) (j + d - 10) = rung M j := by
  have e := rung_stk (M * 1024) d (j - 10) (by
    by_cases c : M * 1024 % 2 ^ d = 0
    · exact Or.inr c
    · exact Or.inl (h (mul_pow_1024 M d c)))
  rw [show j - 10 + (d : Int) = j + d - 10 from by omega] at e
  rw [e, show M * 1024 = M * 2 ^ 10 from rfl, rung_scale]
  congr 1
  omega

theorem sum_same (m n d : Nat) (j : Int) (hm : 10 < d → 4503599627370496 ≤ m) :
    rung (m * 1024 + stk (n * 1024) d) (j + d - 10) = rung (m * 2 ^ d + n) j := by
  rw [stk_add (m * 1024) (n * 1024) d (by omega)]
  have e : m * 1024 * 2 ^ d + n * 1024 = (m * 2 ^ d + n) * 1024 := by grind
  rw [e]
  apply rung_cut
  intro hd
  have := hm hd
  have p := Nat.two_pow_pos d
  have h1 : m * 1024 ≤ (m * 2 ^ d + n) * 1024 / 2 ^ d := by
    rw [Nat.le_div_iff_mul_le p, ← e]; omega
  omega

theorem sum_above (m n d : Nat) (j : Int) (hm : 10 < d → 4503599627370496 ≤ m) (hn : n < 9007199254740992) (h : n ≤ m * 2 ^ d) :
    rung (m * 1024 - stk (n * 1024) d) (j + d - 10) = rung (m * 2 ^ d - n) j := by
  have e : m * 1024 * 2 ^ d - n * 1024 = (m * 2 ^ d - n) * 1024 := by
    rw [Nat.sub_mul]; congr 1; grind
  obtain ⟨h1, h2⟩ := stk_sub (m * 1024) (n * 1024) d (by omega) (by
    have := Nat.mul_le_mul_right 1024 h
    have e2 : m * 1024 * 2 ^ d = m * 2 ^ d * 1024 := by grind
    omega)
  rw [h1, e]
  apply rung_cut
  intro hd
  have hm' := hm hd
  have p := Nat.two_pow_pos d
  have hp : 2 ^ 11 ≤ 2 ^ d := Nat.pow_le_pow_right (by decide) hd
  have hp' : 2048 ≤ 2 ^ d := hp
  rw [← e, Nat.le_div_iff_mul_le p]
  have e3 : m * 1024 * 2 ^ d = m * (1024 * 2 ^ d) := by grind
  have h3 : 4503599627370496 * (1024 * 2 ^ d) ≤ m * (1024 * 2 ^ d) := Nat.mul_le_mul_right _ hm'
  rw [e3]
  generalize 2 ^ d = c at *
  generalize m * (1024 * c) = z at *
  omega

/-- the two are told apart by what is kept -/
theorem sum_apart (m n d : Nat) (hm : 10 < d → 4503599627370496 ≤ m) (hn : n < 9007199254740992) :
    (m * 1024 = stk (n * 1024) d ↔ m * 2 ^ d = n) ∧ (m * 1024 < stk (n * 1024) d ↔ m * 2 ^ d < n) := by
  have p := Nat.two_pow_pos d
  by_cases c : n * 1024 % 2 ^ d = 0
  · have es : stk (n * 1024) d = n * 1024 / 2 ^ d := by unfold stk; rw [if_pos c]
    have e := Nat.div_add_mod (n * 1024) (2 ^ d)
    rw [c, Nat.add_zero] at e
    rw [es]
    generalize n * 1024 / 2 ^ d = y at *
    have k : n * 1024 = y * 2 ^ d := by rw [← e, Nat.mul_comm]
    have e2 : m * 2 ^ d * 1024 = m * 1024 * 2 ^ d := by grind
    constructor
    · constructor
      · intro h; rw [h, ← k] at e2; omega
      · intro h
        rw [h, k] at e2
        exact (Nat.eq_of_mul_eq_mul_right p e2).symm
    · constructor
      · intro h
        have := (Nat.mul_lt_mul_right p).2 h
        omega
      · intro h
        have : m * 1024 * 2 ^ d < y * 2 ^ d := by omega
        exact Nat.lt_of_mul_lt_mul_right this
  · have hd := mul_pow_1024 n d c
    have hm' := hm hd
    have hp : 2 ^ 11 ≤ 2 ^ d := Nat.pow_le_pow_right (by decide) hd
    have hp' : 2048 ≤ 2 ^ d := hp
    have hs : stk (n * 1024) d < m * 1024 := by
      have h1 : n * 1024 / 2 ^ d ≤ n * 1024 / 2048 := Nat.div_le_div_left hp' (by decide)
      unfold stk
      rw [if_neg c, or_one]
      omega
    have hb : n < m * 2 ^ d := by
      have h1 := Nat.mul_le_mul hm' hp'
      omega
    constructor <;> constructor <;> intro h <;> omega

end Go.Proofs.Ytfhdmglfpkmjbaa
