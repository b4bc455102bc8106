/- Plain mathematics of binary64: nothing of the program. -/
import Derived.Test.YtfhdmglfpkmjbaaM1
namespace Go.Proofs.Ytfhdmglfpkmjbaa

theorem d_least : Ieee.double.leastPlace = -1074 := by decide
theorem d_frac : Ieee.double.fractionBits = 52 := rfl
theorem d_binade : Ieee.double.binade = 4503599627370496 := by decide
theorem d_inf : Ieee.double.infRung = 9218868437227405312 := by decide
theorem d_sign : Ieee.double.signWeight = 9223372036854775808 := by decide

/-- the place of the last digit that is kept -/
def lastPlace (mag : Nat) (place : Int) : Int := max (place + mag.log2 - 52) (-1074)

/-- the rung nearest to mag times 2^place -/
def rung (mag : Nat) (place : Int) : Nat :=
  if mag = 0 then 0 else
  min ((lastPlace mag place + 1074).toNat * 4503599627370496 + rne (mag * 2 ^ (place - lastPlace mag place).toNat) (lastPlace mag place - place).toNat) 9218868437227405312

/-- the word of a sign and a rung -/
def wordOf (neg : Bool) (r : Nat) : Nat := if neg then 9223372036854775808 + r else r

theorem word_eq (neg : Bool) (r : Nat) : Ieee.double.word neg r = wordOf neg r := by
  unfold Ieee.Format.word wordOf; rw [d_sign]

theorem nearest_eq (neg : Bool) (mag : Nat) (place : Int) : Ieee.double.nearest neg mag place = wordOf neg (rung mag place) := by
  unfold Ieee.Format.nearest rung
  split
  · rw [word_eq]
  · simp only [cut_even, d_least, d_frac, d_binade, d_inf, word_eq, Nat.shiftLeft_eq]
    have e : (-1074 : Int) = -1074 := rfl
    have e2 : ∀ x : Int, (x - -1074) = x + 1074 := by intro x; omega
    simp only [e2]
    rfl

theorem rung_le (mag : Nat) (place : Int) : rung mag place ≤ 9218868437227405312 := by
  unfold rung; split
  · omega
  · exact Nat.min_le_right _ _

theorem log2_mul_pow (m k : Nat) (h : m ≠ 0) : (m * 2 ^ k).log2 = m.log2 + k := by
  have hk : 0 < 2 ^ k := Nat.two_pow_pos k
  have hne : m * 2 ^ k ≠ 0 := Nat.mul_ne_zero h (by omega)
  rw [Nat.log2_eq_iff hne]
  have h1 := Nat.log2_self_le h
  have h2 := lt_two_log2 m
  constructor
  · rw [Nat.pow_add]; exact Nat.mul_le_mul_right _ h1
  · rw [show m.log2 + k + 1 = (m.log2 + 1) + k from by omega, Nat.pow_add]; exact (Nat.mul_lt_mul_right hk).2 h2

theorem rung_scale (m k : Nat) (p : Int) : rung (m * 2 ^ k) p = rung m (p + k) := by
  by_cases h : m = 0
  · subst h; simp [rung]
  have hk : 0 < 2 ^ k := Nat.two_pow_pos k
  have hne : m * 2 ^ k ≠ 0 := Nat.mul_ne_zero h (by omega)
  have hl : lastPlace (m * 2 ^ k) p = lastPlace m (p + k) := by
    unfold lastPlace; rw [log2_mul_pow m k h]; congr 1; omega
  unfold rung
  rw [if_neg h, if_neg hne, hl]
  generalize lastPlace m (p + k) = L
  congr 2
  by_cases c1 : L ≤ p
  · have e1 : (L - p).toNat = 0 := by omega
    have e2 : (L - (p + k)).toNat = 0 := by omega
    have e3 : (p + k - L).toNat = k + (p - L).toNat := by omega
    rw [e1, e2, e3, rne_zero, rne_zero, Nat.pow_add, Nat.mul_assoc]
  · by_cases c2 : L ≤ p + k
    · have e1 : (p - L).toNat = 0 := by omega
      have e2 : (L - (p + k)).toNat = 0 := by omega
      obtain ⟨d, hd⟩ : ∃ d : Nat, (L - p).toNat = d := ⟨_, rfl⟩
      obtain ⟨c, hc⟩ : ∃ c : Nat, (p + k - L).toNat = c := ⟨_, rfl⟩
      have ek : k = c + d := by omega
      rw [e1, e2, hd, hc, ek, rne_zero, Nat.pow_zero, Nat.mul_one, Nat.pow_add, ← Nat.mul_assoc]
      have := rne_mul_pow (m * 2 ^ c) 0 d
      rw [Nat.zero_add, rne_zero] at this
      exact this
    · have e1 : (p - L).toNat = 0 := by omega
      have e2 : (p + k - L).toNat = 0 := by omega
      obtain ⟨d, hd⟩ : ∃ d : Nat, (L - (p + k)).toNat = d := ⟨_, rfl⟩
      have e3 : (L - p).toNat = d + k := by omega
      rw [e1, e2, hd, e3, Nat.pow_zero, Nat.mul_one, Nat.mul_one]
      exact rne_mul_pow m d k

theorem stk_ne_zero (M k : Nat) (h : M ≠ 0) : stk M k ≠ 0 := by
  unfold stk; split
  · rename_i hm
    have hp := Nat.two_pow_pos k
    intro h0
    have := Nat.div_add_mod M (2 ^ k)
    rw [h0, hm] at this; omega
  · rw [or_one]; omega

theorem log2_div_pow (M k : Nat) (h : M / 2 ^ k ≠ 0) : M.log2 = (M / 2 ^ k).log2 + k := by
  have hp := Nat.two_pow_pos k
  have hM : M ≠ 0 := by intro h0; subst h0; simp at h
  rw [Nat.log2_eq_iff hM]
  have h1 := Nat.log2_self_le h
  have h2 := lt_two_log2 (M / 2 ^ k)
  constructor
  · rw [Nat.pow_add]; exact (Nat.le_div_iff_mul_le hp).1 h1
  · rw [show (M / 2 ^ k).log2 + k + 1 = ((M / 2 ^ k).log2 + 1) + k from by omega, Nat.pow_add]; exact (Nat.div_lt_iff_lt_mul hp).1 h2

theorem log2_or_one (q : Nat) (h : q ≠ 0) : (q ||| 1).log2 = q.log2 := by
  rw [or_one]
  have h1 := Nat.log2_self_le h
  have h2 := lt_two_log2 q
  rw [Nat.log2_eq_iff (by omega)]
  by_cases h0 : q.log2 = 0
  · rw [h0] at h1 h2 ⊢; simp at h1 h2 ⊢; omega
  · obtain ⟨c, hc⟩ : ∃ c, q.log2 = c + 1 := ⟨q.log2 - 1, by omega⟩
    rw [hc] at h1 h2 ⊢
    have e1 : 2 ^ (c + 1) = 2 * 2 ^ c := by rw [Nat.pow_succ]; omega
    have e2 : 2 ^ (c + 1 + 1) = 2 * (2 * 2 ^ c) := by rw [Nat.pow_succ, e1]; omega
    rw [e1] at h1 ⊢; rw [e2] at h2 ⊢
    omega

theorem log2_ge (n k : Nat) (h : 2 ^ k ≤ n) : k ≤ n.log2 := by
  have hn : n ≠ 0 := by have := Nat.two_pow_pos k; omega
  exact (Nat.le_log2 hn).2 h

/-- what is lost below 55 bits or more may be marked in one bit -/
theorem rung_stk (M k : Nat) (p : Int) (h : 18014398509481984 ≤ M / 2 ^ k ∨ M % 2 ^ k = 0) : rung (stk M k) (p + k) = rung M p := by
  by_cases hm : M % 2 ^ k = 0
  · have e : M = M / 2 ^ k * 2 ^ k := by
      have := Nat.div_add_mod M (2 ^ k); rw [hm] at this; rw [Nat.mul_comm]; omega
    conv => rhs; rw [e]
    rw [rung_scale]
    unfold stk; rw [if_pos hm]
  · have hb : 18014398509481984 ≤ M / 2 ^ k := by rcases h with h | h; exact h; exact absurd h hm
    have hq : M / 2 ^ k ≠ 0 := by omega
    have hM : M ≠ 0 := by intro h0; subst h0; simp at hq
    have hs := stk_ne_zero M k hM
    have hlog : (stk M k).log2 = (M / 2 ^ k).log2 := by
      unfold stk; rw [if_neg hm]; exact log2_or_one _ hq
    have hlM := log2_div_pow M k hq
    have h54 : 54 ≤ (M / 2 ^ k).log2 := log2_ge _ 54 (by simpa using hb)
    have hL : lastPlace (stk M k) (p + k) = lastPlace M p := by
      unfold lastPlace; rw [hlog, hlM]; congr 1; omega
    unfold rung
    rw [if_neg hM, if_neg hs, hL]
    have hge : p + k + 2 ≤ lastPlace M p := by
      unfold lastPlace; rw [hlM]; omega
    generalize lastPlace M p = L at *
    obtain ⟨d, hd⟩ : ∃ d : Nat, (L - (p + k)).toNat = d := ⟨_, rfl⟩
    have e1 : (p + k - L).toNat = 0 := by omega
    have e2 : (p - L).toNat = 0 := by omega
    have e3 : (L - p).toNat = d + k := by omega
    rw [e1, e2, hd, e3, Nat.pow_zero, Nat.mul_one, Nat.mul_one, rne_stk M k d (by omega)]

theorem rne_bound (n d c : Nat) (h : n < 2 ^ (c + d)) : rne n d ≤ 2 ^ c := by
  unfold rne
  have : n / 2 ^ d < 2 ^ c := (Nat.div_lt_iff_lt_mul (Nat.two_pow_pos d)).2 (by rw [← Nat.pow_add]; exact h)
  split <;> omega

theorem rne_lower (n d c : Nat) (h : 2 ^ (c + d) ≤ n) : 2 ^ c ≤ rne n d := by
  unfold rne
  have : 2 ^ c ≤ n / 2 ^ d := (Nat.le_div_iff_mul_le (Nat.two_pow_pos d)).2 (by rw [← Nat.pow_add]; exact h)
  omega

/-- what is kept has at most 53 bits -/
theorem kept_le (m : Nat) (p : Int) : rne (m * 2 ^ (p - lastPlace m p).toNat) (lastPlace m p - p).toNat ≤ 9007199254740992 := by
  have h2 := lt_two_log2 m
  have hL : p + m.log2 - 52 ≤ lastPlace m p := by unfold lastPlace; omega
  generalize lastPlace m p = L at *
  have : m * 2 ^ (p - L).toNat < 2 ^ (53 + (L - p).toNat) := by
    have a : m * 2 ^ (p - L).toNat < 2 ^ (m.log2 + 1) * 2 ^ (p - L).toNat := (Nat.mul_lt_mul_right (Nat.two_pow_pos _)).2 h2
    rw [← Nat.pow_add] at a
    exact Nat.lt_of_lt_of_le a (Nat.pow_le_pow_right (by decide) (by omega))
  exact rne_bound _ _ 53 this

/-- above the lowest place it has at least 53 -/
theorem kept_ge (m : Nat) (p : Int) (h : m ≠ 0) (hL : lastPlace m p = p + m.log2 - 52) : 4503599627370496 ≤ rne (m * 2 ^ (p - lastPlace m p).toNat) (lastPlace m p - p).toNat := by
  have h1 := Nat.log2_self_le h
  generalize lastPlace m p = L at *
  have : 2 ^ (52 + (L - p).toNat) ≤ m * 2 ^ (p - L).toNat := by
    have a : 2 ^ m.log2 * 2 ^ (p - L).toNat ≤ m * 2 ^ (p - L).toNat := Nat.mul_le_mul_right _ h1
    rw [← Nat.pow_add] at a
    exact Nat.le_trans (Nat.pow_le_pow_right (by decide) (by omega)) a
  exact rne_lower _ _ 52 this

theorem rung_mono {m n : Nat} (p : Int) (h : m ≤ n) : rung m p ≤ rung n p := by
  by_cases hm : m = 0
  · subst hm; simp [rung]
  have hn : n ≠ 0 := by omega
  have hlog : m.log2 ≤ n.log2 := by
    rw [Nat.le_log2 hn]; exact Nat.le_trans (Nat.log2_self_le hm) h
  have hLL : lastPlace m p ≤ lastPlace n p := by unfold lastPlace; omega
  have km := kept_le m p
  by_cases hE : lastPlace m p = lastPlace n p
  · unfold rung
    rw [if_neg hm, if_neg hn, hE]
    have hr := rne_mono (lastPlace n p - p).toNat (Nat.mul_le_mul_right (2 ^ (p - lastPlace n p).toNat) h)
    clear km
    generalize rne (m * 2 ^ (p - lastPlace n p).toNat) (lastPlace n p - p).toNat = A at hr ⊢
    generalize rne (n * 2 ^ (p - lastPlace n p).toNat) (lastPlace n p - p).toNat = B at hr ⊢
    generalize (lastPlace n p + 1074).toNat * 4503599627370496 = C
    omega
  · have hL2 : lastPlace n p = p + n.log2 - 52 := by unfold lastPlace at hE hLL ⊢; omega
    have kn := kept_ge n p hn hL2
    have hlow : -1074 ≤ lastPlace m p := by unfold lastPlace; omega
    unfold rung
    rw [if_neg hm, if_neg hn]
    generalize rne (m * 2 ^ (p - lastPlace m p).toNat) (lastPlace m p - p).toNat = A at *
    generalize rne (n * 2 ^ (p - lastPlace n p).toNat) (lastPlace n p - p).toNat = B at *
    have h3 : (lastPlace m p + 1074).toNat + 1 ≤ (lastPlace n p + 1074).toNat := by omega
    generalize (lastPlace m p + 1074).toNat = C at *
    generalize (lastPlace n p + 1074).toNat = D at *
    clear hL2 hE hLL hlow hlog
    omega

end Go.Proofs.Ytfhdmglfpkmjbaa
