/- Plain: what is rounded once is rounded; the numbers of whole numbers. -/
import Derived.Test.YtfhdmglfpkmjbaaM6
namespace Go.Proofs.Ytfhdmglfpkmjbaa

/-- what was kept is the number -/
theorem rung_kept (K : Nat) (L : Int) (hL : -1074 ≤ L) (hK : K ≤ 9007199254740992) (hn : L ≠ -1074 → 4503599627370496 ≤ K) :
    rung K L = min ((L + 1074).toNat * 4503599627370496 + K) 9218868437227405312 := by
  by_cases hz : K = 0
  · subst hz
    have : L = -1074 := Classical.byContradiction fun c => by have := hn c; omega
    subst this
    simp [rung]
  by_cases ht : K = 9007199254740992
  · subst ht
    have l : Nat.log2 9007199254740992 = 53 := by decide +kernel
    have e : lastPlace 9007199254740992 L = L + 1 := by unfold lastPlace; rw [l]; omega
    unfold rung
    rw [if_neg hz, e, show (L - (L + 1)).toNat = 0 from by omega, show (L + 1 - L).toNat = 1 from by omega]
    have r : rne (9007199254740992 * 2 ^ 0) 1 = 4503599627370496 := by decide +kernel
    rw [r, show (L + 1 + 1074).toNat = (L + 1074).toNat + 1 from by omega]
    generalize (L + 1074).toNat = z
    omega
  · have e : lastPlace K L = L := by
      unfold lastPlace
      have l := (Nat.log2_lt hz).2 (show K < 2 ^ 53 by show K < 9007199254740992; omega)
      by_cases c : L = -1074
      · omega
      · have := hn c
        have := log2_ge K 52 this
        omega
    unfold rung
    rw [if_neg hz, e, show (L - L).toNat = 0 from by omega, rne_zero, Nat.pow_zero, Nat.mul_one]

theorem last_ge (M : Nat) (X : Int) : -1074 ≤ lastPlace M X := by unfold lastPlace; omega

theorem rung_again (M : Nat) (X : Int) (hM : M ≠ 0) :
    rung M X = rung (rne (M * 2 ^ (X - lastPlace M X).toNat) (lastPlace M X - X).toNat) (lastPlace M X) := by
  rw [rung_kept _ _ (last_ge M X) (kept_le M X) (fun c => kept_ge M X hM (by unfold lastPlace at c ⊢; omega))]
  conv => lhs; unfold rung
  rw [if_neg hM]

/-- above the last place: what is cut off is rounded -/
theorem rung_shed (M : Nat) (X L : Int) (C : Nat) (hM : M ≠ 0) (hL : lastPlace M X = L) (hC : L - X = C) : rung M X = rung (rne M C) L := by
  have := rung_again M X hM
  rw [hL, show (X - L).toNat = 0 from by omega, show (L - X).toNat = C from by omega, Nat.pow_zero, Nat.mul_one] at this
  exact this

/-- a half behind the last bit -/
def rneH (n d : Nat) : Nat := n / 2 ^ d + (if 2 ^ d ≤ 2 * (n % 2 ^ d) then 1 else 0)

theorem rne_half (n d : Nat) (hd : 1 ≤ d) : rne (2 * n + 1) (d + 1) = rneH n d := by
  unfold rne rneH
  have p : 2 ^ (d + 1) = 2 * 2 ^ d := by rw [Nat.pow_succ]; omega
  obtain ⟨c, rfl⟩ : ∃ c, d = c + 1 := ⟨d - 1, by omega⟩
  have p2 : 2 ^ (c + 1) = 2 * 2 ^ c := by rw [Nat.pow_succ]; omega
  have q : (2 * n + 1) / 2 ^ (c + 1 + 1) = n / 2 ^ (c + 1) := by
    rw [p, ← Nat.div_div_eq_div_mul, show (2 * n + 1) / 2 = n from by omega]
  have r : (2 * n + 1) % 2 ^ (c + 1 + 1) = 2 * (n % 2 ^ (c + 1)) + 1 := by
    have h1 := Nat.div_add_mod (2 * n + 1) (2 ^ (c + 1 + 1))
    have h2 := Nat.div_add_mod n (2 ^ (c + 1))
    rw [q, p, Nat.mul_assoc] at h1
    rw [p]
    generalize 2 ^ (c + 1) * (n / 2 ^ (c + 1)) = z at *
    omega
  rw [q, r, p, p2]
  generalize n % (2 * 2 ^ c) = R
  generalize 2 ^ c = P
  generalize n / (2 * P) = Q
  by_cases h : 2 * P ≤ 2 * R
  · rw [if_pos h, if_pos (Or.inl (by omega))]
  · rw [if_neg h, if_neg (by omega)]

theorem rung_shed_half (n : Nat) (X L : Int) (C : Nat) (hn : n ≠ 0) (hL : lastPlace n X = L) (hC : L - X = C) (h1 : 1 ≤ C) :
    rung (2 * n + 1) (X - 1) = rung (rneH n C) L := by
  have hl : (2 * n + 1).log2 = n.log2 + 1 := by
    have a := Nat.log2_self_le hn
    have b := lt_two_log2 n
    rw [Nat.log2_eq_iff (by omega)]
    constructor
    · rw [Nat.pow_succ]; omega
    · rw [Nat.pow_succ]; omega
  have e : lastPlace (2 * n + 1) (X - 1) = L := by rw [← hL]; unfold lastPlace; rw [hl]; omega
  rw [rung_shed (2 * n + 1) (X - 1) L (C + 1) (by omega) e (by omega), rne_half n C h1]

/-- a whole number of at most 53 bits: 53 bits, times a power of two -/
theorem whole_parts (n : Nat) (h0 : 0 < n) (h1 : n ≤ 9007199254740992) :
    ∃ (m : Nat) (d : Int), 4503599627370496 ≤ m ∧ m < 9007199254740992 ∧ -1 ≤ d ∧ d ≤ 52 ∧ ∀ k : Int, rung n k = rung m (k - d) := by
  by_cases c : n = 9007199254740992
  · subst c
    refine ⟨4503599627370496, -1, by omega, by omega, by omega, by omega, fun k => ?_⟩
    have := rung_scale 4503599627370496 1 k
    rw [show 4503599627370496 * 2 ^ 1 = 9007199254740992 from rfl] at this
    rw [this]
    congr 1
  · have hz : n ≠ 0 := by omega
    have l1 := Nat.log2_self_le hz
    have l2 := lt_two_log2 n
    have l3 := (Nat.log2_lt hz).2 (show n < 2 ^ 53 by show n < 9007199254740992; omega)
    obtain ⟨d, hd⟩ : ∃ d, d = 52 - n.log2 := ⟨_, rfl⟩
    have p := Nat.two_pow_pos d
    have b1 : 4503599627370496 ≤ n * 2 ^ d := by
      have := Nat.mul_le_mul_right (2 ^ d) l1
      rw [← Nat.pow_add, show n.log2 + d = 52 from by omega] at this
      exact this
    have b2 : n * 2 ^ d < 9007199254740992 := by
      have := (Nat.mul_lt_mul_right p).2 l2
      rw [← Nat.pow_add, show n.log2 + 1 + d = 53 from by omega] at this
      exact this
    refine ⟨n * 2 ^ d, d, b1, b2, by omega, by omega, fun k => ?_⟩
    rw [rung_scale]
    congr 1
    omega

/-- a word of 53 bits, at its place -/
theorem rung_word (m : Nat) (d : Int) (h0 : 4503599627370496 ≤ m) (h1 : m < 9007199254740992) (d0 : -900 ≤ d) (d1 : d ≤ 1000) :
    ∃ q : Nat, (q : Int) = 1075 - d ∧ rung m (-d) = q * 4503599627370496 + (m - 4503599627370496) := by
  have own := rung_own m (-d) ⟨by omega, by omega, by omega, by omega, fun _ => by omega⟩
  refine ⟨(1075 - d).toNat, by omega, ?_⟩
  rw [own, show (1075 - d).toNat = (-d + 1074).toNat + 1 from by omega]
  generalize (-d + 1074).toNat = z
  omega

end Go.Proofs.Ytfhdmglfpkmjbaa
