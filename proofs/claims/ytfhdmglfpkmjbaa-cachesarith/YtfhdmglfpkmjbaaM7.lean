/- Plain: the order of numbers is that of their bits. -/
import Derived.Test.YtfhdmglfpkmjbaaM6
namespace Go.Proofs.Ytfhdmglfpkmjbaa

/-- the size of the number of a rung, in units of 2^-1074 -/
def valN (r : Nat) : Nat := if r < 4503599627370496 then r else (4503599627370496 + r % 4503599627370496) * 2 ^ (r / 4503599627370496 - 1)

theorem valN_lt {r s : Nat} (h : r < s) : valN r < valN s := by
  unfold valN
  by_cases c1 : r < 4503599627370496
  · rw [if_pos c1]
    by_cases c2 : s < 4503599627370496
    · rw [if_pos c2]; exact h
    · rw [if_neg c2]
      have p := Nat.two_pow_pos (s / 4503599627370496 - 1)
      have : (4503599627370496 + s % 4503599627370496) * 1 ≤ (4503599627370496 + s % 4503599627370496) * 2 ^ (s / 4503599627370496 - 1) := Nat.mul_le_mul_left _ p
      omega
  · rw [if_neg c1, if_neg (by omega)]
    by_cases c3 : r / 4503599627370496 = s / 4503599627370496
    · rw [c3]
      apply (Nat.mul_lt_mul_right (Nat.two_pow_pos _)).2
      omega
    · obtain ⟨q, hq⟩ : ∃ q, r / 4503599627370496 = q + 1 := ⟨r / 4503599627370496 - 1, by omega⟩
      obtain ⟨u, hu⟩ : ∃ u, s / 4503599627370496 = q + 1 + (u + 1) := ⟨s / 4503599627370496 - (q + 1) - 1, by omega⟩
      rw [hq, hu, show q + 1 - 1 = q from by omega, show q + 1 + (u + 1) - 1 = q + (u + 1) from by omega]
      have hr : 4503599627370496 + r % 4503599627370496 < 4503599627370496 * 2 := by omega
      have a1 := (Nat.mul_lt_mul_right (Nat.two_pow_pos q)).2 hr
      have a2 : 4503599627370496 * 2 ^ (q + (u + 1)) ≤ (4503599627370496 + s % 4503599627370496) * 2 ^ (q + (u + 1)) := Nat.mul_le_mul_right _ (by omega)
      have a3 : 4503599627370496 * 2 * 2 ^ q ≤ 4503599627370496 * 2 ^ (q + (u + 1)) := by
        rw [Nat.pow_add, Nat.pow_succ]
        have := Nat.two_pow_pos u
        have h2 : 2 ^ q * 1 ≤ 2 ^ q * 2 ^ u := Nat.mul_le_mul_left _ this
        have e : 2 ^ q * (2 ^ u * 2) = 2 * (2 ^ q * 2 ^ u) := by grind
        rw [e]
        omega
      omega

/-- the number of a word, in units of 2^-1074 -/
def valI (a : Int) : Int := if a < 9223372036854775808 then (valN a.toNat : Nat) else -((valN (a - 9223372036854775808).toNat : Nat) : Int)

def rankI (a : Int) : Int := if a < 9223372036854775808 then a else 9223372036854775808 - a

theorem val_rank (a b : Int) (h0 : 0 ≤ a) (h2 : 0 ≤ b) : (valI a < valI b ↔ rankI a < rankI b) ∧ (valI a = valI b ↔ rankI a = rankI b) := by
  have z0 : valN 0 = 0 := rfl
  have pos : ∀ n, 0 < n → 0 < valN n := fun n h => by have := valN_lt h; omega
  unfold valI rankI
  have key : ∀ m n : Nat, (valN m < valN n ↔ m < n) ∧ (valN m = valN n ↔ m = n) := by
    intro m n
    rcases Nat.lt_trichotomy m n with h | h | h
    · have := valN_lt h; omega
    · subst h; omega
    · have := valN_lt h; omega
  by_cases ca : a < 9223372036854775808
  · rw [if_pos ca, if_pos ca]
    by_cases cb : b < 9223372036854775808
    · rw [if_pos cb, if_pos cb]
      have := key a.toNat b.toNat
      omega
    · rw [if_neg cb, if_neg cb]
      obtain ⟨n, hn⟩ : ∃ n : Nat, (b - 9223372036854775808).toNat = n := ⟨_, rfl⟩
      rw [hn]
      have k1 := key a.toNat 0
      have k2 := key n 0
      rw [z0] at k1 k2
      omega
  · rw [if_neg ca, if_neg ca]
    obtain ⟨m, hm⟩ : ∃ n : Nat, (a - 9223372036854775808).toNat = n := ⟨_, rfl⟩
    rw [hm]
    by_cases cb : b < 9223372036854775808
    · rw [if_pos cb, if_pos cb]
      have k1 := key b.toNat 0
      have k2 := key m 0
      rw [z0] at k1 k2
      omega
    · rw [if_neg cb, if_neg cb]
      obtain ⟨n, hn⟩ : ∃ n : Nat, (b - 9223372036854775808).toNat = n := ⟨_, rfl⟩
      rw [hn]
      have := key m n
      omega

theorem signed_eq (s : Bool) (m u : Nat) : Ieee.signed s m u = if s then -((m * 2 ^ u : Nat) : Int) else ((m * 2 ^ u : Nat) : Int) := by
  unfold Ieee.signed; rw [Nat.shiftLeft_eq]

/-- a finite word is a number whose signed size is its value -/
theorem read_val (a : Int) (h0 : 0 ≤ a) (h : a < 18446744073709551616) (k : kindI a < 2) :
    ∃ s m e, Ieee.double.read a.toNat = .number s m e ∧ -1074 ≤ e ∧ Ieee.signed s m (e + 1074).toNat = valI a := by
  have f1 := fld_lt a.toNat
  have f2 := frc_lt a.toNat
  have c1 : fldN a.toNat ≠ 2047 := by
    intro c; unfold kindI at k; rw [if_pos c] at k; split at k <;> omega
  refine ⟨negB a.toNat, manN a.toNat, -1074 + ((fldN a.toNat - 1 : Nat) : Int), ?_, by omega, ?_⟩
  · rw [read_eq _ (by omega), if_pos (by omega)]
  rw [signed_eq, show (-1074 + ((fldN a.toNat - 1 : Nat) : Int) + 1074).toNat = fldN a.toNat - 1 from by omega]
  have hv : manN a.toNat * 2 ^ (fldN a.toNat - 1) = valN (a.toNat % 9223372036854775808) := by
    have hr : a.toNat % 9223372036854775808 = fldN a.toNat * 4503599627370496 + frcN a.toNat := by unfold fldN frcN; omega
    rw [hr]
    unfold valN manN
    generalize fldN a.toNat = F at *
    generalize frcN a.toNat = M at *
    by_cases c : F = 0
    · subst c
      rw [if_pos rfl, if_pos (by omega)]
      simp
    · rw [if_neg c, if_neg (by omega), show (F * 4503599627370496 + M) % 4503599627370496 = M from by omega, show (F * 4503599627370496 + M) / 4503599627370496 = F from by omega, Nat.add_comm M]
  rw [hv]
  unfold negB valI
  by_cases c : a < 9223372036854775808
  · rw [decide_eq_false (by omega), if_pos c, show a.toNat % 9223372036854775808 = a.toNat from by omega]
    rfl
  · rw [decide_eq_true (by omega), if_neg c, show a.toNat % 9223372036854775808 = (a - 9223372036854775808).toNat from by omega]
    rfl

theorem compare_scale (x y : Int) (k : Nat) : compare (x * 2 ^ k) (y * 2 ^ k) = compare x y := by
  have p : (0 : Int) < 2 ^ k := Int.pow_pos (by decide)
  have h1 : x * 2 ^ k < y * 2 ^ k ↔ x < y := Int.mul_lt_mul_right p
  have h2 : x * 2 ^ k = y * 2 ^ k ↔ x = y := ⟨fun h => Int.eq_of_mul_eq_mul_right (by omega) h, fun h => by rw [h]⟩
  simp only [compare, compareOfLessAndEq, h1, h2]

theorem signed_scale (s : Bool) (m u k : Nat) : Ieee.signed s m (u + k) = Ieee.signed s m u * 2 ^ k := by
  rw [signed_eq, signed_eq]
  have e : ((m * 2 ^ (u + k) : Nat) : Int) = ((m * 2 ^ u : Nat) : Int) * 2 ^ k := by
    rw [Nat.pow_add, ← Nat.mul_assoc, Int.natCast_mul, Int.natCast_pow]; rfl
  rw [e]
  cases s
  · rfl
  · simp [Int.neg_mul]

theorem compare_of (x y u v : Int) (h : (x < y ↔ u < v) ∧ (x = y ↔ u = v)) : compare x y = compare u v := by
  simp only [compare, compareOfLessAndEq, h.1, h.2]

/-- how two numbers stand to each other: as their ranks -/
theorem order_fin (a b : Int) (h0 : 0 ≤ a) (h1 : a < 18446744073709551616) (h2 : 0 ≤ b) (h3 : b < 18446744073709551616) (ka : kindI a < 2) (kb : kindI b < 2) :
    Ieee.double.order a.toNat b.toNat = some (compare (rankI a) (rankI b)) := by
  obtain ⟨s, m, i, ra, hi, va⟩ := read_val a h0 h1 ka
  obtain ⟨t, n, j, rb, hj, vb⟩ := read_val b h2 h3 kb
  unfold Ieee.Format.order
  rw [ra, rb]
  simp only [Ieee.Datum.order]
  congr 1
  rw [← compare_of _ _ _ _ (val_rank a b h0 h2), ← va, ← vb]
  obtain ⟨k, hk⟩ : ∃ k : Nat, min i j + 1074 = k := ⟨(min i j + 1074).toNat, by omega⟩
  rw [show (i + 1074).toNat = (i - min i j).toNat + k from by omega, show (j + 1074).toNat = (j - min i j).toNat + k from by omega, signed_scale, signed_scale, compare_scale]

theorem kind_fld (a : Int) (h0 : 0 ≤ a) (h1 : a < 18446744073709551616) : (kindI a < 2 ↔ rankI a < 9218868437227405312 ∧ -9218868437227405312 < rankI a) ∧ (kindI a = 2 ↔ (rankI a = 9218868437227405312 ∨ rankI a = -9218868437227405312)) ∧ (kindI a = 3 ↔ rankI a > 9218868437227405312 ∨ rankI a < -9218868437227405312) := by
  have f1 := fld_lt a.toNat
  have f2 := frc_lt a.toNat
  have hr : a.toNat % 9223372036854775808 = fldN a.toNat * 4503599627370496 + frcN a.toNat := by unfold fldN frcN; omega
  unfold kindI rankI
  generalize fldN a.toNat = F at *
  generalize frcN a.toNat = M at *
  by_cases c1 : F = 2047
  · rw [if_pos c1]
    by_cases c2 : M = 0
    · rw [if_pos c2]; split <;> omega
    · rw [if_neg c2]; split <;> omega
  · rw [if_neg c1]
    by_cases c2 : F = 0 ∧ M = 0
    · rw [if_pos c2]; split <;> omega
    · rw [if_neg c2]; split <;> omega

theorem neg_rank (a : Int) (h0 : 0 ≤ a) (h1 : a < 18446744073709551616) (k : kindI a = 2) : (negB a.toNat = true → rankI a = -9218868437227405312) ∧ (negB a.toNat = false → rankI a = 9218868437227405312) := by
  have hk := (kind_fld a h0 h1).2.1.1 k
  unfold negB rankI at *
  constructor
  · intro h
    have := of_decide_eq_true h
    split at hk
    · omega
    · rw [if_neg (by omega)]; omega
  · intro h
    have := of_decide_eq_false h
    rw [if_pos (by omega)] at hk ⊢
    omega

/-- the order of two that are numbers is that of their ranks -/
theorem order_eq (a b : Int) (h0 : 0 ≤ a) (h1 : a < 18446744073709551616) (h2 : 0 ≤ b) (h3 : b < 18446744073709551616) (ka : kindI a ≠ 3) (kb : kindI b ≠ 3) :
    Ieee.double.order a.toNat b.toNat = some (compare (rankI a) (rankI b)) := by
  have KA := kind_fld a h0 h1
  have KB := kind_fld b h2 h3
  by_cases a2 : kindI a = 2
  · obtain ⟨ra, _⟩ := read_inf a h0 h1 a2
    obtain ⟨n1, n2⟩ := neg_rank a h0 h1 a2
    by_cases b2 : kindI b = 2
    · obtain ⟨rb, _⟩ := read_inf b h2 h3 b2
      obtain ⟨n3, n4⟩ := neg_rank b h2 h3 b2
      unfold Ieee.Format.order
      rw [ra, rb]
      simp only [Ieee.Datum.order]
      generalize negB a.toNat = s at *
      generalize negB b.toNat = t at *
      cases s <;> cases t
      · rw [n2 rfl, n4 rfl]; rfl
      · rw [n2 rfl, n3 rfl]; rfl
      · rw [n1 rfl, n4 rfl]; rfl
      · rw [n1 rfl, n3 rfl]; rfl
    · have b1 : kindI b < 2 := by rcases kind_cases b with c | c | c | c <;> omega
      obtain ⟨t, n, j, rb, _, _⟩ := read_val b h2 h3 b1
      have hb := KB.1.1 b1
      unfold Ieee.Format.order
      rw [ra, rb]
      simp only [Ieee.Datum.order]
      generalize negB a.toNat = s at *
      cases s
      · rw [n2 rfl]; simp only [compare, compareOfLessAndEq]; rw [if_neg (show ¬ (9218868437227405312 : Int) < rankI b by omega), if_neg (show ¬ (9218868437227405312 : Int) = rankI b by omega)]; rfl
      · rw [n1 rfl]; simp only [compare, compareOfLessAndEq]; rw [if_pos (show -9218868437227405312 < rankI b by omega)]; rfl
  · have a1 : kindI a < 2 := by rcases kind_cases a with c | c | c | c <;> omega
    by_cases b2 : kindI b = 2
    · obtain ⟨rb, _⟩ := read_inf b h2 h3 b2
      obtain ⟨n3, n4⟩ := neg_rank b h2 h3 b2
      obtain ⟨s, m, i, ra, _, _⟩ := read_val a h0 h1 a1
      have ha := KA.1.1 a1
      unfold Ieee.Format.order
      rw [ra, rb]
      simp only [Ieee.Datum.order]
      generalize negB b.toNat = t at *
      cases t
      · rw [n4 rfl]; simp only [compare, compareOfLessAndEq]; rw [if_pos (show rankI a < 9218868437227405312 by omega)]; rfl
      · rw [n3 rfl]; simp only [compare, compareOfLessAndEq]; rw [if_neg (show ¬ rankI a < -9218868437227405312 by omega), if_neg (show ¬ rankI a = -9218868437227405312 by omega)]; rfl
    · have b1 : kindI b < 2 := by rcases kind_cases b with c | c | c | c <;> omega
      exact order_fin a b h0 h1 h2 h3 a1 b1

theorem order_nan (a b : Int) (h0 : 0 ≤ a) (h1 : a < 18446744073709551616) (h2 : 0 ≤ b) (h3 : b < 18446744073709551616) (k : kindI a = 3 ∨ kindI b = 3) :
    Ieee.double.order a.toNat b.toNat = none := by
  unfold Ieee.Format.order
  rcases k with k | k
  · rw [read_nan a h0 h1 k]
    cases Ieee.double.read b.toNat <;> rfl
  · rw [read_nan b h2 h3 k]
    cases Ieee.double.read a.toNat <;> rfl

end Go.Proofs.Ytfhdmglfpkmjbaa
