/- Plain: how the document's Near cuts and rounds. -/
import Derived.Test.YtnocnodiecihnaaM10
namespace Go.Proofs.Ytnocnodiecihnaa

/-- far below, or far above: whatever the place -/
theorem rung_lo (M : Nat) (X : Int) (hM : M < 36893488147419103232) (hX : X ≤ -1200) : rung M X = 0 := by
  have e := rung_scale 1 65 X
  have m := rung_mono X (show M ≤ 1 * 2 ^ 65 by show M ≤ 36893488147419103232; omega)
  rw [e] at m
  have z : rung 1 (X + ((65 : Nat) : Int)) = 0 := by
    have l : Nat.log2 1 = 0 := by decide
    have L : lastPlace 1 (X + ((65 : Nat) : Int)) = -1074 := by unfold lastPlace; rw [l]; omega
    unfold rung
    rw [if_neg (by decide), L, show (X + ((65 : Nat) : Int) - -1074).toNat = 0 from by omega]
    obtain ⟨d, hd⟩ : ∃ d : Nat, (-1074 - (X + ((65 : Nat) : Int))).toNat = d := ⟨_, rfl⟩
    rw [hd]
    have h2 : 2 ^ 2 ≤ 2 ^ d := Nat.pow_le_pow_right (by decide) (by omega)
    unfold rne
    have e1 : 1 * 2 ^ 0 / 2 ^ d = 0 := Nat.div_eq_of_lt (by omega)
    have e2 : 1 * 2 ^ 0 % 2 ^ d = 1 := Nat.mod_eq_of_lt (by omega)
    rw [e1, e2, if_neg (by omega)]
    rfl
  omega

theorem rung_hi (M : Nat) (X : Int) (hM : M ≠ 0) (hX : 1100 ≤ X) : rung M X = 9218868437227405312 := by
  have hl := Nat.log2_self_le hM
  have L : lastPlace M X = X + M.log2 - 52 := by unfold lastPlace; omega
  have k := kept_ge M X hM L
  have le := rung_le M X
  unfold rung at le ⊢
  rw [if_neg hM] at le ⊢
  rw [L] at k le ⊢
  generalize rne (M * 2 ^ (X - (X + (M.log2 : Int) - 52)).toNat) (X + (M.log2 : Int) - 52 - X).toNat = A at *
  have q : 2046 ≤ (X + (M.log2 : Int) - 52 + 1074).toNat := by omega
  generalize (X + (M.log2 : Int) - 52 + 1074).toNat = Q at *
  clear hl L
  omega

/-- nothing is left if 65 bits and more are cut off -/
theorem rung_gone (M : Nat) (X : Int) (C : Nat) (hM : M < 18446744073709551616) (hL : lastPlace M X - X = C) (hC : 64 < C) : rung M X = 0 := by
  by_cases hz : M = 0
  · subst hz; simp [rung]
  rw [rung_shed M X (lastPlace M X) C hz rfl hL]
  have h : 2 ^ 65 ≤ 2 ^ C := Nat.pow_le_pow_right (by decide) (by omega)
  have h' : 36893488147419103232 ≤ 2 ^ C := h
  have e1 : M / 2 ^ C = 0 := Nat.div_eq_of_lt (by omega)
  have e2 : M % 2 ^ C = M := Nat.mod_eq_of_lt (by omega)
  have r : rne M C = 0 := by
    unfold rne
    rw [e1, e2, if_neg (by omega)]
  rw [r]
  simp [rung]

theorem rung_gone_half (M : Nat) (X : Int) (C : Nat) (h0 : M ≠ 0) (hM : M < 18446744073709551616) (hL : lastPlace M X - X = C) (hC : 64 < C) : rung (2 * M + 1) (X - 1) = 0 := by
  rw [rung_shed_half M X (lastPlace M X) C h0 rfl hL (by omega)]
  have h : 2 ^ 65 ≤ 2 ^ C := Nat.pow_le_pow_right (by decide) (by omega)
  have h' : 36893488147419103232 ≤ 2 ^ C := h
  have e1 : M / 2 ^ C = 0 := Nat.div_eq_of_lt (by omega)
  have e2 : M % 2 ^ C = M := Nat.mod_eq_of_lt (by omega)
  have r : rneH M C = 0 := by
    unfold rneH
    rw [e1, e2, if_neg (by omega)]
  rw [r]
  simp [rung]

/-- rne by whole part, rest and middle -/
theorem rne_by (M C K S D : Nat) (hC : 1 ≤ C) (hK : M / 2 ^ C = K) (hS : M % 2 ^ C = S) (hD : 2 ^ (C - 1) = D) :
    ((D < S ∨ (S = D ∧ K % 2 = 1)) → rne M C = K + 1) ∧ (¬ (D < S ∨ (S = D ∧ K % 2 = 1)) → rne M C = K) := by
  obtain ⟨c, rfl⟩ : ∃ c, C = c + 1 := ⟨C - 1, by omega⟩
  have p : 2 ^ (c + 1) = 2 * D := by rw [← hD, Nat.pow_succ, show c + 1 - 1 = c from rfl]; omega
  unfold rne
  rw [hK, hS, p]
  constructor
  · intro h; rw [if_pos (by omega)]
  · intro h; rw [if_neg (by omega)]; rfl

theorem rneH_by (M C K S D : Nat) (hC : 1 ≤ C) (hK : M / 2 ^ C = K) (hS : M % 2 ^ C = S) (hD : 2 ^ (C - 1) = D) :
    ((D < S ∨ S = D) → rneH M C = K + 1) ∧ (¬ (D < S ∨ S = D) → rneH M C = K) := by
  obtain ⟨c, rfl⟩ : ∃ c, C = c + 1 := ⟨C - 1, by omega⟩
  have p : 2 ^ (c + 1) = 2 * D := by rw [← hD, Nat.pow_succ, show c + 1 - 1 = c from rfl]; omega
  unfold rneH
  rw [hK, hS, p]
  constructor
  · intro h; rw [if_pos (by omega)]
  · intro h; rw [if_neg (by omega)]; rfl

/-- what a shift by fewer than 64 places leaves -/
theorem shift_parts (M : Nat) (C : Nat) (hM : M < 18446744073709551616) (h1 : 1 ≤ C) (hC : C < 64) :
    ((M : Nat) : Int) / 2 ^ C = ((M / 2 ^ C : Nat) : Int) ∧ (((M / 2 ^ C : Nat) : Int) * 2 ^ C) % 18446744073709551616 = ((M / 2 ^ C * 2 ^ C : Nat) : Int) ∧
    ((M : Nat) : Int) - ((M / 2 ^ C * 2 ^ C : Nat) : Int) = ((M % 2 ^ C : Nat) : Int) ∧ ((2 : Int) ^ (C - 1)) % 18446744073709551616 = ((2 ^ (C - 1) : Nat) : Int) := by
  have e := Nat.div_add_mod M (2 ^ C)
  have c : ((2 ^ C : Nat) : Int) = (2 : Int) ^ C := by rw [Int.natCast_pow]; rfl
  have c1 : ((2 ^ (C - 1) : Nat) : Int) = (2 : Int) ^ (C - 1) := by rw [Int.natCast_pow]; rfl
  have b : 2 ^ (C - 1) < 2 ^ 64 := Nat.pow_lt_pow_right (by decide) (by omega)
  have b' : 2 ^ (C - 1) < 18446744073709551616 := b
  rw [Nat.mul_comm] at e
  refine ⟨by rw [← c, Int.natCast_ediv], ?_, by omega, ?_⟩
  · rw [← c, ← Int.natCast_mul]
    generalize M / 2 ^ C * 2 ^ C = z at *
    omega
  · rw [← c1]
    generalize 2 ^ (C - 1) = z at *
    omega

end Go.Proofs.Ytnocnodiecihnaa
