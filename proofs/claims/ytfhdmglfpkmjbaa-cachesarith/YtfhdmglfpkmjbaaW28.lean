/- A number is its whole part and what is left: plain. -/
import Derived.Test.YtfhdmglfpkmjbaaW27
namespace Go.Proofs.Ytfhdmglfpkmjbaa
open Go.RowKit

/-- with the sign of s -/
def withS (s : Bool) (z : Nat) : Int := if s then -((z : Nat) : Int) else ((z : Nat) : Int)

theorem srp_with (s : Bool) (p : Int) (z : Nat) : srp p (withS s z) = withS s (rung z p) := by
  unfold srp withS
  cases s
  · simp only [Bool.false_eq_true, if_false]
    rw [if_neg (by omega), Int.natAbs_natCast]
  · simp only [if_true]
    rw [Int.natAbs_neg, Int.natAbs_natCast]
    by_cases c : z = 0
    · subst c; rw [if_neg (by omega), rung_zero]; rfl
    · rw [if_pos (by omega)]

theorem valR_with (s : Bool) (r : Nat) : valR (withS s r) = withS s (valN r) := by
  unfold valR withS
  cases s
  · simp only [Bool.false_eq_true, if_false]
    rw [if_neg (by omega), Int.toNat_natCast]
  · simp only [if_true]
    by_cases c : r = 0
    · subst c; rfl
    · rw [if_pos (by omega), show (- -((r : Nat) : Int)).toNat = r from by omega]

theorem rank_signed (s : Bool) (r : Nat) (h : r ≤ 9218868437227405312) : rankI (sb s + ((r : Nat) : Int)) = withS s r := by
  rw [← word_int, rank_word s r h]
  unfold withS
  rfl

/-- the size of a finite number, in units of the smallest -/
def magI (a : Int) : Nat := if kindI a = 1 then (manI a).toNat * 2 ^ (expI a + 1074).toNat else 0

theorem val_mag (a : Int) (h0 : 0 ≤ a) (h1 : a < 18446744073709551616) (k : kindI a < 2) : valI a = withS (negB a.toNat) (magI a) := by
  unfold magI withS
  rcases kind_cases a with c | c | c | c
  · obtain ⟨_, e⟩ := read_zero a h0 h1 c
    have r : rankI a = 0 := by rw [e]; cases negB a.toNat <;> rfl
    have v : valI a = 0 := by rw [val_of_rank a h0, r]; rfl
    have mg : (if kindI a = 1 then (manI a).toNat * 2 ^ (expI a + 1074).toNat else 0) = 0 := if_neg (by omega)
    rw [v, mg]
    cases negB a.toNat <;> rfl
  · rw [if_pos c]
    exact val_parts a h0 h1 c
  · omega
  · omega

theorem rank_mag (a : Int) (h0 : 0 ≤ a) (h1 : a < 18446744073709551616) (k : kindI a < 2) : rankI a = withS (negB a.toNat) (rung (magI a) (-1074)) := by
  rw [← srp_val a h0 h1 k, val_mag a h0 h1 k, srp_with]

theorem unitN : unit = ((2 ^ unitE : Nat) : Int) := by unfold unit; rw [Int.natCast_pow]; rfl

/-- the whole part's and the fraction's sizes, by the parts -/
theorem mag_split (m e : Nat) (he : e ≤ unitE) : m * 2 ^ e / 2 ^ unitE = m / 2 ^ (unitE - e) ∧ m * 2 ^ e % 2 ^ unitE = m % 2 ^ (unitE - e) * 2 ^ e := by
  have s : 2 ^ unitE = 2 ^ (unitE - e) * 2 ^ e := by rw [← Nat.pow_add]; congr 1; omega
  rw [s]
  exact ⟨Nat.mul_div_mul_right _ _ (Nat.two_pow_pos e), Nat.mul_mod_mul_right _ _ _⟩

theorem mag_whole (m e : Nat) (he : unitE ≤ e) : m * 2 ^ e / 2 ^ unitE * 2 ^ unitE = m * 2 ^ e ∧ m * 2 ^ e % 2 ^ unitE = 0 := by
  obtain ⟨d, rfl⟩ : ∃ d, e = d + unitE := ⟨e - unitE, by omega⟩
  rw [Nat.pow_add, ← Nat.mul_assoc, Nat.mul_div_cancel _ (Nat.two_pow_pos _), Nat.mul_mod_left]
  exact ⟨rfl, rfl⟩

theorem trunc_val (a : Int) (h0 : 0 ≤ a) (h1 : a < 18446744073709551616) (k : kindI a < 2) :
    kindI (truncI a) < 2 ∧ valI (truncI a) = withS (negB a.toNat) (magI a / 2 ^ unitE * 2 ^ unitE) := by
  have hu := ue
  by_cases k1 : kindI a = 1
  · obtain ⟨_, f, _⟩ := read_fin a h0 h1 k1
    obtain ⟨f1, f2, f3, f4, _⟩ := f
    have mg : magI a = (manI a).toNat * 2 ^ (expI a + 1074).toNat := by unfold magI; rw [if_pos k1]
    by_cases c : 0 ≤ expI a
    · have t : truncI a = a := by unfold truncI; rw [if_neg (by omega), if_pos (Or.inr c)]
      rw [t]
      refine ⟨k, ?_⟩
      rw [val_mag a h0 h1 k, mg, (mag_whole _ _ (by omega)).1]
    · have t : truncI a = roundI (sgnI a) (sizeI (manI a) (expI a)) 0 := by unfold truncI; rw [if_neg (by omega), if_neg (by simp [k1]; omega)]
      have sz : sizeI (manI a) (expI a) = (((manI a).toNat / 2 ^ (-expI a).toNat : Nat) : Int) := by
        unfold sizeI
        rw [if_pos (by omega), Int.natCast_ediv, Int.natCast_pow, Int.toNat_of_nonneg (by omega)]
        rfl
      obtain ⟨hq, _⟩ := mag_split (manI a).toNat (expI a + 1074).toNat (by omega)
      rw [show unitE - (expI a + 1074).toNat = (-expI a).toNat from by omega] at hq
      have ql : (manI a).toNat / 2 ^ (-expI a).toNat < 9007199254740992 := Nat.lt_of_le_of_lt (Nat.div_le_self _ _) (by omega)
      obtain ⟨b0, b1⟩ := trunc_bd a h0 h1
      have r : rankI (truncI a) = withS (negB a.toNat) (rung ((manI a).toNat / 2 ^ (-expI a).toNat) 0) := by
        rw [t]
        unfold roundI
        rw [sz, Int.toNat_natCast, sgn_sb a h0 h1]
        exact rank_signed _ _ (rung_le _ _)
      rw [mg, hq]
      generalize (manI a).toNat / 2 ^ (-expI a).toNat = q at *
      have lt := rung_whole_lt q ql
      refine ⟨?_, ?_⟩
      · refine kind_rank _ b0 b1 ?_ ?_
        · rw [r]; unfold withS; split <;> omega
        · rw [r]; unfold withS; split <;> omega
      · rw [val_of_rank _ b0, r, valR_with, val_rung q 0 ql (by omega) (by omega), show ((0 : Int) + 1074).toNat = unitE from by omega]
  · have t : truncI a = a := by unfold truncI; rw [if_neg (by omega), if_pos (Or.inl k1)]
    rw [t]
    refine ⟨k, ?_⟩
    rw [val_mag a h0 h1 k]
    have mg : magI a = 0 := by unfold magI; rw [if_neg k1]
    rw [mg, Nat.zero_div, Nat.zero_mul]

theorem withS_sub (s : Bool) (x y : Nat) (h : y ≤ x) : withS s x - withS s y = withS s (x - y) := by
  unfold withS; cases s
  · simp only [Bool.false_eq_true, if_false]; omega
  · simp only [if_true]; omega

theorem withS_add (s : Bool) (x y : Nat) : withS s x + withS s y = withS s (x + y) := by
  unfold withS; cases s
  · simp only [Bool.false_eq_true, if_false]; omega
  · simp only [if_true]; omega

/-- what is left is kept whole -/
theorem frac_exact (a : Int) (h0 : 0 ≤ a) (h1 : a < 18446744073709551616) : valN (rung (magI a % 2 ^ unitE) (-1074)) = magI a % 2 ^ unitE := by
  have hu := ue
  have z : valN (rung 0 (-1074)) = 0 := by rw [rung_zero]; rfl
  unfold magI
  by_cases k1 : kindI a = 1
  · obtain ⟨_, f, _⟩ := read_fin a h0 h1 k1
    obtain ⟨f1, f2, f3, f4, _⟩ := f
    rw [if_pos k1]
    by_cases c : 0 ≤ expI a
    · rw [(mag_whole _ _ (by omega)).2, z]
    · rw [(mag_split _ _ (by omega)).2, rung_scale, show -1074 + (((expI a + 1074).toNat : Nat) : Int) = expI a from by omega]
      refine val_rung _ _ ?_ f3 f4
      exact Nat.lt_of_le_of_lt (Nat.mod_le _ _) (by omega)
  · rw [if_neg k1, Nat.zero_mod, z]

theorem left_rank (a : Int) (h0 : 0 ≤ a) (h1 : a < 18446744073709551616) (k : kindI a < 2) :
    kindI (subI a (truncI a)) < 2 ∧ rankI (subI a (truncI a)) = withS (negB a.toNat) (rung (magI a % 2 ^ unitE) (-1074)) := by
  obtain ⟨t0, t1⟩ := trunc_bd a h0 h1
  obtain ⟨kt, vt⟩ := trunc_val a h0 h1 k
  have ra := rank_mag a h0 h1 k
  have va := val_mag a h0 h1 k
  obtain ⟨d0, d1⟩ := subI_bd a (truncI a)
  have dm := Nat.div_add_mod (magI a) (2 ^ unitE)
  have md : magI a % 2 ^ unitE ≤ magI a := Nat.mod_le _ _
  have r : rankI (subI a (truncI a)) = withS (negB a.toNat) (rung (magI a % 2 ^ unitE) (-1074)) := by
    have e : magI a - magI a / 2 ^ unitE * 2 ^ unitE = magI a % 2 ^ unitE := by
      rw [Nat.mul_comm] at dm
      generalize magI a / 2 ^ unitE * 2 ^ unitE = x at *
      generalize magI a % 2 ^ unitE = y at *
      clear va vt ra
      omega
    rw [rank_sub a _ h0 h1 t0 t1 k kt, va, vt, withS_sub _ _ _ (Nat.div_mul_le_self _ _), srp_with, e]
  refine ⟨?_, r⟩
  have mono := rung_mono (-1074) md
  have B := (kind_fld a h0 h1).1.1 k
  rw [ra] at B
  generalize rung (magI a % 2 ^ unitE) (-1074) = x at *
  generalize rung (magI a) (-1074) = y at *
  clear dm md va vt ra
  refine kind_rank _ d0 d1 ?_ ?_
  · rw [r]
    unfold withS at B ⊢
    cases negB a.toNat
    · simp only [Bool.false_eq_true, if_false] at B ⊢; omega
    · simp only [if_true] at B ⊢; omega
  · rw [r]
    unfold withS at B ⊢
    cases negB a.toNat
    · simp only [Bool.false_eq_true, if_false] at B ⊢; omega
    · simp only [if_true] at B ⊢; omega

theorem equal_of_rank (a b : Int) (ka : kindI a < 2) (kb : kindI b < 2) (h : rankI a = rankI b) : equalI a b = true := by
  unfold equalI
  have a1 : (kindI a == 3) = false := by rw [beq_eq_false_iff_ne]; omega
  have a2 : (kindI b == 3) = false := by rw [beq_eq_false_iff_ne]; omega
  rw [a1, a2, h, beq_self_eq_true]
  rfl

theorem back_add (a : Int) (h0 : 0 ≤ a) (h1 : a < 18446744073709551616) (k : kindI a < 2) : equalI (addI (truncI a) (subI a (truncI a))) a = true := by
  obtain ⟨t0, t1⟩ := trunc_bd a h0 h1
  obtain ⟨kt, vt⟩ := trunc_val a h0 h1 k
  obtain ⟨kd, rd⟩ := left_rank a h0 h1 k
  obtain ⟨d0, d1⟩ := subI_bd a (truncI a)
  obtain ⟨s0, s1⟩ := addI_bd (truncI a) (subI a (truncI a))
  have vd : valI (subI a (truncI a)) = withS (negB a.toNat) (magI a % 2 ^ unitE) := by
    rw [val_of_rank _ d0, rd, valR_with, frac_exact a h0 h1]
  have dm := Nat.div_add_mod (magI a) (2 ^ unitE)
  have r : rankI (addI (truncI a) (subI a (truncI a))) = rankI a := by
    rw [rank_add _ _ t0 t1 d0 d1 kt kd, vt, vd, withS_add, Nat.mul_comm, dm, ← val_mag a h0 h1 k, srp_val a h0 h1 k]
  exact equal_of_rank _ _ (kind_same_rank _ _ s0 s1 h0 h1 r k) k r

theorem one_prt : kindI 4607182418800017408 = 1 ∧ manI 4607182418800017408 = 4503599627370496 ∧ expI 4607182418800017408 = -52 := by decide +kernel

theorem rem_rank (a : Int) (h0 : 0 ≤ a) (h1 : a < 18446744073709551616) (k : kindI a < 2) :
    rankI (remC a 4607182418800017408) = withS (negB a.toNat) (rung (magI a % 2 ^ unitE) (-1074)) := by
  obtain ⟨o1, o2, o3⟩ := one_prt
  have hu := ue
  have ra := rank_mag a h0 h1 k
  unfold remC
  rw [o1, o2, o3, if_neg (by omega)]
  by_cases k1 : kindI a = 1
  · obtain ⟨_, f, _⟩ := read_fin a h0 h1 k1
    obtain ⟨f1, f2, f3, f4, _⟩ := f
    have mg : magI a = (manI a).toNat * 2 ^ (expI a + 1074).toNat := by unfold magI; rw [if_pos k1]
    by_cases c : expI a < -52
    · rw [if_pos (Or.inr (Or.inr c)), ra]
      have lt : magI a < 2 ^ unitE := by
        rw [mg]
        have p := Nat.two_pow_pos (expI a + 1074).toNat
        have b1 : (manI a).toNat * 2 ^ (expI a + 1074).toNat < 2 ^ 53 * 2 ^ (expI a + 1074).toNat := (Nat.mul_lt_mul_right p).2 (by show _ < 9007199254740992; omega)
        rw [← Nat.pow_add] at b1
        exact Nat.lt_of_lt_of_le b1 (Nat.pow_le_pow_right (by decide) (by omega))
      rw [Nat.mod_eq_of_lt lt]
    · rw [if_neg (by omega)]
      unfold roundI
      rw [sgn_sb a h0 h1, rank_signed _ _ (rung_le _ _)]
      congr 1
      have md : (modI (manI a) (expI a - -52) 4503599627370496).toNat = (manI a).toNat * 2 ^ (expI a - -52).toNat % 2 ^ 52 := by
        unfold modI
        have e : manI a * 2 ^ (expI a - -52).toNat = (((manI a).toNat * 2 ^ (expI a - -52).toNat : Nat) : Int) := by
          rw [Int.natCast_mul, Int.natCast_pow, Int.toNat_of_nonneg (by omega)]; rfl
        rw [e]
        generalize (manI a).toNat * 2 ^ (expI a - -52).toNat = z
        show _ = z % 4503599627370496
        omega
      rw [md, mg]
      obtain ⟨w, hw⟩ : ∃ w : Nat, unitE = 52 + w := ⟨1022, by omega⟩
      have s1 : (expI a + 1074).toNat = (expI a - -52).toNat + w := by omega
      rw [s1, Nat.pow_add, ← Nat.mul_assoc, hw, Nat.pow_add 2 52 w, Nat.mul_mod_mul_right, rung_scale, show -1074 + (w : Int) = -52 from by omega]
  · have mg : magI a = 0 := by unfold magI; rw [if_neg k1]
    rw [if_pos (Or.inl (by have := kind_cases a; omega)), ra, mg, Nat.zero_mod]

theorem back_rem (a : Int) (h0 : 0 ≤ a) (h1 : a < 18446744073709551616) (k : kindI a < 2) : equalI (subI a (truncI a)) (remC a 4607182418800017408) = true := by
  obtain ⟨kd, rd⟩ := left_rank a h0 h1 k
  have rr := rem_rank a h0 h1 k
  obtain ⟨d0, d1⟩ := subI_bd a (truncI a)
  obtain ⟨r0, r1⟩ := remC_bd a 4607182418800017408 h0 h1
  have r : rankI (remC a 4607182418800017408) = rankI (subI a (truncI a)) := by rw [rr, rd]
  exact equal_of_rank _ _ kd (kind_same_rank _ _ r0 r1 d0 d1 r kd) r.symm

theorem one_val : valI 4607182418800017408 = unit := by
  have e : fromI 1 = 4607182418800017408 := by decide +kernel
  rw [← e, from_val 1 (by omega) (by omega), Int.one_mul]

theorem back_floor (a : Int) (h0 : 0 ≤ a) (h1 : a < 18446744073709551616) (k : kindI a < 2) : lessI a (floorI a) = false := by
  unfold floorI
  cases hl : lessI a (truncI a) with
  | false => rw [if_neg (by decide)]; exact hl
  | true =>
    rw [if_pos rfl]
    obtain ⟨t0, t1⟩ := trunc_bd a h0 h1
    obtain ⟨kt, vt⟩ := trunc_val a h0 h1 k
    cases hh : lessI a (subI (truncI a) 4607182418800017408) with
    | false => rfl
    | true =>
      exfalso
      obtain ⟨_, _, lt⟩ := (less_iff _ _).1 hh
      rw [rank_sub _ _ t0 t1 (by omega) (by omega) kt (by rw [one_prt.1]; decide), one_val, ← srp_val a h0 h1 k] at lt
      have le : valI (truncI a) - unit ≤ valI a := by
        rw [vt, val_mag a h0 h1 k, unitN]
        have dm := Nat.div_add_mod (magI a) (2 ^ unitE)
        have ml := Nat.mod_lt (magI a) (Nat.two_pow_pos unitE)
        rw [Nat.mul_comm] at dm
        generalize magI a / 2 ^ unitE * 2 ^ unitE = x at *
        generalize magI a % 2 ^ unitE = y at *
        generalize 2 ^ unitE = u at *
        generalize magI a = z at *
        unfold withS
        split <;> omega
      have := srp_mono (-1074) le
      omega

end Go.Proofs.Ytfhdmglfpkmjbaa
