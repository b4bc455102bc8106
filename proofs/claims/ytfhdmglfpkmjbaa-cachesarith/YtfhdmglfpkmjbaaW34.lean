/- math.Trunc and math.Floor, as the language has them. -/
import Derived.Test.YtfhdmglfpkmjbaaB6
namespace Go.Proofs.Ytfhdmglfpkmjbaa
open Go.RowKit

theorem cut_zero (neg : Bool) (n d : Nat) : Ieee.Toward.zero.cut neg n d = n / 2 ^ d := by
  unfold Ieee.Toward.cut
  simp only [Nat.one_shiftLeft, Bool.toNat_false, Nat.add_zero]
  by_cases h : d ≤ n.log2 + 2
  · rw [Nat.min_eq_left h]
  · have h' : n.log2 + 2 ≤ d := by omega
    rw [Nat.min_eq_right h']
    have hn := lt_two_log2 n
    have h1 : 2 ^ (n.log2 + 1) ≤ 2 ^ (n.log2 + 2) := Nat.pow_le_pow_right (by decide) (by omega)
    have h2 : 2 ^ (n.log2 + 2) ≤ 2 ^ d := Nat.pow_le_pow_right (by decide) h'
    rw [Nat.div_eq_of_lt (by omega), Nat.div_eq_of_lt (by omega)]

theorem cut_down (neg : Bool) (n d : Nat) : Ieee.Toward.down.cut neg n d = n / 2 ^ d + (neg && n % 2 ^ d != 0).toNat := by
  unfold Ieee.Toward.cut
  simp only [Nat.one_shiftLeft]
  by_cases h : d ≤ n.log2 + 2
  · rw [Nat.min_eq_left h]
  · have h' : n.log2 + 2 ≤ d := by omega
    rw [Nat.min_eq_right h']
    have hn := lt_two_log2 n
    have h1 : 2 ^ (n.log2 + 1) ≤ 2 ^ (n.log2 + 2) := Nat.pow_le_pow_right (by decide) (by omega)
    have h2 : 2 ^ (n.log2 + 2) ≤ 2 ^ d := Nat.pow_le_pow_right (by decide) h'
    rw [Nat.div_eq_of_lt (show n < 2 ^ (n.log2 + 2) by omega), Nat.div_eq_of_lt (show n < 2 ^ d by omega), Nat.mod_eq_of_lt (show n < 2 ^ (n.log2 + 2) by omega), Nat.mod_eq_of_lt (show n < 2 ^ d by omega)]

/-- the size of the whole part -/
theorem size_nat (a : Int) (h0 : 0 ≤ a) (h1 : a < 18446744073709551616) (k : kindI a = 1) (c : expI a < 0) :
    sizeI (manI a) (expI a) = (((manI a).toNat / 2 ^ (-expI a).toNat : Nat) : Int) := by
  obtain ⟨_, f, _⟩ := read_fin a h0 h1 k
  have f1 := f.pos
  unfold sizeI
  rw [if_pos (by omega), Int.natCast_ediv, Int.natCast_pow, Int.toNat_of_nonneg (by omega)]
  rfl

theorem trunc_word (a : Int) (h0 : 0 ≤ a) (h1 : a < 18446744073709551616) (k : kindI a ≠ 3) :
    ((Ieee.double.write ((Ieee.double.read a.toNat).integral .zero) : Nat) : Int) = truncI a := by
  unfold truncI
  rw [if_neg k]
  rcases kind_cases a with c | c | c | c
  · obtain ⟨r, e⟩ := read_zero a h0 h1 c
    rw [if_pos (Or.inl (by omega)), r]
    unfold Ieee.Datum.integral
    simp only
    rw [cut_zero, Nat.zero_shiftLeft, Nat.zero_div, write_num, rung_zero, word_int]
    omega
  · obtain ⟨r, f, e⟩ := read_fin a h0 h1 c
    rw [r]
    unfold Ieee.Datum.integral
    simp only
    rw [cut_zero, Nat.shiftLeft_eq, write_num, word_int]
    by_cases d : 0 ≤ expI a
    · rw [if_pos (Or.inr d), show (-expI a).toNat = 0 from by omega, Nat.pow_zero, Nat.div_one, rung_scale, show 0 + (((expI a).toNat : Nat) : Int) = expI a from by omega]
      exact e.symm
    · rw [if_neg (by simp [c]; omega), show (expI a).toNat = 0 from by omega, Nat.pow_zero, Nat.mul_one, size_nat a h0 h1 c (by omega)]
      unfold roundI
      rw [Int.toNat_natCast, sgn_sb a h0 h1]
  · obtain ⟨r, e⟩ := read_inf a h0 h1 c
    rw [if_pos (Or.inl (by omega)), r]
    unfold Ieee.Datum.integral
    simp only
    rw [write_inf, word_int]
    omega
  · exact absurd c k

theorem less_false (a b : Int) (h0 : 0 ≤ a) (h2 : 0 ≤ b) (h : valI b ≤ valI a) : lessI a b = false := by
  have v := (val_rank a b h0 h2).1
  unfold lessI
  rw [decide_eq_false (fun c => by have := v.2 c; omega), Bool.and_false]

theorem less_true (a b : Int) (h0 : 0 ≤ a) (h2 : 0 ≤ b) (ka : kindI a ≠ 3) (kb : kindI b ≠ 3) (h : valI a < valI b) : lessI a b = true := by
  have v := (val_rank a b h0 h2).1
  exact (less_iff a b).2 ⟨ka, kb, v.1 h⟩

theorem floor_word (a : Int) (h0 : 0 ≤ a) (h1 : a < 18446744073709551616) (k : kindI a ≠ 3) :
    ((Ieee.double.write ((Ieee.double.read a.toNat).integral .down) : Nat) : Int) = floorI a := by
  unfold floorI
  rcases kind_cases a with c | c | c | c
  · obtain ⟨r, e⟩ := read_zero a h0 h1 c
    have t : truncI a = a := by unfold truncI; rw [if_neg k, if_pos (Or.inl (by omega))]
    rw [t, less_false a a h0 h0 (Int.le_refl _), if_neg (by decide), r]
    unfold Ieee.Datum.integral
    simp only
    rw [cut_down, Nat.zero_shiftLeft, Nat.zero_div, Nat.zero_mod]
    simp only [bne_self_eq_false, Bool.and_false, Bool.toNat_false, Nat.add_zero]
    rw [write_num, rung_zero, word_int]
    omega
  · obtain ⟨r, f, e⟩ := read_fin a h0 h1 c
    obtain ⟨f1, f2, f3, f4, _⟩ := f
    rw [r]
    unfold Ieee.Datum.integral
    simp only
    rw [cut_down, Nat.shiftLeft_eq, write_num, word_int]
    by_cases d : 0 ≤ expI a
    · have t : truncI a = a := by unfold truncI; rw [if_neg k, if_pos (Or.inr d)]
      rw [t, less_false a a h0 h0 (Int.le_refl _), if_neg (by decide), show (-expI a).toNat = 0 from by omega, Nat.pow_zero, Nat.div_one, Nat.mod_one]
      simp only [bne_self_eq_false, Bool.and_false, Bool.toNat_false, Nat.add_zero]
      rw [rung_scale, show 0 + (((expI a).toNat : Nat) : Int) = expI a from by omega]
      exact e.symm
    · have hu := ue
      have t : truncI a = roundI (sgnI a) (sizeI (manI a) (expI a)) 0 := by unfold truncI; rw [if_neg k, if_neg (by simp [c]; omega)]
      rw [size_nat a h0 h1 c (by omega)] at t
      unfold roundI at t
      rw [Int.toNat_natCast, sgn_sb a h0 h1] at t
      rw [show (expI a).toNat = 0 from by omega, Nat.pow_zero, Nat.mul_one]
      obtain ⟨t0, t1⟩ := trunc_bd a h0 h1
      obtain ⟨kt, vt⟩ := trunc_val a h0 h1 (by omega)
      have va := val_mag a h0 h1 (by omega)
      have mg : magI a = (manI a).toNat * 2 ^ (expI a + 1074).toNat := by unfold magI; rw [if_pos c]
      obtain ⟨hq, hm⟩ := mag_split (manI a).toNat (expI a + 1074).toNat (by omega)
      rw [show unitE - (expI a + 1074).toNat = (-expI a).toNat from by omega, ← mg] at hq hm
      have dm := Nat.div_add_mod (magI a) (2 ^ unitE)
      have ql : (manI a).toNat / 2 ^ (-expI a).toNat ≤ 4503599627370496 := by
        have p : 2 ^ 1 ≤ 2 ^ (-expI a).toNat := Nat.pow_le_pow_right (by decide) (by omega)
        have : (manI a).toNat / 2 ^ (-expI a).toNat ≤ (manI a).toNat / 2 ^ 1 := Nat.div_le_div_left p (by decide)
        omega
      rw [hq] at vt dm
      have rp := Nat.two_pow_pos (expI a + 1074).toNat
      generalize (manI a).toNat / 2 ^ (-expI a).toNat = q at *
      generalize (manI a).toNat % 2 ^ (-expI a).toNat = r at *
      rw [Nat.mul_comm] at dm
      by_cases rz : r = 0
      · subst rz
        rw [Nat.zero_mul] at hm
        simp only [bne_self_eq_false, Bool.and_false, Bool.toNat_false, Nat.add_zero]
        have eqv : valI (truncI a) = valI a := by
          have e2 : q * 2 ^ unitE = magI a := by rw [hm, Nat.add_zero] at dm; exact dm
          rw [vt, va, e2]
        rw [less_false a _ h0 t0 (by omega), if_neg (by decide)]
        exact t.symm
      · have mp : 0 < magI a % 2 ^ unitE := by rw [hm]; exact Nat.mul_pos (by omega) rp
        have rb : (r != 0) = true := by rw [bne_iff_ne]; exact rz
        rw [rb, Bool.and_true]
        clear hm mg rp rb
        generalize hs : negB a.toNat = s at *
        cases s
        · have lv : valI (truncI a) ≤ valI a := by
            rw [vt, va]
            unfold withS
            rw [if_neg (by decide), if_neg (by decide)]
            generalize q * 2 ^ unitE = x at *
            generalize magI a % 2 ^ unitE = y at *
            clear t
            omega
          rw [less_false a _ h0 t0 lv, if_neg (by decide), Bool.toNat_false, Nat.add_zero]
          exact t.symm
        · have lv : valI a < valI (truncI a) := by
            rw [vt, va]
            unfold withS
            rw [if_pos rfl, if_pos rfl]
            generalize q * 2 ^ unitE = x at *
            generalize magI a % 2 ^ unitE = y at *
            clear t
            omega
          rw [less_true a _ h0 t0 k (by omega) lv, if_pos rfl, Bool.toNat_true]
          have vs : valI (truncI a) - unit = (-((q : Int) + 1)) * unit := by
            rw [vt, unitN]
            unfold withS
            rw [if_pos rfl, Int.natCast_mul, Int.neg_mul, Int.add_mul, Int.one_mul]
            generalize (q : Int) * ((2 ^ unitE : Nat) : Int) = x
            generalize ((2 ^ unitE : Nat) : Int) = u
            clear dm mp lv va vt t
            omega
          have n0 : -9007199254740992 < -((q : Int) + 1) := by omega
          have n1 : -((q : Int) + 1) < 9007199254740992 := by omega
          obtain ⟨x0, x1⟩ := from_bd _ n0 n1
          obtain ⟨s0, s1⟩ := subI_bd (truncI a) 4607182418800017408
          have rk : rankI (subI (truncI a) 4607182418800017408) = rankI (fromI (-((q : Int) + 1))) := by
            rw [rank_sub _ _ t0 t1 (by omega) (by omega) kt (by rw [one_prt.1]; decide), one_val, vs, srp_unit, from_rank _ n0 n1]
          have eq := word_of_rank _ _ s0 s1 x0 x1 rk (from_rank_ne _ n0 n1 (by omega))
          rw [eq]
          unfold fromI
          rw [if_pos (by omega), show (- -((q : Int) + 1)).toNat = q + 1 from by omega]
          rfl
  · obtain ⟨r, e⟩ := read_inf a h0 h1 c
    have t : truncI a = a := by unfold truncI; rw [if_neg k, if_pos (Or.inl (by omega))]
    rw [t, less_false a a h0 h0 (Int.le_refl _), if_neg (by decide), r]
    unfold Ieee.Datum.integral
    simp only
    rw [write_inf, word_int]
    omega
  · exact absurd c k

end Go.Proofs.Ytfhdmglfpkmjbaa
