/- Plain: what a word reads as, by its kind; and that a number's own rung is its word. -/
import Derived.Test.YtfhdmglfpkmjbaaM5
namespace Go.Proofs.Ytfhdmglfpkmjbaa

/-- the sign bit as a number -/
def sb (s : Bool) : Int := if s then 9223372036854775808 else 0

theorem sgn_sb (a : Int) (h0 : 0 ≤ a) (h : a < 18446744073709551616) : sgnI a = sb (negB a.toNat) := by
  unfold sgnI sb
  rw [sgnN_eq a.toNat (by omega)]
  cases negB a.toNat <;> rfl

theorem word_int (s : Bool) (r : Nat) : ((wordOf s r : Nat) : Int) = sb s + r := by
  unfold wordOf sb; cases s <;> simp

theorem read_nan (a : Int) (h0 : 0 ≤ a) (h : a < 18446744073709551616) (k : kindI a = 3) : Ieee.double.read a.toNat = .nan (negB a.toNat) (frcN a.toNat) := by
  rw [read_eq _ (by omega)]
  unfold kindI at k
  split at k
  · rename_i c
    split at k
    · cases k
    · rename_i c2; rw [if_neg (by omega), if_neg c2]
  · split at k <;> cases k

theorem read_inf (a : Int) (h0 : 0 ≤ a) (h : a < 18446744073709551616) (k : kindI a = 2) : Ieee.double.read a.toNat = .infinity (negB a.toNat) ∧ a = sb (negB a.toNat) + 9218868437227405312 := by
  rw [read_eq _ (by omega)]
  unfold kindI at k
  split at k
  · rename_i c
    split at k
    · rename_i c2
      rw [if_neg (by omega), if_pos c2]
      refine ⟨rfl, ?_⟩
      have w := word_parts a.toNat (by omega)
      rw [← sgn_sb a h0 h]
      unfold sgnI
      omega
    · cases k
  · split at k <;> cases k

theorem read_zero (a : Int) (h0 : 0 ≤ a) (h : a < 18446744073709551616) (k : kindI a = 0) : Ieee.double.read a.toNat = .number (negB a.toNat) 0 (-1074) ∧ a = sb (negB a.toNat) := by
  rw [read_eq _ (by omega)]
  unfold kindI at k
  split at k
  · split at k <;> cases k
  · split at k
    · rename_i c c2
      rw [if_pos (by omega)]
      unfold manN
      rw [if_pos c2.1, c2.1, c2.2]
      refine ⟨rfl, ?_⟩
      have w := word_parts a.toNat (by omega)
      rw [← sgn_sb a h0 h]
      unfold sgnI
      omega
    · cases k

structure Fin1 (m : Int) (e : Int) : Prop where
  pos : 0 < m
  lt : m < 9007199254740992
  lo : -1074 ≤ e
  hi : e ≤ 971
  top : -1074 < e → 4503599627370496 ≤ m

theorem rung_own (m : Nat) (e : Int) (h : Fin1 m e) : rung m e = (e + 1074).toNat * 4503599627370496 + m := by
  obtain ⟨h1, h2, h3, h4, h5⟩ := h
  have hz : m ≠ 0 := by omega
  have hl : lastPlace m e = e := by
    unfold lastPlace
    by_cases c : -1074 < e
    · have l : m.log2 = 52 := by
        rw [Nat.log2_eq_iff hz]
        have := h5 c
        constructor
        · show 4503599627370496 ≤ m; omega
        · show m < 9007199254740992; omega
      rw [l]; omega
    · have l := (Nat.log2_lt hz).2 (show m < 2 ^ 53 by show m < 9007199254740992; omega)
      omega
  unfold rung
  rw [if_neg hz, hl, show (e - e).toNat = 0 from by omega, rne_zero, Nat.pow_zero, Nat.mul_one]
  have : (e + 1074).toNat ≤ 2045 := by omega
  generalize (e + 1074).toNat = q at *
  omega

theorem read_fin (a : Int) (h0 : 0 ≤ a) (h : a < 18446744073709551616) (k : kindI a = 1) :
    Ieee.double.read a.toNat = .number (negB a.toNat) (manI a).toNat (expI a) ∧ Fin1 (manI a) (expI a) ∧ a = sb (negB a.toNat) + (rung (manI a).toNat (expI a) : Nat) := by
  have f1 := fld_lt a.toNat
  have f2 := frc_lt a.toNat
  have w := word_parts a.toNat (by omega)
  have hs := sgn_sb a h0 h
  have hm : manI a = ((manN a.toNat : Nat) : Int) := by unfold manI; rw [if_pos k]
  have he : expI a = -1074 + ((fldN a.toNat - 1 : Nat) : Int) := by unfold expI; rw [if_pos k]
  have c1 : fldN a.toNat ≠ 2047 := by
    intro c; unfold kindI at k; rw [if_pos c] at k; split at k <;> cases k
  have c2 : ¬ (fldN a.toNat = 0 ∧ frcN a.toNat = 0) := by
    intro c; unfold kindI at k; rw [if_neg c1, if_pos c] at k; cases k
  have hF : Fin1 (manI a) (expI a) := by
    rw [hm, he]
    unfold manN
    split
    · exact ⟨by omega, by omega, by omega, by omega, by omega⟩
    · exact ⟨by omega, by omega, by omega, by omega, by omega⟩
  refine ⟨?_, hF, ?_⟩
  · rw [read_eq _ (by omega), if_pos (by omega), hm, he, Int.toNat_natCast]
  · rw [← hs]
    have hF' := hF
    rw [hm] at hF'
    rw [hm, Int.toNat_natCast, rung_own _ _ hF', he]
    unfold sgnI manN
    split <;> omega

end Go.Proofs.Ytfhdmglfpkmjbaa
