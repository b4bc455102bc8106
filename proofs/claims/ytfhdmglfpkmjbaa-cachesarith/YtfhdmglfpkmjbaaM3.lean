/- Plain: the parts of a binary64, as the program takes them, and what Ieee reads of it. -/
import Derived.Test.YtfhdmglfpkmjbaaM2
namespace Go.Proofs.Ytfhdmglfpkmjbaa

def fldN (a : Nat) : Nat := a / 4503599627370496 % 2048
def frcN (a : Nat) : Nat := a % 4503599627370496
def manN (a : Nat) : Nat := if fldN a = 0 then frcN a else frcN a + 4503599627370496
def sgnN (a : Nat) : Nat := a / 9223372036854775808 * 9223372036854775808
def negB (a : Nat) : Bool := decide (9223372036854775808 ≤ a)

/-- 0: a zero; 1: another finite one; 2: infinite; 3: no number -/
def kindI (a : Int) : Int :=
  if fldN a.toNat = 2047 then (if frcN a.toNat = 0 then 2 else 3) else if fldN a.toNat = 0 ∧ frcN a.toNat = 0 then 0 else 1
def sgnI (a : Int) : Int := (sgnN a.toNat : Nat)
def manI (a : Int) : Int := if kindI a = 1 then ((manN a.toNat : Nat) : Int) else ((frcN a.toNat : Nat) : Int)
def expI (a : Int) : Int := if kindI a = 1 then -1074 + ((fldN a.toNat - 1 : Nat) : Int) else 0

theorem fld_lt (a : Nat) : fldN a < 2048 := Nat.mod_lt _ (by decide)
theorem frc_lt (a : Nat) : frcN a < 4503599627370496 := Nat.mod_lt _ (by decide)

theorem kind_cases (a : Int) : kindI a = 0 ∨ kindI a = 1 ∨ kindI a = 2 ∨ kindI a = 3 := by
  unfold kindI; split
  · split <;> simp
  · split <;> simp

theorem sgn_cases (a : Int) (h : a < 18446744073709551616) : sgnI a = 0 ∨ sgnI a = 9223372036854775808 := by
  unfold sgnI sgnN
  omega

theorem sgnN_eq (a : Nat) (h : a < 18446744073709551616) : sgnN a = if negB a then 9223372036854775808 else 0 := by
  unfold sgnN negB
  by_cases c : 9223372036854775808 ≤ a
  · rw [decide_eq_true c]; simp; omega
  · rw [decide_eq_false c]; simp; omega

/-- the word is its sign, its field and its fraction -/
theorem word_parts (a : Nat) (_h : a < 18446744073709551616) : a = sgnN a + fldN a * 4503599627370496 + frcN a := by
  unfold sgnN fldN frcN; omega

theorem read_eq (a : Nat) (h : a < 18446744073709551616) : Ieee.double.read a =
    if fldN a < 2047 then .number (negB a) (manN a) (-1074 + ((fldN a - 1 : Nat) : Int))
    else if frcN a = 0 then .infinity (negB a) else .nan (negB a) (frcN a) := by
  unfold Ieee.Format.read
  simp only [d_sign, d_binade, d_inf, d_least]
  have hn : (a / 9223372036854775808 % 2 == 1) = negB a := by
    unfold negB
    by_cases c : 9223372036854775808 ≤ a
    · rw [decide_eq_true c]; simp; omega
    · rw [decide_eq_false c]; simp; omega
  rw [hn]
  have hr : a % 9223372036854775808 = fldN a * 4503599627370496 + frcN a := by unfold fldN frcN; omega
  have f1 := fld_lt a
  have f2 := frc_lt a
  rw [hr]
  generalize negB a = s
  unfold manN
  generalize fldN a = F at *
  generalize frcN a = M at *
  by_cases c0 : F = 0
  · subst c0
    rw [if_pos (by omega), if_pos (by omega), if_pos rfl]
    simp
  · rw [if_neg (show ¬ F * 4503599627370496 + M < 4503599627370496 by omega), if_neg c0]
    by_cases c1 : F < 2047
    · rw [if_pos (show F * 4503599627370496 + M < 9218868437227405312 by omega), if_pos c1]
      have e1 : (F * 4503599627370496 + M) % 4503599627370496 = M := by omega
      have e2 : (F * 4503599627370496 + M) / 4503599627370496 = F := by omega
      rw [e1, e2, Nat.add_comm]
    · have : F = 2047 := by omega
      subst this
      rw [if_neg (show ¬ 2047 * 4503599627370496 + M < 9218868437227405312 by omega), if_neg c1]
      by_cases c2 : M = 0
      · subst c2; simp
      · rw [if_neg (show ¬ 2047 * 4503599627370496 + M = 9218868437227405312 by omega), if_neg c2]
        rw [show 2047 * 4503599627370496 + M - 9218868437227405312 = M from by omega]

end Go.Proofs.Ytfhdmglfpkmjbaa
