/- Sub, the first of Div, alive. -/
import Derived.Test.YtaikkmehmiiffaaGreatDoorW5
namespace Go.Proofs.YtaikkmehmiiffaaGreatDoor
open Go.RowKit
set_option linter.unusedVariables false

def subI (a b : Int) : Int := opI (Ieee.double.sub a.toNat b.toNat)
/-- the other sign -/
def flipI (b : Int) : Int := (b + 9223372036854775808) % 18446744073709551616

theorem read_flip (b : Int) (h2 : 0 ≤ b) (h3 : b < 18446744073709551616) : Ieee.double.read (flipI b).toNat = (Ieee.double.read b.toNat).opposite := by
  unfold flipI
  rw [read_eq _ (by omega), read_eq b.toNat (by omega)]
  have e1 : fldN ((b + 9223372036854775808) % 18446744073709551616).toNat = fldN b.toNat := by unfold fldN; omega
  have e2 : frcN ((b + 9223372036854775808) % 18446744073709551616).toNat = frcN b.toNat := by unfold frcN; omega
  have e3 : negB ((b + 9223372036854775808) % 18446744073709551616).toNat = !negB b.toNat := by
    unfold negB
    by_cases c : 9223372036854775808 ≤ b.toNat
    · rw [decide_eq_true c, decide_eq_false (by omega)]; rfl
    · rw [decide_eq_false c, decide_eq_true (by omega)]; rfl
  unfold manN
  rw [e1, e2, e3]
  split
  · rfl
  · split <;> rfl

theorem sub_flip (a b : Int) (h2 : 0 ≤ b) (h3 : b < 18446744073709551616) : addI a (flipI b) = subI a b := by
  unfold addI subI Ieee.Format.add Ieee.Format.sub
  rw [read_flip b h2 h3]

theorem flip_bd (b : Int) : 0 ≤ flipI b ∧ flipI b < 18446744073709551616 := by unfold flipI; omega

end Go.Proofs.YtaikkmehmiiffaaGreatDoor
