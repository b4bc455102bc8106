/- The walks of Trunc, ToUint32, ToInt32, Whole and Floor, whole. -/
import Derived.Test.YtaikkmehmiiffaaGreatDoorW24
namespace Go.Proofs.YtaikkmehmiiffaaGreatDoor
open Go.RowKit
set_option linter.unusedVariables false

/-- a number without its fraction -/
def truncI (a : Int) : Int :=
  if kindI a = 3 then 9221120237041090560 else if kindI a ≠ 1 ∨ 0 ≤ expI a then a else roundI (sgnI a) (sizeI (manI a) (expI a)) 0

theorem size_bd (m e : Int) (m0 : 0 ≤ m) (m1 : m < 18446744073709551616) : 0 ≤ sizeI m e ∧ sizeI m e < 18446744073709551616 := by
  unfold sizeI
  split
  · have p : (0 : Int) < 2 ^ (-e).toNat := Int.pow_pos (by decide)
    have h1 := Int.ediv_nonneg m0 (Int.le_of_lt p)
    have h2 := Int.ediv_le_self (2 ^ (-e).toNat) m0
    omega
  · omega

theorem size_small (m e : Int) (m0 : 0 ≤ m) (m1 : m < 18446744073709551616) (he : e ≤ 0) : sizeI m e ≤ m := by
  unfold sizeI
  split
  · exact Int.ediv_le_self (2 ^ (-e).toNat) m0
  · have : e = 0 := by omega
    subst this
    rw [show (0 : Int).toNat = 0 from rfl]
    omega

section
variable (a sa ma ea : Int) (w : World)

end

/-- a number as a whole one modulo 2^32 -/
def u32I (a : Int) : Int :=
  if kindI a ≠ 1 then 0 else if sgnI a = 0 then sizeI (manI a) (expI a) % 4294967296 else (-(sizeI (manI a) (expI a))) % 4294967296

theorem u32_bd (a : Int) : 0 ≤ u32I a ∧ u32I a < 4294967296 := by
  unfold u32I; split; omega; split <;> omega

/-- whether a number is whole, and which -/
def wholeI (a : Int) : Int × Bool :=
  if a = 0 then (0, true) else if kindI a ≠ 1 ∨ 0 < expI a ∨ truncI a ≠ a then (0, false)
  else ((if sgnI a = 0 then sizeI (manI a) (expI a) else -(sizeI (manI a) (expI a))), true)

def floorI (a : Int) : Int := if lessI a (truncI a) then subI (truncI a) 4607182418800017408 else truncI a

theorem trunc_bd (a : Int) (h0 : 0 ≤ a) (h1 : a < 18446744073709551616) : 0 ≤ truncI a ∧ truncI a < 18446744073709551616 := by
  unfold truncI
  split
  · omega
  · split
    · omega
    · have := rung_le (sizeI (manI a) (expI a)).toNat 0
      have := sgn_cases a h1
      unfold roundI
      omega

end Go.Proofs.YtaikkmehmiiffaaGreatDoor
