/- The walks of FromInt, FromUint, size, Trunc, ToUint32, ToInt32, Whole and Floor. -/
import Derived.Test.YtaikkmehmiiffaaGreatDoorW14
namespace Go.Proofs.YtaikkmehmiiffaaGreatDoor
open Go.RowKit
set_option linter.unusedVariables false

/-- one box of four cells -/
def Box1 (w : World) (n : Nat) (p0 p1 p2 p3 : Value) : Prop :=
  (w.cell? ⟨n, 0, none⟩ = some p0 ∧ w.cell? ⟨n, 1, none⟩ = some p1 ∧ w.cell? ⟨n, 2, none⟩ = some p2 ∧ w.cell? ⟨n, 3, none⟩ = some p3) ∧ n < w.heap.size

theorem box1_new (w : World) (p0 p1 p2 p3 : Value) (t : TypeId) : Box1 (w.alloc (.cells #[p0, p1, p2, p3] t)) w.heap.size p0 p1 p2 p3 := by
  unfold Box1
  simp [go_sem]

theorem Box1.keep {W w' : World} {n : Nat} {p0 p1 p2 p3 : Value} (h : Box1 W n p0 p1 p2 p3) (hb : Below W.heap.size W w') : Box1 w' n p0 p1 p2 p3 := by
  obtain ⟨⟨a0, a1, a2, a3⟩, hz⟩ := h
  have k : ∀ o, w'.cell? ⟨n, o, none⟩ = W.cell? ⟨n, o, none⟩ := fun o => hb.cell (p := ⟨n, o, none⟩) hz
  exact ⟨⟨by rw [k]; exact a0, by rw [k]; exact a1, by rw [k]; exact a2, by rw [k]; exact a3⟩, Nat.lt_of_lt_of_le hz hb.size⟩

theorem b1 {w : World} (a : Obj) : Below w.heap.size w (w.alloc a) := (Below.refl _ _).alloc (Nat.le_refl _) _

/-- a whole number, as a number -/
def fromI (n : Int) : Int := if n < 0 then 9223372036854775808 + ((rung (-n).toNat 0 : Nat) : Int) else ((rung n.toNat 0 : Nat) : Int)

/-- a size without its fraction, modulo 2^64 -/
def sizeI (m e : Int) : Int := if e < 0 then m / 2 ^ (-e).toNat else m * 2 ^ e.toNat % 18446744073709551616

theorem div_min (m : Int) (d : Nat) (m0 : 0 ≤ m) (m1 : m < 18446744073709551616) : m / 2 ^ min d 64 = m / 2 ^ d := by
  by_cases c : d ≤ 64
  · rw [Nat.min_eq_left c]
  · rw [Nat.min_eq_right (by omega)]
    have h : 2 ^ 64 ≤ 2 ^ d := Nat.pow_le_pow_right (by decide) (by omega)
    have h' : 18446744073709551616 ≤ 2 ^ d := h
    have e : ((2 ^ d : Nat) : Int) = (2 : Int) ^ d := by rw [Int.natCast_pow]; rfl
    have e64 : (2 : Int) ^ 64 = 18446744073709551616 := by decide
    rw [← e, e64, Int.ediv_eq_zero_of_lt m0 m1, Int.ediv_eq_zero_of_lt m0 (by omega)]

theorem mul_min (m : Int) (d : Nat) : m * 2 ^ min d 64 % 18446744073709551616 = m * 2 ^ d % 18446744073709551616 := by
  by_cases c : d ≤ 64
  · rw [Nat.min_eq_left c]
  · rw [Nat.min_eq_right (by omega)]
    obtain ⟨k, hk⟩ : ∃ k, d = 64 + k := ⟨d - 64, by omega⟩
    have e64 : (2 : Int) ^ 64 = 18446744073709551616 := by decide
    rw [hk, Int.pow_add, e64, ← Int.mul_assoc, Int.mul_right_comm, Int.mul_emod_left, Int.mul_emod_left]

section
variable (a sa ma ea : Int) (w : World)

end

end Go.Proofs.YtaikkmehmiiffaaGreatDoor
