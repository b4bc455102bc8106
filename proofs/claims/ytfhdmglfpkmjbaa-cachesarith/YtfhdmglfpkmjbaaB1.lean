/- The walks of shrink and sum. -/
import Derived.Test.YtfhdmglfpkmjbaaW2
namespace Go.Proofs.Ytfhdmglfpkmjbaa
open Go.RowKit

/-- shrink: m / 2^d, what is lost marked -/
def shrinkI (m d : Int) : Int := ((stk m.toNat d.toNat : Nat) : Int)

theorem stk_zero_word (m d : Nat) (h1 : m < 18446744073709551616) : m / 2 ^ min d 64 = m / 2 ^ d ∧ (m / 2 ^ min d 64 * 2 ^ min d 64 % 18446744073709551616 = m ↔ m % 2 ^ d = 0) := by
  by_cases c : d ≤ 64
  · rw [Nat.min_eq_left c]
    have p := Nat.two_pow_pos d
    have e := Nat.div_add_mod m (2 ^ d)
    have e' : m / 2 ^ d * 2 ^ d = m - m % 2 ^ d := by rw [Nat.mul_comm]; omega
    refine ⟨rfl, ?_⟩
    rw [e', Nat.mod_eq_of_lt (by omega)]
    have := Nat.mod_le m (2 ^ d)
    omega
  · rw [Nat.min_eq_right (by omega)]
    have hp : 2 ^ 64 ≤ 2 ^ d := Nat.pow_le_pow_right (by decide) (by omega)
    have hp' : 18446744073709551616 ≤ 2 ^ d := hp
    have e1 : m / 2 ^ d = 0 := Nat.div_eq_of_lt (by omega)
    have e2 : m % 2 ^ d = m := Nat.mod_eq_of_lt (by omega)
    have e3 : m / 2 ^ 64 = 0 := Nat.div_eq_of_lt (by show m < 18446744073709551616; exact h1)
    rw [e1, e2, e3]
    refine ⟨rfl, ?_⟩
    simp
    omega

theorem stk_lt (m d B : Nat) (h : m < 2 * B) : stk m d < 2 * B := by
  unfold stk
  have := Nat.div_le_self m (2 ^ d)
  split
  · omega
  · rw [or_one]; omega

/-- the sum of two finite ones, the first one's exponent not below the other's -/
def sumOrd (sp mp ep sq mq eq : Int) : Int :=
  if sp = sq then roundI sp (mp * 1024 + shrinkI (mq * 1024) (ep - eq)) (ep - 10)
  else if mp * 1024 = shrinkI (mq * 1024) (ep - eq) then 0
  else if mp * 1024 < shrinkI (mq * 1024) (ep - eq) then roundI sq (shrinkI (mq * 1024) (ep - eq) - mp * 1024) (ep - 10)
  else roundI sp (mp * 1024 - shrinkI (mq * 1024) (ep - eq)) (ep - 10)

def sumI (sp mp ep sq mq eq : Int) : Int := if ep < eq then sumOrd sq mq eq sp mp ep else sumOrd sp mp ep sq mq eq

theorem b2d {w : World} (a b : Obj) (n : Nat) : Below w.heap.size w (((w.alloc a).alloc b).drewN n) :=
  below_drewN (((Below.refl _ _).alloc (Nat.le_refl _) _).alloc (by simp) _) n

theorem shrink_bd (m d : Int) (h0 : 0 ≤ m) (h1 : m < 9223372036854775808) : 0 ≤ shrinkI m d ∧ shrinkI m d < 9223372036854775808 := by
  unfold shrinkI
  have := stk_lt m.toNat d.toNat 4611686018427387904 (by omega)
  omega
/- The walk of Add, case by case. -/
namespace Go.Proofs.Ytfhdmglfpkmjbaa
open Go.RowKit

theorem bcell {W w1 : World} (hb : Below W.heap.size W w1) : (∀ b o, b < W.heap.size → w1.cell? ⟨b, o, none⟩ = W.cell? ⟨b, o, none⟩) ∧ (∀ b o, b < W.heap.size → w1.frozen? ⟨b, o, none⟩ = W.frozen? ⟨b, o, none⟩) :=
  ⟨fun b o h => hb.cell (p := ⟨b, o, none⟩) h, fun b o h => hb.frozen (p := ⟨b, o, none⟩) h⟩

theorem b2 {w : World} (a b : Obj) : Below w.heap.size w ((w.alloc a).alloc b) :=
  ((Below.refl _ _).alloc (Nat.le_refl _) _).alloc (by simp) _