/- math.Frexp of a finite number above 0. -/
import Derived.Test.YtajgoooejobngaaW19
namespace Go.Proofs.Ytajgoooejobngaa
open Go.RowKit

theorem and_2047u (q : Int) (h0 : 0 ≤ q) (h1 : q ≤ 2047) : bits .and .u64 q 2047 = q := by
  obtain ⟨n, rfl⟩ := Int.eq_ofNat_of_zero_le h0
  have hn : n < 2048 := by omega
  have all : ∀ m : Fin 2048, bits .and .u64 ((m.val : Nat) : Int) 2047 = ((m.val : Nat) : Int) := by decide +kernel
  exact all ⟨n, hn⟩

/-- what is ahead of the point, its first bit set, of 53 bits; and the place of its last bit behind 52 and the smallest number's -/
def frgI (F : Int) : Nat := (normI F).toNat % 4503599627370496 + 4503599627370496
def frcE (F : Int) : Int := nexpI F + (((normI F).toNat / 4503599627370496 : Nat) : Int)

end Go.Proofs.Ytajgoooejobngaa
