/- math.Ldexp of a finite number above 0, whole. -/
import Derived.Test.YtajgoooejobngaaW18
namespace Go.Proofs.Ytajgoooejobngaa
open Go.RowKit

theorem rank_small (n : Nat) (h : n < 9223372036854775808) : rankI ((n : Nat) : Int) = ((n : Nat) : Int) := by unfold rankI; rw [if_pos (by omega)]

theorem not_below (n : Nat) (h : n < 9223372036854775808) : (FloatKind.f64.format.order n 0 == some Ordering.lt) = false := by
  have := less_order ((n : Nat) : Int) 0 (by omega) (by omega) (by omega) (by omega)
  rw [Int.toNat_natCast, show (0 : Int).toNat = 0 from rfl] at this
  rw [this]
  unfold lessI
  rw [rank_small n h, show rankI 0 = 0 from rfl, decide_eq_false (by omega)]
  simp

end Go.Proofs.Ytajgoooejobngaa
