/- The walk of lowPoint. -/
import Derived.Test.YtpejebohekcfoaaGreatDoorA11
namespace Go.Proofs.YtpejebohekcfoaaGreatDoor
open Go.RowKit
set_option linter.unusedVariables false

theorem lowPoint_any (x : Int) (w : World) (x0 : -10000 ≤ x) (x1 : x ≤ 10000) :
    Calls Tryz.prog 64 #[.int .i64 x] w fun e w' => e = .returned (.int .i64 ((x - 1) * 78913 / 262144)) ∧ w' = w := by
  go_enter Tryz.func64, Tryz.ntmps64
  go_wp2
  go_ret
  exact ⟨rfl, rfl⟩

end Go.Proofs.YtpejebohekcfoaaGreatDoor
