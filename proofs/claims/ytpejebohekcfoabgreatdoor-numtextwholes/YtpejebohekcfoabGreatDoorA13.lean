/- The walk of lowPoint. -/
import Derived.Test.YtpejebohekcfoabGreatDoorA11
namespace Go.Proofs.YtpejebohekcfoabGreatDoor
open Go.RowKit
set_option linter.unusedVariables false

theorem lowPoint_any (x : Int) (w : World) (x0 : -10000 ≤ x) (x1 : x ≤ 10000) :
    Calls Tryz.prog 46 #[.int .i64 x] w fun e w' => e = .returned (.int .i64 ((x - 1) * 78913 / 262144)) ∧ w' = w := by
  go_enter Tryz.func46, Tryz.ntmps46
  go_wp2
  go_ret
  exact ⟨rfl, rfl⟩

end Go.Proofs.YtpejebohekcfoabGreatDoor
