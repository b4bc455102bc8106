/- CodeShapes: the law's walk. -/
import Derived.Test.YtkoamenfbnpdbaaDoorCJ
namespace Go.Proofs.YtkoamenfbnpdbaaDoor.Cd
open Go.RowKit
set_option linter.unusedVariables false

theorem shapes_walk (op : Int) (w : World) (hS : ShAt w) : Calls Tryd.prog 4 #[.int .i64 op] w fun e w' => e = .returned (.bool true) ∧ Below w.heap.size w w' := by
  have ka := alive_any w hS
  have HS : Hid (∀ w1, Below w.heap.size w w1 → Calls Tryd.prog 12 #[.int .i64 op] w1 fun e w' => e = .returned (.string (bs (shapeI op))) ∧ w' = w1) := fun w1 h => shape_any op w1 (hS.below h)
  have kr := refshape_any op
  clear hS
  generalize bs (shapeI op) = s at *
  go_enter Tryd.func4, Tryd.ntmps4
  go_wp2_with fail
  refine ka.mono ?_
  rintro e w1 ⟨rfl, hb1⟩
  have k1 := HS.out w1 hb1
  have HB : Hid (Below w.heap.size w (w1.alloc (.cells shV 9))) := below_new hb1 hb1.size _
  have k2 := kr w1
  generalize w1.alloc (.cells shV 9) = w2 at *
  clear ka kr hb1 HS
  go_wp2_with fail
  refine k1.mono ?_
  rintro e w3 ⟨rfl, rfl⟩
  go_wp2_with fail
  refine k2.mono ?_
  rintro e w4 ⟨rfl, rfl⟩
  go_wp2_with fail
  go_ret
  exact ⟨rfl, HB.out⟩

end Go.Proofs.YtkoamenfbnpdbaaDoor.Cd
