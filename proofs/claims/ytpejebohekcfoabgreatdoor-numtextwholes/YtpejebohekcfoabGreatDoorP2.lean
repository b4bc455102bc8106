/- alive. -/
import Derived.Test.YtpejebohekcfoabGreatDoorP1
import Derived.Test.YtpejebohekcfoabGreatDoorBB
namespace Go.Proofs.YtpejebohekcfoabGreatDoor
open Go.RowKit
set_option linter.unusedVariables false

theorem alive_read : readI [32, 49, 46, 53, 10] = 4609434218613702656 := by decide +kernel
theorem alive_lit : litI [48, 120, 49, 48] = (4625196817309499392, true) := by decide +kernel

theorem alive_walk (w : World)
    (cl : ∀ w : World, Calls Tryz.prog 8 #[.string ⟨#[48, 120, 49, 48]⟩] w fun e w' => e = .returned (.tuple #[.int .u64 4625196817309499392, .bool true]) ∧ Below w.heap.size w w')
    (cp : ∀ w : World, Calls Tryz.prog 6 #[.int .u64 4599075939470750516] w fun e w' => e = .returned (.string ⟨#[48, 46, 51, 48, 48, 48, 48, 48, 48, 48, 48, 48, 48, 48, 48, 48, 48, 48, 52]⟩) ∧ Below w.heap.size w w')
    (cr : ∀ w : World, Calls Tryz.prog 7 #[.string ⟨#[32, 49, 46, 53, 10]⟩] w fun e w' => e = .returned (.int .u64 4609434218613702656) ∧ Below w.heap.size w w') :
    Calls Tryz.prog 10 #[] w fun e w' => e = .returned (.bool true) ∧ Below w.heap.size w w' := by
  go_enter Tryz.func10, Tryz.ntmps10
  go_wp2_with fail
  refine (cl _).mono ?_
  rintro e w1 ⟨rfl, hb1⟩
  go_wp2_with fail
  refine (cp _).mono ?_
  rintro e w2 ⟨rfl, hb2⟩
  go_wp2_with fail
  refine (cr _).mono ?_
  rintro e w3 ⟨rfl, hb3⟩
  go_wp2
  go_ret
  exact ⟨rfl, hb1.trans ((hb2.trans (hb3.mono hb2.size)).mono hb1.size)⟩

theorem alive_any (w : World) : Calls Tryz.prog 10 #[] w fun e w' => e = .returned (.bool true) ∧ Below w.heap.size w w' := by
  refine alive_walk w (fun w => ?_) (fun w => print_alive w) (fun w => ?_)
  · have := literal_read [48, 120, 49, 48] w (by decide)
    rw [alive_lit] at this
    exact this
  · have := read_any [32, 49, 46, 53, 10] w (by decide)
    rw [alive_read] at this
    exact this

end Go.Proofs.YtpejebohekcfoabGreatDoor
