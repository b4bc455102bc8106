/- The walk of Print of a number above 0 that is not whole; alive. -/
import Derived.Test.YtpejebohekcfoabGreatDoorG5
import Derived.Test.YtpejebohekcfoabGreatDoorH2
import Derived.Test.YtpejebohekcfoabGreatDoorW25
namespace Go.Proofs.YtpejebohekcfoabGreatDoor
open Go.RowKit
set_option linter.unusedVariables false

set_option maxHeartbeats 1000000 in
theorem print_frac (A n P : Int) (S X : ByteArray) (w : World)
    (cw : ∀ w : World, Calls Tryz.prog 13 #[.int .u64 A] w fun e w' => e = .returned (.tuple #[.int .i64 n, .bool false]) ∧ Below w.heap.size w w')
    (cn : ∀ w : World, Calls Tryz.prog 14 #[.int .u64 A] w fun e w' => e = .returned (.bool false) ∧ Below w.heap.size w w')
    (cl : ∀ w : World, Calls Tryz.prog 15 #[.int .u64 A, .int .u64 0] w fun e w' => e = .returned (.bool false) ∧ Below w.heap.size w w')
    (ci : ∀ w : World, Calls Tryz.prog 17 #[.int .u64 A] w fun e w' => e = .returned (.bool false) ∧ Below w.heap.size w w')
    (ce : ∀ w : World, Calls Tryz.prog 18 #[.int .u64 A, .int .u64 0] w fun e w' => e = .returned (.bool false) ∧ Below w.heap.size w w')
    (cs : ∀ w : World, Calls Tryz.prog 20 #[.int .u64 A] w fun e w' => e = .returned (.tuple #[.string S, .int .i64 P]) ∧ Below w.heap.size w w')
    (cy : ∀ w : World, Calls Tryz.prog 19 #[.string S, .int .i64 P] w fun e w' => e = .returned (.string X) ∧ Below w.heap.size w w') :
    Calls Tryz.prog 6 #[.int .u64 A] w fun e w' => e = .returned (.string X) ∧ Below w.heap.size w w' := by
  go_enter Tryz.func6, Tryz.ntmps6
  go_wp2_with fail
  refine (cw _).mono ?_
  rintro e w1 ⟨rfl, hb1⟩
  go_wp2_with fail
  refine (cn _).mono ?_
  rintro e w2 ⟨rfl, hb2⟩
  go_wp2_with fail
  refine (cl _).mono ?_
  rintro e w3 ⟨rfl, hb3⟩
  go_wp2_with fail
  refine (ci _).mono ?_
  rintro e w4 ⟨rfl, hb4⟩
  go_wp2_with fail
  refine (ce _).mono ?_
  rintro e w5 ⟨rfl, hb5⟩
  go_wp2_with fail
  refine (cs _).mono ?_
  rintro e w6 ⟨rfl, hb6⟩
  go_wp2_with fail
  refine (cy _).mono ?_
  rintro e w7 ⟨rfl, hb7⟩
  go_wp2
  go_ret
  exact ⟨rfl, hb1.trans ((hb2.trans ((hb3.trans ((hb4.trans ((hb5.trans ((hb6.trans (hb7.mono hb6.size)).mono hb5.size)).mono hb4.size)).mono hb3.size)).mono hb2.size)).mono hb1.size)⟩

theorem alive_dig : shD 4599075939470750516 = [3, 0, 0, 0, 0, 0, 0, 0, 0, 0, 0, 0, 0, 0, 0, 0, 4] ∧ shP 4599075939470750516 = 0 := by decide +kernel

theorem alive_tests : wholeI 4599075939470750516 = (0, false) ∧ (kindI 4599075939470750516 == 3) = false ∧ lessI 4599075939470750516 0 = false ∧ (kindI 4599075939470750516 == 2) = false ∧ equalI 4599075939470750516 0 = false := by decide +kernel

theorem print_alive (w : World) : Calls Tryz.prog 6 #[.int .u64 4599075939470750516] w fun e w' => e = .returned (.string (bs [48, 46, 51, 48, 48, 48, 48, 48, 48, 48, 48, 48, 48, 48, 48, 48, 48, 48, 52])) ∧ Below w.heap.size w w' := by
  obtain ⟨t1, t2, t3, t4, t5⟩ := alive_tests
  refine print_frac 4599075939470750516 0 0 (bs (txt [3, 0, 0, 0, 0, 0, 0, 0, 0, 0, 0, 0, 0, 0, 0, 0, 4])) _ w ?_ ?_ ?_ ?_ ?_ ?_ ?_
  · intro w
    have := whole_any 4599075939470750516 w (by omega) (by omega)
    rw [t1] at this
    exact this
  · intro w
    have := isNaN_any 4599075939470750516 w (by omega) (by omega)
    rw [t2] at this
    exact this
  · intro w
    have := less_any 4599075939470750516 0 w (by omega) (by omega) (by omega) (by omega)
    rw [t3] at this
    exact this
  · intro w
    have := isInf_any 4599075939470750516 w (by omega) (by omega)
    rw [t4] at this
    exact this
  · intro w
    have := equal_any 4599075939470750516 0 w (by omega) (by omega) (by omega) (by omega)
    rw [t5] at this
    exact this
  · intro w
    have := short_any 4599075939470750516 w (by omega) (by omega)
    rw [alive_dig.1, alive_dig.2] at this
    exact this
  · intro w
    have := layout_neg (txt [3, 0, 0, 0, 0, 0, 0, 0, 0, 0, 0, 0, 0, 0, 0, 0, 4]) 0 0 w (by omega) (by omega) (by omega) (by decide) (fun _ _ _ _ => rfl)
    exact this

end Go.Proofs.YtpejebohekcfoabGreatDoor
