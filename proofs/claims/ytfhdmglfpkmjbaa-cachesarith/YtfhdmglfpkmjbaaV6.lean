/- The walks of the document's word: Float, Number, Tag, Right, Value, Bits, IsTag. -/
import Derived.Test.YtfhdmglfpkmjbaaV5
namespace Go.Proofs.Ytfhdmglfpkmjbaa
open Go.RowKit
set_option linter.unusedVariables false

set_option maxHeartbeats 400000 in
theorem signbit_any (n : Nat) (hn : n < 18446744073709551616) (w : World) :
    Calls Try.prog 58 #[.float .f64 n] w fun e w' => e = .returned (.bool (negB n)) ∧ w' = w := by
  have hx := tobits_run
  by_cases c : 9223372036854775808 ≤ n
  · have e : negB n = true := decide_eq_true c
    have ew : IntKind.i64.wrap (n : Int) = (n : Int) - 18446744073709551616 := by rw [IntKind.wrap_i64]; omega
    have z : (n : Int) - 18446744073709551616 < 0 := by omega
    rw [e]
    generalize (n : Int) - 18446744073709551616 = y at *
    go_enter Try.func58, Try.ntmps58
    go_wp2
    go_ret
    exact ⟨rfl, rfl⟩
  · have e : negB n = false := decide_eq_false c
    have ew : IntKind.i64.wrap (n : Int) = (n : Int) := by rw [IntKind.wrap_i64]; omega
    have z : ¬ (n : Int) < 0 := by omega
    rw [e]
    go_enter Try.func58, Try.ntmps58
    go_wp2
    go_ret
    exact ⟨rfl, rfl⟩

section
variable (x : Nat) (w : World)

set_option maxHeartbeats 400000 in
theorem float_nan (hn : (FloatKind.f64.format.order x x != some Ordering.eq) = true) :
    Calls Try.prog 51 #[.float .f64 x] w fun e w' => e = .returned (.int .u64 9221120237041090560) ∧ Below w.heap.size w w' := by
  go_enter Try.func51, Try.ntmps51
  go_wp2
  go_ret
  exact ⟨rfl, Below.refl _ _⟩

set_option maxHeartbeats 400000 in
theorem float_lo (hn : (FloatKind.f64.format.order x x != some Ordering.eq) = false)
    (hl : (FloatKind.f64.format.order x 13970166044103278592 == some Ordering.gt || FloatKind.f64.format.order x 13970166044103278592 == some Ordering.eq) = false) :
    Calls Try.prog 51 #[.float .f64 x] w fun e w' => e = .returned (.int .u64 x) ∧ Below w.heap.size w w' := by
  have hx := tobits_run
  go_enter Try.func51, Try.ntmps51
  go_wp2
  go_ret
  exact ⟨rfl, Below.refl _ _⟩

set_option maxHeartbeats 400000 in
theorem float_hi (hn : (FloatKind.f64.format.order x x != some Ordering.eq) = false)
    (hl : (FloatKind.f64.format.order x 13970166044103278592 == some Ordering.gt || FloatKind.f64.format.order x 13970166044103278592 == some Ordering.eq) = true)
    (hh : (FloatKind.f64.format.order x 4746794007244308480 == some Ordering.lt || FloatKind.f64.format.order x 4746794007244308480 == some Ordering.eq) = false) :
    Calls Try.prog 51 #[.float .f64 x] w fun e w' => e = .returned (.int .u64 x) ∧ Below w.heap.size w w' := by
  have hx := tobits_run
  go_enter Try.func51, Try.ntmps51
  go_wp2
  go_ret
  exact ⟨rfl, Below.refl _ _⟩

set_option maxHeartbeats 400000 in
theorem float_frac (F : Nat) (hn : (FloatKind.f64.format.order x x != some Ordering.eq) = false)
    (hl : (FloatKind.f64.format.order x 13970166044103278592 == some Ordering.gt || FloatKind.f64.format.order x 13970166044103278592 == some Ordering.eq) = true)
    (hh : (FloatKind.f64.format.order x 4746794007244308480 == some Ordering.lt || FloatKind.f64.format.order x 4746794007244308480 == some Ordering.eq) = true)
    (cf : ∀ w : World, Calls Try.prog 57 #[.float .f64 x] w fun e w' => e = .returned (.float .f64 F) ∧ Below w.heap.size w w')
    (hf : (FloatKind.f64.format.order x F == some Ordering.eq) = false) :
    Calls Try.prog 51 #[.float .f64 x] w fun e w' => e = .returned (.int .u64 x) ∧ Below w.heap.size w w' := by
  have hx := tobits_run
  go_enter Try.func51, Try.ntmps51
  go_wp2_with fail
  refine (cf _).mono ?_
  rintro e w1 ⟨rfl, hb1⟩
  go_wp2
  go_ret
  exact ⟨rfl, hb1⟩

set_option maxHeartbeats 400000 in
theorem float_neg0 (F : Nat) (hn : (FloatKind.f64.format.order x x != some Ordering.eq) = false)
    (hl : (FloatKind.f64.format.order x 13970166044103278592 == some Ordering.gt || FloatKind.f64.format.order x 13970166044103278592 == some Ordering.eq) = true)
    (hh : (FloatKind.f64.format.order x 4746794007244308480 == some Ordering.lt || FloatKind.f64.format.order x 4746794007244308480 == some Ordering.eq) = true)
    (cf : ∀ w : World, Calls Try.prog 57 #[.float .f64 x] w fun e w' => e = .returned (.float .f64 F) ∧ Below w.heap.size w w')
    (hf : (FloatKind.f64.format.order x F == some Ordering.eq) = true)
    (hz : (FloatKind.f64.format.order x 0 != some Ordering.eq) = false)
    (cs : ∀ w : World, Calls Try.prog 58 #[.float .f64 x] w fun e w' => e = .returned (.bool true) ∧ w' = w) :
    Calls Try.prog 51 #[.float .f64 x] w fun e w' => e = .returned (.int .u64 x) ∧ Below w.heap.size w w' := by
  have hx := tobits_run
  go_enter Try.func51, Try.ntmps51
  go_wp2_with fail
  refine (cf _).mono ?_
  rintro e w1 ⟨rfl, hb1⟩
  go_wp2_with fail
  refine (cs _).mono ?_
  rintro e wx ⟨rfl, hw⟩
  subst hw
  go_wp2
  go_ret
  exact ⟨rfl, hb1⟩

set_option maxHeartbeats 400000 in
theorem float_pos0 (F : Nat) (N I : Int) (hn : (FloatKind.f64.format.order x x != some Ordering.eq) = false)
    (hl : (FloatKind.f64.format.order x 13970166044103278592 == some Ordering.gt || FloatKind.f64.format.order x 13970166044103278592 == some Ordering.eq) = true)
    (hh : (FloatKind.f64.format.order x 4746794007244308480 == some Ordering.lt || FloatKind.f64.format.order x 4746794007244308480 == some Ordering.eq) = true)
    (cf : ∀ w : World, Calls Try.prog 57 #[.float .f64 x] w fun e w' => e = .returned (.float .f64 F) ∧ Below w.heap.size w w')
    (hf : (FloatKind.f64.format.order x F == some Ordering.eq) = true)
    (hz : (FloatKind.f64.format.order x 0 != some Ordering.eq) = false)
    (cs : ∀ w : World, Calls Try.prog 58 #[.float .f64 x] w fun e w' => e = .returned (.bool false) ∧ w' = w)
    (hc : ∀ w : World, (convert 63 21 (.float .f64 x)).run Try.prog w = .ok (.int .i32 N) w)
    (ci : ∀ w : World, Calls Try.prog 59 #[.int .i32 N] w fun e w' => e = .returned (.int .u64 I) ∧ w' = w) :
    Calls Try.prog 51 #[.float .f64 x] w fun e w' => e = .returned (.int .u64 I) ∧ Below w.heap.size w w' := by
  go_enter Try.func51, Try.ntmps51
  go_wp2_with fail
  refine (cf _).mono ?_
  rintro e w1 ⟨rfl, hb1⟩
  go_wp2_with fail
  refine (cs _).mono ?_
  rintro e wx ⟨rfl, hw⟩
  subst hw
  go_wp2_with fail
  refine (ci _).mono ?_
  rintro e wx ⟨rfl, hw⟩
  subst hw
  go_wp2
  go_ret
  exact ⟨rfl, hb1⟩

set_option maxHeartbeats 400000 in
theorem float_int (F : Nat) (N I : Int) (hn : (FloatKind.f64.format.order x x != some Ordering.eq) = false)
    (hl : (FloatKind.f64.format.order x 13970166044103278592 == some Ordering.gt || FloatKind.f64.format.order x 13970166044103278592 == some Ordering.eq) = true)
    (hh : (FloatKind.f64.format.order x 4746794007244308480 == some Ordering.lt || FloatKind.f64.format.order x 4746794007244308480 == some Ordering.eq) = true)
    (cf : ∀ w : World, Calls Try.prog 57 #[.float .f64 x] w fun e w' => e = .returned (.float .f64 F) ∧ Below w.heap.size w w')
    (hf : (FloatKind.f64.format.order x F == some Ordering.eq) = true)
    (hz : (FloatKind.f64.format.order x 0 != some Ordering.eq) = true)
    (hc : ∀ w : World, (convert 63 21 (.float .f64 x)).run Try.prog w = .ok (.int .i32 N) w)
    (ci : ∀ w : World, Calls Try.prog 59 #[.int .i32 N] w fun e w' => e = .returned (.int .u64 I) ∧ w' = w) :
    Calls Try.prog 51 #[.float .f64 x] w fun e w' => e = .returned (.int .u64 I) ∧ Below w.heap.size w w' := by
  go_enter Try.func51, Try.ntmps51
  go_wp2_with fail
  refine (cf _).mono ?_
  rintro e w1 ⟨rfl, hb1⟩
  go_wp2_with fail
  refine (ci _).mono ?_
  rintro e wx ⟨rfl, hw⟩
  subst hw
  go_wp2
  go_ret
  exact ⟨rfl, hb1⟩
end
end Go.Proofs.Ytfhdmglfpkmjbaa
