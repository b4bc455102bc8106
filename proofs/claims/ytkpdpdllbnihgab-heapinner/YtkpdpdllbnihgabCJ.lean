/- Rows of entries. -/
import Derived.Test.YtkpdpdllbnihgabHC
import Derived.Test.YtkpdpdllbnihgabCH
namespace Go.Proofs.Ytkpdpdllbnihgab.Ce
open Go.RowKit Go.Proofs.Ytkpdpdllbnihgab.Hp
set_option linter.unusedVariables false

def intC (z : Int) : List Value := [.int .i64 z]
def natC (z : Nat) : List Value := [.int .i64 (z : Int)]
def enC (e : En) : List Value := [.bool e.ok, .int .i64 e.top, .int .i64 e.bes]

theorem rtInt : RT intC 103 3 1 8 := ⟨fun _ => rfl, Try.underlying103, rt_inf (z := .int .i64 0) (by kernel_rfl) rfl, by decide, fun y u h => by simp [intC] at h; subst h; rfl⟩
theorem rtNat : RT natC 103 3 1 8 := ⟨fun _ => rfl, Try.underlying103, rt_inf (z := .int .i64 0) (by kernel_rfl) rfl, by decide, fun y u h => by simp [natC] at h; subst h; rfl⟩
theorem rtEn : RT enC 69 102 3 24 := ⟨fun _ => rfl, Try.underlying69, rt_inf (z := .agg #[.bool false, .int .i64 0, .int .i64 0]) (by kernel_rfl) rfl, by decide, fun y u h => by simp [enC] at h; rcases h with rfl | rfl | rfl <;> rfl⟩

end Go.Proofs.Ytkpdpdllbnihgab.Ce
