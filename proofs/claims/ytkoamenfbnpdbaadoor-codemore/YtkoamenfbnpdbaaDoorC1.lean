/- Package code: goesOn, jump, within; the document's Ends. -/
import Derived.Test.YtkoamenfbnpdbaaDoorProg
import Derived.WalkKit
import Derived.WalkSpells
import Derived.WalkLawsBesides
import Derived.BigQuiet
import Derived.Below
import Derived.Laws.Rows
namespace Go.Proofs.YtkoamenfbnpdbaaDoor.Cd
open Go.RowKit
set_option linter.unusedVariables false

/-- an instruction -/
structure Ins where
  op : Int
  a : Int
  b : Int
  c : Int

def insC (i : Ins) : List Value := [.int .i64 i.op, .int .i64 i.a, .int .i64 i.b, .int .i64 i.c]
def insV (i : Ins) : Value := .agg #[.int .i64 i.op, .int .i64 i.a, .int .i64 i.b, .int .i64 i.c]

/-- an instruction behind which the next one follows -/
def goesB (op : Int) : Bool := op != 55 && op != 56 && op != 57

theorem goes_any (op : Int) (w : World) : Calls Tryd.prog 27 #[.int .i64 op] w fun e w' => e = .returned (.bool (goesB op)) ∧ w' = w := by
  unfold goesB
  by_cases h1 : op = 55
  · subst h1
    go_enter Tryd.func27, Tryd.ntmps27
    go_wp2
    go_ret
    exact ⟨rfl, rfl⟩
  by_cases h2 : op = 56
  · subst h2
    go_enter Tryd.func27, Tryd.ntmps27
    go_wp2
    go_ret
    exact ⟨rfl, rfl⟩
  by_cases h3 : op = 57
  · subst h3
    go_enter Tryd.func27, Tryd.ntmps27
    go_wp2
    go_ret
    exact ⟨rfl, rfl⟩
  have k1 : (op != 55) = true := by simpa using h1
  have k2 : (op != 56) = true := by simpa using h2
  have k3 : (op != 57) = true := by simpa using h3
  rw [k1, k2, k3]
  go_enter Tryd.func27, Tryd.ntmps27
  go_wp2
  go_ret
  exact ⟨rfl, rfl⟩

theorem ends_any (op : Int) (w : World) : Calls Tryd.prog 19 #[.int .i64 op] w fun e w' => e = .returned (.bool (!goesB op)) ∧ w' = w := by
  unfold goesB
  by_cases h1 : op = 55
  · subst h1
    go_enter Tryd.func19, Tryd.ntmps19
    go_wp2
    go_ret
    exact ⟨rfl, rfl⟩
  by_cases h2 : op = 56
  · subst h2
    go_enter Tryd.func19, Tryd.ntmps19
    go_wp2
    go_ret
    exact ⟨rfl, rfl⟩
  by_cases h3 : op = 57
  · subst h3
    go_enter Tryd.func19, Tryd.ntmps19
    go_wp2
    go_ret
    exact ⟨rfl, rfl⟩
  have k1 : (op == 55) = false := by simpa using h1
  have k2 : (op == 56) = false := by simpa using h2
  have k3 : (op == 57) = false := by simpa using h3
  have k : (!(op != 55 && op != 56 && op != 57)) = false := by simp [h1, h2, h3]
  rw [k]
  go_enter Tryd.func19, Tryd.ntmps19
  go_wp2
  go_ret
  exact ⟨rfl, rfl⟩

/-- where an instruction jumps -/
def jumpI (i : Ins) : Int × Bool := if i.op = 57 then (i.a, true) else if i.op = 58 ∨ i.op = 59 then (i.b, true) else (0, false)

theorem jump_any (i : Ins) (w : World) : Calls Tryd.prog 28 #[insV i] w fun e w' => e = .returned (.tuple #[.int .i64 (jumpI i).1, .bool (jumpI i).2]) ∧ Below w.heap.size w w' := by
  obtain ⟨op, a, b, c⟩ := i
  have B0 : Hid (Below w.heap.size w (w.alloc (.cells #[.int .i64 op, .int .i64 a, .int .i64 b, .int .i64 c] 43))) := (Below.refl w.heap.size w).alloc (Nat.le_refl _) _
  unfold jumpI insV
  by_cases h1 : op = 57
  · subst h1
    rw [if_pos rfl]
    go_enter Tryd.func28, Tryd.ntmps28
    go_wp2
    go_ret2
    exact ⟨rfl, B0.out⟩
  by_cases h2 : op = 58
  · subst h2
    rw [if_neg (by simp), if_pos (by simp)]
    go_enter Tryd.func28, Tryd.ntmps28
    go_wp2
    go_ret2
    exact ⟨rfl, B0.out⟩
  by_cases h3 : op = 59
  · subst h3
    rw [if_neg (by simp), if_pos (by simp)]
    go_enter Tryd.func28, Tryd.ntmps28
    go_wp2
    go_ret2
    exact ⟨rfl, B0.out⟩
  rw [if_neg h1, if_neg (by simp [h2, h3])]
  go_enter Tryd.func28, Tryd.ntmps28
  go_wp2
  go_ret2
  exact ⟨rfl, B0.out⟩

/-- one of the first so many -/
def withinB (i many : Int) : Bool := decide (0 ≤ i) && decide (i < many)

theorem within_any (i many : Int) (w : World) : Calls Tryd.prog 33 #[.int .i64 i, .int .i64 many] w fun e w' => e = .returned (.bool (withinB i many)) ∧ w' = w := by
  unfold withinB
  by_cases h1 : 0 ≤ i
  · by_cases h2 : i < many
    · have k : (decide (0 ≤ i) && decide (i < many)) = true := by simp [h1, h2]
      rw [k]
      go_enter Tryd.func33, Tryd.ntmps33
      go_wp2
      go_ret
      exact ⟨rfl, rfl⟩
    · have k : (decide (0 ≤ i) && decide (i < many)) = false := by simp [h2]
      rw [k]
      go_enter Tryd.func33, Tryd.ntmps33
      go_wp2
      go_ret
      exact ⟨rfl, rfl⟩
  · have k : (decide (0 ≤ i) && decide (i < many)) = false := by simp [h1]
    rw [k]
    go_enter Tryd.func33, Tryd.ntmps33
    go_wp2
    go_ret
    exact ⟨rfl, rfl⟩

end Go.Proofs.YtkoamenfbnpdbaaDoor.Cd
