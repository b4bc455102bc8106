/- WordNumbers and WordReads. -/
import Derived.Test.YtfhdmglfpkmjbaaV7
namespace Go.Proofs.Ytfhdmglfpkmjbaa
open Go.RowKit
set_option linter.unusedVariables false

section
variable (a t n : Int) (w : World)

set_option maxHeartbeats 400000 in
theorem v_bad (ct : ∀ w : World, Calls Try.prog 41 #[.int .u64 a] w fun e w' => e = .returned (.tuple #[.int .u64 t, .int .u32 n]) ∧ w' = w)
    (cr : ∀ w : World, Calls Try.prog 42 #[.int .u64 a] w fun e w' => e = .returned (.bool false) ∧ Below w.heap.size w w') :
    Calls Try.prog 36 #[.int .u64 a] w fun e w' => e = .returned (.tuple #[.float .f64 0, .bool false]) ∧ Below w.heap.size w w' := by
  go_enter Try.func36, Try.ntmps36
  go_wp2_with fail
  refine (ct _).mono ?_
  rintro e wx ⟨rfl, hw⟩
  subst hw
  go_wp2_with fail
  refine (cr _).mono ?_
  rintro e w1 ⟨rfl, hb1⟩
  go_wp2
  go_ret2
  exact ⟨rfl, hb1⟩

set_option maxHeartbeats 400000 in
theorem v_int (L : Int) (hL : IntKind.i32.wrap n = L) (ct : ∀ w : World, Calls Try.prog 41 #[.int .u64 a] w fun e w' => e = .returned (.tuple #[.int .u64 65529, .int .u32 n]) ∧ w' = w)
    (cr : ∀ w : World, Calls Try.prog 42 #[.int .u64 a] w fun e w' => e = .returned (.bool true) ∧ Below w.heap.size w w') :
    Calls Try.prog 36 #[.int .u64 a] w fun e w' => e = .returned (.tuple #[.float .f64 (floatOfInt .f64 L), .bool true]) ∧ Below w.heap.size w w' := by
  go_enter Try.func36, Try.ntmps36
  go_wp2_with fail
  refine (ct _).mono ?_
  rintro e wx ⟨rfl, hw⟩
  subst hw
  go_wp2_with fail
  refine (cr _).mono ?_
  rintro e w1 ⟨rfl, hb1⟩
  go_wp2
  go_ret2
  exact ⟨rfl, hb1⟩

set_option maxHeartbeats 400000 in
theorem v_own (ht : (t == 65529) = false) (ct : ∀ w : World, Calls Try.prog 41 #[.int .u64 a] w fun e w' => e = .returned (.tuple #[.int .u64 t, .int .u32 n]) ∧ w' = w)
    (cr : ∀ w : World, Calls Try.prog 42 #[.int .u64 a] w fun e w' => e = .returned (.bool true) ∧ Below w.heap.size w w') :
    Calls Try.prog 36 #[.int .u64 a] w fun e w' => e = .returned (.tuple #[.float .f64 a.toNat, .bool (t == 0)]) ∧ Below w.heap.size w w' := by
  have hx := frombits_run
  go_enter Try.func36, Try.ntmps36
  go_wp2_with fail
  refine (ct _).mono ?_
  rintro e wx ⟨rfl, hw⟩
  subst hw
  go_wp2_with fail
  refine (cr _).mono ?_
  rintro e w1 ⟨rfl, hb1⟩
  go_wp2
  go_ret2
  exact ⟨rfl, hb1⟩

/-- which words of each tag can be -/
theorem tag_right (a t : Int) (ht : t = 65529 ∨ t = 65530 ∨ t = 65532) : ((tagI a).1 = t ∧ rightI a = true) ↔ isT a t = true := by
  unfold tagI
  constructor
  · rintro ⟨h1, h2⟩
    by_cases c : 65529 ≤ a / 281474976710656 ∧ a / 281474976710656 ≤ 65532
    · rw [if_pos c] at h1
      unfold rightI at h2
      rw [if_pos (by dsimp only at h1; omega), show a / 281474976710656 = t from h1] at h2
      exact h2
    · rw [if_neg c] at h1
      dsimp only at h1
      omega
  · intro h
    have q := (isT_iff a t).1 h
    rw [if_pos (by omega)]
    refine ⟨by dsimp only; omega, ?_⟩
    unfold rightI
    rw [if_pos (by omega), show a / 281474976710656 = t from by omega]
    exact h

section
variable (a t n g : Int) (w : World)

set_option maxHeartbeats 400000 in
theorem isTag_ne (hg : (t != g) = true) (r : Bool) (ct : ∀ w : World, Calls Try.prog 41 #[.int .u64 a] w fun e w' => e = .returned (.tuple #[.int .u64 t, .int .u32 n]) ∧ w' = w)
    (cr : ∀ w : World, Calls Try.prog 42 #[.int .u64 a] w fun e w' => e = .returned (.bool r) ∧ Below w.heap.size w w') :
    Calls Try.prog 35 #[.int .u64 a, .int .u64 g] w fun e w' => e = .returned (.tuple #[.int .u32 0, .bool false]) ∧ Below w.heap.size w w' := by
  go_enter Try.func35, Try.ntmps35
  go_wp2_with fail
  refine (ct _).mono ?_
  rintro e wx ⟨rfl, hw⟩
  subst hw
  go_wp2_with fail
  refine (cr _).mono ?_
  rintro e w1 ⟨rfl, hb1⟩
  go_wp2
  go_ret2
  exact ⟨rfl, hb1⟩

set_option maxHeartbeats 400000 in
theorem isTag_bad (hg : (t != g) = false) (ct : ∀ w : World, Calls Try.prog 41 #[.int .u64 a] w fun e w' => e = .returned (.tuple #[.int .u64 t, .int .u32 n]) ∧ w' = w)
    (cr : ∀ w : World, Calls Try.prog 42 #[.int .u64 a] w fun e w' => e = .returned (.bool false) ∧ Below w.heap.size w w') :
    Calls Try.prog 35 #[.int .u64 a, .int .u64 g] w fun e w' => e = .returned (.tuple #[.int .u32 0, .bool false]) ∧ Below w.heap.size w w' := by
  go_enter Try.func35, Try.ntmps35
  go_wp2_with fail
  refine (ct _).mono ?_
  rintro e wx ⟨rfl, hw⟩
  subst hw
  go_wp2_with fail
  refine (cr _).mono ?_
  rintro e w1 ⟨rfl, hb1⟩
  go_wp2
  go_ret2
  exact ⟨rfl, hb1⟩

set_option maxHeartbeats 400000 in
theorem isTag_yes (hg : (t != g) = false) (ct : ∀ w : World, Calls Try.prog 41 #[.int .u64 a] w fun e w' => e = .returned (.tuple #[.int .u64 t, .int .u32 n]) ∧ w' = w)
    (cr : ∀ w : World, Calls Try.prog 42 #[.int .u64 a] w fun e w' => e = .returned (.bool true) ∧ Below w.heap.size w w') :
    Calls Try.prog 35 #[.int .u64 a, .int .u64 g] w fun e w' => e = .returned (.tuple #[.int .u32 n, .bool true]) ∧ Below w.heap.size w w' := by
  go_enter Try.func35, Try.ntmps35
  go_wp2_with fail
  refine (ct _).mono ?_
  rintro e wx ⟨rfl, hw⟩
  subst hw
  go_wp2_with fail
  refine (cr _).mono ?_
  rintro e w1 ⟨rfl, hb1⟩
  go_wp2
  go_ret2
  exact ⟨rfl, hb1⟩
end

theorem isTag_any (a g : Int) (h0 : 0 ≤ a) (h1 : a < 18446744073709551616) (hg : g = 65529 ∨ g = 65530 ∨ g = 65532) (w : World) :
    Calls Try.prog 35 #[.int .u64 a, .int .u64 g] w fun e w' => e = .returned (.tuple #[.int .u32 (if isT a g then a % 4294967296 else 0), .bool (isT a g)]) ∧ Below w.heap.size w w' := by
  have ct := fun w => refTag_any a h0 h1 w
  have cr := fun w => refRight_any a h0 h1 w
  have tr := tag_right a g hg
  cases hi : isT a g with
  | true =>
    obtain ⟨t, r⟩ := tr.2 hi
    have q := (isT_iff a g).1 hi
    have t2 : (tagI a).2 = a % 4294967296 := by unfold tagI; rw [if_pos (by omega)]
    rw [t2] at ct
    rw [r] at cr
    rw [if_pos rfl]
    exact isTag_yes a _ _ g w (by simp [t]) ct cr
  | false =>
    rw [if_neg (by decide)]
    by_cases t : (tagI a).1 = g
    · have r : rightI a = false := by
        cases hr : rightI a with
        | false => rfl
        | true =>
          have := tr.1 ⟨t, hr⟩
          rw [hi] at this
          exact absurd this (by decide)
      rw [r] at cr
      exact isTag_bad a _ _ g w (by simp [t]) ct cr
    · exact isTag_ne a _ _ g w (by simp [t]) _ ct cr