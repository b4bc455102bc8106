/- The program's grammar: letters. -/
import Derived.Test.YtihmdcdifakepaaXA
namespace Go.Proofs.Ytihmdcdifakepaa.Sc
open Go.RowKit
set_option linter.unusedVariables false

theorem isExpr_any (k : Int) (w : World) : Calls Try.prog 62 #[.int .i64 k] w fun e w' => e = .returned (.bool (isExprB k)) ∧ w' = w := by
  by_cases h1 : 1 ≤ k
  · by_cases h2 : k ≤ 22
    · by_cases h3 : k = 11
      · subst h3
        go_enter Try.func62, Try.ntmps62
        go_wp2
        go_ret
        exact ⟨rfl, rfl⟩
      · have HE : Hid (isExprB k = true) := by show _ = _; unfold isExprB; simp [h1, h2, h3]
        have h3' : (k != 11) = true := by simpa using h3
        go_enter Try.func62, Try.ntmps62
        go_wp2
        go_ret
        rw [HE.out]
        exact ⟨rfl, rfl⟩
    · have HE : Hid (isExprB k = false) := by show _ = _; unfold isExprB; simp [h2]
      have h2' : decide (k ≤ 22) = false := by simpa using h2
      go_enter Try.func62, Try.ntmps62
      go_wp2
      go_ret
      rw [HE.out]
      exact ⟨rfl, rfl⟩
  · have HE : Hid (isExprB k = false) := by show _ = _; unfold isExprB; simp [h1]
    have h1' : decide (1 ≤ k) = false := by simpa using h1
    go_enter Try.func62, Try.ntmps62
    go_wp2
    go_ret
    rw [HE.out]
    exact ⟨rfl, rfl⟩

theorem isStmt_any (k : Int) (w : World) : Calls Try.prog 63 #[.int .i64 k] w fun e w' => e = .returned (.bool (isStmtB k)) ∧ w' = w := by
  by_cases h1 : 34 ≤ k
  · by_cases h2 : k ≤ 46
    · have HE : Hid (isStmtB k = true) := by show _ = _; unfold isStmtB; simp [h1, h2]
      go_enter Try.func63, Try.ntmps63
      go_wp2
      go_ret
      rw [HE.out]
      exact ⟨rfl, rfl⟩
    · have HE : Hid (isStmtB k = false) := by show _ = _; unfold isStmtB; simp [h2]
      have h2' : decide (k ≤ 46) = false := by simpa using h2
      go_enter Try.func63, Try.ntmps63
      go_wp2
      go_ret
      rw [HE.out]
      exact ⟨rfl, rfl⟩
  · have HE : Hid (isStmtB k = false) := by show _ = _; unfold isStmtB; simp [h1]
    have h1' : decide (34 ≤ k) = false := by simpa using h1
    go_enter Try.func63, Try.ntmps63
    go_wp2
    go_ret
    rw [HE.out]
    exact ⟨rfl, rfl⟩

def letters : List UInt8 := [101, 69, 103, 115, 83, 105, 98, 66, 112, 110]

theorem mayLack_any (p : UInt8) (hp : p ∈ letters) (w : World) : Calls Try.prog 41 #[.int .u8 p.toNat] w fun e w' => e = .returned (.bool (mayLackB p)) ∧ w' = w := by
  simp only [letters, List.mem_cons, List.not_mem_nil, or_false] at hp
  rcases hp with rfl | rfl | rfl | rfl | rfl | rfl | rfl | rfl | rfl | rfl
  all_goals
    go_enter Try.func41, Try.ntmps41
    go_wp2
    go_ret
    exact ⟨rfl, rfl⟩

set_option maxRecDepth 100000 in
theorem isPart_any (p : UInt8) (hp : p ∈ letters) (k : Int) (w : World) : Calls Try.prog 42 #[.int .u8 p.toNat, .int .i64 k] w fun e w' => e = .returned (.bool (isPartB p k)) ∧ w' = w := by
  obtain ⟨A, hA⟩ : ∃ A, A = isPartB p k := ⟨_, rfl⟩
  rw [← hA]
  have HA : Hid (A = isPartB p k) := hA
  clear hA
  have e1 := isExpr_any k w
  have e2 := isStmt_any k w
  obtain ⟨E, hE⟩ : ∃ E, E = isExprB k := ⟨_, rfl⟩
  obtain ⟨S, hS⟩ : ∃ S, S = isStmtB k := ⟨_, rfl⟩
  rw [← hE] at e1
  rw [← hS] at e2
  have HE : Hid (E = isExprB k ∧ S = isStmtB k) := ⟨hE, hS⟩
  clear hE hS
  simp only [letters, List.mem_cons, List.not_mem_nil, or_false] at hp
  rcases hp with rfl | rfl | rfl | rfl | rfl | rfl | rfl | rfl | rfl | rfl
  · go_enter Try.func42, Try.ntmps42
    go_wp2_with fail
    refine e1.mono ?_
    rintro e w1 ⟨rfl, rfl⟩
    go_wp2_with fail
    go_ret
    exact ⟨by rw [HA.out, HE.out.1]; rfl, rfl⟩
  · go_enter Try.func42, Try.ntmps42
    go_wp2_with fail
    refine e1.mono ?_
    rintro e w1 ⟨rfl, rfl⟩
    go_wp2_with fail
    go_ret
    exact ⟨by rw [HA.out, HE.out.1]; rfl, rfl⟩
  · by_cases k3 : k = 3
    · subst k3
      go_enter Try.func42, Try.ntmps42
      go_wp2_with fail
      go_ret
      exact ⟨by rw [HA.out]; rfl, rfl⟩
    · have k3' : (k == 3) = false := by simpa using k3
      have HK : Hid (isPartB 103 k = (k == 13)) := by show _ = _; unfold isPartB; simp [k3]
      clear k3
      go_enter Try.func42, Try.ntmps42
      go_wp2_with fail
      go_ret
      exact ⟨by rw [HA.out, HK.out]; rfl, rfl⟩
  · go_enter Try.func42, Try.ntmps42
    go_wp2_with fail
    refine e2.mono ?_
    rintro e w1 ⟨rfl, rfl⟩
    go_wp2_with fail
    go_ret
    exact ⟨by rw [HA.out, HE.out.2]; rfl, rfl⟩
  · go_enter Try.func42, Try.ntmps42
    go_wp2_with fail
    refine e2.mono ?_
    rintro e w1 ⟨rfl, rfl⟩
    go_wp2_with fail
    go_ret
    exact ⟨by rw [HA.out, HE.out.2]; rfl, rfl⟩
  · have HK : Hid (isPartB 105 k = (isStmtB k || k == 31 || k == 32 || k == 33)) := rfl
    by_cases k1 : k = 31
    · subst k1
      cases S
      all_goals
        go_enter Try.func42, Try.ntmps42
        go_wp2_with fail
        refine e2.mono ?_
        rintro e w1 ⟨rfl, rfl⟩
        go_wp2_with fail
        go_ret
        exact ⟨by rw [HA.out]; rfl, rfl⟩
    by_cases k2 : k = 32
    · subst k2
      cases S
      all_goals
        go_enter Try.func42, Try.ntmps42
        go_wp2_with fail
        refine e2.mono ?_
        rintro e w1 ⟨rfl, rfl⟩
        go_wp2_with fail
        go_ret
        exact ⟨by rw [HA.out]; rfl, rfl⟩
    have k1' : (k == 31) = false := by simpa using k1
    have k2' : (k == 32) = false := by simpa using k2
    have HK2 : Hid (isPartB 105 k = (isStmtB k || k == 33)) := by show _ = _; rw [HK.out, k1', k2']; simp
    clear k1 k2
    cases hs : S
    · have HS2 : Hid (isPartB 105 k = (k == 33)) := by show _ = _; rw [HK2.out, ← HE.out.2, hs]; simp
      rw [hs] at e2
      go_enter Try.func42, Try.ntmps42
      go_wp2_with fail
      refine e2.mono ?_
      rintro e w1 ⟨rfl, rfl⟩
      go_wp2_with fail
      go_ret
      exact ⟨by rw [HA.out, HS2.out]; rfl, rfl⟩
    · have HS2 : Hid (isPartB 105 k = true) := by show _ = _; rw [HK2.out, ← HE.out.2, hs]; simp
      rw [hs] at e2
      go_enter Try.func42, Try.ntmps42
      go_wp2_with fail
      refine e2.mono ?_
      rintro e w1 ⟨rfl, rfl⟩
      go_wp2_with fail
      go_ret
      exact ⟨by rw [HA.out, HS2.out]; rfl, rfl⟩
  all_goals
    go_enter Try.func42, Try.ntmps42
    go_wp2_with fail
    go_ret
    exact ⟨by rw [HA.out]; rfl, rfl⟩
end Go.Proofs.Ytihmdcdifakepaa.Sc
