/- Cells, plain: breaking one of two that stand on nothing common, and then the other. -/
import Derived.Test.YtkpdpdllbnihgabCE
namespace Go.Proofs.Ytkpdpdllbnihgab.Ce
set_option linter.unusedVariables false

theorem two_cnt (a m : Nat) (ha : 1 ≤ a) : ∀ i, i ≤ m → cnt (two a m) 0 i = if i = 0 then 0 else 1 + min (i - 2) a
  | 0, _ => rfl
  | i + 1, h => by
    rw [cnt, two_cnt a m ha i (by omega), two_ok, decide_eq_true (show i < m by omega), (two_hit a m ha (i + 1) i (by omega) (by omega)).1]
    by_cases q : i = 0 ∨ (2 ≤ i ∧ i < a + 2)
    · rw [decide_eq_true q, if_pos (show true = true ∧ true = true from ⟨rfl, rfl⟩), if_neg (show ¬ i + 1 = 0 by omega)]
      split <;> omega
    · rw [decide_eq_false q, if_neg (show ¬ (true = true ∧ false = true) by simp), if_neg (show ¬ i + 1 = 0 by omega)]
      split <;> omega

theorem two_break (a b : Nat) (ha : 1 ≤ a) :
    (breakD (two a (a + b + 2)) 0).2 = a + 1 ∧ (∀ k, k < a + b + 2 → okAt (breakD (two a (a + b + 2)) 0).1 k = decide (k = 1 ∨ a + 2 ≤ k)) ∧ (breakD (two a (a + b + 2)) 0).1.length = a + b + 2 := by
  obtain ⟨h1, h2, h3⟩ := break_spec (two_inv a (a + b + 2)) (n := 0) (by rw [two_ok]; exact decide_eq_true (by omega))
  have e0 : (((0 : Nat) : Int)) = 0 := rfl
  rw [e0] at h1 h2 h3
  rw [two_len, two_cnt a _ ha _ (Nat.le_refl _), if_neg (by omega)] at h1
  refine ⟨by rw [h1]; omega, fun k hk => ?_, by rw [h2, two_len]⟩
  unfold okAt
  rw [h3 k _ (two_at a _ k hk), (two_hit a _ ha (k + 1) k (by omega) hk).1]
  by_cases q : k = 0 ∨ (2 ≤ k ∧ k < a + 2)
  · rw [decide_eq_true q, decide_eq_false (by omega)]; rfl
  · rw [decide_eq_false q, decide_eq_true (by omega)]; rfl

theorem two_cnt2 (a b : Nat) (ha : 1 ≤ a) (l : List Cel) (hok : ∀ k, k < a + b + 2 → okAt l k = decide (k = 1 ∨ a + 2 ≤ k)) (hon : ∀ k : Nat, (l[k]?).map Cel.on = ((two a (a + b + 2))[k]?).map Cel.on) : ∀ i, i ≤ a + b + 2 → cnt l 1 i = if i < 2 then 0 else 1 + (i - (a + 2))
  | 0, _ => rfl
  | i + 1, h => by
    rw [cnt, two_cnt2 a b ha l hok hon i (by omega), hok i (by omega), hit_on hon 1 (i + 1) i (by omega), (two_hit a _ ha (i + 1) i (by omega) (by omega)).2]
    by_cases q : i = 1 ∨ a + 2 ≤ i
    · rw [decide_eq_true q, if_pos (show true = true ∧ true = true from ⟨rfl, rfl⟩), if_neg (show ¬ i + 1 < 2 by omega)]
      split <;> omega
    · rw [decide_eq_false q, if_neg (show ¬ (false = true ∧ false = true) by simp)]
      split <;> split <;> omega

/-- .. and then the other -/
theorem two_then (a b : Nat) (ha : 1 ≤ a) : (breakD (breakD (two a (a + b + 2)) 0).1 1).2 = b + 1 := by
  obtain ⟨_, h2, h3⟩ := two_break a b ha
  have hI := inv_break (two_inv a (a + b + 2)) 0
  have hon := break_on (two_inv a (a + b + 2)) 0
  have h4 := (break_spec hI (n := 1) (by rw [h2 1 (by omega)]; exact decide_eq_true (Or.inl rfl))).1
  have e1 : (((1 : Nat) : Int)) = 1 := rfl
  rw [e1] at h4
  rw [h4, h3, two_cnt2 a b ha _ h2 hon _ (Nat.le_refl _), if_neg (by omega)]
  omega

end Go.Proofs.Ytkpdpdllbnihgab.Ce
