/- Cells, plain: cells that stand one on the other. -/
import Derived.Test.YtkpdpdllbnihgabCC
namespace Go.Proofs.Ytkpdpdllbnihgab.Ce
set_option linter.unusedVariables false

/-- m cells, one on the other -/
def chain : Nat → List Cel
  | 0 => []
  | m + 1 => chain m ++ [⟨true, (m : Int) - 1⟩]

theorem chain_len : ∀ m, (chain m).length = m
  | 0 => rfl
  | m + 1 => by rw [chain, List.length_append, chain_len m]; rfl

theorem chain_at : ∀ (m i : Nat), i < m → (chain m)[i]? = some ⟨true, (i : Int) - 1⟩
  | 0, i, h => by omega
  | m + 1, i, h => by
    rw [chain]
    by_cases e : i = m
    · subst e
      rw [List.getElem?_append_right (by rw [chain_len]; exact Nat.le_refl _), chain_len]
      simp
    · rw [List.getElem?_append_left (by rw [chain_len]; omega)]
      exact chain_at m i (by omega)

theorem chain_ok (m i : Nat) : okAt (chain m) i = decide (i < m) := by
  unfold okAt
  by_cases h : i < m
  · rw [chain_at m i h, decide_eq_true h]; rfl
  · rw [List.getElem?_eq_none (by rw [chain_len]; omega), decide_eq_false h]; rfl

/-- one more on top of the last -/
theorem chain_make (m : Nat) : makeD (chain m) ((m : Int) - 1) = chain (m + 1) := by
  unfold makeD
  rw [chain]
  congr 2
  unfold validOn
  cases m with
  | zero => rfl
  | succ m =>
    have := chain_ok (m + 1) m
    unfold okAt at this
    rw [show ((m + 1 : Nat) : Int) - 1 = (m : Int) by omega, Int.toNat_natCast, this]
    simp

theorem chain_inv : ∀ m, Inv (chain m)
  | 0 => inv_nil
  | m + 1 => by rw [← chain_make]; exact inv_make (chain_inv m) _

theorem chain_hit (m n : Nat) : ∀ b k, k < b → k < m → hit (chain m) n k = decide (n ≤ k) := by
  intro b
  induction b with
  | zero => intro k h; omega
  | succ b ih =>
    intro k h1 h2
    rw [hit_eq, chain_at m k h2]
    simp only
    by_cases e : k = n
    · rw [decide_eq_true e, Bool.true_or, decide_eq_true (by omega)]
    · rw [decide_eq_false e, Bool.false_or]
      cases k with
      | zero =>
        rw [decide_eq_false (by omega), Bool.false_and, decide_eq_false (by omega)]
      | succ k =>
        rw [show (((k + 1 : Nat) : Int) - 1) = (k : Int) by omega, Int.toNat_natCast, ih k (by omega) (by omega), decide_eq_true (by omega), Bool.true_and]
        by_cases q : n ≤ k
        · rw [decide_eq_true q, decide_eq_true (by omega)]
        · rw [decide_eq_false q, decide_eq_false (by omega)]

theorem chain_cnt (m n : Nat) (hn : n ≤ m) : ∀ i, i ≤ m → cnt (chain m) n i = i - n
  | 0, _ => by simp [cnt]
  | i + 1, h => by
    rw [cnt, chain_cnt m n hn i (by omega), chain_ok, decide_eq_true (show i < m by omega), chain_hit m n (i + 1) i (by omega) (by omega)]
    by_cases q : n ≤ i
    · rw [decide_eq_true q, if_pos ⟨rfl, rfl⟩]
      omega
    · rw [decide_eq_false q, if_neg (by simp)]
      omega

/-- breaking one breaks it and all above, and none below -/
theorem chain_break (m n : Nat) (hn : n < m) : (breakD (chain m) n).2 = m - n ∧ ∀ k, k < m → okAt (breakD (chain m) n).1 k = decide (k < n) := by
  obtain ⟨h1, h2, h3⟩ := break_spec (chain_inv m) (n := n) (by rw [chain_ok]; exact decide_eq_true hn)
  rw [chain_len, chain_cnt m n (by omega) m (Nat.le_refl _)] at h1
  refine ⟨h1, fun k hk => ?_⟩
  unfold okAt
  rw [h3 k _ (chain_at m k hk), chain_hit m n (k + 1) k (by omega) hk]
  by_cases q : n ≤ k
  · rw [decide_eq_true q, decide_eq_false (by omega)]; rfl
  · rw [decide_eq_false q, decide_eq_true (by omega)]; rfl

end Go.Proofs.Ytkpdpdllbnihgab.Ce
