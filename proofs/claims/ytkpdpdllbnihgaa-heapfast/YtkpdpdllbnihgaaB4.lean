/- Cells, plain: two that stand on nothing common. -/
import Derived.Test.YtkpdpdllbnihgaaB3
namespace Go.Proofs.Ytkpdpdllbnihgaa.Ce
set_option linter.unusedVariables false

/-- what is hit hangs on what stands on what alone -/
theorem hit_on {l l' : List Cel} (h : ∀ k : Nat, (l[k]?).map Cel.on = (l'[k]?).map Cel.on) (n : Nat) : ∀ b k, k < b → hit l n k = hit l' n k := by
  intro b
  induction b with
  | zero => intro k hk; omega
  | succ b ih =>
    intro k hk
    rw [hit_eq, hit_eq l']
    have hk' := h k
    cases h1 : l[k]? with
    | none =>
      rw [h1] at hk'
      cases h2 : l'[k]? with
      | none => rfl
      | some c => rw [h2] at hk'; cases hk'
    | some c =>
      rw [h1] at hk'
      cases h2 : l'[k]? with
      | none => rw [h2] at hk'; cases hk'
      | some d =>
        rw [h2] at hk'
        have e : c.on = d.on := Option.some.inj hk'
        simp only
        rw [e]
        by_cases q : 0 ≤ d.on ∧ d.on < (k : Int)
        · rw [ih d.on.toNat (by omega)]
        · rw [decide_eq_false q, Bool.false_and, Bool.false_and]

theorem break_on {l : List Cel} (hI : Inv l) (n : Int) : ∀ k : Nat, ((breakD l n).1[k]?).map Cel.on = (l[k]?).map Cel.on := by
  intro k
  by_cases h : 0 ≤ n ∧ okAt l n.toNat = true
  · obtain ⟨m, rfl⟩ : ∃ m : Nat, n = m := ⟨n.toNat, by omega⟩
    rw [Int.toNat_natCast] at h
    obtain ⟨_, hl, hk⟩ := break_spec hI h.2
    cases hc : l[k]? with
    | none => rw [List.getElem?_eq_none (by rw [hl]; exact List.getElem?_eq_none_iff.1 hc)]
    | some c => rw [hk k c hc]; rfl
  · rw [break_none h]

/-- on what the i-th stands: two on nothing, a on the first, the others on the second -/
def onF (a i : Nat) : Int := if i < 2 then -1 else if i = 2 then 0 else if i < a + 2 then (i : Int) - 1 else if i = a + 2 then 1 else (i : Int) - 1

def two (a : Nat) : Nat → List Cel
  | 0 => []
  | m + 1 => two a m ++ [⟨true, onF a m⟩]

theorem two_len (a : Nat) : ∀ m, (two a m).length = m
  | 0 => rfl
  | m + 1 => by rw [two, List.length_append, two_len a m]; rfl

theorem two_at (a : Nat) : ∀ (m i : Nat), i < m → (two a m)[i]? = some ⟨true, onF a i⟩
  | 0, i, h => by omega
  | m + 1, i, h => by
    rw [two]
    by_cases e : i = m
    · subst e
      rw [List.getElem?_append_right (by rw [two_len]; exact Nat.le_refl _), two_len]
      simp
    · rw [List.getElem?_append_left (by rw [two_len]; omega)]
      exact two_at a m i (by omega)

theorem two_ok (a m i : Nat) : okAt (two a m) i = decide (i < m) := by
  unfold okAt
  by_cases h : i < m
  · rw [two_at a m i h, decide_eq_true h]; rfl
  · rw [List.getElem?_eq_none (by rw [two_len]; omega), decide_eq_false h]; rfl

theorem onF_low (a i : Nat) : onF a i = -1 ∨ (0 ≤ onF a i ∧ onF a i < (i : Int)) := by
  unfold onF
  split
  · exact Or.inl rfl
  split
  · exact Or.inr ⟨by omega, by omega⟩
  split
  · exact Or.inr ⟨by omega, by omega⟩
  split
  · exact Or.inr ⟨by omega, by omega⟩
  · exact Or.inr ⟨by omega, by omega⟩

theorem two_make (a m : Nat) : makeD (two a m) (onF a m) = two a (m + 1) := by
  unfold makeD
  rw [two]
  congr 2
  unfold validOn
  rcases onF_low a m with h | ⟨h1, h2⟩
  · rw [h]; rfl
  · have := two_ok a m (onF a m).toNat
    unfold okAt at this
    rw [this, decide_eq_true h1, decide_eq_true (show (onF a m).toNat < m by omega)]
    simp

theorem two_inv (a : Nat) : ∀ m, Inv (two a m)
  | 0 => inv_nil
  | m + 1 => by rw [← two_make]; exact inv_make (two_inv a m) _

/-- the first one's are the first a behind both, the second one's all others -/
theorem two_hit (a m : Nat) (ha : 1 ≤ a) : ∀ b k, k < b → k < m → (hit (two a m) 0 k = decide (k = 0 ∨ (2 ≤ k ∧ k < a + 2))) ∧ (hit (two a m) 1 k = decide (k = 1 ∨ a + 2 ≤ k)) := by
  intro b
  induction b with
  | zero => intro k h; omega
  | succ b ih =>
    intro k h1 h2
    rw [hit_eq, hit_eq (two a m) 1, two_at a m k h2]
    simp only
    rcases Nat.lt_or_ge k 2 with c | c
    · have e : onF a k = -1 := by unfold onF; rw [if_pos c]
      rw [e, decide_eq_false (show ¬ ((0 : Int) ≤ -1 ∧ (-1 : Int) < (k : Int)) by omega), Bool.false_and, Bool.or_false, Bool.false_and, Bool.or_false]
      refine ⟨?_, ?_⟩
      · by_cases q : k = 0
        · rw [decide_eq_true q, decide_eq_true (Or.inl q)]
        · rw [decide_eq_false q, decide_eq_false (by omega)]
      · by_cases q : k = 1
        · rw [decide_eq_true q, decide_eq_true (Or.inl q)]
        · rw [decide_eq_false q, decide_eq_false (by omega)]
    · rw [decide_eq_false (show ¬ k = 0 by omega), decide_eq_false (show ¬ k = 1 by omega), Bool.false_or, Bool.false_or]
      have hl := onF_low a k
      have hn : onF a k ≠ -1 := by
        unfold onF
        rw [if_neg (by omega)]
        split
        · omega
        split
        · omega
        split <;> omega
      have hl := hl.resolve_left hn
      rw [decide_eq_true hl, Bool.true_and, Bool.true_and]
      obtain ⟨i1, i2⟩ := ih (onF a k).toNat (by omega) (by omega)
      rw [i1, i2]
      unfold onF at *
      rw [if_neg (show ¬ k < 2 by omega)] at *
      refine ⟨?_, ?_⟩ <;>
      · refine decide_eq_decide.2 ?_
        split
        · simp; omega
        split
        · omega
        split
        · simp; omega
        · omega

end Go.Proofs.Ytkpdpdllbnihgaa.Ce

/- Cells, plain: breaking one of two that stand on nothing common, and then the other. -/
namespace Go.Proofs.Ytkpdpdllbnihgaa.Ce
set_option linter.unusedVariables false

theorem two_cnt (a m : Nat) (ha : 1 ≤ a) : ∀ i, i ≤ m → cnt (two a m) 0 i = if i = 0 then 0 else 1 + min (i - 2) a
  | 0, _ => rfl
  | i + 1, h => by
    rw [cnt, two_cnt a m ha i (by omega), two_ok, decide_eq_true (show i < m by omega), (two_hit a m ha (i + 1) i (by omega) (by omega)).1]
    by_cases q : i = 0 ∨ (2 ≤ i ∧ i < a + 2)
    · rw [decide_eq_true q, if_pos (show true = true ∧ true = true from ⟨rfl, rfl⟩), if_neg (show ¬ i + 1 = 0 by omega)]
      split <;> omega
    · rw [decide_eq_false q, if_neg (show ¬ (true = true ∧ false = true) by simp), if_neg (show ¬ i + 1 = 0 by omega)]
      split <;> omega

theorem two_break (a b : Nat) (ha : 1 ≤ a) :
    (breakD (two a (a + b + 2)) 0).2 = a + 1 ∧ (∀ k, k < a + b + 2 → okAt (breakD (two a (a + b + 2)) 0).1 k = decide (k = 1 ∨ a + 2 ≤ k)) ∧ (breakD (two a (a + b + 2)) 0).1.length = a + b + 2 := by
  obtain ⟨h1, h2, h3⟩ := break_spec (two_inv a (a + b + 2)) (n := 0) (by rw [two_ok]; exact decide_eq_true (by omega))
  have e0 : (((0 : Nat) : Int)) = 0 := rfl
  rw [e0] at h1 h2 h3
  rw [two_len, two_cnt a _ ha _ (Nat.le_refl _), if_neg (by omega)] at h1
  refine ⟨by rw [h1]; omega, fun k hk => ?_, by rw [h2, two_len]⟩
  unfold okAt
  rw [h3 k _ (two_at a _ k hk), (two_hit a _ ha (k + 1) k (by omega) hk).1]
  by_cases q : k = 0 ∨ (2 ≤ k ∧ k < a + 2)
  · rw [decide_eq_true q, decide_eq_false (by omega)]; rfl
  · rw [decide_eq_false q, decide_eq_true (by omega)]; rfl

theorem two_cnt2 (a b : Nat) (ha : 1 ≤ a) (l : List Cel) (hok : ∀ k, k < a + b + 2 → okAt l k = decide (k = 1 ∨ a + 2 ≤ k)) (hon : ∀ k : Nat, (l[k]?).map Cel.on = ((two a (a + b + 2))[k]?).map Cel.on) : ∀ i, i ≤ a + b + 2 → cnt l 1 i = if i < 2 then 0 else 1 + (i - (a + 2))
  | 0, _ => rfl
  | i + 1, h => by
    rw [cnt, two_cnt2 a b ha l hok hon i (by omega), hok i (by omega), hit_on hon 1 (i + 1) i (by omega), (two_hit a _ ha (i + 1) i (by omega) (by omega)).2]
    by_cases q : i = 1 ∨ a + 2 ≤ i
    · rw [decide_eq_true q, if_pos (show true = true ∧ true = true from ⟨rfl, rfl⟩), if_neg (show ¬ i + 1 < 2 by omega)]
      split <;> omega
    · rw [decide_eq_false q, if_neg (show ¬ (false = true ∧ false = true) by simp)]
      split <;> split <;> omega

/-- .. and then the other -/
theorem two_then (a b : Nat) (ha : 1 ≤ a) : (breakD (breakD (two a (a + b + 2)) 0).1 1).2 = b + 1 := by
  obtain ⟨_, h2, h3⟩ := two_break a b ha
  have hI := inv_break (two_inv a (a + b + 2)) 0
  have hon := break_on (two_inv a (a + b + 2)) 0
  have h4 := (break_spec hI (n := 1) (by rw [h2 1 (by omega)]; exact decide_eq_true (Or.inl rfl))).1
  have e1 : (((1 : Nat) : Int)) = 1 := rfl
  rw [e1] at h4
  rw [h4, h3, two_cnt2 a b ha _ h2 hon _ (Nat.le_refl _), if_neg (by omega)]
  omega

end Go.Proofs.Ytkpdpdllbnihgaa.Ce
