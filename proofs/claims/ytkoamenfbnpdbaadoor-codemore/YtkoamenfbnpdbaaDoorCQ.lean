/- Plain: code that may be run goes on within itself. -/
import Derived.Test.YtkoamenfbnpdbaaDoorCH
namespace Go.Proofs.YtkoamenfbnpdbaaDoor.Cd
set_option linter.unusedVariables false

theorem fnOk_out {fs : List Fn} {f : Fn} (h : fnOkB fs f = true) : sizedB f = true ∧ flowsB f = true ∧ filledB f fs = true := by
  unfold fnOkB at h
  simp only [Bool.and_eq_true] at h
  exact ⟨h.1.1, h.1.2, h.2⟩

theorem ins_fits {fs : List Fn} {f : Fn} (h : filledB f fs = true) {k : Nat} {y : Ins} (hy : f.code.xs[k]? = some y) : fitsB f y fs.length = true := by
  unfold filledB at h
  have := List.all_eq_true.1 h y (List.mem_of_getElem? hy)
  unfold insB at this
  simp only [Bool.and_eq_true] at this
  exact this.1.1

theorem within_out {i n : Int} (h : withinB i n = true) : 0 ≤ i ∧ i < n := by
  unfold withinB at h
  simpa using h

theorem fits_57 {f : Fn} {y : Ins} {n : Int} (h : fitsB f y n = true) (e : y.op = 57) : 0 ≤ y.a ∧ y.a < (f.code.xs.length : Int) := by
  unfold fitsB at h
  rw [e, show shapeI 57 = [116, 45, 45] from rfl] at h
  simp only [Bool.and_eq_true] at h
  exact within_out h.1.1

theorem fits_58 {f : Fn} {y : Ins} {n : Int} (h : fitsB f y n = true) (e : y.op = 58 ∨ y.op = 59) : 0 ≤ y.b ∧ y.b < (f.code.xs.length : Int) := by
  unfold fitsB at h
  rcases e with e | e
  · rw [e, show shapeI 58 = [114, 116, 45] from rfl] at h
    simp only [Bool.and_eq_true] at h
    exact within_out h.1.2
  · rw [e, show shapeI 59 = [114, 116, 45] from rfl] at h
    simp only [Bool.and_eq_true] at h
    exact within_out h.1.2

theorem hnd_target {n : Nat} {h : Hnd} (hh : hndB n h = true) : 0 ≤ h.target ∧ h.target < (n : Int) := by
  unfold hndB at hh
  simp only [Bool.and_eq_true] at hh
  exact within_out hh.2

theorem catch_target (x : Int) (n : Nat) : ∀ hs : List Hnd, hs.all (hndB n) = true → (catchI x hs).2 = true → 0 ≤ (catchI x hs).1 ∧ (catchI x hs).1 < (n : Int)
  | [], _, h => by simp [catchI] at h
  | h :: r, ha, hc => by
    rw [List.all_cons, Bool.and_eq_true] at ha
    rw [catchI] at hc ⊢
    by_cases c : h.fr ≤ x ∧ x < h.to
    · rw [if_pos c]
      exact hnd_target ha.1
    · rw [if_neg c] at hc ⊢
      exact catch_target x n r ha.2 hc

theorem flows_out {f : Fn} (h : flowsB f = true) : goesB (lastOp f) = false ∧ f.hnds.xs.all (hndB f.code.xs.length) = true := by
  unfold flowsB at h
  simpa using h

theorem goes_false {op : Int} (h : goesB op = false) : op = 55 ∨ op = 56 ∨ op = 57 := by
  unfold goesB at h
  by_cases h1 : op = 55
  · exact Or.inl h1
  by_cases h2 : op = 56
  · exact Or.inr (Or.inl h2)
  by_cases h3 : op = 57
  · exact Or.inr (Or.inr h3)
  simp [h1, h2, h3] at h

theorem jump_in {f : Fn} {y : Ins} {n : Int} (h : fitsB f y n = true) (hj : (jumpI y).2 = true) : 0 ≤ (jumpI y).1 ∧ (jumpI y).1 < (f.code.xs.length : Int) := by
  unfold jumpI at hj ⊢
  by_cases h1 : y.op = 57
  · rw [if_pos h1]
    exact fits_57 h h1
  · rw [if_neg h1] at hj ⊢
    by_cases h2 : y.op = 58 ∨ y.op = 59
    · rw [if_pos h2]
      exact fits_58 h h2
    · rw [if_neg h2] at hj
      cases hj

theorem next_in_code {fs : List Fn} {f : Fn} (h : fnOkB fs f = true) {k : Nat} {y : Ins} (hy : f.code.xs[k]? = some y) : (∀ n ∈ nextI f k, 0 ≤ n ∧ n < (f.code.xs.length : Int)) ∧ (nextI f k = [] → y.op = 55 ∨ y.op = 56) := by
  obtain ⟨h1, h2, h3⟩ := fnOk_out h
  have hfit := ins_fits h3 hy
  obtain ⟨hlast, hhs⟩ := flows_out h2
  rw [nextI_in f k y hy]
  constructor
  · intro n hn
    rw [risen_mem] at hn
    unfold nextL at hn
    rw [List.mem_append, List.mem_append] at hn
    rcases hn with (hn | hn) | hn
    · split at hn
      · rename_i c
        simp only [Bool.and_eq_true, decide_eq_true_eq] at c
        rw [List.mem_singleton] at hn
        omega
      · cases hn
    · split at hn
      · rename_i c
        rw [List.mem_singleton] at hn
        rw [hn]
        exact jump_in hfit c
      · cases hn
    · split at hn
      · rename_i c
        rw [List.mem_singleton] at hn
        rw [hn]
        exact catch_target k _ _ hhs c
      · cases hn
  · intro he
    have hnil : nextL f.code.xs.length f.hnds.xs y k = [] := by
      cases hl : nextL f.code.xs.length f.hnds.xs y k with
      | nil => rfl
      | cons a r =>
        have := (risen_mem (nextL f.code.xs.length f.hnds.xs y k) a).2 (by rw [hl]; simp)
        rw [he] at this
        cases this
    unfold nextL at hnil
    rw [List.append_eq_nil_iff, List.append_eq_nil_iff] at hnil
    obtain ⟨⟨e1, e2⟩, _⟩ := hnil
    have g : goesB y.op = false := by
      cases hg : goesB y.op with
      | false => rfl
      | true =>
        rw [hg] at e1
        have hk : ¬ k + 1 < f.code.xs.length := by
          intro c
          rw [decide_eq_true c] at e1
          cases e1
        have kl : k < f.code.xs.length := by
          rcases Nat.lt_or_ge k f.code.xs.length with c | c
          · exact c
          · rw [List.getElem?_eq_none c] at hy; cases hy
        have : lastOp f = y.op := by
          unfold lastOp
          rw [show f.code.xs.length - 1 = k by omega, hy]
          rfl
        rw [this, hg] at hlast
        cases hlast
    rcases goes_false g with c | c | c
    · exact Or.inl c
    · exact Or.inr c
    · exfalso
      unfold jumpI at e2
      rw [if_pos c] at e2
      cases e2

theorem check_cases (fs : List Fn) : (checkB fs = true ∧ checkI fs = 0) ∨ (checkB fs = false ∧ checkI fs = 80) := by
  unfold checkI
  cases h : checkB fs with
  | true => exact Or.inl ⟨rfl, rfl⟩
  | false => exact Or.inr ⟨rfl, rfl⟩

theorem check_each {fs : List Fn} (h : checkB fs = true) : fs.length ≤ 200 ∧ headB fs = true ∧ ∀ f ∈ fs, fnOkB fs f = true := by
  unfold checkB at h
  simp only [Bool.and_eq_true, decide_eq_true_eq] at h
  exact ⟨h.1.1, h.1.2, List.all_eq_true.1 h.2⟩

end Go.Proofs.YtkoamenfbnpdbaaDoor.Cd
