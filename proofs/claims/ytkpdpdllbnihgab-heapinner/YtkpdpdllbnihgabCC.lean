/- Cells, plain: going through those on top by a stack comes to what is hit. -/
import Derived.Test.YtkpdpdllbnihgabCB
namespace Go.Proofs.Ytkpdpdllbnihgab.Ce
set_option linter.unusedVariables false

/-- k stands on j -/
def Child (l : List Cel) (j k : Nat) : Prop := ∃ c, l[k]? = some c ∧ c.on = (j : Int) ∧ j < k

theorem hit_child {l : List Cel} {n j k : Nat} (h : Child l j k) (hh : hit l n j = true) : hit l n k = true := by
  obtain ⟨c, h1, h2, h3⟩ := h
  rw [hit_eq, h1]
  simp only
  rw [h2, Int.toNat_natCast, hh, decide_eq_true (show (0 : Int) ≤ (j : Int) ∧ (j : Int) < (k : Int) by omega)]
  simp

theorem hit_back {l : List Cel} {n k : Nat} (hh : hit l n k = true) (hk : k ≠ n) : ∃ j, Child l j k ∧ hit l n j = true := by
  rw [hit_eq, decide_eq_false hk, Bool.false_or] at hh
  cases hc : l[k]? with
  | none => rw [hc] at hh; cases hh
  | some c =>
    rw [hc] at hh
    simp only [Bool.and_eq_true] at hh
    have h1 := of_decide_eq_true hh.1
    exact ⟨c.on.toNat, ⟨c, hc, by omega, by omega⟩, hh.2⟩

theorem ok_child {l : List Cel} (hI : Inv l) {j k : Nat} (h : Child l j k) (hk : okAt l k = true) : okAt l j = true := by
  obtain ⟨c, h1, h2, h3⟩ := h
  have hck : c.ok = true := by unfold okAt at hk; rw [h1] at hk; exact hk
  rcases hI k c h1 hck with q | ⟨_, _, q⟩
  · omega
  · rw [h2, Int.toNat_natCast] at q
    exact q

/-- D: those that were broken; S: those on the stack -/
structure Stk (l : List Cel) (n : Nat) (D S : Nat → Prop) : Prop where
  done : ∀ i, D i → okAt l i = true ∧ hit l n i = true
  on : ∀ i, S i → hit l n i = true
  left : ∀ k, okAt l k = true → hit l n k = true → ¬ D k → S k ∨ ∃ j, Child l j k ∧ hit l n j = true ∧ ¬ D j

theorem stk_start (l : List Cel) (n : Nat) : Stk l n (fun _ => False) (fun i => i = n) := by
  refine ⟨fun i h => h.elim, fun i h => by rw [h]; exact hit_self l n, fun k h1 h2 _ => ?_⟩
  by_cases e : k = n
  · exact Or.inl e
  · obtain ⟨j, a, b⟩ := hit_back h2 e
    exact Or.inr ⟨j, a, b, id⟩

/-- one that is broken already, or never was valid, is taken off -/
theorem stk_skip {l : List Cel} {n : Nat} {D S S' : Nat → Prop} (h : Stk l n D S) (i : Nat) (hi : okAt l i = true → D i) (h1 : ∀ k, S' k → S k) (h2 : ∀ k, S k → k = i ∨ S' k) : Stk l n D S' := by
  refine ⟨h.done, fun k q => h.on k (h1 k q), fun k a b c => ?_⟩
  rcases h.left k a b c with q | q
  · rcases h2 k q with e | e
    · subst e
      exact absurd (hi a) c
    · exact Or.inl e
  · exact Or.inr q

/-- one is broken, those on top of it are laid on the stack -/
theorem stk_mark {l : List Cel} (hI : Inv l) {n : Nat} {D S S' : Nat → Prop} (h : Stk l n D S) (i : Nat) (hi : okAt l i = true) (hS : S i) (h1 : ∀ k, S' k → S k ∨ Child l i k) (h2 : ∀ k, S k → k = i ∨ S' k) (h3 : ∀ k, Child l i k → okAt l k = true → ¬ D k → k ≠ i → S' k) : Stk l n (fun k => D k ∨ k = i) S' := by
  have hh := h.on i hS
  refine ⟨fun k q => q.elim (h.done k) (fun e => by rw [e]; exact ⟨hi, hh⟩), fun k q => (h1 k q).elim (h.on k) (fun e => hit_child e hh), fun k a b c => ?_⟩
  have c1 : ¬ D k := fun q => c (Or.inl q)
  have c2 : k ≠ i := fun q => c (Or.inr q)
  rcases h.left k a b c1 with q | ⟨j, q1, q2, q3⟩
  · exact Or.inl ((h2 k q).resolve_left c2)
  · by_cases e : j = i
    · subst e
      exact Or.inl (h3 k q1 a c1 c2)
    · exact Or.inr ⟨j, q1, q2, fun q => q.elim q3 e⟩

/-- at the end all that is hit was broken, and nothing else -/
theorem stk_end {l : List Cel} (hI : Inv l) {n : Nat} {D S : Nat → Prop} (h : Stk l n D S) (hS : ∀ k, ¬ S k) : ∀ k, okAt l k = true → (D k ↔ hit l n k = true) := by
  have key : ∀ m k, k < m → okAt l k = true → hit l n k = true → D k := by
    intro m
    induction m with
    | zero => intro k hk; omega
    | succ m ih =>
      intro k hk h1 h2
      refine Classical.byContradiction fun h3 => ?_
      rcases h.left k h1 h2 h3 with q | ⟨j, q1, q2, q3⟩
      · exact hS k q
      · have hjk : j < k := by obtain ⟨_, _, _, q⟩ := q1; exact q
        exact q3 (ih j (by omega) (ok_child hI q1 h1) q2)
  exact fun k hk => ⟨fun q => (h.done k q).2, fun q => key (k + 1) k (by omega) hk q⟩

/-- how many below i are in D -/
def cntD (D : Nat → Bool) : Nat → Nat
  | 0 => 0
  | i + 1 => cntD D i + (if D i = true then 1 else 0)

theorem cntD_put {D : Nat → Bool} {i : Nat} (hi : D i = false) : ∀ m, cntD (fun k => D k || decide (k = i)) m = cntD D m + (if i < m then 1 else 0)
  | 0 => by simp [cntD]
  | m + 1 => by
    rw [cntD, cntD, cntD_put hi m]
    by_cases e : m = i
    · subst e
      rw [hi]
      simp
    · by_cases q : i < m
      · rw [if_pos q, if_pos (show i < m + 1 by omega)]
        simp [e]
        omega
      · rw [if_neg q, if_neg (show ¬ i < m + 1 by omega)]
        simp [e]

theorem cntD_hit {l : List Cel} {n : Nat} {D : Nat → Bool} (h1 : ∀ k, D k = true → okAt l k = true) (h2 : ∀ k, okAt l k = true → (D k = true ↔ hit l n k = true)) : ∀ m, cntD D m = cnt l n m
  | 0 => rfl
  | m + 1 => by
    rw [cntD, cnt, cntD_hit h1 h2 m]
    congr 1
    by_cases q : D m = true
    · rw [if_pos q, if_pos ⟨h1 m q, (h2 m (h1 m q)).1 q⟩]
    · rw [if_neg q, if_neg (fun e => q ((h2 m e.1).2 e.2))]

end Go.Proofs.Ytkpdpdllbnihgab.Ce
