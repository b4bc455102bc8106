/- CE, CF, CG, CH -/
import Derived.Test.YtkpdpdllbnihgaaGreatB5
set_option linter.unusedVariables false
set_option linter.unusedSimpArgs false
set_option maxRecDepth 100000
set_option maxHeartbeats 40000000
/- Cells, plain: two that stand on nothing common. -/
namespace Go.Proofs.YtkpdpdllbnihgaaGreat.Ce
/-- what is hit hangs on what stands on what alone -/
theorem hit_on {l l' : List Cel} (h : ∀ k : Nat, (l[k]?).map Cel.on = (l'[k]?).map Cel.on) (n : Nat) : ∀ b k, k < b → hit l n k = hit l' n k := by
  intro b
  induction b with
  | zero => intro k hk; omega
  | succ b ih =>
    intro k hk
    rw [hit_eq, hit_eq l']
    have hk' := h k
    cases h1 : l[k]? with
    | none =>
      rw [h1] at hk'
      cases h2 : l'[k]? with
      | none => rfl
      | some c => rw [h2] at hk'; cases hk'
    | some c =>
      rw [h1] at hk'
      cases h2 : l'[k]? with
      | none => rw [h2] at hk'; cases hk'
      | some d =>
        rw [h2] at hk'
        have e : c.on = d.on := Option.some.inj hk'
        simp only
        rw [e]
        by_cases q : 0 ≤ d.on ∧ d.on < (k : Int)
        · rw [ih d.on.toNat (by omega)]
        · rw [decide_eq_false q, Bool.false_and, Bool.false_and]
theorem break_on {l : List Cel} (hI : Inv l) (n : Int) : ∀ k : Nat, ((breakD l n).1[k]?).map Cel.on = (l[k]?).map Cel.on := by
  intro k
  by_cases h : 0 ≤ n ∧ okAt l n.toNat = true
  · obtain ⟨m, rfl⟩ : ∃ m : Nat, n = m := ⟨n.toNat, by omega⟩
    rw [Int.toNat_natCast] at h
    obtain ⟨_, hl, hk⟩ := break_spec hI h.2
    cases hc : l[k]? with
    | none => rw [List.getElem?_eq_none (by rw [hl]; exact List.getElem?_eq_none_iff.1 hc)]
    | some c => rw [hk k c hc]; rfl
  · rw [break_none h]
/-- on what the i-th stands: two on nothing, a on the first, the others on the second -/
def onF (a i : Nat) : Int := if i < 2 then -1 else if i = 2 then 0 else if i < a + 2 then (i : Int) - 1 else if i = a + 2 then 1 else (i : Int) - 1
def two (a : Nat) : Nat → List Cel
  | 0 => []
  | m + 1 => two a m ++ [⟨true, onF a m⟩]
theorem two_len (a : Nat) : ∀ m, (two a m).length = m
  | 0 => rfl
  | m + 1 => by rw [two, List.length_append, two_len a m]; rfl
theorem two_at (a : Nat) : ∀ (m i : Nat), i < m → (two a m)[i]? = some ⟨true, onF a i⟩
  | 0, i, h => by omega
  | m + 1, i, h => by
    rw [two]
    by_cases e : i = m
    · subst e
      rw [List.getElem?_append_right (by rw [two_len]; exact Nat.le_refl _), two_len]
      simp
    · rw [List.getElem?_append_left (by rw [two_len]; omega)]
      exact two_at a m i (by omega)
theorem two_ok (a m i : Nat) : okAt (two a m) i = decide (i < m) := by
  unfold okAt
  by_cases h : i < m
  · rw [two_at a m i h, decide_eq_true h]; rfl
  · rw [List.getElem?_eq_none (by rw [two_len]; omega), decide_eq_false h]; rfl
theorem onF_low (a i : Nat) : onF a i = -1 ∨ (0 ≤ onF a i ∧ onF a i < (i : Int)) := by
  unfold onF
  split
  · exact Or.inl rfl
  split
  · exact Or.inr ⟨by omega, by omega⟩
  split
  · exact Or.inr ⟨by omega, by omega⟩
  split
  · exact Or.inr ⟨by omega, by omega⟩
  · exact Or.inr ⟨by omega, by omega⟩
theorem two_make (a m : Nat) : makeD (two a m) (onF a m) = two a (m + 1) := by
  unfold makeD
  rw [two]
  congr 2
  unfold validOn
  rcases onF_low a m with h | ⟨h1, h2⟩
  · rw [h]; rfl
  · have := two_ok a m (onF a m).toNat
    unfold okAt at this
    rw [this, decide_eq_true h1, decide_eq_true (show (onF a m).toNat < m by omega)]
    simp
theorem two_inv (a : Nat) : ∀ m, Inv (two a m)
  | 0 => inv_nil
  | m + 1 => by rw [← two_make]; exact inv_make (two_inv a m) _
/-- the first one's are the first a behind both, the second one's all others -/
theorem two_hit (a m : Nat) (ha : 1 ≤ a) : ∀ b k, k < b → k < m → (hit (two a m) 0 k = decide (k = 0 ∨ (2 ≤ k ∧ k < a + 2))) ∧ (hit (two a m) 1 k = decide (k = 1 ∨ a + 2 ≤ k)) := by
  intro b
  induction b with
  | zero => intro k h; omega
  | succ b ih =>
    intro k h1 h2
    rw [hit_eq, hit_eq (two a m) 1, two_at a m k h2]
    simp only
    rcases Nat.lt_or_ge k 2 with c | c
    · have e : onF a k = -1 := by unfold onF; rw [if_pos c]
      rw [e, decide_eq_false (show ¬ ((0 : Int) ≤ -1 ∧ (-1 : Int) < (k : Int)) by omega), Bool.false_and, Bool.or_false, Bool.false_and, Bool.or_false]
      refine ⟨?_, ?_⟩
      · by_cases q : k = 0
        · rw [decide_eq_true q, decide_eq_true (Or.inl q)]
        · rw [decide_eq_false q, decide_eq_false (by omega)]
      · by_cases q : k = 1
        · rw [decide_eq_true q, decide_eq_true (Or.inl q)]
        · rw [decide_eq_false q, decide_eq_false (by omega)]
    · rw [decide_eq_false (show ¬ k = 0 by omega), decide_eq_false (show ¬ k = 1 by omega), Bool.false_or, Bool.false_or]
      have hl := onF_low a k
      have hn : onF a k ≠ -1 := by
        unfold onF
        rw [if_neg (by omega)]
        split
        · omega
        split
        · omega
        split <;> omega
      have hl := hl.resolve_left hn
      rw [decide_eq_true hl, Bool.true_and, Bool.true_and]
      obtain ⟨i1, i2⟩ := ih (onF a k).toNat (by omega) (by omega)
      rw [i1, i2]
      unfold onF at *
      rw [if_neg (show ¬ k < 2 by omega)] at *
      refine ⟨?_, ?_⟩ <;>
      · refine decide_eq_decide.2 ?_
        split
        · simp; omega
        split
        · omega
        split
        · simp; omega
        · omega
end Go.Proofs.YtkpdpdllbnihgaaGreat.Ce
/- Cells, plain: breaking one of two that stand on nothing common, and then the other. -/
namespace Go.Proofs.YtkpdpdllbnihgaaGreat.Ce
theorem two_cnt (a m : Nat) (ha : 1 ≤ a) : ∀ i, i ≤ m → cnt (two a m) 0 i = if i = 0 then 0 else 1 + min (i - 2) a
  | 0, _ => rfl
  | i + 1, h => by
    rw [cnt, two_cnt a m ha i (by omega), two_ok, decide_eq_true (show i < m by omega), (two_hit a m ha (i + 1) i (by omega) (by omega)).1]
    by_cases q : i = 0 ∨ (2 ≤ i ∧ i < a + 2)
    · rw [decide_eq_true q, if_pos (show true = true ∧ true = true from ⟨rfl, rfl⟩), if_neg (show ¬ i + 1 = 0 by omega)]
      split <;> omega
    · rw [decide_eq_false q, if_neg (show ¬ (true = true ∧ false = true) by simp), if_neg (show ¬ i + 1 = 0 by omega)]
      split <;> omega
theorem two_break (a b : Nat) (ha : 1 ≤ a) :
    (breakD (two a (a + b + 2)) 0).2 = a + 1 ∧ (∀ k, k < a + b + 2 → okAt (breakD (two a (a + b + 2)) 0).1 k = decide (k = 1 ∨ a + 2 ≤ k)) ∧ (breakD (two a (a + b + 2)) 0).1.length = a + b + 2 := by
  obtain ⟨h1, h2, h3⟩ := break_spec (two_inv a (a + b + 2)) (n := 0) (by rw [two_ok]; exact decide_eq_true (by omega))
  have e0 : (((0 : Nat) : Int)) = 0 := rfl
  rw [e0] at h1 h2 h3
  rw [two_len, two_cnt a _ ha _ (Nat.le_refl _), if_neg (by omega)] at h1
  refine ⟨by rw [h1]; omega, fun k hk => ?_, by rw [h2, two_len]⟩
  unfold okAt
  rw [h3 k _ (two_at a _ k hk), (two_hit a _ ha (k + 1) k (by omega) hk).1]
  by_cases q : k = 0 ∨ (2 ≤ k ∧ k < a + 2)
  · rw [decide_eq_true q, decide_eq_false (by omega)]; rfl
  · rw [decide_eq_false q, decide_eq_true (by omega)]; rfl
theorem two_cnt2 (a b : Nat) (ha : 1 ≤ a) (l : List Cel) (hok : ∀ k, k < a + b + 2 → okAt l k = decide (k = 1 ∨ a + 2 ≤ k)) (hon : ∀ k : Nat, (l[k]?).map Cel.on = ((two a (a + b + 2))[k]?).map Cel.on) : ∀ i, i ≤ a + b + 2 → cnt l 1 i = if i < 2 then 0 else 1 + (i - (a + 2))
  | 0, _ => rfl
  | i + 1, h => by
    rw [cnt, two_cnt2 a b ha l hok hon i (by omega), hok i (by omega), hit_on hon 1 (i + 1) i (by omega), (two_hit a _ ha (i + 1) i (by omega) (by omega)).2]
    by_cases q : i = 1 ∨ a + 2 ≤ i
    · rw [decide_eq_true q, if_pos (show true = true ∧ true = true from ⟨rfl, rfl⟩), if_neg (show ¬ i + 1 < 2 by omega)]
      split <;> omega
    · rw [decide_eq_false q, if_neg (show ¬ (false = true ∧ false = true) by simp)]
      split <;> split <;> omega
/-- .. and then the other -/
theorem two_then (a b : Nat) (ha : 1 ≤ a) : (breakD (breakD (two a (a + b + 2)) 0).1 1).2 = b + 1 := by
  obtain ⟨_, h2, h3⟩ := two_break a b ha
  have hI := inv_break (two_inv a (a + b + 2)) 0
  have hon := break_on (two_inv a (a + b + 2)) 0
  have h4 := (break_spec hI (n := 1) (by rw [h2 1 (by omega)]; exact decide_eq_true (Or.inl rfl))).1
  have e1 : (((1 : Nat) : Int)) = 1 := rfl
  rw [e1] at h4
  rw [h4, h3, two_cnt2 a b ha _ h2 hon _ (Nat.le_refl _), if_neg (by omega)]
  omega
end Go.Proofs.YtkpdpdllbnihgaaGreat.Ce
/- Cells, plain: the program's entries: each knows those on top of it, the last of them first. -/
namespace Go.Proofs.YtkpdpdllbnihgaaGreat.Ce
structure En where
  ok : Bool
  top : Int
  bes : Int
/-- the chain that begins at t -/
def Ch (E : List En) : Int → List Nat → Prop
  | t, [] => t = 0
  | t, k :: ks => t = (k : Int) ∧ 0 < k ∧ (∃ e, E[k]? = some e ∧ Ch E e.bes ks) ∧ ∀ j ∈ ks, j < k
theorem ch_bes {E E' : List En} (h : ∀ (k : Nat) (e : En), E[k]? = some e → ∃ e', E'[k]? = some e' ∧ e'.bes = e.bes) : ∀ (ks : List Nat) (t : Int), Ch E t ks → Ch E' t ks
  | [], t, q => q
  | k :: ks, t, ⟨q1, q2, ⟨e, q3, q4⟩, q5⟩ => by
    obtain ⟨e', r1, r2⟩ := h k e q3
    exact ⟨q1, q2, ⟨e', r1, by rw [r2]; exact ch_bes h ks _ q4⟩, q5⟩
theorem ch_zero {E : List En} : ∀ {ks : List Nat}, Ch E 0 ks → ks = []
  | [], _ => rfl
  | k :: ks, ⟨q1, q2, _⟩ => by omega
theorem ch_lt {E : List En} {k : Nat} {ks : List Nat} {t : Int} (h : Ch E t (k :: ks)) : ∃ e, E[k]? = some e ∧ Ch E e.bes ks ∧ (e.bes < (k : Int)) ∧ 0 ≤ e.bes := by
  obtain ⟨_, hk, ⟨e, h1, h2⟩, h3⟩ := h
  refine ⟨e, h1, h2, ?_⟩
  cases ks with
  | nil => have : e.bes = 0 := h2; omega
  | cons j ks =>
    have := h2.1
    have := h3 j (List.mem_cons_self ..)
    omega
/-- the program's entries and the document's cells, where D are broken by now -/
structure Bk (E : List En) (l : List Cel) (D : Nat → Bool) : Prop where
  len : E.length = l.length
  ok : ∀ (i : Nat) (e : En) (c : Cel), E[i]? = some e → l[i]? = some c → e.ok = (c.ok && !D i)
  ch : ∀ (j : Nat) (e : En), E[j]? = some e → ∃ ks, Ch E e.top ks ∧ (∀ k ∈ ks, Child l j k) ∧ ∀ k, Child l j k → okAt l k = true → D k = false → k ∈ ks
def Rl (E : List En) (l : List Cel) : Prop := Bk E l (fun _ => false)
def enAt (E : List En) (i : Nat) : Bool := ((E[i]?).map En.ok).getD false
theorem Bk.at' {E : List En} {l : List Cel} {D : Nat → Bool} (h : Bk E l D) (i : Nat) : enAt E i = (okAt l i && !D i) := by
  unfold enAt okAt
  rcases Nat.lt_or_ge i l.length with c | c
  · have h1 := List.getElem?_eq_getElem c
    have h2 : E[i]? = some (E[i]'(by rw [h.len]; exact c)) := List.getElem?_eq_getElem _
    have := h.ok i _ _ h2 h1
    rw [h1, h2]
    simpa using this
  · rw [List.getElem?_eq_none c, List.getElem?_eq_none (by rw [h.len]; exact c)]
    rfl
theorem Rl.at' {E : List En} {l : List Cel} (h : Rl E l) (i : Nat) : enAt E i = okAt l i := by
  have := Bk.at' h i
  rw [this]
  simp
theorem rl_nil : Rl [] [] := ⟨rfl, fun i e c h => by simp at h, fun j e h => by simp at h⟩
theorem child_lt {l : List Cel} {j k : Nat} (h : Child l j k) : k < l.length ∧ j < k := by
  obtain ⟨c, h1, h2, h3⟩ := h
  exact ⟨(List.getElem?_eq_some_iff.1 h1).1, h3⟩
theorem child_app {l : List Cel} {x : Cel} {j k : Nat} (h : Child l j k) : Child (l ++ [x]) j k := by
  have hl := (child_lt h).1
  obtain ⟨c, h1, h2, h3⟩ := h
  exact ⟨c, by rw [List.getElem?_append_left hl]; exact h1, h2, h3⟩
theorem child_of_app {l : List Cel} {x : Cel} {j k : Nat} (h : Child (l ++ [x]) j k) : Child l j k ∨ (k = l.length ∧ x.on = (j : Int) ∧ j < k) := by
  obtain ⟨c, h1, h2, h3⟩ := h
  rcases Nat.lt_or_ge k l.length with c1 | c1
  · rw [List.getElem?_append_left c1] at h1
    exact Or.inl ⟨c, h1, h2, h3⟩
  · rw [List.getElem?_append_right c1, List.getElem?_singleton] at h1
    split at h1
    · cases h1
      exact Or.inr ⟨by omega, h2, h3⟩
    · cases h1
theorem ok_app {l : List Cel} {x : Cel} {k : Nat} (hk : k < l.length) : okAt (l ++ [x]) k = okAt l k := by
  unfold okAt
  rw [List.getElem?_append_left hk]
theorem ok_new {l : List Cel} {x : Cel} : okAt (l ++ [x]) l.length = x.ok := by
  unfold okAt
  rw [List.getElem?_append_right (Nat.le_refl _)]
  simp
/-- Make, where the new cell is not valid, or stands on nothing -/
theorem rl_make_low {E : List En} {l : List Cel} (h : Rl E l) (on : Int) (hv : validOn l on = true → on = -1) : Rl (E ++ [⟨validOn l on, 0, 0⟩]) (makeD l on) := by
  have hlen := h.len
  unfold makeD
  refine ⟨by simp [hlen], fun i e c he hc => ?_, fun j e he => ?_⟩
  · rcases Nat.lt_or_ge i l.length with q | q
    · rw [List.getElem?_append_left (by omega)] at he
      rw [List.getElem?_append_left q] at hc
      exact h.ok i e c he hc
    · rw [List.getElem?_append_right (by omega), List.getElem?_singleton] at he
      rw [List.getElem?_append_right q, List.getElem?_singleton] at hc
      split at he
      · split at hc
        · cases he; cases hc; simp
        · cases hc
      · cases he
  · have hb : ∀ (k : Nat) (e : En), E[k]? = some e → ∃ e', (E ++ [⟨validOn l on, 0, 0⟩])[k]? = some e' ∧ e'.bes = e.bes := fun k e hk => ⟨e, by rw [List.getElem?_append_left (List.getElem?_eq_some_iff.1 hk).1]; exact hk, rfl⟩
    rcases Nat.lt_or_ge j l.length with q | q
    · rw [List.getElem?_append_left (by omega)] at he
      obtain ⟨ks, h1, h2, h3⟩ := h.ch j e he
      refine ⟨ks, ch_bes hb ks _ h1, fun k hk => child_app (h2 k hk), fun k hk ho _ => ?_⟩
      rcases child_of_app hk with c | ⟨c1, c2, c3⟩
      · rw [ok_app (child_lt c).1] at ho
        exact h3 k c ho rfl
      · rw [c1, ok_new] at ho
        have := hv ho
        simp only at c2
        omega
    · rw [List.getElem?_append_right (by omega), List.getElem?_singleton] at he
      split at he
      · cases he
        refine ⟨[], rfl, fun k hk => (by cases hk), fun k hk ho _ => ?_⟩
        have := child_lt hk
        rw [List.length_append, List.length_singleton] at this
        omega
      · cases he
/-- Make, on top of a valid one -/
theorem rl_make_on {E : List En} {l : List Cel} (h : Rl E l) (j : Nat) (e : En) (he : E[j]? = some e) (hv : okAt l j = true) : Rl (E.set j ⟨e.ok, (E.length : Int), e.bes⟩ ++ [⟨true, 0, e.top⟩]) (makeD l j) := by
  have hlen := h.len
  have hj := (List.getElem?_eq_some_iff.1 he).1
  have hval : validOn l (j : Int) = true := by
    unfold okAt at hv
    unfold validOn
    rw [Int.toNat_natCast, hv]
    simp
  unfold makeD
  rw [hval]
  have hsl : (E.set j ⟨e.ok, (E.length : Int), e.bes⟩).length = E.length := by simp
  have hb0 : ∀ (k : Nat) (e0 : En), E[k]? = some e0 → ∃ e', (E.set j ⟨e.ok, (E.length : Int), e.bes⟩ ++ [⟨true, 0, e.top⟩])[k]? = some e' ∧ e'.bes = e0.bes := fun k e0 hk => by
    have hkl := (List.getElem?_eq_some_iff.1 hk).1
    rw [List.getElem?_append_left (by omega)]
    by_cases c : j = k
    · subst c
      rw [List.getElem?_set_self hj]
      rw [he] at hk
      cases hk
      exact ⟨_, rfl, rfl⟩
    · rw [List.getElem?_set_ne c]
      exact ⟨e0, hk, rfl⟩
  refine ⟨by simp [hlen], fun i e1 c he1 hc => ?_, fun i e1 he1 => ?_⟩
  · rcases Nat.lt_or_ge i l.length with q | q
    · rw [List.getElem?_append_left (by omega)] at he1
      rw [List.getElem?_append_left q] at hc
      by_cases c1 : j = i
      · subst c1
        rw [List.getElem?_set_self hj] at he1
        cases he1
        exact h.ok j e c he hc
      · rw [List.getElem?_set_ne c1] at he1
        exact h.ok i e1 c he1 hc
    · rw [List.getElem?_append_right (by omega), List.getElem?_singleton] at he1
      rw [List.getElem?_append_right q, List.getElem?_singleton] at hc
      split at he1
      · split at hc
        · cases he1; cases hc; simp
        · cases hc
      · cases he1
  · rcases Nat.lt_or_ge i l.length with q | q
    · rw [List.getElem?_append_left (by omega)] at he1
      by_cases c1 : j = i
      · subst c1
        rw [List.getElem?_set_self hj] at he1
        cases he1
        obtain ⟨ks, h1, h2, h3⟩ := h.ch j e he
        refine ⟨l.length :: ks, ⟨by simp only; omega, by omega, ⟨⟨true, 0, e.top⟩, ?_, ch_bes hb0 ks _ h1⟩, fun k hk => (child_lt (h2 k hk)).1⟩, fun k hk => ?_, fun k hk ho _ => ?_⟩
        · rw [← hlen, List.getElem?_append_right (by omega), hsl]
          simp
        · rcases List.mem_cons.1 hk with c | c
          · subst c
            exact ⟨⟨true, (j : Int)⟩, by rw [List.getElem?_append_right (Nat.le_refl _)]; simp, rfl, by omega⟩
          · exact child_app (h2 k c)
        · rcases child_of_app hk with c | ⟨c1, c2, c3⟩
          · rw [ok_app (child_lt c).1] at ho
            exact List.mem_cons_of_mem _ (h3 k c ho rfl)
          · rw [c1]
            exact List.mem_cons_self ..
      · rw [List.getElem?_set_ne c1] at he1
        obtain ⟨ks, h1, h2, h3⟩ := h.ch i e1 he1
        refine ⟨ks, ch_bes hb0 ks _ h1, fun k hk => child_app (h2 k hk), fun k hk ho _ => ?_⟩
        rcases child_of_app hk with c | ⟨c1, c2, c3⟩
        · rw [ok_app (child_lt c).1] at ho
          exact h3 k c ho rfl
        · simp only at c2
          omega
    · rw [List.getElem?_append_right (by omega), List.getElem?_singleton] at he1
      split at he1
      · cases he1
        refine ⟨[], rfl, fun k hk => (by cases hk), fun k hk ho _ => ?_⟩
        have := child_lt hk
        rw [List.length_append, List.length_singleton] at this
        omega
      · cases he1
end Go.Proofs.YtkpdpdllbnihgaaGreat.Ce
/- Cells, plain: the program's Break: a stack of those whose tops are still to be gone through. -/
namespace Go.Proofs.YtkpdpdllbnihgaaGreat.Ce
def put (D : Nat → Bool) (k : Nat) : Nat → Bool := fun i => D i || decide (i = k)
theorem put_self (D : Nat → Bool) (k : Nat) : put D k k = true := by unfold put; simp
theorem put_other (D : Nat → Bool) {k i : Nat} (h : i ≠ k) : put D k i = D i := by unfold put; simp [h]
theorem put_old (D : Nat → Bool) (k : Nat) {i : Nat} (h : D i = true) : put D k i = true := by unfold put; simp [h]
/-- one is marked as broken -/
theorem bk_mark {E : List En} {l : List Cel} {D : Nat → Bool} (h : Bk E l D) (k : Nat) (e : En) (he : E[k]? = some e) : Bk (E.set k ⟨false, e.top, e.bes⟩) l (put D k) := by
  have hk := (List.getElem?_eq_some_iff.1 he).1
  have hb : ∀ (i : Nat) (e0 : En), E[i]? = some e0 → ∃ e', (E.set k ⟨false, e.top, e.bes⟩)[i]? = some e' ∧ e'.bes = e0.bes := fun i e0 hi => by
    by_cases c : k = i
    · subst c
      rw [List.getElem?_set_self hk]
      rw [he] at hi
      cases hi
      exact ⟨_, rfl, rfl⟩
    · rw [List.getElem?_set_ne c]
      exact ⟨e0, hi, rfl⟩
  refine ⟨by rw [List.length_set]; exact h.len, fun i e1 c h1 h2 => ?_, fun j e1 h1 => ?_⟩
  · by_cases q : k = i
    · subst q
      rw [List.getElem?_set_self hk] at h1
      cases h1
      rw [put_self]
      simp
    · rw [List.getElem?_set_ne q] at h1
      rw [put_other D (fun e => q e.symm)]
      exact h.ok i e1 c h1 h2
  · have key : ∃ e2, E[j]? = some e2 ∧ e2.top = e1.top := by
      by_cases q : k = j
      · subst q
        rw [List.getElem?_set_self hk] at h1
        cases h1
        exact ⟨e, he, rfl⟩
      · rw [List.getElem?_set_ne q] at h1
        exact ⟨e1, h1, rfl⟩
    obtain ⟨e2, k1, k2⟩ := key
    obtain ⟨ks, g1, g2, g3⟩ := h.ch j e2 k1
    refine ⟨ks, by rw [← k2]; exact ch_bes hb ks _ g1, g2, fun i hi ho hd => g3 i hi ho ?_⟩
    unfold put at hd
    rw [Bool.or_eq_false_iff] at hd
    exact hd.1
/-- nothing is left on top -/
theorem bk_none {E : List En} {l : List Cel} {D : Nat → Bool} (h : Bk E l D) (j : Nat) (e : En) (he : E[j]? = some e) (h0 : e.top = 0) : ∀ k, Child l j k → okAt l k = true → D k = true := by
  obtain ⟨ks, g1, g2, g3⟩ := h.ch j e he
  rw [h0] at g1
  have := ch_zero g1
  subst this
  intro k hk ho
  cases hd : D k with
  | true => rfl
  | false => exact absurd (g3 k hk ho hd) (by simp)
/-- the last one on top is taken off -/
theorem bk_lift {E : List En} {l : List Cel} {D : Nat → Bool} (h : Bk E l D) (j : Nat) (e : En) (he : E[j]? = some e) (h0 : e.top ≠ 0) :
    ∃ (k : Nat) (x : En), e.top = (k : Int) ∧ E[k]? = some x ∧ Child l j k ∧ x.bes < (k : Int) ∧ 0 ≤ x.bes ∧ k ≠ j ∧
      (x.ok = false → Bk (E.set j ⟨e.ok, x.bes, e.bes⟩) l D) ∧
      (x.ok = true → D k = false ∧ okAt l k = true ∧ Bk ((E.set j ⟨e.ok, x.bes, e.bes⟩).set k ⟨false, x.top, x.bes⟩) l (put D k)) := by
  obtain ⟨ks, g1, g2, g3⟩ := h.ch j e he
  have hj := (List.getElem?_eq_some_iff.1 he).1
  cases ks with
  | nil => exact absurd g1 h0
  | cons k ks =>
    obtain ⟨x, hx, hxc, hx1, hx2⟩ := ch_lt g1
    have hch := g2 k (List.mem_cons_self ..)
    have hkl := (child_lt hch).1
    have hne : k ≠ j := by have := (child_lt hch).2; omega
    have hc : ∃ c, l[k]? = some c := ⟨_, List.getElem?_eq_getElem hkl⟩
    obtain ⟨c, hc⟩ := hc
    have hoc : okAt l k = c.ok := by unfold okAt; rw [hc]; rfl
    have hxo := h.ok k x c hx hc
    have hb : ∀ (i : Nat) (e0 : En), E[i]? = some e0 → ∃ e', (E.set j ⟨e.ok, x.bes, e.bes⟩)[i]? = some e' ∧ e'.bes = e0.bes := fun i e0 hi => by
      by_cases c : j = i
      · subst c
        rw [List.getElem?_set_self hj]
        rw [he] at hi
        cases hi
        exact ⟨_, rfl, rfl⟩
      · rw [List.getElem?_set_ne c]
        exact ⟨e0, hi, rfl⟩
    -- what is left, where k need not be found any more
    have main : ∀ D' : Nat → Bool, (∀ i, D' i = false → D i = false) → (okAt l k = true → D' k = true) → (∀ (i : Nat) (e1 : En) (c1 : Cel), (E.set j ⟨e.ok, x.bes, e.bes⟩)[i]? = some e1 → l[i]? = some c1 → e1.ok = (c1.ok && !D i)) ∧ (∀ (i : Nat) (e1 : En), (E.set j ⟨e.ok, x.bes, e.bes⟩)[i]? = some e1 → ∃ ks, Ch (E.set j ⟨e.ok, x.bes, e.bes⟩) e1.top ks ∧ (∀ k ∈ ks, Child l i k) ∧ ∀ k, Child l i k → okAt l k = true → D' k = false → k ∈ ks) := by
      intro D' hD hDk
      refine ⟨fun i e1 c1 h1 h2 => ?_, fun i e1 h1 => ?_⟩
      · by_cases q : j = i
        · subst q
          rw [List.getElem?_set_self hj] at h1
          cases h1
          exact h.ok j e c1 he h2
        · rw [List.getElem?_set_ne q] at h1
          exact h.ok i e1 c1 h1 h2
      · by_cases q : j = i
        · subst q
          rw [List.getElem?_set_self hj] at h1
          cases h1
          refine ⟨ks, ch_bes hb ks _ hxc, fun i hi => g2 i (List.mem_cons_of_mem _ hi), fun i hi ho hd => ?_⟩
          rcases List.mem_cons.1 (g3 i hi ho (hD i hd)) with r | r
          · subst r
            rw [hDk ho] at hd
            cases hd
          · exact r
        · rw [List.getElem?_set_ne q] at h1
          obtain ⟨ks', r1, r2, r3⟩ := h.ch i e1 h1
          exact ⟨ks', ch_bes hb ks' _ r1, r2, fun a ha ho hd => r3 a ha ho (hD a hd)⟩
    refine ⟨k, x, g1.1, hx, hch, hx1, hx2, hne, fun hf => ?_, fun ht => ?_⟩
    · have := main D (fun i q => q) (fun ho => by
        rw [hoc] at ho
        rw [hf, ho] at hxo
        cases hd : D k with
        | true => rfl
        | false => rw [hd] at hxo; cases hxo)
      exact ⟨by rw [List.length_set]; exact h.len, this.1, this.2⟩
    · rw [ht] at hxo
      have hxo := hxo.symm
      rw [Bool.and_eq_true, Bool.not_eq_true'] at hxo
      refine ⟨hxo.2, by rw [hoc]; exact hxo.1, ?_⟩
      have hm := main (put D k) (fun i q => by unfold put at q; rw [Bool.or_eq_false_iff] at q; exact q.1) (fun _ => put_self D k)
      have hk2 : (E.set j ⟨e.ok, x.bes, e.bes⟩)[k]? = some x := by rw [List.getElem?_set_ne (fun q => hne q.symm)]; exact hx
      have hk3 : k < (E.set j ⟨e.ok, x.bes, e.bes⟩).length := (List.getElem?_eq_some_iff.1 hk2).1
      have hb2 : ∀ (i : Nat) (e0 : En), (E.set j ⟨e.ok, x.bes, e.bes⟩)[i]? = some e0 → ∃ e', ((E.set j ⟨e.ok, x.bes, e.bes⟩).set k ⟨false, x.top, x.bes⟩)[i]? = some e' ∧ e'.bes = e0.bes := fun i e0 hi => by
        by_cases c : k = i
        · subst c
          rw [List.getElem?_set_self hk3]
          rw [hk2] at hi
          cases hi
          exact ⟨_, rfl, rfl⟩
        · rw [List.getElem?_set_ne c]
          exact ⟨e0, hi, rfl⟩
      refine ⟨by rw [List.length_set, List.length_set]; exact h.len, fun i e1 c1 h1 h2 => ?_, fun i e1 h1 => ?_⟩
      · by_cases q : k = i
        · subst q
          rw [List.getElem?_set_self hk3] at h1
          cases h1
          rw [put_self]
          simp
        · rw [List.getElem?_set_ne q] at h1
          rw [put_other D (fun e => q e.symm)]
          exact hm.1 i e1 c1 h1 h2
      · have key : ∃ e2, (E.set j ⟨e.ok, x.bes, e.bes⟩)[i]? = some e2 ∧ e2.top = e1.top := by
          by_cases q : k = i
          · subst q
            rw [List.getElem?_set_self hk3] at h1
            cases h1
            exact ⟨x, hk2, rfl⟩
          · rw [List.getElem?_set_ne q] at h1
            exact ⟨e1, h1, rfl⟩
        obtain ⟨e2, k1, k2⟩ := key
        obtain ⟨ks2, r1, r2, r3⟩ := hm.2 i e2 k1
        exact ⟨ks2, by rw [← k2]; exact ch_bes hb2 ks2 _ r1, r2, r3⟩
/-- the way of a Break of n: D are broken by now, S is the stack -/
structure Pile (E : List En) (l : List Cel) (n : Nat) (D : Nat → Bool) (S : List Nat) : Prop where
  bk : Bk E l D
  done : ∀ k, D k = true → okAt l k = true ∧ hit l n k = true
  st : D n = true
  on : ∀ s ∈ S, D s = true
  fin : ∀ j, D j = true → j ∉ S → ∀ k, Child l j k → okAt l k = true → D k = true
  len : S.length ≤ cntD D l.length
theorem cntD_none : ∀ m, cntD (fun _ => false) m = 0
  | 0 => rfl
  | m + 1 => by rw [cntD, cntD_none m]; simp
theorem cntD_le (D : Nat → Bool) : ∀ m, cntD D m ≤ m
  | 0 => Nat.le_refl _
  | m + 1 => by
    rw [cntD]
    have := cntD_le D m
    split <;> omega
theorem ok_lt {l : List Cel} {k : Nat} (h : okAt l k = true) : k < l.length := by
  unfold okAt at h
  rcases Nat.lt_or_ge k l.length with c | c
  · exact c
  · rw [List.getElem?_eq_none c] at h
    cases h
theorem cntD_more {D : Nat → Bool} {k m : Nat} (hk : D k = false) (hm : k < m) : cntD (put D k) m = cntD D m + 1 := by
  have := cntD_put hk m
  rw [if_pos hm] at this
  exact this
theorem pile_start {E : List En} {l : List Cel} (h : Rl E l) {n : Nat} (hn : okAt l n = true) (e : En) (he : E[n]? = some e) : Pile (E.set n ⟨false, e.top, e.bes⟩) l n (put (fun _ => false) n) [n] ∧ cntD (put (fun _ => false) n) l.length = 1 := by
  have h1 : cntD (put (fun _ => false) n) l.length = 1 := by
    rw [cntD_more rfl (ok_lt hn), cntD_none]
  have hp : ∀ k, put (fun _ => false) n k = true → k = n := fun k q => by
    unfold put at q
    simpa using q
  refine ⟨⟨bk_mark h n e he, fun k q => ?_, put_self _ _, fun s hs => ?_, fun j hj hs => ?_, ?_⟩, h1⟩
  · rw [hp k q]
    exact ⟨hn, hit_self l n⟩
  · rw [List.mem_singleton.1 hs]
    exact put_self _ _
  · exact absurd (List.mem_singleton.2 (hp j hj)) hs
  · rw [h1]
    exact Nat.le_refl _
/-- one on top was broken already -/
theorem Pile.skip {E E' : List En} {l : List Cel} {n : Nat} {D : Nat → Bool} {S : List Nat} (h : Pile E l n D S) (hb : Bk E' l D) : Pile E' l n D S :=
  ⟨hb, h.done, h.st, h.on, h.fin, h.len⟩
/-- one on top is broken now, and comes onto the stack -/
theorem Pile.push {E E' : List En} {l : List Cel} {n : Nat} {D : Nat → Bool} {S : List Nat} (h : Pile E l n D S) {j k : Nat} (hj : j ∈ S) (hc : Child l j k) (hd : D k = false) (ho : okAt l k = true) (hb : Bk E' l (put D k)) : Pile E' l n (put D k) (S ++ [k]) ∧ cntD (put D k) l.length = cntD D l.length + 1 := by
  have hcnt := cntD_more hd (ok_lt ho)
  refine ⟨⟨hb, fun i q => ?_, put_old _ _ h.st, fun s hs => ?_, fun i q hs => ?_, ?_⟩, hcnt⟩
  · by_cases c : i = k
    · subst c
      exact ⟨ho, hit_child hc (h.done j (h.on j hj)).2⟩
    · rw [put_other D c] at q
      exact h.done i q
  · rcases List.mem_append.1 hs with c | c
    · exact put_old _ _ (h.on s c)
    · rw [List.mem_singleton.1 c]
      exact put_self _ _
  · have c : i ≠ k := fun c => hs (List.mem_append_right _ (List.mem_singleton.2 c))
    rw [put_other D c] at q
    intro a ha hoa
    exact put_old _ _ (h.fin i q (fun r => hs (List.mem_append_left _ r)) a ha hoa)
  · rw [hcnt, List.length_append, List.length_singleton]
    have := h.len
    omega
/-- nothing is left on top of the last one -/
theorem Pile.pop {E : List En} {l : List Cel} {n : Nat} {D : Nat → Bool} {S : List Nat} {j : Nat} (h : Pile E l n D (S ++ [j])) (e : En) (he : E[j]? = some e) (h0 : e.top = 0) : Pile E l n D S := by
  refine ⟨h.bk, h.done, h.st, fun s hs => h.on s (List.mem_append_left _ hs), fun i q hs => ?_, ?_⟩
  · by_cases c : i = j
    · subst c
      exact bk_none h.bk i e he h0
    · refine h.fin i q (fun r => ?_)
      rcases List.mem_append.1 r with r | r
      · exact hs r
      · exact c (List.mem_singleton.1 r)
  · have := h.len
    rw [List.length_append, List.length_singleton] at this
    omega
/-- at the end just what is hit is broken: the document's Break -/
theorem Pile.last {E : List En} {l : List Cel} (hI : Inv l) {n : Nat} {D : Nat → Bool} (h : Pile E l n D []) (hn : okAt l n = true) : cntD D l.length = (breakD l n).2 ∧ Rl E (breakD l n).1 := by
  have key : ∀ m k, k < m → okAt l k = true → hit l n k = true → D k = true := by
    intro m
    induction m with
    | zero => intro k hk; omega
    | succ m ih =>
      intro k hk h1 h2
      by_cases c : k = n
      · rw [c]; exact h.st
      · obtain ⟨j, q1, q2⟩ := hit_back h2 c
        have hjk := (child_lt q1).2
        exact h.fin j (ih j (by omega) (ok_child hI q1 h1) q2) (by simp) k q1 h1
  have hD : ∀ k, okAt l k = true → (D k = true ↔ hit l n k = true) := fun k hk => ⟨fun q => (h.done k q).2, fun q => key (k + 1) k (by omega) hk q⟩
  obtain ⟨s1, s2, s3⟩ := break_spec hI hn
  refine ⟨?_, ?_⟩
  · rw [s1]
    exact cntD_hit (fun k q => (h.done k q).1) hD _
  · have hch : ∀ {j k : Nat}, Child (breakD l n).1 j k ↔ Child l j k := by
      intro j k
      have := break_on hI n k
      constructor
      · rintro ⟨c, c1, c2, c3⟩
        rw [c1] at this
        cases hl : l[k]? with
        | none => rw [hl] at this; cases this
        | some d =>
          rw [hl] at this
          have e : c.on = d.on := Option.some.inj this
          exact ⟨d, hl, by rw [← e]; exact c2, c3⟩
      · rintro ⟨c, c1, c2, c3⟩
        rw [c1] at this
        cases hl : (breakD l n).1[k]? with
        | none => rw [hl] at this; cases this
        | some d =>
          rw [hl] at this
          have e : d.on = c.on := Option.some.inj this
          exact ⟨d, hl, by rw [e]; exact c2, c3⟩
    have hok : ∀ k, okAt (breakD l n).1 k = (okAt l k && !hit l n k) := by
      intro k
      unfold okAt
      cases hl : l[k]? with
      | none => rw [List.getElem?_eq_none (by rw [s2]; exact List.getElem?_eq_none_iff.1 hl)]; rfl
      | some d => rw [s3 k d hl]; rfl
    refine ⟨by rw [s2]; exact h.bk.len, fun i e c h1 h2 => ?_, fun j e he => ?_⟩
    · have hil : i < l.length := by rw [← s2]; exact (List.getElem?_eq_some_iff.1 h2).1
      have hd := List.getElem?_eq_getElem hil
      have h3 := s3 i _ hd
      rw [h2] at h3
      have h3 := Option.some.inj h3
      rw [h.bk.ok i e _ h1 hd, h3]
      simp only [Bool.not_false, Bool.and_true]
      cases ho : (l[i]).ok with
      | false => rfl
      | true =>
        have hoa : okAt l i = true := by unfold okAt; rw [hd]; exact ho
        have := hD i hoa
        cases hh : hit l n i with
        | true => rw [this.2 hh]
        | false =>
          cases hdd : D i with
          | false => rfl
          | true => rw [this.1 hdd] at hh; cases hh
    · obtain ⟨ks, g1, g2, g3⟩ := h.bk.ch j e he
      refine ⟨ks, g1, fun k hk => hch.2 (g2 k hk), fun k hk ho _ => ?_⟩
      rw [hok, Bool.and_eq_true, Bool.not_eq_true'] at ho
      refine g3 k (hch.1 hk) ho.1 ?_
      cases hdd : D k with
      | false => rfl
      | true => rw [(hD k ho.1).1 hdd] at ho; cases ho.2
end Go.Proofs.YtkpdpdllbnihgaaGreat.Ce
