/- Cells, plain: the program's entries: each knows those on top of it, the last of them first. -/
import Derived.Test.YtkpdpdllbnihgaaB4
namespace Go.Proofs.Ytkpdpdllbnihgaa.Ce
set_option linter.unusedVariables false

structure En where
  ok : Bool
  top : Int
  bes : Int

/-- the chain that begins at t -/
def Ch (E : List En) : Int → List Nat → Prop
  | t, [] => t = 0
  | t, k :: ks => t = (k : Int) ∧ 0 < k ∧ (∃ e, E[k]? = some e ∧ Ch E e.bes ks) ∧ ∀ j ∈ ks, j < k

theorem ch_bes {E E' : List En} (h : ∀ (k : Nat) (e : En), E[k]? = some e → ∃ e', E'[k]? = some e' ∧ e'.bes = e.bes) : ∀ (ks : List Nat) (t : Int), Ch E t ks → Ch E' t ks
  | [], t, q => q
  | k :: ks, t, ⟨q1, q2, ⟨e, q3, q4⟩, q5⟩ => by
    obtain ⟨e', r1, r2⟩ := h k e q3
    exact ⟨q1, q2, ⟨e', r1, by rw [r2]; exact ch_bes h ks _ q4⟩, q5⟩

theorem ch_zero {E : List En} : ∀ {ks : List Nat}, Ch E 0 ks → ks = []
  | [], _ => rfl
  | k :: ks, ⟨q1, q2, _⟩ => by omega

theorem ch_lt {E : List En} {k : Nat} {ks : List Nat} {t : Int} (h : Ch E t (k :: ks)) : ∃ e, E[k]? = some e ∧ Ch E e.bes ks ∧ (e.bes < (k : Int)) ∧ 0 ≤ e.bes := by
  obtain ⟨_, hk, ⟨e, h1, h2⟩, h3⟩ := h
  refine ⟨e, h1, h2, ?_⟩
  cases ks with
  | nil => have : e.bes = 0 := h2; omega
  | cons j ks =>
    have := h2.1
    have := h3 j (List.mem_cons_self ..)
    omega

/-- the program's entries and the document's cells, where D are broken by now -/
structure Bk (E : List En) (l : List Cel) (D : Nat → Bool) : Prop where
  len : E.length = l.length
  ok : ∀ (i : Nat) (e : En) (c : Cel), E[i]? = some e → l[i]? = some c → e.ok = (c.ok && !D i)
  ch : ∀ (j : Nat) (e : En), E[j]? = some e → ∃ ks, Ch E e.top ks ∧ (∀ k ∈ ks, Child l j k) ∧ ∀ k, Child l j k → okAt l k = true → D k = false → k ∈ ks

def Rl (E : List En) (l : List Cel) : Prop := Bk E l (fun _ => false)

def enAt (E : List En) (i : Nat) : Bool := ((E[i]?).map En.ok).getD false

theorem Bk.at' {E : List En} {l : List Cel} {D : Nat → Bool} (h : Bk E l D) (i : Nat) : enAt E i = (okAt l i && !D i) := by
  unfold enAt okAt
  rcases Nat.lt_or_ge i l.length with c | c
  · have h1 := List.getElem?_eq_getElem c
    have h2 : E[i]? = some (E[i]'(by rw [h.len]; exact c)) := List.getElem?_eq_getElem _
    have := h.ok i _ _ h2 h1
    rw [h1, h2]
    simpa using this
  · rw [List.getElem?_eq_none c, List.getElem?_eq_none (by rw [h.len]; exact c)]
    rfl

theorem Rl.at' {E : List En} {l : List Cel} (h : Rl E l) (i : Nat) : enAt E i = okAt l i := by
  have := Bk.at' h i
  rw [this]
  simp

theorem rl_nil : Rl [] [] := ⟨rfl, fun i e c h => by simp at h, fun j e h => by simp at h⟩

theorem child_lt {l : List Cel} {j k : Nat} (h : Child l j k) : k < l.length ∧ j < k := by
  obtain ⟨c, h1, h2, h3⟩ := h
  exact ⟨(List.getElem?_eq_some_iff.1 h1).1, h3⟩

theorem child_app {l : List Cel} {x : Cel} {j k : Nat} (h : Child l j k) : Child (l ++ [x]) j k := by
  have hl := (child_lt h).1
  obtain ⟨c, h1, h2, h3⟩ := h
  exact ⟨c, by rw [List.getElem?_append_left hl]; exact h1, h2, h3⟩

theorem child_of_app {l : List Cel} {x : Cel} {j k : Nat} (h : Child (l ++ [x]) j k) : Child l j k ∨ (k = l.length ∧ x.on = (j : Int) ∧ j < k) := by
  obtain ⟨c, h1, h2, h3⟩ := h
  rcases Nat.lt_or_ge k l.length with c1 | c1
  · rw [List.getElem?_append_left c1] at h1
    exact Or.inl ⟨c, h1, h2, h3⟩
  · rw [List.getElem?_append_right c1, List.getElem?_singleton] at h1
    split at h1
    · cases h1
      exact Or.inr ⟨by omega, h2, h3⟩
    · cases h1

theorem ok_app {l : List Cel} {x : Cel} {k : Nat} (hk : k < l.length) : okAt (l ++ [x]) k = okAt l k := by
  unfold okAt
  rw [List.getElem?_append_left hk]

theorem ok_new {l : List Cel} {x : Cel} : okAt (l ++ [x]) l.length = x.ok := by
  unfold okAt
  rw [List.getElem?_append_right (Nat.le_refl _)]
  simp

/-- Make, where the new cell is not valid, or stands on nothing -/
theorem rl_make_low {E : List En} {l : List Cel} (h : Rl E l) (on : Int) (hv : validOn l on = true → on = -1) : Rl (E ++ [⟨validOn l on, 0, 0⟩]) (makeD l on) := by
  have hlen := h.len
  unfold makeD
  refine ⟨by simp [hlen], fun i e c he hc => ?_, fun j e he => ?_⟩
  · rcases Nat.lt_or_ge i l.length with q | q
    · rw [List.getElem?_append_left (by omega)] at he
      rw [List.getElem?_append_left q] at hc
      exact h.ok i e c he hc
    · rw [List.getElem?_append_right (by omega), List.getElem?_singleton] at he
      rw [List.getElem?_append_right q, List.getElem?_singleton] at hc
      split at he
      · split at hc
        · cases he; cases hc; simp
        · cases hc
      · cases he
  · have hb : ∀ (k : Nat) (e : En), E[k]? = some e → ∃ e', (E ++ [⟨validOn l on, 0, 0⟩])[k]? = some e' ∧ e'.bes = e.bes := fun k e hk => ⟨e, by rw [List.getElem?_append_left (List.getElem?_eq_some_iff.1 hk).1]; exact hk, rfl⟩
    rcases Nat.lt_or_ge j l.length with q | q
    · rw [List.getElem?_append_left (by omega)] at he
      obtain ⟨ks, h1, h2, h3⟩ := h.ch j e he
      refine ⟨ks, ch_bes hb ks _ h1, fun k hk => child_app (h2 k hk), fun k hk ho _ => ?_⟩
      rcases child_of_app hk with c | ⟨c1, c2, c3⟩
      · rw [ok_app (child_lt c).1] at ho
        exact h3 k c ho rfl
      · rw [c1, ok_new] at ho
        have := hv ho
        simp only at c2
        omega
    · rw [List.getElem?_append_right (by omega), List.getElem?_singleton] at he
      split at he
      · cases he
        refine ⟨[], rfl, fun k hk => (by cases hk), fun k hk ho _ => ?_⟩
        have := child_lt hk
        rw [List.length_append, List.length_singleton] at this
        omega
      · cases he

/-- Make, on top of a valid one -/
theorem rl_make_on {E : List En} {l : List Cel} (h : Rl E l) (j : Nat) (e : En) (he : E[j]? = some e) (hv : okAt l j = true) : Rl (E.set j ⟨e.ok, (E.length : Int), e.bes⟩ ++ [⟨true, 0, e.top⟩]) (makeD l j) := by
  have hlen := h.len
  have hj := (List.getElem?_eq_some_iff.1 he).1
  have hval : validOn l (j : Int) = true := by
    unfold okAt at hv
    unfold validOn
    rw [Int.toNat_natCast, hv]
    simp
  unfold makeD
  rw [hval]
  have hsl : (E.set j ⟨e.ok, (E.length : Int), e.bes⟩).length = E.length := by simp
  have hb0 : ∀ (k : Nat) (e0 : En), E[k]? = some e0 → ∃ e', (E.set j ⟨e.ok, (E.length : Int), e.bes⟩ ++ [⟨true, 0, e.top⟩])[k]? = some e' ∧ e'.bes = e0.bes := fun k e0 hk => by
    have hkl := (List.getElem?_eq_some_iff.1 hk).1
    rw [List.getElem?_append_left (by omega)]
    by_cases c : j = k
    · subst c
      rw [List.getElem?_set_self hj]
      rw [he] at hk
      cases hk
      exact ⟨_, rfl, rfl⟩
    · rw [List.getElem?_set_ne c]
      exact ⟨e0, hk, rfl⟩
  refine ⟨by simp [hlen], fun i e1 c he1 hc => ?_, fun i e1 he1 => ?_⟩
  · rcases Nat.lt_or_ge i l.length with q | q
    · rw [List.getElem?_append_left (by omega)] at he1
      rw [List.getElem?_append_left q] at hc
      by_cases c1 : j = i
      · subst c1
        rw [List.getElem?_set_self hj] at he1
        cases he1
        exact h.ok j e c he hc
      · rw [List.getElem?_set_ne c1] at he1
        exact h.ok i e1 c he1 hc
    · rw [List.getElem?_append_right (by omega), List.getElem?_singleton] at he1
      rw [List.getElem?_append_right q, List.getElem?_singleton] at hc
      split at he1
      · split at hc
        · cases he1; cases hc; simp
        · cases hc
      · cases he1
  · rcases Nat.lt_or_ge i l.length with q | q
    · rw [List.getElem?_append_left (by omega)] at he1
      by_cases c1 : j = i
      · subst c1
        rw [List.getElem?_set_self hj] at he1
        cases he1
        obtain ⟨ks, h1, h2, h3⟩ := h.ch j e he
        refine ⟨l.length :: ks, ⟨by simp only; omega, by omega, ⟨⟨true, 0, e.top⟩, ?_, ch_bes hb0 ks _ h1⟩, fun k hk => (child_lt (h2 k hk)).1⟩, fun k hk => ?_, fun k hk ho _ => ?_⟩
        · rw [← hlen, List.getElem?_append_right (by omega), hsl]
          simp
        · rcases List.mem_cons.1 hk with c | c
          · subst c
            exact ⟨⟨true, (j : Int)⟩, by rw [List.getElem?_append_right (Nat.le_refl _)]; simp, rfl, by omega⟩
          · exact child_app (h2 k c)
        · rcases child_of_app hk with c | ⟨c1, c2, c3⟩
          · rw [ok_app (child_lt c).1] at ho
            exact List.mem_cons_of_mem _ (h3 k c ho rfl)
          · rw [c1]
            exact List.mem_cons_self ..
      · rw [List.getElem?_set_ne c1] at he1
        obtain ⟨ks, h1, h2, h3⟩ := h.ch i e1 he1
        refine ⟨ks, ch_bes hb0 ks _ h1, fun k hk => child_app (h2 k hk), fun k hk ho _ => ?_⟩
        rcases child_of_app hk with c | ⟨c1, c2, c3⟩
        · rw [ok_app (child_lt c).1] at ho
          exact h3 k c ho rfl
        · simp only at c2
          omega
    · rw [List.getElem?_append_right (by omega), List.getElem?_singleton] at he1
      split at he1
      · cases he1
        refine ⟨[], rfl, fun k hk => (by cases hk), fun k hk ho _ => ?_⟩
        have := child_lt hk
        rw [List.length_append, List.length_singleton] at this
        omega
      · cases he1

end Go.Proofs.Ytkpdpdllbnihgaa.Ce
