/- Cells, plain: the program's Break: a stack of those whose tops are still to be gone through. -/
import Derived.Test.YtahhionlbfhinaaGreatDoorB5
namespace Go.Proofs.YtahhionlbfhinaaGreatDoor.Ce
set_option linter.unusedVariables false

def put (D : Nat → Bool) (k : Nat) : Nat → Bool := fun i => D i || decide (i = k)

theorem put_self (D : Nat → Bool) (k : Nat) : put D k k = true := by unfold put; simp
theorem put_other (D : Nat → Bool) {k i : Nat} (h : i ≠ k) : put D k i = D i := by unfold put; simp [h]
theorem put_old (D : Nat → Bool) (k : Nat) {i : Nat} (h : D i = true) : put D k i = true := by unfold put; simp [h]

/-- one is marked as broken -/
theorem bk_mark {E : List En} {l : List Cel} {D : Nat → Bool} (h : Bk E l D) (k : Nat) (e : En) (he : E[k]? = some e) : Bk (E.set k ⟨false, e.top, e.bes⟩) l (put D k) := by
  have hk := (List.getElem?_eq_some_iff.1 he).1
  have hb : ∀ (i : Nat) (e0 : En), E[i]? = some e0 → ∃ e', (E.set k ⟨false, e.top, e.bes⟩)[i]? = some e' ∧ e'.bes = e0.bes := fun i e0 hi => by
    by_cases c : k = i
    · subst c
      rw [List.getElem?_set_self hk]
      rw [he] at hi
      cases hi
      exact ⟨_, rfl, rfl⟩
    · rw [List.getElem?_set_ne c]
      exact ⟨e0, hi, rfl⟩
  refine ⟨by rw [List.length_set]; exact h.len, fun i e1 c h1 h2 => ?_, fun j e1 h1 => ?_⟩
  · by_cases q : k = i
    · subst q
      rw [List.getElem?_set_self hk] at h1
      cases h1
      rw [put_self]
      simp
    · rw [List.getElem?_set_ne q] at h1
      rw [put_other D (fun e => q e.symm)]
      exact h.ok i e1 c h1 h2
  · have key : ∃ e2, E[j]? = some e2 ∧ e2.top = e1.top := by
      by_cases q : k = j
      · subst q
        rw [List.getElem?_set_self hk] at h1
        cases h1
        exact ⟨e, he, rfl⟩
      · rw [List.getElem?_set_ne q] at h1
        exact ⟨e1, h1, rfl⟩
    obtain ⟨e2, k1, k2⟩ := key
    obtain ⟨ks, g1, g2, g3⟩ := h.ch j e2 k1
    refine ⟨ks, by rw [← k2]; exact ch_bes hb ks _ g1, g2, fun i hi ho hd => g3 i hi ho ?_⟩
    unfold put at hd
    rw [Bool.or_eq_false_iff] at hd
    exact hd.1

/-- nothing is left on top -/
theorem bk_none {E : List En} {l : List Cel} {D : Nat → Bool} (h : Bk E l D) (j : Nat) (e : En) (he : E[j]? = some e) (h0 : e.top = 0) : ∀ k, Child l j k → okAt l k = true → D k = true := by
  obtain ⟨ks, g1, g2, g3⟩ := h.ch j e he
  rw [h0] at g1
  have := ch_zero g1
  subst this
  intro k hk ho
  cases hd : D k with
  | true => rfl
  | false => exact absurd (g3 k hk ho hd) (by simp)

/-- the last one on top is taken off -/
theorem bk_lift {E : List En} {l : List Cel} {D : Nat → Bool} (h : Bk E l D) (j : Nat) (e : En) (he : E[j]? = some e) (h0 : e.top ≠ 0) :
    ∃ (k : Nat) (x : En), e.top = (k : Int) ∧ E[k]? = some x ∧ Child l j k ∧ x.bes < (k : Int) ∧ 0 ≤ x.bes ∧ k ≠ j ∧
      (x.ok = false → Bk (E.set j ⟨e.ok, x.bes, e.bes⟩) l D) ∧
      (x.ok = true → D k = false ∧ okAt l k = true ∧ Bk ((E.set j ⟨e.ok, x.bes, e.bes⟩).set k ⟨false, x.top, x.bes⟩) l (put D k)) := by
  obtain ⟨ks, g1, g2, g3⟩ := h.ch j e he
  have hj := (List.getElem?_eq_some_iff.1 he).1
  cases ks with
  | nil => exact absurd g1 h0
  | cons k ks =>
    obtain ⟨x, hx, hxc, hx1, hx2⟩ := ch_lt g1
    have hch := g2 k (List.mem_cons_self ..)
    have hkl := (child_lt hch).1
    have hne : k ≠ j := by have := (child_lt hch).2; omega
    have hc : ∃ c, l[k]? = some c := ⟨_, List.getElem?_eq_getElem hkl⟩
    obtain ⟨c, hc⟩ := hc
    have hoc : okAt l k = c.ok := by unfold okAt; rw [hc]; rfl
    have hxo := h.ok k x c hx hc
    have hb : ∀ (i : Nat) (e0 : En), E[i]? = some e0 → ∃ e', (E.set j ⟨e.ok, x.bes, e.bes⟩)[i]? = some e' ∧ e'.bes = e0.bes := fun i e0 hi => by
      by_cases c : j = i
      · subst c
        rw [List.getElem?_set_self hj]
        rw [he] at hi
        cases hi
        exact ⟨_, rfl, rfl⟩
      · rw [List.getElem?_set_ne c]
        exact ⟨e0, hi, rfl⟩
    -- what is left, where k need not be found any more
    have main : ∀ D' : Nat → Bool, (∀ i, D' i = false → D i = false) → (okAt l k = true → D' k = true) → (∀ (i : Nat) (e1 : En) (c1 : Cel), (E.set j ⟨e.ok, x.bes, e.bes⟩)[i]? = some e1 → l[i]? = some c1 → e1.ok = (c1.ok && !D i)) ∧ (∀ (i : Nat) (e1 : En), (E.set j ⟨e.ok, x.bes, e.bes⟩)[i]? = some e1 → ∃ ks, Ch (E.set j ⟨e.ok, x.bes, e.bes⟩) e1.top ks ∧ (∀ k ∈ ks, Child l i k) ∧ ∀ k, Child l i k → okAt l k = true → D' k = false → k ∈ ks) := by
      intro D' hD hDk
      refine ⟨fun i e1 c1 h1 h2 => ?_, fun i e1 h1 => ?_⟩
      · by_cases q : j = i
        · subst q
          rw [List.getElem?_set_self hj] at h1
          cases h1
          exact h.ok j e c1 he h2
        · rw [List.getElem?_set_ne q] at h1
          exact h.ok i e1 c1 h1 h2
      · by_cases q : j = i
        · subst q
          rw [List.getElem?_set_self hj] at h1
          cases h1
          refine ⟨ks, ch_bes hb ks _ hxc, fun i hi => g2 i (List.mem_cons_of_mem _ hi), fun i hi ho hd => ?_⟩
          rcases List.mem_cons.1 (g3 i hi ho (hD i hd)) with r | r
          · subst r
            rw [hDk ho] at hd
            cases hd
          · exact r
        · rw [List.getElem?_set_ne q] at h1
          obtain ⟨ks', r1, r2, r3⟩ := h.ch i e1 h1
          exact ⟨ks', ch_bes hb ks' _ r1, r2, fun a ha ho hd => r3 a ha ho (hD a hd)⟩
    refine ⟨k, x, g1.1, hx, hch, hx1, hx2, hne, fun hf => ?_, fun ht => ?_⟩
    · have := main D (fun i q => q) (fun ho => by
        rw [hoc] at ho
        rw [hf, ho] at hxo
        cases hd : D k with
        | true => rfl
        | false => rw [hd] at hxo; cases hxo)
      exact ⟨by rw [List.length_set]; exact h.len, this.1, this.2⟩
    · rw [ht] at hxo
      have hxo := hxo.symm
      rw [Bool.and_eq_true, Bool.not_eq_true'] at hxo
      refine ⟨hxo.2, by rw [hoc]; exact hxo.1, ?_⟩
      have hm := main (put D k) (fun i q => by unfold put at q; rw [Bool.or_eq_false_iff] at q; exact q.1) (fun _ => put_self D k)
      have hk2 : (E.set j ⟨e.ok, x.bes, e.bes⟩)[k]? = some x := by rw [List.getElem?_set_ne (fun q => hne q.symm)]; exact hx
      have hk3 : k < (E.set j ⟨e.ok, x.bes, e.bes⟩).length := (List.getElem?_eq_some_iff.1 hk2).1
      have hb2 : ∀ (i : Nat) (e0 : En), (E.set j ⟨e.ok, x.bes, e.bes⟩)[i]? = some e0 → ∃ e', ((E.set j ⟨e.ok, x.bes, e.bes⟩).set k ⟨false, x.top, x.bes⟩)[i]? = some e' ∧ e'.bes = e0.bes := fun i e0 hi => by
        by_cases c : k = i
        · subst c
          rw [List.getElem?_set_self hk3]
          rw [hk2] at hi
          cases hi
          exact ⟨_, rfl, rfl⟩
        · rw [List.getElem?_set_ne c]
          exact ⟨e0, hi, rfl⟩
      refine ⟨by rw [List.length_set, List.length_set]; exact h.len, fun i e1 c1 h1 h2 => ?_, fun i e1 h1 => ?_⟩
      · by_cases q : k = i
        · subst q
          rw [List.getElem?_set_self hk3] at h1
          cases h1
          rw [put_self]
          simp
        · rw [List.getElem?_set_ne q] at h1
          rw [put_other D (fun e => q e.symm)]
          exact hm.1 i e1 c1 h1 h2
      · have key : ∃ e2, (E.set j ⟨e.ok, x.bes, e.bes⟩)[i]? = some e2 ∧ e2.top = e1.top := by
          by_cases q : k = i
          · subst q
            rw [List.getElem?_set_self hk3] at h1
            cases h1
            exact ⟨x, hk2, rfl⟩
          · rw [List.getElem?_set_ne q] at h1
            exact ⟨e1, h1, rfl⟩
        obtain ⟨e2, k1, k2⟩ := key
        obtain ⟨ks2, r1, r2, r3⟩ := hm.2 i e2 k1
        exact ⟨ks2, by rw [← k2]; exact ch_bes hb2 ks2 _ r1, r2, r3⟩

/-- the way of a Break of n: D are broken by now, S is the stack -/
structure Pile (E : List En) (l : List Cel) (n : Nat) (D : Nat → Bool) (S : List Nat) : Prop where
  bk : Bk E l D
  done : ∀ k, D k = true → okAt l k = true ∧ hit l n k = true
  st : D n = true
  on : ∀ s ∈ S, D s = true
  fin : ∀ j, D j = true → j ∉ S → ∀ k, Child l j k → okAt l k = true → D k = true
  len : S.length ≤ cntD D l.length

theorem cntD_none : ∀ m, cntD (fun _ => false) m = 0
  | 0 => rfl
  | m + 1 => by rw [cntD, cntD_none m]; simp

theorem cntD_le (D : Nat → Bool) : ∀ m, cntD D m ≤ m
  | 0 => Nat.le_refl _
  | m + 1 => by
    rw [cntD]
    have := cntD_le D m
    split <;> omega

theorem ok_lt {l : List Cel} {k : Nat} (h : okAt l k = true) : k < l.length := by
  unfold okAt at h
  rcases Nat.lt_or_ge k l.length with c | c
  · exact c
  · rw [List.getElem?_eq_none c] at h
    cases h

theorem cntD_more {D : Nat → Bool} {k m : Nat} (hk : D k = false) (hm : k < m) : cntD (put D k) m = cntD D m + 1 := by
  have := cntD_put hk m
  rw [if_pos hm] at this
  exact this

theorem pile_start {E : List En} {l : List Cel} (h : Rl E l) {n : Nat} (hn : okAt l n = true) (e : En) (he : E[n]? = some e) : Pile (E.set n ⟨false, e.top, e.bes⟩) l n (put (fun _ => false) n) [n] ∧ cntD (put (fun _ => false) n) l.length = 1 := by
  have h1 : cntD (put (fun _ => false) n) l.length = 1 := by
    rw [cntD_more rfl (ok_lt hn), cntD_none]
  have hp : ∀ k, put (fun _ => false) n k = true → k = n := fun k q => by
    unfold put at q
    simpa using q
  refine ⟨⟨bk_mark h n e he, fun k q => ?_, put_self _ _, fun s hs => ?_, fun j hj hs => ?_, ?_⟩, h1⟩
  · rw [hp k q]
    exact ⟨hn, hit_self l n⟩
  · rw [List.mem_singleton.1 hs]
    exact put_self _ _
  · exact absurd (List.mem_singleton.2 (hp j hj)) hs
  · rw [h1]
    exact Nat.le_refl _

/-- one on top was broken already -/
theorem Pile.skip {E E' : List En} {l : List Cel} {n : Nat} {D : Nat → Bool} {S : List Nat} (h : Pile E l n D S) (hb : Bk E' l D) : Pile E' l n D S :=
  ⟨hb, h.done, h.st, h.on, h.fin, h.len⟩

/-- one on top is broken now, and comes onto the stack -/
theorem Pile.push {E E' : List En} {l : List Cel} {n : Nat} {D : Nat → Bool} {S : List Nat} (h : Pile E l n D S) {j k : Nat} (hj : j ∈ S) (hc : Child l j k) (hd : D k = false) (ho : okAt l k = true) (hb : Bk E' l (put D k)) : Pile E' l n (put D k) (S ++ [k]) ∧ cntD (put D k) l.length = cntD D l.length + 1 := by
  have hcnt := cntD_more hd (ok_lt ho)
  refine ⟨⟨hb, fun i q => ?_, put_old _ _ h.st, fun s hs => ?_, fun i q hs => ?_, ?_⟩, hcnt⟩
  · by_cases c : i = k
    · subst c
      exact ⟨ho, hit_child hc (h.done j (h.on j hj)).2⟩
    · rw [put_other D c] at q
      exact h.done i q
  · rcases List.mem_append.1 hs with c | c
    · exact put_old _ _ (h.on s c)
    · rw [List.mem_singleton.1 c]
      exact put_self _ _
  · have c : i ≠ k := fun c => hs (List.mem_append_right _ (List.mem_singleton.2 c))
    rw [put_other D c] at q
    intro a ha hoa
    exact put_old _ _ (h.fin i q (fun r => hs (List.mem_append_left _ r)) a ha hoa)
  · rw [hcnt, List.length_append, List.length_singleton]
    have := h.len
    omega

/-- nothing is left on top of the last one -/
theorem Pile.pop {E : List En} {l : List Cel} {n : Nat} {D : Nat → Bool} {S : List Nat} {j : Nat} (h : Pile E l n D (S ++ [j])) (e : En) (he : E[j]? = some e) (h0 : e.top = 0) : Pile E l n D S := by
  refine ⟨h.bk, h.done, h.st, fun s hs => h.on s (List.mem_append_left _ hs), fun i q hs => ?_, ?_⟩
  · by_cases c : i = j
    · subst c
      exact bk_none h.bk i e he h0
    · refine h.fin i q (fun r => ?_)
      rcases List.mem_append.1 r with r | r
      · exact hs r
      · exact c (List.mem_singleton.1 r)
  · have := h.len
    rw [List.length_append, List.length_singleton] at this
    omega

/-- at the end just what is hit is broken: the document's Break -/
theorem Pile.last {E : List En} {l : List Cel} (hI : Inv l) {n : Nat} {D : Nat → Bool} (h : Pile E l n D []) (hn : okAt l n = true) : cntD D l.length = (breakD l n).2 ∧ Rl E (breakD l n).1 := by
  have key : ∀ m k, k < m → okAt l k = true → hit l n k = true → D k = true := by
    intro m
    induction m with
    | zero => intro k hk; omega
    | succ m ih =>
      intro k hk h1 h2
      by_cases c : k = n
      · rw [c]; exact h.st
      · obtain ⟨j, q1, q2⟩ := hit_back h2 c
        have hjk := (child_lt q1).2
        exact h.fin j (ih j (by omega) (ok_child hI q1 h1) q2) (by simp) k q1 h1
  have hD : ∀ k, okAt l k = true → (D k = true ↔ hit l n k = true) := fun k hk => ⟨fun q => (h.done k q).2, fun q => key (k + 1) k (by omega) hk q⟩
  obtain ⟨s1, s2, s3⟩ := break_spec hI hn
  refine ⟨?_, ?_⟩
  · rw [s1]
    exact cntD_hit (fun k q => (h.done k q).1) hD _
  · have hch : ∀ {j k : Nat}, Child (breakD l n).1 j k ↔ Child l j k := by
      intro j k
      have := break_on hI n k
      constructor
      · rintro ⟨c, c1, c2, c3⟩
        rw [c1] at this
        cases hl : l[k]? with
        | none => rw [hl] at this; cases this
        | some d =>
          rw [hl] at this
          have e : c.on = d.on := Option.some.inj this
          exact ⟨d, hl, by rw [← e]; exact c2, c3⟩
      · rintro ⟨c, c1, c2, c3⟩
        rw [c1] at this
        cases hl : (breakD l n).1[k]? with
        | none => rw [hl] at this; cases this
        | some d =>
          rw [hl] at this
          have e : d.on = c.on := Option.some.inj this
          exact ⟨d, hl, by rw [e]; exact c2, c3⟩
    have hok : ∀ k, okAt (breakD l n).1 k = (okAt l k && !hit l n k) := by
      intro k
      unfold okAt
      cases hl : l[k]? with
      | none => rw [List.getElem?_eq_none (by rw [s2]; exact List.getElem?_eq_none_iff.1 hl)]; rfl
      | some d => rw [s3 k d hl]; rfl
    refine ⟨by rw [s2]; exact h.bk.len, fun i e c h1 h2 => ?_, fun j e he => ?_⟩
    · have hil : i < l.length := by rw [← s2]; exact (List.getElem?_eq_some_iff.1 h2).1
      have hd := List.getElem?_eq_getElem hil
      have h3 := s3 i _ hd
      rw [h2] at h3
      have h3 := Option.some.inj h3
      rw [h.bk.ok i e _ h1 hd, h3]
      simp only [Bool.not_false, Bool.and_true]
      cases ho : (l[i]).ok with
      | false => rfl
      | true =>
        have hoa : okAt l i = true := by unfold okAt; rw [hd]; exact ho
        have := hD i hoa
        cases hh : hit l n i with
        | true => rw [this.2 hh]
        | false =>
          cases hdd : D i with
          | false => rfl
          | true => rw [this.1 hdd] at hh; cases hh
    · obtain ⟨ks, g1, g2, g3⟩ := h.bk.ch j e he
      refine ⟨ks, g1, fun k hk => hch.2 (g2 k hk), fun k hk ho _ => ?_⟩
      rw [hok, Bool.and_eq_true, Bool.not_eq_true'] at ho
      refine g3 k (hch.1 hk) ho.1 ?_
      cases hdd : D k with
      | false => rfl
      | true => rw [(hD k ho.1).1 hdd] at ho; cases ho.2

end Go.Proofs.YtahhionlbfhinaaGreatDoor.Ce
