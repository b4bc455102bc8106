/- Which trees are right: kind by kind; the program asks what the document's function asks. -/
import Derived.Test.YtihmdcdifakepabSB
namespace Go.Proofs.Ytihmdcdifakepab.Sc
set_option linter.unusedVariables false

section
variable {α : Type} {K : Kid α} {f : UInt8 → α → Bool → St → Option St} {g : Nat → α → Bool → RS → RS}

theorem fold_none (h : α → RS → RS) (hn : ∀ k, h k none = none) (xs : List α) : foldR h xs none = none := by
  induction xs with
  | nil => rfl
  | cons k ks ih => rw [foldR, hn, ih]

theorem here_some (x : Nd) (xs : List α) (gen : Bool) (a : St) (h3 : x.kind ≠ 3) (h17 : x.kind ≠ 17) (h22 : x.kind ≠ 22) (h43 : x.kind ≠ 43) (hd : declB K x xs = false) : hereP K x xs gen a = some a := by
  unfold hereP
  rw [if_neg h3, if_neg h17, if_neg h22, if_neg (fun q => h43 q.1), if_neg (by rw [hd]; simp)]
theorem here_take (x : Nd) (xs : List α) (gen : Bool) (a : St) (h3 : x.kind ≠ 3) (h17 : x.kind ≠ 17) (h22 : x.kind ≠ 22) (h43 : x.kind ≠ 43) (hd : declB K x xs = true) : hereP K x xs gen a = takeD a x.pl := by
  unfold hereP
  rw [if_neg h3, if_neg h17, if_neg h22, if_neg (fun q => h43 q.1), if_pos hd]

theorem decl_no (x : Nd) (xs : List α) (h1 : x.kind < 31) (h2 : x.kind ≠ 12) : declB K x xs = false := by
  unfold declB selfB
  rw [if_neg (by omega), if_neg (by omega)]
  simp
  omega
theorem start_some (x : Nd) (xs : List α) (gen : Bool) (s : St) (h3 : x.kind ≠ 3) (h17 : x.kind ≠ 17) (h21 : x.kind ≠ 21) (h22 : x.kind ≠ 22) : startR K x xs gen s = some s := by
  unfold startR
  rw [if_neg (by omega), if_neg (by omega), if_neg h3]

/-- no kids -/
theorem term_leaf (x : Nd) (xs : List α) (gen : Bool) (h1 : 1 ≤ x.kind) (h8 : x.kind ≤ 8) : Mt (rightP K f x xs gen) (termR K g x xs gen) := by
  refine Mt.unbound fun a b e => ?_
  have hp : partsI x.kind xs.length = [] := by
    unfold partsI
    repeat rw [if_neg (by omega)]
  have ho : rightOpB x = true := by
    unfold rightOpB
    repeat rw [if_neg (by omega)]
  have hs : shapeR x = (0, 0, true) := by unfold shapeR; rw [if_pos ⟨h1, h8⟩]
  rw [if_neg (by omega), hs]
  cases xs with
  | cons k ks =>
    rw [right_len _ _ _ (by rw [hp]; simp), if_pos (by simp)]
    trivial
  | nil =>
    rw [if_neg (by simp), right_at _ _ _ (by rw [hp]; rfl) ho, hp]
    by_cases c : x.kind = 3
    · have e2 : startR K x ([] : List α) gen b = useR x.pl (some b) := by unfold startR; rw [if_neg (by omega), if_neg (by omega), if_pos c]
      rw [e2]
      have e1 : hereP K x ([] : List α) gen a = takeU a x.pl := by unfold hereP; rw [if_pos c]
      rw [e1]
      have := (Mt.use x.pl).comp Mt.id |>.eqv a b e
      simpa [kidsP, foldR] using this
    · rw [start_some x _ gen b c (by omega) (by omega) (by omega), here_some x [] gen a c (by omega) (by omega) (by omega) (decl_no _ _ (by omega) (by omega))]
      exact e

theorem term_many (h : Ok K f g) (x : Nd) (xs : List α) (gen : Bool) (hx : x.kind = 9 ∨ x.kind = 14 ∨ x.kind = 15) : Mt (rightP K f x xs gen) (termR K g x xs gen) := by
  refine Mt.unbound fun a b e => ?_
  have ho : rightOpB x = true := by
    unfold rightOpB
    repeat rw [if_neg (by omega)]
  have hf : isFnB x = false := by unfold isFnB; simp; omega
  rw [if_neg (by omega)]
  rcases hx with c | c
  · have hp : partsI x.kind xs.length = List.replicate xs.length 101 := by unfold partsI; rw [if_pos c]
    have hs : shapeR x = (0, -1, true) := by unfold shapeR; rw [if_neg (by omega), if_pos (by omega)]
    rw [hs, if_neg (by simp <;> omega), right_at _ _ _ (by rw [hp]; simp) ho, hp, here_some x xs gen a (by omega) (by omega) (by omega) (by omega) (decl_no _ _ (by omega) (by omega)), hf]
    rw [start_some x _ gen b (by omega) (by omega) (by omega) (by omega)]
    have m := (mt_many (f := f) 101 (termKidR g x gen) gen (fun k => (h.term k gen).congr (fun _ => rfl) (fun st => by unfold termKidR; rw [if_neg (by omega), if_neg (by omega)])) xs).eqv a b e
    exact m
  · have hs : shapeR x = (1, -1, true) := by unfold shapeR; rw [if_neg (by omega), if_neg (by omega), if_neg (by omega), if_pos c]
    have hp : partsI x.kind xs.length = List.replicate (max xs.length 1) 101 := by unfold partsI; rw [if_neg (by omega), if_pos c]
    rw [hs]
    cases xs with
    | nil => rw [right_len _ _ _ (by rw [hp]; simp), if_pos (by simp)]; trivial
    | cons k ks =>
      have hq : max (k :: ks).length 1 = (k :: ks).length := by simp
      rw [hq] at hp
      rw [if_neg (by simp <;> omega), right_at _ _ _ (by rw [hp]; simp) ho, hp, here_some x _ gen a (by omega) (by omega) (by omega) (by omega) (decl_no _ _ (by omega) (by omega)), hf]
      rw [start_some x _ gen b (by omega) (by omega) (by omega) (by omega)]
      have m := (mt_many (f := f) 101 (termKidR g x gen) gen (fun k => (h.term k gen).congr (fun _ => rfl) (fun st => by unfold termKidR; rw [if_neg (by omega), if_neg (by omega)])) (k :: ks)).eqv a b e
      exact m

theorem term_object (h : Ok K f g) (x : Nd) (xs : List α) (gen : Bool) (c : x.kind = 10) : Mt (rightP K f x xs gen) (termR K g x xs gen) := by
  refine Mt.unbound fun a b e => ?_
  have ho : rightOpB x = true := by
    unfold rightOpB
    repeat rw [if_neg (by omega)]
  have hf : isFnB x = false := by unfold isFnB; simp; omega
  rw [if_neg (by omega)]
  have hp : partsI x.kind xs.length = List.replicate xs.length 112 := by unfold partsI; rw [if_neg (by omega), if_neg (by omega), if_pos c]
  have hs : shapeR x = (0, -1, true) := by unfold shapeR; rw [if_neg (by omega), if_pos (by omega)]
  rw [hs, if_neg (by simp <;> omega), right_at _ _ _ (by rw [hp]; simp) ho, hp, here_some x xs gen a (by omega) (by omega) (by omega) (by omega) (decl_no _ _ (by omega) (by omega)), hf]
  rw [start_some x _ gen b (by omega) (by omega) (by omega) (by omega)]
  exact (mt_many (f := f) 112 (termKidR g x gen) gen (fun k => (h.prop k gen).congr (fun _ => rfl) (fun st => by unfold termKidR; rw [if_pos c])) xs).eqv a b e

/-- two or three expressions, or one -/
theorem term_few (h : Ok K f g) (x : Nd) (xs : List α) (gen : Bool) (m : Nat) (ok : Bool) (hne : x.kind ≠ 12 ∧ x.kind ≠ 17 ∧ x.kind ≠ 22 ∧ x.kind ≠ 21 ∧ x.kind ≠ 3 ∧ x.kind ≠ 43 ∧ x.kind ≠ 10 ∧ x.kind ≤ 22)
    (hp : partsI x.kind xs.length = List.replicate m 101) (hs : shapeR x = ((m : Int), (m : Int), ok)) (ho : rightOpB x = ok) : Mt (rightP K f x xs gen) (termR K g x xs gen) := by
  refine Mt.unbound fun a b e => ?_
  have hf : isFnB x = false := by unfold isFnB; simp; omega
  rw [if_neg hne.1, hs]
  by_cases hl : xs.length = m
  · cases ok with
    | false => rw [right_op _ _ _ ho, if_pos (Or.inl rfl)]; trivial
    | true =>
      rw [if_neg (by simp <;> omega), right_at _ _ _ (by rw [hp]; simp [hl]) ho, hp, here_some x xs gen a (by omega) (by omega) (by omega) (by omega) (decl_no _ _ (by omega) (by omega)), hf]
      rw [start_some x _ gen b (by omega) (by omega) (by omega) (by omega), ← hl]
      exact (mt_many (f := f) 101 (termKidR g x gen) gen (fun k => (h.term k gen).congr (fun _ => rfl) (fun st => by unfold termKidR; rw [if_neg (by omega), if_neg (by omega)])) xs).eqv a b e
  · rw [right_len _ _ _ (by rw [hp]; simp; omega), if_pos (by right; simp; omega)]
    trivial

theorem term_update (h : Ok K f g) (x : Nd) (xs : List α) (gen : Bool) (c : x.kind = 17) : Mt (rightP K f x xs gen) (termR K g x xs gen) := by
  refine Mt.unbound fun a b e => ?_
  have hf : isFnB x = false := by unfold isFnB; simp; omega
  have hp : partsI x.kind xs.length = [103] := by unfold partsI; simp [c]
  have hs : shapeR x = (1, 1, oneB x.op updateL) := by unfold shapeR; simp [c]
  have hr : rightOpB x = oneB x.op updateL := by unfold rightOpB; simp [c]
  rw [if_neg (by omega), hs]
  rcases xs with _ | ⟨k, _ | ⟨k2, ks⟩⟩
  · rw [right_len _ _ _ (by rw [hp]; simp), if_pos (by simp)]; trivial
  · cases ho : oneB x.op updateL with
    | false => rw [right_op _ _ _ (hr.trans ho), if_pos (Or.inl rfl)]; trivial
    | true =>
      rw [if_neg (by simp), right_at _ _ _ (by rw [hp]; simp) (hr.trans ho), hp, hf]
      have e1 : hereP K x [k] gen a = if (isS x.name preS || isS x.name postS) = true then some a else none := by unfold hereP; rw [if_neg (by omega), if_pos c]
      rw [e1]
      cases q : (isS x.name preS || isS x.name postS) with
      | false =>
        simp at q
        have e2 : startR K x [k] gen b = none := by unfold startR; rw [if_pos (Or.inl ⟨c, q.1, q.2⟩)]
        rw [e2]
        simp [foldR, termKidR, c, (h.term k gen).nil, Eqv]
      | true =>
        have q2 : ¬ (isS x.name preS = false ∧ isS x.name postS = false) := by
          intro z; rw [z.1, z.2] at q; simp at q
        have e2 : startR K x [k] gen b = if K.kd k ≠ 3 ∧ K.kd k ≠ 13 then none else some b := by
          unfold startR
          rw [if_neg (by rintro (z | z); exact q2 z.2; omega), if_neg (show ¬ x.kind = 3 by omega)]
          by_cases z : K.kd k ≠ 3 ∧ K.kd k ≠ 13
          · rw [if_pos z, if_pos ⟨Or.inl c, z⟩]
          · rw [if_neg z, if_neg (fun y => z y.2)]
        rw [e2]
        have m := ((h.given k gen).comp Mt.id).eqv a b e
        by_cases z : K.kd k ≠ 3 ∧ K.kd k ≠ 13
        · simp only [if_pos z] at m ⊢
          simp [foldR, termKidR, c, (h.term k gen).nil]
          simpa [kidsP] using m
        · simp only [if_neg z] at m ⊢
          simp [foldR, termKidR, c]
          simpa [kidsP] using m
  · rw [right_len _ _ _ (by rw [hp]; simp), if_pos (by right; simp; omega)]; trivial

theorem term_assign (h : Ok K f g) (x : Nd) (xs : List α) (gen : Bool) (c : x.kind = 21) : Mt (rightP K f x xs gen) (termR K g x xs gen) := by
  refine Mt.unbound fun a b e => ?_
  have hf : isFnB x = false := by unfold isFnB; simp; omega
  have hp : partsI x.kind xs.length = [103, 101] := by unfold partsI; simp [c]
  have hs : shapeR x = (2, 2, oneB x.op assignL) := by unfold shapeR; simp [c]
  have hr : rightOpB x = oneB x.op assignL := by unfold rightOpB; simp [c]
  rw [if_neg (by omega), hs]
  rcases xs with _ | ⟨k, _ | ⟨k2, _ | ⟨k3, ks⟩⟩⟩
  · rw [right_len _ _ _ (by rw [hp]; simp), if_pos (by simp)]; trivial
  · rw [right_len _ _ _ (by rw [hp]; simp), if_pos (by simp)]; trivial
  · cases ho : oneB x.op assignL with
    | false => rw [right_op _ _ _ (hr.trans ho), if_pos (Or.inl rfl)]; trivial
    | true =>
      rw [if_neg (by simp), right_at _ _ _ (by rw [hp]; simp) (hr.trans ho), hp, hf]
      rw [here_some x _ gen a (by omega) (by omega) (by omega) (by omega) (decl_no _ _ (by omega) (by omega))]
      have e2 : startR K x [k, k2] gen b = if K.kd k ≠ 3 ∧ K.kd k ≠ 13 then none else some b := by
        unfold startR
        rw [if_neg (by omega), if_neg (show ¬ x.kind = 3 by omega)]
        by_cases z : K.kd k ≠ 3 ∧ K.kd k ≠ 13
        · rw [if_pos z, if_pos ⟨Or.inr c, z⟩]
        · rw [if_neg z, if_neg (fun y => z y.2)]
      rw [e2]
      have m := ((h.given k gen).comp ((h.term k2 gen).comp Mt.id)).eqv a b e
      by_cases z : K.kd k ≠ 3 ∧ K.kd k ≠ 13
      · simp only [if_pos z] at m ⊢
        simp [foldR, termKidR, c, (h.term k gen).nil, (h.term k2 gen).nil]
        rw [(h.term k2 gen).nil] at m
        simpa [kidsP] using m
      · simp only [if_neg z] at m ⊢
        simp [foldR, termKidR, c]
        simpa [kidsP] using m
  · rw [right_len _ _ _ (by rw [hp]; simp), if_pos (by right; simp; omega)]; trivial

theorem term_yield (h : Ok K f g) (x : Nd) (xs : List α) (gen : Bool) (c : x.kind = 22) : Mt (rightP K f x xs gen) (termR K g x xs gen) := by
  refine Mt.unbound fun a b e => ?_
  have hf : isFnB x = false := by unfold isFnB; simp; omega
  have hp : partsI x.kind xs.length = [69] := by unfold partsI; simp [c]
  have hs : shapeR x = (1, 1, true) := by unfold shapeR; simp [c]
  have hr : rightOpB x = true := by unfold rightOpB; simp [c]
  rw [if_neg (by omega), hs]
  rcases xs with _ | ⟨k, _ | ⟨k2, ks⟩⟩
  · rw [right_len _ _ _ (by rw [hp]; simp), if_pos (by simp)]; trivial
  · rw [if_neg (by simp), right_at _ _ _ (by rw [hp]; simp) hr, hp, hf]
    have e1 : hereP K x [k] gen a = if gen = true then some a else none := by unfold hereP; rw [if_neg (by omega), if_neg (by omega), if_pos c]
    rw [e1]
    cases gen with
    | false =>
      have e2 : startR K x [k] false b = none := by unfold startR; rw [if_pos (Or.inr ⟨c, rfl⟩)]
      rw [e2]
      simp [foldR, termKidR, c, (h.perh k false).nil, Eqv]
    | true =>
      have e2 : startR K x [k] true b = some b := by unfold startR; rw [if_neg (by rintro (z | z); exact absurd z.1 (by omega); exact absurd z.2 (by simp)), if_neg (by omega), if_neg (by omega)]
      rw [e2]
      have m := ((h.perh k true).comp Mt.id).eqv a b e
      simp [foldR, termKidR, c]
      simpa [kidsP] using m
  · rw [right_len _ _ _ (by rw [hp]; simp), if_pos (by right; simp; omega)]; trivial

theorem right_cond (x : Nd) (xs : List α) (gen : Bool) (H : St → Option St) (hh : ∀ a, hereP K x xs gen a = H a) (a : St) :
    rightP K f x xs gen a = (H a).bind (fun st => if (partsI x.kind xs.length).length ≠ xs.length then none else if rightOpB x = false then none else kidsP f (if isFnB x = true then isS x.op [42] else gen) (partsI x.kind xs.length) xs st) := by
  unfold rightP
  rw [hh]
  by_cases c : (partsI x.kind xs.length).length ≠ xs.length
  · simp only [if_pos c]; cases H a <;> rfl
  · simp only [if_neg c]
    by_cases d : rightOpB x = false
    · simp only [if_pos d]; cases H a <;> rfl
    · simp only [if_neg d]

theorem term_fn (h : Ok K f g) (x : Nd) (xs : List α) (gen : Bool) (c : x.kind = 12) : Mt (rightP K f x xs gen) (termR K g x xs gen) := by
  cases q : isS x.name [] with
  | true =>
    have m := Mt.id.comp (mt_funct h x xs (Or.inl c) gen)
    refine Mt.unbound fun a b e => ?_
    rw [if_pos c, q, if_neg (by simp), right_cond x xs gen some (fun a => here_some x xs gen a (by omega) (by omega) (by omega) (by omega) (by unfold declB selfB; rw [if_neg (by omega), if_neg (by omega)]; simp [q]))]
    exact m.eqv a b e
  | false =>
    have m := (Mt.dec x.pl).comp (mt_funct h x xs (Or.inl c) gen)
    refine Mt.unbound fun a b e => ?_
    rw [if_pos c, q, if_pos rfl, right_cond x xs gen (fun a => takeD a x.pl) (fun a => here_take x xs gen a (by omega) (by omega) (by omega) (by omega) (by unfold declB selfB; rw [if_neg (by omega), if_neg (by omega)]; simp [q, c]))]
    exact m.eqv a b e

theorem mt_term (h : Ok K f g) (x : Nd) (xs : List α) (gen : Bool) (hx : isExprB x.kind = true) : Mt (rightP K f x xs gen) (termR K g x xs gen) := by
  unfold isExprB at hx
  simp at hx
  obtain ⟨⟨h1, h2⟩, h3⟩ := hx
  have : (1 ≤ x.kind ∧ x.kind ≤ 8) ∨ (x.kind = 9 ∨ x.kind = 14 ∨ x.kind = 15) ∨ x.kind = 10 ∨ x.kind = 12 ∨ x.kind = 13 ∨ x.kind = 16 ∨ x.kind = 17 ∨ x.kind = 18 ∨ x.kind = 19 ∨ x.kind = 20 ∨ x.kind = 21 ∨ x.kind = 22 := by omega
  rcases this with c | c | c | c | c | c | c | c | c | c | c | c
  · exact term_leaf x xs gen c.1 c.2
  · exact term_many h x xs gen c
  · exact term_object h x xs gen c
  · exact term_fn h x xs gen c
  · exact term_few h x xs gen 2 true (by omega) (by unfold partsI; simp [c] <;> rfl) (by unfold shapeR; simp [c]) (by unfold rightOpB; simp [c])
  · exact term_few h x xs gen 1 _ (by omega) (by unfold partsI; simp [c] <;> rfl) (by unfold shapeR; simp [c] <;> rfl) (by unfold rightOpB; simp [c])
  · exact term_update h x xs gen c
  · exact term_few h x xs gen 2 _ (by omega) (by unfold partsI; simp [c] <;> rfl) (by unfold shapeR; simp [c] <;> rfl) (by unfold rightOpB; simp [c] <;> exact oneB_perm _)
  · exact term_few h x xs gen 2 _ (by omega) (by unfold partsI; simp [c] <;> rfl) (by unfold shapeR; simp [c] <;> rfl) (by unfold rightOpB; simp [c])
  · exact term_few h x xs gen 3 true (by omega) (by unfold partsI; simp [c] <;> rfl) (by unfold shapeR; simp [c]) (by unfold rightOpB; simp [c])
  · exact term_assign h x xs gen c
  · exact term_yield h x xs gen c

theorem term_not (x : Nd) (xs : List α) (gen : Bool) (hx : isExprB x.kind = false) (st : RS) : termR K g x xs gen st = none := by
  unfold isExprB at hx
  simp at hx
  cases st with
  | none => rfl
  | some b =>
    show (if _ then _ else _) = _
    have hs : shapeR x = (1, 0, true) := by
      unfold shapeR
      repeat rw [if_neg (by intro q; omega)]
    rw [if_neg (by intro q; omega), hs, if_pos (by right; simp; omega)]
end
end Go.Proofs.Ytihmdcdifakepab.Sc
