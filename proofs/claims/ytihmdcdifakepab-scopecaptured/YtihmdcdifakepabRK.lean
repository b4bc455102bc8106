/- Whose variable a name is: blocks without names are not felt (ScopeWrapped): plain. -/
import Derived.Test.YtihmdcdifakepabRJ
namespace Go.Proofs.Ytihmdcdifakepab.Rz
open Go.Proofs.Ytihmdcdifakepab.Sc
set_option linter.unusedVariables false

theorem enterP_hd {lp : Bool} (x : Nd) (many : Nat) (s r : RS) (h : Rl lp s r) : Hd (enterP x many s) (enterP x many r) := by
  unfold enterP
  cases selfB x with
  | true =>
    simp only [if_true]
    refine ⟨⟨?_, ?_, h.core.uses, ?_⟩, ⟨[], _, _, rfl, rfl, ?_⟩, rfl, rfl⟩
    · show s.scopes ++ _ = r.scopes ++ _
      rw [h.core.scopes, h.core.fn]
    · show s.vars ++ [_] = r.vars ++ [_]
      rw [h.core.vars]
      congr 2
      show Vr.mk _ _ _ s.scopes.length _ _ = Vr.mk _ _ _ r.scopes.length _ _
      rw [h.core.scopes]
    · show s.scopes.length = r.scopes.length
      rw [h.core.scopes]
    · show ne ([(x.name, s.vars.length)] :: s.blocks) = ne ([(x.name, r.vars.length)] :: r.blocks)
      rw [h.core.vars]
      exact ne_cons _ _ _ h.blocks
  | false =>
    simp only [Bool.false_eq_true, if_false]
    refine ⟨⟨?_, h.core.vars, h.core.uses, ?_⟩, ⟨[], _, _, rfl, rfl, ?_⟩, rfl, rfl⟩
    · show s.scopes ++ _ = r.scopes ++ _
      rw [h.core.scopes, h.core.fn]
    · show s.scopes.length = r.scopes.length
      rw [h.core.scopes]
    · show ne ([] :: s.blocks) = ne ([] :: r.blocks)
      rw [ne_nil, ne_nil]
      exact h.blocks

theorem eqv_functionP {α : Type} {lp : Bool} (nd : α → Nd) {f : α → RM} (hf : ∀ k, Tails (f k)) (x : Nd) (l : List α)
    (hk : ∀ b s r, Hd s r → Eqv Core (f b s) (f b r)) (s r : RS) (h : Rl lp s r) : Eqv (Rl lp) (functionP nd f x l s) (functionP nd f x l r) := by
  have e : Eqv Core (functionP nd f x l s) (functionP nd f x l r) := by
    unfold functionP
    rw [h.core.scopes]
    by_cases c : r.scopes.length = 200
    · rw [if_pos c, if_pos c]
      rfl
    · rw [if_neg c, if_neg c]
      cases hl : l.getLast? with
      | none => exact h.core
      | some b =>
        simp only
        refine (eqv_pars nd _ _ _ (enterP_hd x _ s r h)).bind fun s1 r1 h1 => ?_
        have h2 : Hd (if selfB x then bumpP s1 else s1) (if selfB x then bumpP r1 else r1) := by
          cases selfB x with
          | true => exact bump_hd h1
          | false => exact h1
        exact (hk b _ _ h2).bind fun s2 r2 q => ⟨q.scopes, q.vars, q.uses, h.core.fn⟩
  refine e.mono fun s' r' e1 e2 q => ?_
  have k1 := keeps_functionP nd hf x l s s' e1
  have k2 := keeps_functionP nd hf x l r r' e2
  refine ⟨q, by rw [k1.blocks, k2.blocks]; exact h.blocks, fun hl => ?_⟩
  obtain ⟨h1, h2⟩ := h.side hl
  exact ⟨by rw [k1.loops, k2.loops, h1], by rw [k1.labels, k2.labels, h2]⟩

/-- a use, and what is used -/
theorem use_both (bi : ByteArray → Bool) (nm : ByteArray) (pl : Int) (s r : RS) (h : Rl true s r) :
    (∃ e, useP bi nm pl s = .error e ∧ useP bi nm pl r = .error e) ∨ ∃ v s1 r1, useP bi nm pl s = .ok (v, s1) ∧ useP bi nm pl r = .ok (v, r1) ∧ Rl true s1 r1 := by
  unfold useP
  rw [find_same h.blocks nm]
  cases findP nm r.blocks with
  | some v =>
    refine Or.inr ⟨_, _, _, rfl, rfl, ?_⟩
    rw [h.core.vars, h.core.fn]
    by_cases c : ((r.vars[v]?).map (·.fn)).getD 0 ≠ r.fn
    · rw [if_pos c, if_pos c]
      exact ⟨⟨h.core.scopes, rfl, by show s.uses ++ _ = r.uses ++ _; rw [h.core.uses], rfl⟩, h.blocks, h.side⟩
    · rw [if_neg c, if_neg c]
      exact ⟨⟨h.core.scopes, rfl, by show s.uses ++ _ = r.uses ++ _; rw [h.core.uses], rfl⟩, h.blocks, h.side⟩
  | none =>
    simp only
    cases bi nm with
    | true => exact Or.inr ⟨_, _, _, rfl, rfl, ⟨h.core.scopes, h.core.vars, by show s.uses ++ _ = r.uses ++ _; rw [h.core.uses], h.core.fn⟩, h.blocks, h.side⟩
    | false => exact Or.inl ⟨_, rfl, rfl⟩

theorem stays_same (v : Option Nat) (s r : RS) (h : Core s r) : staysP v s = staysP v r := by
  unfold staysP
  cases v with
  | none => rfl
  | some v => simp only; rw [h.vars]

theorem res_rel (bi : ByteArray → Bool) : ∀ n, (∀ t s r, Rl true s r → Eqv (Rl true) ((resP bi n).1 t s) ((resP bi n).1 t r)) ∧ (∀ t s r, Hd s r → Eqv Core ((resP bi n).2 t s) ((resP bi n).2 t r))
  | 0 => ⟨(fun t => nomatch (t : Empty)), (fun t => nomatch (t : Empty))⟩
  | n + 1 => by
    obtain ⟨i1, i2⟩ := res_rel bi n
    obtain ⟨kP, tP⟩ := keeps_resP bi n
    refine ⟨fun t s r h => ?_, fun t s r h => ?_⟩
    · simp only [resP]
      by_cases c3 : t.1.kind = 3
      · rw [if_pos c3, if_pos c3]
        rcases use_both bi t.1.name t.1.pl s r h with ⟨e, e1, e2⟩ | ⟨v, s1, r1, e1, e2, e3⟩
        · rw [e1, e2]; rfl
        · rw [e1, e2]; exact e3
      rw [if_neg c3, if_neg c3]
      by_cases c21 : t.1.kind = 21 ∨ t.1.kind = 17
      · rw [if_pos c21, if_pos c21]
        unfold giveP
        cases t.2.xs with
        | nil => exact h
        | cons k l =>
          simp only
          by_cases d : (ndR n k).kind = 3
          · rw [if_pos d, if_pos d]
            rcases use_both bi (ndR n k).name (ndR n k).pl s r h with ⟨e, e1, e2⟩ | ⟨v, s1, r1, e1, e2, e3⟩
            · rw [e1, e2]; rfl
            · rw [e1, e2]
              simp only
              rw [stays_same v s1 r1 e3.core]
              cases staysP v r1 with
              | true => rfl
              | false => exact eqv_each l (fun j _ => i1 j) s1 r1 e3
          · rw [if_neg d, if_neg d]
            exact eqv_each _ (fun j _ => i1 j) s r h
      rw [if_neg c21, if_neg c21]
      by_cases c12 : t.1.kind = 12 ∨ t.1.kind = 33
      · rw [if_pos c12, if_pos c12]
        exact eqv_functionP (ndR n) tP t.1 t.2.xs i2 s r h
      rw [if_neg c12, if_neg c12]
      by_cases c44 : t.1.kind = 44
      · rw [if_pos c44, if_pos c44]
        exact eqv_block (ndR n) kP kP t.2.xs (fun j _ => i1 j) s r h
      rw [if_neg c44, if_neg c44]
      by_cases c43 : t.1.kind = 43
      · rw [if_pos c43, if_pos c43]
        unfold tryP
        exact (eqv_each _ (fun j _ => i1 j) s r h).bind fun s1 r1 h1 => (eqv_catch (ndR n) tP tP t.1 _ (fun k _ _ => i2 k) s1 r1 h1).bind fun s2 r2 h2 => eqv_each _ (fun j _ => i1 j) s2 r2 h2
      rw [if_neg c43, if_neg c43]
      by_cases c36 : t.1.kind = 36 ∨ t.1.kind = 37
      · rw [if_pos c36, if_pos c36]
        exact eqv_loop kP kP _ (fun j _ => i1 j) s r h
      rw [if_neg c36, if_neg c36]
      by_cases c38 : t.1.kind = 38
      · rw [if_pos c38, if_pos c38]
        have e : Eqv Core (loopOfP (resP bi n).1 t.1 t.2.xs s) (loopOfP (resP bi n).1 t.1 t.2.xs r) :=
          (eqv_each _ (fun j _ => i1 j) s r h).bind fun s1 r1 h1 => (eqv_decl _ _ _ _ _ h1.open').bind fun s2 r2 h2 => (eqv_loop kP kP _ (fun j _ => i1 j) s2 r2 h2.rl).bind fun s3 r3 h3 => ⟨h3.core.scopes, h3.core.vars, h3.core.uses, h3.core.fn⟩
        refine e.mono fun s' r' e1 e2 q => ?_
        have k1 := keeps_loopOf kP kP t.1 t.2.xs s s' e1
        have k2 := keeps_loopOf kP kP t.1 t.2.xs r r' e2
        obtain ⟨h1, h2⟩ := h.side rfl
        exact ⟨q, by rw [k1.blocks, k2.blocks]; exact h.blocks, fun _ => ⟨by rw [k1.loops, k2.loops, h1], by rw [k1.labels, k2.labels, h2]⟩⟩
      rw [if_neg c38, if_neg c38]
      by_cases c41 : t.1.kind = 41
      · rw [if_pos c41, if_pos c41]
        exact eqv_label t.1 _ _ (fun j _ => i1 j) s r h
      rw [if_neg c41, if_neg c41]
      by_cases c39 : t.1.kind = 39 ∨ t.1.kind = 40
      · rw [if_pos c39, if_pos c39]
        exact eqv_jump _ s r h
      rw [if_neg c39, if_neg c39]
      by_cases c34 : t.1.kind = 34
      · rw [if_pos c34, if_pos c34]
        exact eqv_leave _ _ (fun j _ => i1 j) s r h
      rw [if_neg c34, if_neg c34]
      exact eqv_each _ (fun j _ => i1 j) s r h
    · simp only [resP]
      exact (eqv_items (ndR n) t.2.xs (fun j _ => i1 j) s r h).mono fun s' r' _ _ q => q.core

/-- ScopeWrapped, plain: a program's statements in one more block -/
theorem wrapped_plain (bi : ByteArray → Bool) (n : Nat) (t : Tr (n + 1)) (b : Tr (n + 1)) (m : Tr (n + 2)) (hb : b.2.xs = t.2.xs) (hk : b.1.kind = 44) (hm : m.2.xs = [b]) (hp : m.1.pl = t.1.pl) :
    Eqv Core (resolveP bi (n + 1) t) (resolveP bi (n + 2) m) := by
  show Eqv Core (blockP (ndR n) (resP bi n).1 t.2.xs (startP t.1.pl)) (blockP (ndR (n + 1)) (resP bi (n + 1)).1 m.2.xs (startP m.1.pl))
  rw [hm, hp]
  obtain ⟨i1, i2⟩ := res_rel bi n
  obtain ⟨kP, tP⟩ := keeps_resP bi n
  have h0 : Rl true (startP t.1.pl) (openP (startP t.1.pl)) := ⟨⟨rfl, rfl, rfl, rfl⟩, rfl, fun _ => ⟨rfl, rfl⟩⟩
  have q := eqv_block (ndR n) kP kP t.2.xs (fun j _ => i1 j) _ _ h0
  have e1 : (resP bi (n + 1)).1 b (openP (startP t.1.pl)) = blockP (ndR n) (resP bi n).1 t.2.xs (openP (startP t.1.pl)) := by
    simp only [resP, hk, hb]
    rfl
  have hnk : (ndR (n + 1) b).kind = 44 := hk
  have e2 : blockP (ndR (n + 1)) (resP bi (n + 1)).1 [b] (startP t.1.pl) = (blockP (ndR n) (resP bi n).1 t.2.xs (openP (startP t.1.pl))).bind fun s => .ok (shutP s) := by
    have e4 : headsP (ndR (n + 1)) [b] (openP (startP t.1.pl)) = .ok (openP (startP t.1.pl)) := by
      unfold headsP
      rw [if_neg (by omega), if_neg (by omega), if_neg (by omega)]
      rfl
    show ((headsP (ndR (n + 1)) [b] (openP (startP t.1.pl))).bind (eachP (resP bi (n + 1)).1 [b])).bind _ = _
    rw [e4]
    show (((resP bi (n + 1)).1 b (openP (startP t.1.pl))).bind (eachP _ [])).bind _ = _
    rw [e1]
    cases blockP (ndR n) (resP bi n).1 t.2.xs (openP (startP t.1.pl)) <;> rfl
  rw [e2]
  have e3 : ∀ (a b : Except Er RS), Eqv (Rl true) a b → Eqv Core a (b.bind fun s => .ok (shutP s)) := fun a b h => by
    cases a with
    | error e => cases b with
      | error e' => exact h
      | ok r => exact h.elim
    | ok s => cases b with
      | error e' => exact h.elim
      | ok r => exact ⟨h.core.scopes, h.core.vars, h.core.uses, h.core.fn⟩
  exact e3 _ _ q

end Go.Proofs.Ytihmdcdifakepab.Rz
