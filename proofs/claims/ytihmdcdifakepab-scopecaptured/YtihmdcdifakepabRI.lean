/- Whose variable a name is: the program's way is the document's: statement by statement. -/
import Derived.Test.YtihmdcdifakepabB21
namespace Go.Proofs.Ytihmdcdifakepab.Rz
open Go.Proofs.Ytihmdcdifakepab.Sc
set_option linter.unusedVariables false

theorem bind_assoc' {x : Except Er RS} {f g : RM} : (x.bind f).bind g = x.bind fun s => (f s).bind g := by cases x <;> rfl

theorem each_app {α : Type} (f : α → RM) : ∀ (a b : List α) (s : RS), eachP f (a ++ b) s = (eachP f a s).bind (eachP f b)
  | [], b, s => rfl
  | k :: a, b, s => by
    show (f k s).bind (eachP f (a ++ b)) = ((f k s).bind (eachP f a)).bind (eachP f b)
    rw [bind_assoc']
    congr 1
    funext s1
    exact each_app f a b s1

theorem each_cut {α : Type} (f : α → RM) (i : Nat) (l : List α) (s : RS) : eachP f l s = (eachP f (l.take i) s).bind (eachP f (l.drop i)) := by
  rw [← each_app, List.take_append_drop]

section
variable {α : Type} {fP exR stR : α → RM} (kP : ∀ k, Keeps (fP k)) (kE : ∀ k, Keeps (exR k)) (kS : ∀ k, Keeps (stR k))

/-- expressions, one by one -/
def EqE (fP exR : α → RM) (k : α) : Prop := ∀ s r, Rl false s r → Eqv (Rl false) (fP k s) (exR k r)
def EqS (fP stR : α → RM) (k : α) : Prop := ∀ s r, Rl true s r → Eqv (Rl true) (fP k s) (stR k r)

theorem EqE.up (kP : ∀ k, Keeps (fP k)) (kE : ∀ k, Keeps (exR k)) {lp : Bool} {k : α} (h : EqE fP exR k) (s r : RS) (hr : Rl lp s r) : Eqv (Rl lp) (fP k s) (exR k r) :=
  Eqv.up hr (kP k) (kE k) (h s r hr.low)

theorem eqv_exprs (kP : ∀ k, Keeps (fP k)) (kE : ∀ k, Keeps (exR k)) {lp : Bool} (l : List α) (h : ∀ k ∈ l, EqE fP exR k) (s r : RS) (hr : Rl lp s r) : Eqv (Rl lp) (eachP fP l s) (eachP exR l r) :=
  eqv_each l (fun k hk s r hr => (h k hk).up kP kE s r hr) s r hr

theorem eqv_give (bi : ByteArray → Bool) (nd : α → Nd) (l : List α) (h0 : ∀ t r, l = t :: r → (nd t).kind ≠ 3 → EqE fP exR t) (h1 : ∀ k ∈ l.drop 1, EqE fP exR k) (s r : RS) (hr : Rl false s r) :
    Eqv (Rl false) (giveP bi nd fP l s) (giveR bi nd exR l r) := by
  cases l with
  | nil => exact hr
  | cons t q =>
    unfold giveP giveR
    simp only
    by_cases c : (nd t).kind = 3
    · rw [if_pos c, if_pos c]
      have hw := eqv_written bi (nd t).name (nd t).pl s r hr
      have herr : ∀ (e : Er) (b : Except Er RS), Eqv (Rl false) (.error e) b → Eqv (Rl false) (.error e) (b.bind (eachP exR q)) := fun e b h => by
        cases b with
        | error e' => exact h
        | ok r1 => exact h.elim
      cases hu : useP bi (nd t).name (nd t).pl s with
      | error e =>
        rw [hu] at hw
        exact herr e _ hw
      | ok p =>
        obtain ⟨v, s1⟩ := p
        rw [hu] at hw
        simp only at hw ⊢
        cases hs : staysP v s1 with
        | true =>
          rw [hs] at hw
          exact herr _ _ hw
        | false =>
          rw [hs] at hw
          have hw2 : Eqv (Rl false) (.ok s1) (useR bi (nd t).name (nd t).pl true r) := hw
          exact Eqv.bind (f := eachP fP q) hw2 fun s2 r2 h => eqv_each q (fun k hk => h1 k hk) s2 r2 h
    · rw [if_neg c, if_neg c]
      exact (h0 t q rfl c s r hr).bind fun s1 r1 h => eqv_each q (fun k hk => h1 k hk) s1 r1 h

/-- a loop: the program counts it ahead of its tests, the document behind them -/
theorem eqv_while (kP : ∀ k, Keeps (fP k)) (kE : ∀ k, Keeps (exR k)) (kS : ∀ k, Keeps (stR k)) (a b : List α) (ha : ∀ k ∈ a, EqE fP exR k) (hb : ∀ k ∈ b, EqS fP stR k) (s r : RS) (hr : Rl true s r) : Eqv (Rl true) (loopP fP (a ++ b) s) ((eachP exR a r).bind (loopP stR b)) := by
  obtain ⟨h1, h2⟩ := hr.side rfl
  have e : loopP fP (a ++ b) s = (eachP fP a { s with loops := s.loops + 1 }).bind fun s1 => (eachP fP b s1).bind fun s2 => .ok { s2 with loops := s2.loops - 1 } := by
    unfold loopP
    rw [each_app, bind_assoc']
  rw [e]
  have h0 : Rl false { s with loops := s.loops + 1 } r := ⟨⟨hr.core.scopes, hr.core.vars, hr.core.uses, hr.core.fn⟩, hr.blocks, fun e => by cases e⟩
  have q := eqv_exprs kP kE a ha _ r h0
  refine Eqv.bind (R := fun s1 r1 => Rl false s1 r1 ∧ s1.loops = r1.loops + 1 ∧ s1.labels = r1.labels) (q.mono fun s1 r1 e1 e2 h => ?_) ?_
  · have k1 := keeps_each kP a _ s1 e1
    have k2 := keeps_each kE a r r1 e2
    exact ⟨h, by rw [k1.loops, k2.loops, h1], by rw [k1.labels, k2.labels]; exact h2⟩
  · rintro s1 r1 ⟨h, l1, l2⟩
    have h3 : Rl true s1 { r1 with loops := r1.loops + 1 } := ⟨⟨h.core.scopes, h.core.vars, h.core.uses, h.core.fn⟩, h.blocks, fun _ => ⟨l1, l2⟩⟩
    exact (eqv_each b (fun k hk => hb k hk) _ _ h3).bind fun s2 r2 q => ⟨⟨q.core.scopes, q.core.vars, q.core.uses, q.core.fn⟩, q.blocks, fun _ => ⟨by show s2.loops - 1 = r2.loops - 1; rw [(q.side rfl).1], (q.side rfl).2⟩⟩

theorem eqv_for (kP : ∀ k, Keeps (fP k)) (kE : ∀ k, Keeps (exR k)) (kS : ∀ k, Keeps (stR k)) (x : Nd) (l : List α) (ha : ∀ k ∈ l.take 1, EqE fP exR k) (hb : ∀ k ∈ l.drop 1, EqS fP stR k) (s r : RS) (hr : Rl true s r) :
    Eqv (Rl true) (loopOfP fP x l s) ((eachP exR (l.take 1) r).bind fun s1 => (declP x.name x.pl (if isS x.op [99, 111, 110, 115, 116] then 2 else 1) (openP s1)).bind fun s2 => (loopP stR (l.drop 1) s2).bind fun s3 => .ok (shutP s3)) := by
  have e : Eqv Core (loopOfP fP x l s) ((eachP exR (l.take 1) r).bind fun s1 => (declP x.name x.pl (if isS x.op [99, 111, 110, 115, 116] then 2 else 1) (openP s1)).bind fun s2 => (loopP stR (l.drop 1) s2).bind fun s3 => .ok (shutP s3)) :=
    (eqv_exprs kP kE _ ha s r hr).bind fun s1 r1 h1 => (eqv_decl _ _ _ _ _ h1.open').bind fun s2 r2 h2 => (eqv_loop kP kS _ (fun k hk => hb k hk) s2 r2 h2.rl).bind fun s3 r3 h3 => ⟨h3.core.scopes, h3.core.vars, h3.core.uses, h3.core.fn⟩
  refine e.mono fun s' r' e1 e2 q => ?_
  have k1 := keeps_loopOf kP kP x l s s' e1
  have k2 := keeps_loopOf kE kS x l r r' e2
  obtain ⟨h1, h2⟩ := hr.side rfl
  exact ⟨q, by rw [k1.blocks, k2.blocks]; exact hr.blocks, fun _ => ⟨by rw [k1.loops, k2.loops, h1], by rw [k1.labels, k2.labels, h2]⟩⟩

theorem eqv_catch (nd : α → Nd) {bP bR : α → RM} (tP : ∀ k, Tails (bP k)) (tR : ∀ k, Tails (bR k)) (x : Nd) (c : Option α) (hb : ∀ k, c = some k → (nd k).kind ≠ 0 → ∀ s r, Hd s r → Eqv Core (bP k s) (bR k r)) (s r : RS) (hr : Rl true s r) : Eqv (Rl true) (catchP nd bP x c s) (catchP nd bR x c r) := by
  have e : Eqv Core (catchP nd bP x c s) (catchP nd bR x c r) := by
    unfold catchP
    cases c with
    | none => exact hr.core
    | some k =>
      simp only
      by_cases d : (nd k).kind = 0
      · rw [if_pos d, if_pos d]
        exact hr.core
      · rw [if_neg d, if_neg d]
        exact (eqv_decl _ _ _ _ _ hr.open').bind fun s2 r2 h2 => (hb k rfl d s2 r2 h2).bind fun s3 r3 h3 => ⟨h3.scopes, h3.vars, h3.uses, h3.fn⟩
  refine e.mono fun s' r' e1 e2 q => ?_
  have k1 := keeps_catch nd tP x c s s' e1
  have k2 := keeps_catch nd tR x c r r' e2
  obtain ⟨h1, h2⟩ := hr.side rfl
  exact ⟨q, by rw [k1.blocks, k2.blocks]; exact hr.blocks, fun _ => ⟨by rw [k1.loops, k2.loops, h1], by rw [k1.labels, k2.labels, h2]⟩⟩
end

end Go.Proofs.Ytihmdcdifakepab.Rz
