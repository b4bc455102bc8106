/- Whose variable a name is: ScopeUses, plain. -/
import Derived.Test.YtihmdcdifakepabRC
namespace Go.Proofs.Ytihmdcdifakepab.Rz
open Go.Proofs.Ytihmdcdifakepab.Sc
set_option linter.unusedVariables false

theorem Inv.refn {s : RS} (h : Inv s [] false) (k a : Nat) (b : List (ByteArray × Bool)) (hk : k < s.scopes.length) : Inv { s with fn := k, loops := a, labels := b } [] false :=
  ⟨hk, h.par, fun i x hx => by
    have := h.slo i x hx
    have e : ∀ (p : Prop) [Decidable p], (if p then ([] : List Nat) else []) = [] := fun p _ => by split <;> rfl
    rw [e] at this ⊢
    exact this, fun i x hx _ => h.pms i x hx (Or.inr rfl), h.vfn, h.blk, h.use⟩

/-- behind the parameters, without a name of its own -/
theorem pars_plain {s : RS} (h : Inv s [] true) (x : Scp) (hx : s.scopes[s.fn]? = some x) (hp : x.params ≤ x.vars) : Inv s [] false :=
  ⟨h.fnl, h.par, h.slo, fun i y hy _ => by
    by_cases c : i = s.fn
    · subst c
      rw [hx] at hy
      obtain rfl := Option.some.inj hy
      exact hp
    · exact h.pms i y hy (Or.inl c), h.vfn, h.blk, h.use⟩

/-- behind the parameters, with a name of its own -/
theorem pars_self {s : RS} (m : Nat) (h : Inv s [m] true) (x : Scp) (hx : s.scopes[s.fn]? = some x) (hm : x.vars = m) (hp : x.params ≤ x.vars) : Inv (bumpP s) [] false := by
  refine ⟨by rw [bump_len]; exact h.fnl, ?_, ?_, ?_, ?_, h.blk, h.use⟩
  · intro i y hy
    obtain ⟨z, h1, h2, _, _⟩ := scope_bump s i y hy
    rw [h2]
    exact h.par i z h1
  · intro i y hy
    obtain ⟨z, h1, _, _, h4⟩ := scope_bump s i y hy
    have hq := h.slo i z h1
    rw [h4]
    show (slotsOf (s.vars.map pr) i).Perm (List.range (z.vars + if i = s.fn then 1 else 0) ++ if i = s.fn then [] else [])
    by_cases c : i = s.fn
    · subst c
      rw [hx] at h1
      obtain rfl := Option.some.inj h1
      rw [if_pos rfl] at hq
      rw [if_pos rfl, if_pos rfl, List.append_nil, List.range_succ, hm]
      rw [hm] at hq
      exact hq
    · rw [if_neg c] at hq
      rw [if_neg c, if_neg c]
      exact hq
  · intro i y hy _
    obtain ⟨z, h1, _, h3, h4⟩ := scope_bump s i y hy
    by_cases c : i = s.fn
    · subst c
      rw [hx] at h1
      obtain rfl := Option.some.inj h1
      omega
    · have := h.pms i z h1 (Or.inl c)
      omega
  · intro p hq
    rw [bump_len]
    exact h.vfn p hq

theorem pres_function {α : Type} (nd : α → Nd) {body : α → RM} (hb : ∀ k, Pres (body k)) (x : Nd) (l : List α) : Pres (functionP nd body x l) := fun s s' h e => by
  unfold functionP at e
  split at e
  · cases e
  · cases hl : l.getLast? with
    | none => rw [hl] at e; obtain rfl := Except.ok.inj e; exact Stp.refl h
    | some b =>
      rw [hl] at e
      simp only at e
      obtain ⟨s1, e1, e2⟩ := bind_ok e
      obtain ⟨hi0, hv0⟩ := enter_inv x (l.length - 1) s h
      obtain ⟨q1, q2, q3⟩ := enter_scopes x (l.length - 1) s
      obtain ⟨p1, p2, p3, p4, p5⟩ := pars_inv nd _ _ _ s1 hi0 e1
      obtain ⟨s2, e3, e4⟩ := bind_ok e2
      obtain rfl := Except.ok.inj e4
      have hfl : s1.fn < s1.scopes.length := p1.fnl
      have hx1 : ∃ y, s1.scopes[s1.fn]? = some y := ⟨_, List.getElem?_eq_getElem hfl⟩
      obtain ⟨y, hy⟩ := hx1
      have hyp : y.params = l.length - 1 := by
        obtain ⟨z, hz, hz2⟩ := p5 _ y hy
        rw [p2, q2, q1] at hz
        simp at hz
        rw [hz2, ← hz]
      have hyv : y.vars = l.length - 1 := by
        rw [← vars_at s1 y hy, p4, hv0, List.length_dropLast]
        omega
      have hi1 : Inv (if selfB x then bumpP s1 else s1) [] false := by
        cases c : selfB x with
        | true =>
          rw [c] at p1
          simp only [if_true] at p1 ⊢
          exact pars_self (l.length - 1) p1 y hy hyv (by omega)
        | false =>
          rw [c] at p1
          simp only [Bool.false_eq_true, if_false] at p1 ⊢
          exact pars_plain p1 y hy (by omega)
      have hl1 : (if selfB x then bumpP s1 else s1).scopes.length = s.scopes.length + 1 := by
        have : s1.scopes.length = s.scopes.length + 1 := by rw [p3, q1]; simp
        split
        · rw [bump_len]; exact this
        · exact this
      have h2 := hb b _ s2 hi1 e3
      have h2l := h2.len
      have hfn := h.fnl
      exact ⟨(h2.inv.shut.shut).refn s.fn s.loops s.labels (by show s.fn < s2.scopes.length; omega), rfl, by show s.scopes.length ≤ s2.scopes.length; omega⟩

theorem pres_res (bi : ByteArray → Bool) : ∀ n, (∀ t, Pres ((resP bi n).1 t)) ∧ (∀ t, Pres ((resP bi n).2 t))
  | 0 => ⟨(fun t => nomatch (t : Empty)), (fun t => nomatch (t : Empty))⟩
  | n + 1 => by
    obtain ⟨i1, i2⟩ := pres_res bi n
    refine ⟨fun t s s' h e => ?_, fun t => pres_items (ndR n) i1 _⟩
    simp only [resP] at e
    split at e
    · cases hu : useP bi t.1.name t.1.pl s with
      | error x => rw [hu] at e; cases e
      | ok p =>
        obtain ⟨v, s1⟩ := p
        rw [hu] at e
        simp only at e
        obtain rfl := Except.ok.inj e
        exact use_stp bi _ _ s s1 v h hu
    · split at e
      · exact pres_give bi _ i1 _ s s' h e
      · split at e
        · exact pres_function _ i2 _ _ s s' h e
        · split at e
          · exact pres_block _ i1 _ s s' h e
          · split at e
            · exact pres_try _ i1 i2 _ _ s s' h e
            · split at e
              · exact pres_loop i1 _ s s' h e
              · split at e
                · exact pres_loopOf i1 _ _ s s' h e
                · split at e
                  · exact pres_label i1 _ _ _ s s' h e
                  · split at e
                    · exact pres_jump _ s s' h e
                    · split at e
                      · exact pres_leave i1 _ _ s s' h e
                      · exact pres_each i1 _ s s' h e

theorem start_inv (pl : Int) : Inv (startP pl) [] false := by
  refine ⟨by simp [startP], ?_, ?_, ?_, ?_, ?_, ?_⟩
  · intro i x hx
    cases i with
    | zero => simp [startP] at hx; subst hx; simp
    | succ i => simp [startP] at hx
  · intro i x hx
    cases i with
    | zero => simp [startP] at hx; subst hx; simp [startP, slotsOf]
    | succ i => simp [startP] at hx
  · intro i x hx _
    cases i with
    | zero => simp [startP] at hx; subst hx; simp
    | succ i => simp [startP] at hx
  · intro p hp; simp [startP] at hp
  · intro b hb; simp [startP] at hb
  · intro u hu; simp [startP] at hu

/-- ScopeUses, plain: what is told of a program -/
theorem uses_plain (bi : ByteArray → Bool) (n : Nat) (t : Tr n) (s : RS) (h : resolveP bi n t = .ok s) : Inv s [] false := by
  cases n with
  | zero => exact nomatch (t : Empty)
  | succ n => exact (pres_block (ndR n) (pres_res bi n).1 _ _ s (start_inv _) h).inv

end Go.Proofs.Ytihmdcdifakepab.Rz

/- Whose variable a name is, as the document's function goes through a tree: plain; what both leave as it was. -/
namespace Go.Proofs.Ytihmdcdifakepab.Rz
open Go.Proofs.Ytihmdcdifakepab.Sc
set_option linter.unusedVariables false

def fixedR (v : Nat) (s : RS) : Bool := ((s.vars[v]?).map (fun x => x.kind == 2 || x.kind == 5)).getD false

def useR (bi : ByteArray → Bool) (nm : ByteArray) (pl : Int) (wr : Bool) (s : RS) : Except Er RS :=
  match findP nm s.blocks with
  | some v => if wr && fixedR v s then .error (pl, 74) else
    let s1 : RS := { s with uses := s.uses ++ [⟨pl, (v : Int)⟩] }
    .ok (if ((s.vars[v]?).map (·.fn)).getD 0 ≠ s.fn then capP v s1 else s1)
  | none => if bi nm then (if wr then .error (pl, 74) else .ok { s with uses := s.uses ++ [⟨pl, -1⟩] }) else .error (pl, 73)

def enterR (x : Nd) (many : Nat) (s : RS) : RS :=
  let s1 : RS := { s with scopes := s.scopes ++ [⟨x.pl, s.fn, many, 0⟩], fn := s.scopes.length, loops := 0, labels := [] }
  openP (if selfB x then putVarP x.name x.pl 5 many (openP s1) else s1)

def functionR {α : Type} (nd : α → Nd) (body : α → RM) (x : Nd) (l : List α) (s : RS) : Except Er RS :=
  if s.scopes.length = 200 then .error (x.pl, 72)
  else match l.getLast? with
    | none => .ok s
    | some b => (parsP nd l.dropLast (enterR x (l.length - 1) s)).bind fun s1 =>
      (body b (if selfB x then bumpP s1 else s1)).bind fun s2 => .ok { s2 with blocks := s2.blocks.drop (if selfB x then 2 else 1), fn := s.fn, loops := s.loops, labels := s.labels }

def giveR {α : Type} (bi : ByteArray → Bool) (nd : α → Nd) (ex : α → RM) (l : List α) (s : RS) : Except Er RS := match l with
  | [] => .ok s
  | t0 :: r => (if (nd t0).kind = 3 then useR bi (nd t0).name (nd t0).pl true s else ex t0 s).bind (eachP ex r)

/-- an expression; a statement; what stands in a node as a block's statements -/
def resR (bi : ByteArray → Bool) : (n : Nat) → (Tr n → RM) × (Tr n → RM) × (Tr n → RM)
  | 0 => ((fun t => nomatch (t : Empty)), (fun t => nomatch (t : Empty)), (fun t => nomatch (t : Empty)))
  | n + 1 =>
    ((fun t s =>
      let x := t.1
      let l := t.2.xs
      let ex := (resR bi n).1
      if x.kind = 3 then useR bi x.name x.pl false s
      else if x.kind = 12 then functionR (ndR n) (resR bi n).2.2 x l s
      else if x.kind = 17 ∨ x.kind = 21 then giveR bi (ndR n) ex l s
      else eachP ex l s),
     (fun t s =>
      let x := t.1
      let l := t.2.xs
      let ex := (resR bi n).1
      let st := (resR bi n).2.1
      if x.kind = 33 then functionR (ndR n) (resR bi n).2.2 x l s
      else if x.kind = 34 then leaveP ex x l s
      else if x.kind = 35 then (eachP ex (l.take 1) s).bind (eachP st (l.drop 1))
      else if x.kind = 36 ∨ x.kind = 37 then (eachP ex l.dropLast s).bind (loopP st (l.drop (l.length - 1)))
      else if x.kind = 38 then (eachP ex (l.take 1) s).bind fun s1 =>
        (declP x.name x.pl (if isS x.op [99, 111, 110, 115, 116] then 2 else 1) (openP s1)).bind fun s2 => (loopP st (l.drop 1) s2).bind fun s3 => .ok (shutP s3)
      else if x.kind = 39 ∨ x.kind = 40 then jumpP x s
      else if x.kind = 41 then labelP st x (leadT (n + 1) t) l s
      else if x.kind = 42 ∨ x.kind = 46 ∨ x.kind = 31 ∨ x.kind = 32 then eachP ex l s
      else if x.kind = 43 then (eachP st (l.take 1) s).bind fun s1 => (catchP (ndR n) (resR bi n).2.2 x l[1]? s1).bind (eachP st (l.drop 2))
      else if x.kind = 44 then blockP (ndR n) st l s
      else .ok s),
     (fun t s => itemsP (ndR n) (resR bi n).2.1 t.2.xs s))

def resolveR (bi : ByteArray → Bool) (n : Nat) (t : Tr n) : Except Er RS :=
  match n, t with
  | 0, t => nomatch (t : Empty)
  | n + 1, t => itemsP (ndR n) (resR bi n).2.1 t.2.xs (openP (startP t.1.pl))

/-- what a node leaves as it was -/
structure Same (s s' : RS) : Prop where
  blocks : s'.blocks = s.blocks
  fn : s'.fn = s.fn
  loops : s'.loops = s.loops
  labels : s'.labels = s.labels

theorem Same.refl (s : RS) : Same s s := ⟨rfl, rfl, rfl, rfl⟩
theorem Same.trans {a b c : RS} (h1 : Same a b) (h2 : Same b c) : Same a c := ⟨h2.blocks.trans h1.blocks, h2.fn.trans h1.fn, h2.loops.trans h1.loops, h2.labels.trans h1.labels⟩

/-- what a declaration leaves as it was -/
structure Tail (s s' : RS) : Prop where
  blocks : s'.blocks.drop 1 = s.blocks.drop 1
  fn : s'.fn = s.fn
  loops : s'.loops = s.loops
  labels : s'.labels = s.labels

theorem Tail.trans {a b c : RS} (h1 : Tail a b) (h2 : Tail b c) : Tail a c := ⟨h2.blocks.trans h1.blocks, h2.fn.trans h1.fn, h2.loops.trans h1.loops, h2.labels.trans h1.labels⟩
theorem Same.tail {a b : RS} (h : Same a b) : Tail a b := ⟨by rw [h.blocks], h.fn, h.loops, h.labels⟩
theorem Tail.refl (s : RS) : Tail s s := ⟨rfl, rfl, rfl, rfl⟩

def Keeps (f : RM) : Prop := ∀ s s', f s = .ok s' → Same s s'
def Tails (f : RM) : Prop := ∀ s s', f s = .ok s' → Tail s s'

theorem tail_decl (nm : ByteArray) (pl kd : Int) : Tails (declP nm pl kd) := fun s s' e => by
  unfold declP at e
  split at e
  · cases e
  · split at e
    · cases e
    · obtain rfl := Except.ok.inj e
      refine ⟨?_, rfl, rfl, rfl⟩
      show (putVarP nm pl kd (varsAt s) (bumpP s)).blocks.drop 1 = s.blocks.drop 1
      unfold putVarP
      simp only
      have : (bumpP s).blocks = s.blocks := rfl
      rw [this]
      cases s.blocks <;> rfl

theorem keeps_each {α : Type} {f : α → RM} (hf : ∀ k, Keeps (f k)) : ∀ l, Keeps (eachP f l)
  | [], s, s', e => by obtain rfl := Except.ok.inj e; exact Same.refl s
  | k :: r, s, s', e => by
    obtain ⟨s1, e1, e2⟩ := bind_ok e
    exact (hf k s s1 e1).trans (keeps_each hf r s1 s' e2)

theorem tails_heads {α : Type} (nd : α → Nd) : ∀ l, Tails (headsP nd l)
  | [], s, s', e => by obtain rfl := Except.ok.inj e; exact Tail.refl s
  | k :: r, s, s', e => by
    obtain ⟨s1, e1, e2⟩ := bind_ok e
    have h1 : Tail s s1 := by
      split at e1
      · exact tail_decl _ _ _ s s1 e1
      · split at e1
        · exact tail_decl _ _ _ s s1 e1
        · split at e1
          · exact tail_decl _ _ _ s s1 e1
          · obtain rfl := Except.ok.inj e1; exact Tail.refl s
    exact h1.trans (tails_heads nd r s1 s' e2)

theorem tails_items {α : Type} (nd : α → Nd) {f : α → RM} (hf : ∀ k, Keeps (f k)) (l : List α) : Tails (itemsP nd f l) := fun s s' e => by
  obtain ⟨s1, e1, e2⟩ := bind_ok e
  exact (tails_heads nd l s s1 e1).trans (keeps_each hf l s1 s' e2).tail

theorem Tail.shut {s s' : RS} (h : Tail (openP s) s') : Same s (shutP s') := ⟨h.blocks, h.fn, h.loops, h.labels⟩

theorem keeps_block {α : Type} (nd : α → Nd) {f : α → RM} (hf : ∀ k, Keeps (f k)) (l : List α) : Keeps (blockP nd f l) := fun s s' e => by
  obtain ⟨s1, e1, e2⟩ := bind_ok e
  obtain rfl := Except.ok.inj e2
  exact (tails_items nd hf l _ s1 e1).shut

theorem keeps_loop {α : Type} {f : α → RM} (hf : ∀ k, Keeps (f k)) (l : List α) : Keeps (loopP f l) := fun s s' e => by
  obtain ⟨s1, e1, e2⟩ := bind_ok e
  obtain rfl := Except.ok.inj e2
  have h := keeps_each hf l _ s1 e1
  exact ⟨h.blocks, h.fn, by show s1.loops - 1 = s.loops; rw [h.loops]; simp, h.labels⟩

theorem keeps_catch {α : Type} (nd : α → Nd) {body : α → RM} (hb : ∀ k, Tails (body k)) (x : Nd) (c : Option α) : Keeps (catchP nd body x c) := fun s s' e => by
  unfold catchP at e
  cases c with
  | none => obtain rfl := Except.ok.inj e; exact Same.refl s
  | some c =>
    simp only at e
    split at e
    · obtain rfl := Except.ok.inj e; exact Same.refl s
    · obtain ⟨s2, e1, e2⟩ := bind_ok e
      obtain ⟨s3, e3, e4⟩ := bind_ok e2
      obtain rfl := Except.ok.inj e4
      exact ((tail_decl _ _ _ _ s2 e1).trans (hb c s2 s3 e3)).shut

theorem keeps_label {α : Type} {f : α → RM} (hf : ∀ k, Keeps (f k)) (x : Nd) (lead : Bool) (l : List α) : Keeps (labelP f x lead l) := fun s s' e => by
  unfold labelP at e
  split at e
  · cases e
  · obtain ⟨s1, e1, e2⟩ := bind_ok e
    obtain rfl := Except.ok.inj e2
    have h := keeps_each hf l _ s1 e1
    exact ⟨h.blocks, h.fn, h.loops, rfl⟩

theorem keeps_jump (x : Nd) : Keeps (jumpP x) := fun s s' e => by
  unfold jumpP at e
  generalize (if isS x.name [] then decide (0 < s.loops) else s.labels.any fun e => decide (e.1 = x.name) && (e.2 || x.kind == 39)) = b at e
  cases b with
  | true => obtain rfl := Except.ok.inj e; exact Same.refl s
  | false => cases e

theorem keeps_leave {α : Type} {f : α → RM} (hf : ∀ k, Keeps (f k)) (x : Nd) (l : List α) : Keeps (leaveP f x l) := fun s s' e => by
  unfold leaveP at e
  split at e
  · cases e
  · exact keeps_each hf l s s' e

theorem keeps_bind {f g : RM} (hf : Keeps f) (hg : Keeps g) : Keeps (fun s => (f s).bind g) := fun s s' e => by
  obtain ⟨s1, e1, e2⟩ := bind_ok e
  exact (hf s s1 e1).trans (hg s1 s' e2)

theorem keeps_loopOf {α : Type} {f g : α → RM} (hf : ∀ k, Keeps (f k)) (hg : ∀ k, Keeps (g k)) (x : Nd) (l : List α) :
    Keeps (fun s => (eachP f (l.take 1) s).bind fun s1 => (declP x.name x.pl (if isS x.op [99, 111, 110, 115, 116] then 2 else 1) (openP s1)).bind fun s2 => (loopP g (l.drop 1) s2).bind fun s3 => .ok (shutP s3)) := fun s s' e => by
  obtain ⟨s1, e1, e2⟩ := bind_ok e
  obtain ⟨s2, e3, e4⟩ := bind_ok e2
  obtain ⟨s3, e5, e6⟩ := bind_ok e4
  obtain rfl := Except.ok.inj e6
  exact (keeps_each hf _ s s1 e1).trans ((tail_decl _ _ _ _ s2 e3).trans (keeps_loop hg _ s2 s3 e5).tail).shut

theorem use_same (bi : ByteArray → Bool) (nm : ByteArray) (pl : Int) (s s' : RS) (v : Option Nat) (e : useP bi nm pl s = .ok (v, s')) : Same s s' := by
  unfold useP at e
  cases hf : findP nm s.blocks with
  | some w =>
    rw [hf] at e
    simp only at e
    obtain ⟨rfl, rfl⟩ := Prod.mk.inj (Except.ok.inj e)
    split <;> exact ⟨rfl, rfl, rfl, rfl⟩
  | none =>
    rw [hf] at e
    simp only at e
    split at e
    · obtain ⟨rfl, rfl⟩ := Prod.mk.inj (Except.ok.inj e)
      exact ⟨rfl, rfl, rfl, rfl⟩
    · cases e

end Go.Proofs.Ytihmdcdifakepab.Rz
