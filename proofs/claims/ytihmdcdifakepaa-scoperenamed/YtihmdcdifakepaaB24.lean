/- Whose variable a name is: names do not matter (ScopeRenamed): plain. -/
import Derived.Test.YtihmdcdifakepaaB22
namespace Go.Proofs.Ytihmdcdifakepaa.Rz
open Go.Proofs.Ytihmdcdifakepaa.Sc
set_option linter.unusedVariables false

/-- one by one -/
def All2 {α β : Type} (R : α → β → Prop) : List α → List β → Prop
  | [], [] => True
  | a :: l, b :: m => R a b ∧ All2 R l m
  | _, _ => False

theorem all2_len {α β : Type} {R : α → β → Prop} : ∀ {l : List α} {m : List β}, All2 R l m → l.length = m.length
  | [], [], _ => rfl
  | a :: l, b :: m, h => by rw [List.length_cons, List.length_cons, all2_len h.2]
  | [], b :: m, h => h.elim
  | a :: l, [], h => h.elim

theorem all2_take {α β : Type} {R : α → β → Prop} : ∀ (i : Nat) {l : List α} {m : List β}, All2 R l m → All2 R (l.take i) (m.take i)
  | 0, l, m, h => by rw [List.take_zero, List.take_zero]; trivial
  | i + 1, [], [], h => h
  | i + 1, a :: l, b :: m, h => ⟨h.1, all2_take i h.2⟩
  | i + 1, [], b :: m, h => h.elim
  | i + 1, a :: l, [], h => h.elim

theorem all2_drop {α β : Type} {R : α → β → Prop} : ∀ (i : Nat) {l : List α} {m : List β}, All2 R l m → All2 R (l.drop i) (m.drop i)
  | 0, l, m, h => h
  | i + 1, [], [], h => h
  | i + 1, a :: l, b :: m, h => all2_drop i h.2
  | i + 1, [], b :: m, h => h.elim
  | i + 1, a :: l, [], h => h.elim

theorem all2_at {α β : Type} {R : α → β → Prop} : ∀ (i : Nat) {l : List α} {m : List β}, All2 R l m → (l[i]? = none ∧ m[i]? = none) ∨ ∃ a b, l[i]? = some a ∧ m[i]? = some b ∧ R a b
  | i, [], [], h => Or.inl ⟨by simp, by simp⟩
  | 0, a :: l, b :: m, h => Or.inr ⟨a, b, rfl, rfl, h.1⟩
  | i + 1, a :: l, b :: m, h => by simpa using all2_at i h.2
  | i, [], b :: m, h => h.elim
  | i, a :: l, [], h => h.elim

section
variable (bi : ByteArray → Bool) (rho : ByteArray → ByteArray) (P : ByteArray → Prop)

/-- a way to name anew -/
structure Naming : Prop where
  inj : ∀ a b, P a → P b → rho a = rho b → a = b
  bi : ∀ a, P a → bi (rho a) = bi a
  nil : ∀ a, isS (rho a) [] = isS a []

/-- kinds whose names are named anew -/
def namedB (k : Int) : Bool := k == 3 || k == 31 || k == 32 || k == 33 || k == 12 || k == 38 || k == 43 || k == 41 || k == 39 || k == 40

/-- a node, named anew -/
structure NdR (x y : Nd) : Prop where
  kind : y.kind = x.kind
  pl : y.pl = x.pl
  op : y.op = x.op
  name : y.name = (if namedB x.kind then rho x.name else x.name)
  ok : P x.name

def RenT : (n : Nat) → Tr n → Tr n → Prop
  | 0, t, _ => nomatch (t : Empty)
  | n + 1, t, u => NdR rho P t.1 u.1 ∧ All2 (RenT n) t.2.xs u.2.xs

def renB (b : Blk) : Blk := b.map fun e => (rho e.1, e.2)
def renV (v : Vr) : Vr := { v with name := rho v.name }

structure Rn (s r : RS) : Prop where
  scopes : r.scopes = s.scopes
  vars : r.vars = s.vars.map (renV rho)
  uses : r.uses = s.uses
  blocks : r.blocks = s.blocks.map (renB rho)
  fn : r.fn = s.fn
  loops : r.loops = s.loops
  labels : r.labels = s.labels.map fun e => (rho e.1, e.2)
  okb : ∀ b ∈ s.blocks, ∀ e ∈ b, P e.1
  okl : ∀ e ∈ s.labels, P e.1

variable {bi rho P}

theorem nd_kind : ∀ (n : Nat) (t u : Tr n), RenT rho P n t u → NdR rho P (ndR n t) (ndR n u)
  | 0, t, u, h => nomatch (t : Empty)
  | n + 1, t, u, h => h.1

theorem eq_ren (N : Naming bi rho P) (a b : ByteArray) (ha : P a) (hb : P b) : decide (rho a = rho b) = decide (a = b) := by
  by_cases c : a = b
  · subst c; simp
  · have d : rho a ≠ rho b := fun e => c (N.inj a b ha hb e)
    rw [decide_eq_false c, decide_eq_false d]

theorem any_ren (N : Naming bi rho P) (nm : ByteArray) (hn : P nm) : ∀ b : Blk, (∀ e ∈ b, P e.1) → (renB rho b).any (fun e => decide (e.1 = rho nm)) = b.any (fun e => decide (e.1 = nm))
  | [], _ => rfl
  | e :: b, h => by
    show (decide (rho e.1 = rho nm) || (renB rho b).any _) = (decide (e.1 = nm) || b.any _)
    rw [eq_ren N e.1 nm (h e (by simp)) hn, any_ren N nm hn b (fun x hx => h x (by simp [hx]))]

theorem find_blk (N : Naming bi rho P) (nm : ByteArray) (hn : P nm) : ∀ b : Blk, (∀ e ∈ b, P e.1) → ((renB rho b).find? (fun e => decide (e.1 = rho nm))).map (·.2) = (b.find? (fun e => decide (e.1 = nm))).map (·.2)
  | [], _ => rfl
  | e :: b, h => by
    show (((rho e.1, e.2) :: renB rho b).find? _).map _ = _
    rw [List.find?_cons, List.find?_cons]
    have he := eq_ren N e.1 nm (h e (by simp)) hn
    simp only [he]
    cases decide (e.1 = nm) with
    | true => rfl
    | false => exact find_blk N nm hn b (fun x hx => h x (by simp [hx]))

theorem find_ren (N : Naming bi rho P) (nm : ByteArray) (hn : P nm) : ∀ bs : List Blk, (∀ b ∈ bs, ∀ e ∈ b, P e.1) → findP (rho nm) (bs.map (renB rho)) = findP nm bs
  | [], _ => rfl
  | b :: bs, h => by
    have h1 := find_blk N nm hn b (h b (by simp))
    have h2 := find_ren N nm hn bs (fun c hc => h c (by simp [hc]))
    rw [List.map_cons]
    unfold findP
    cases ha : (renB rho b).find? (fun e => decide (e.1 = rho nm)) with
    | none =>
      cases hb : b.find? (fun e => decide (e.1 = nm)) with
      | none => exact h2
      | some y => rw [ha, hb] at h1; cases h1
    | some x =>
      cases hb : b.find? (fun e => decide (e.1 = nm)) with
      | none => rw [ha, hb] at h1; cases h1
      | some y =>
        rw [ha, hb] at h1
        exact h1

theorem Rn.open' {s r : RS} (h : Rn rho P s r) : Rn rho P (openP s) (openP r) :=
  ⟨h.scopes, h.vars, h.uses, by show [] :: r.blocks = _; rw [h.blocks]; rfl, h.fn, h.loops, h.labels, fun b hb => by
    rcases List.mem_cons.1 hb with rfl | hb
    · intro e he; cases he
    · exact h.okb b hb, h.okl⟩

theorem Rn.shut {s r : RS} (h : Rn rho P s r) : Rn rho P (shutP s) (shutP r) :=
  ⟨h.scopes, h.vars, h.uses, by show r.blocks.drop 1 = (s.blocks.drop 1).map _; rw [h.blocks, List.map_drop], h.fn, h.loops, h.labels, fun b hb => h.okb b (List.mem_of_mem_drop hb), h.okl⟩

theorem Rn.bump {s r : RS} (h : Rn rho P s r) : Rn rho P (bumpP s) (bumpP r) :=
  ⟨by show r.scopes.modify r.fn _ = s.scopes.modify s.fn _; rw [h.scopes, h.fn], h.vars, h.uses, h.blocks, h.fn, h.loops, h.labels, h.okb, h.okl⟩

theorem Rn.put {s r : RS} (h : Rn rho P s r) (nm : ByteArray) (hn : P nm) (pl kd : Int) (slot : Nat) : Rn rho P (putVarP nm pl kd slot s) (putVarP (rho nm) pl kd slot r) := by
  have hvl : r.vars.length = s.vars.length := by rw [h.vars, List.length_map]
  refine ⟨h.scopes, ?_, h.uses, ?_, h.fn, h.loops, h.labels, ?_, h.okl⟩
  · show r.vars ++ [_] = (s.vars ++ [_]).map _
    rw [List.map_append, h.vars, h.fn]
    rfl
  · show (putVarP (rho nm) pl kd slot r).blocks = ((putVarP nm pl kd slot s).blocks).map _
    unfold putVarP
    simp only
    rw [h.blocks, hvl]
    cases s.blocks with
    | nil => rfl
    | cons b bs => rfl
  · intro b hb
    unfold putVarP at hb
    simp only at hb
    have hok := h.okb
    cases hs : s.blocks with
    | nil => rw [hs] at hb; cases hb
    | cons c cs =>
      rw [hs] at hb hok
      simp only at hb
      rcases List.mem_cons.1 hb with rfl | hb
      · intro e he
        rcases List.mem_cons.1 he with rfl | he
        · exact hn
        · exact hok c (by simp) e he
      · exact hok b (by simp [hb])

theorem rn_decl (N : Naming bi rho P) (nm : ByteArray) (hn : P nm) (pl kd : Int) (s r : RS) (h : Rn rho P s r) : Eqv (Rn rho P) (declP nm pl kd s) (declP (rho nm) pl kd r) := by
  have hv : varsAt r = varsAt s := by unfold varsAt; rw [h.scopes, h.fn]
  have ha : (r.blocks.headD []).any (fun e => decide (e.1 = rho nm)) = (s.blocks.headD []).any (fun e => decide (e.1 = nm)) := by
    rw [h.blocks]
    have hok := h.okb
    cases hs : s.blocks with
    | nil => rfl
    | cons b bs =>
      rw [hs] at hok
      exact any_ren N nm hn b (hok b (by simp))
  unfold declP
  rw [hv, ha]
  by_cases c : ((s.blocks.headD []).any fun e => decide (e.1 = nm)) = true
  · rw [if_pos c, if_pos c]
    rfl
  · rw [if_neg c, if_neg c]
    by_cases d : 200 ≤ varsAt s
    · rw [if_pos d, if_pos d]
      rfl
    · rw [if_neg d, if_neg d]
      exact h.bump.put nm hn pl kd _

theorem rn_each {α β : Type} {R : α → β → Prop} {f : α → RM} {g : β → RM} (hk : ∀ k j, R k j → ∀ s r, Rn rho P s r → Eqv (Rn rho P) (f k s) (g j r)) : ∀ (l : List α) (m : List β), All2 R l m → ∀ s r, Rn rho P s r → Eqv (Rn rho P) (eachP f l s) (eachP g m r)
  | [], [], _, s, r, h => h
  | k :: l, j :: m, ha, s, r, h => (hk k j ha.1 s r h).bind fun s1 r1 h1 => rn_each hk l m ha.2 s1 r1 h1
  | [], b :: m, ha, s, r, h => ha.elim
  | a :: l, [], ha, s, r, h => ha.elim
end

end Go.Proofs.Ytihmdcdifakepaa.Rz

/- ScopeRenamed, plain. -/
namespace Go.Proofs.Ytihmdcdifakepaa.Rz
open Go.Proofs.Ytihmdcdifakepaa.Sc
set_option linter.unusedVariables false

section
variable {bi : ByteArray → Bool} {rho : ByteArray → ByteArray} {P : ByteArray → Prop}

theorem NdR.nm {x y : Nd} (h : NdR rho P x y) (hk : namedB x.kind = true) : y.name = rho x.name := by rw [h.name, if_pos hk]

theorem self_ren (N : Naming bi rho P) {x y : Nd} (h : NdR rho P x y) : selfB y = selfB x := by
  unfold selfB
  rw [h.kind]
  by_cases c : x.kind = 12
  · rw [h.nm (by rw [c]; rfl), N.nil]
  · have : (x.kind == 12) = false := by simpa using c
    rw [this]
    rfl

theorem rn_heads {α β : Type} {R : α → β → Prop} (N : Naming bi rho P) (nd : α → Nd) (nd' : β → Nd) (hR : ∀ a b, R a b → NdR rho P (nd a) (nd' b)) : ∀ (l : List α) (m : List β), All2 R l m → ∀ s r, Rn rho P s r → Eqv (Rn rho P) (headsP nd l s) (headsP nd' m r)
  | [], [], _, s, r, h => h
  | k :: l, j :: m, ha, s, r, h => by
    have q := hR k j ha.1
    unfold headsP
    refine Eqv.bind (R := Rn rho P) ?_ fun s1 r1 h1 => rn_heads N nd nd' hR l m ha.2 s1 r1 h1
    rw [q.kind, q.pl]
    by_cases c1 : (nd k).kind = 31
    · rw [if_pos c1, if_pos c1, q.nm (by rw [c1]; rfl)]
      exact rn_decl N _ q.ok _ _ s r h
    rw [if_neg c1, if_neg c1]
    by_cases c2 : (nd k).kind = 32
    · rw [if_pos c2, if_pos c2, q.nm (by rw [c2]; rfl)]
      exact rn_decl N _ q.ok _ _ s r h
    rw [if_neg c2, if_neg c2]
    by_cases c3 : (nd k).kind = 33
    · rw [if_pos c3, if_pos c3, q.nm (by rw [c3]; rfl)]
      exact rn_decl N _ q.ok _ _ s r h
    rw [if_neg c3, if_neg c3]
    exact h
  | [], b :: m, ha, s, r, h => ha.elim
  | a :: l, [], ha, s, r, h => ha.elim

theorem rn_pars {α β : Type} {R : α → β → Prop} (N : Naming bi rho P) (nd : α → Nd) (nd' : β → Nd) (hR : ∀ a b, R a b → NdR rho P (nd a) (nd' b)) : ∀ (l : List α) (m : List β), (∀ k ∈ l, (nd k).kind = 3) → All2 R l m → ∀ s r, Rn rho P s r → Eqv (Rn rho P) (parsP nd l s) (parsP nd' m r)
  | [], [], _, _, s, r, h => h
  | k :: l, j :: m, hk, ha, s, r, h => by
    have q := hR k j ha.1
    unfold parsP
    refine Eqv.bind (R := Rn rho P) ?_ fun s1 r1 h1 => rn_pars N nd nd' hR l m (fun x hx => hk x (by simp [hx])) ha.2 s1 r1 h1
    rw [q.pl, q.nm (by rw [hk k (by simp)]; rfl)]
    exact rn_decl N _ q.ok _ _ s r h
  | [], b :: m, _, ha, s, r, h => ha.elim
  | a :: l, [], _, ha, s, r, h => ha.elim

theorem Rn.side {s r : RS} (h : Rn rho P s r) (a : Nat) (b : List (ByteArray × Bool)) (c : List (ByteArray × Bool)) (hc : c = b.map fun e => (rho e.1, e.2)) (hb : ∀ e ∈ b, P e.1) (k : Nat) : Rn rho P { s with fn := k, loops := a, labels := b } { r with fn := k, loops := a, labels := c } :=
  ⟨h.scopes, h.vars, h.uses, h.blocks, rfl, rfl, hc, h.okb, hb⟩

theorem rn_enter (N : Naming bi rho P) {x y : Nd} (q : NdR rho P x y) (many : Nat) (s r : RS) (h : Rn rho P s r) : Rn rho P (enterP x many s) (enterP y many r) := by
  have h1 : Rn rho P { s with scopes := s.scopes ++ [(⟨x.pl, (s.fn : Int), many, 0⟩ : Scp)], fn := s.scopes.length, loops := 0, labels := [] } { r with scopes := r.scopes ++ [(⟨y.pl, (r.fn : Int), many, 0⟩ : Scp)], fn := r.scopes.length, loops := 0, labels := [] } :=
    ⟨by show r.scopes ++ _ = s.scopes ++ _; rw [h.scopes, h.fn, q.pl], h.vars, h.uses, h.blocks, by show r.scopes.length = s.scopes.length; rw [h.scopes], rfl, rfl, h.okb, fun e he => by cases he⟩
  unfold enterP
  rw [self_ren N q]
  cases c : selfB x with
  | true =>
    simp only [if_true]
    have c12 : x.kind = 12 := by
      unfold selfB at c
      simp at c
      exact c.1
    rw [q.nm (by rw [c12]; rfl), q.pl]
    rw [q.pl] at h1
    exact (h1.open'.put x.name q.ok x.pl 5 many).open'
  | false => exact h1.open'.open'

theorem rn_function {α β : Type} {R : α → β → Prop} (N : Naming bi rho P) (nd : α → Nd) (nd' : β → Nd) (hR : ∀ a b, R a b → NdR rho P (nd a) (nd' b)) {f : α → RM} {g : β → RM} {x y : Nd} (q : NdR rho P x y) (l : List α) (m : List β) (ha : All2 R l m)
    (hp : ∀ k ∈ l.dropLast, (nd k).kind = 3) (hk : ∀ a b, l.getLast? = some a → R a b → ∀ s r, Rn rho P s r → Eqv (Rn rho P) (f a s) (g b r)) (s r : RS) (h : Rn rho P s r) : Eqv (Rn rho P) (functionP nd f x l s) (functionP nd' g y m r) := by
  unfold functionP
  have hlen := all2_len ha
  rw [h.scopes, q.pl]
  by_cases c : s.scopes.length = 200
  · rw [if_pos c, if_pos c]
    rfl
  · rw [if_neg c, if_neg c, List.getLast?_eq_getElem?, List.getLast?_eq_getElem?, ← hlen]
    rcases all2_at (l.length - 1) ha with ⟨e1, e2⟩ | ⟨a, b, e1, e2, hab⟩
    · rw [e1, e2]
      exact h
    · rw [e1, e2]
      simp only
      have hd : All2 R l.dropLast m.dropLast := by
        rw [List.dropLast_eq_take, List.dropLast_eq_take, ← hlen]
        exact all2_take _ ha
      refine (rn_pars N nd nd' hR _ _ hp hd _ _ (rn_enter N q _ s r h)).bind fun s1 r1 h1 => ?_
      rw [self_ren N q]
      have h2 : Rn rho P (if selfB x then bumpP s1 else s1) (if selfB x then bumpP r1 else r1) := by
        cases selfB x with
        | true => exact h1.bump
        | false => exact h1
      refine (hk a b (by rw [List.getLast?_eq_getElem?]; exact e1) hab _ _ h2).bind fun s2 r2 h3 => ?_
      have h4 := h3.shut.shut
      exact ⟨h4.scopes, h4.vars, h4.uses, h4.blocks, h.fn, h.loops, h.labels, h4.okb, h.okl⟩

theorem rn_use (N : Naming bi rho P) (nm : ByteArray) (hn : P nm) (pl : Int) (s r : RS) (h : Rn rho P s r) :
    (∃ e, useP bi nm pl s = .error e ∧ useP bi (rho nm) pl r = .error e) ∨ ∃ v s1 r1, useP bi nm pl s = .ok (v, s1) ∧ useP bi (rho nm) pl r = .ok (v, r1) ∧ Rn rho P s1 r1 := by
  have hfr : findP (rho nm) r.blocks = findP nm s.blocks := by rw [h.blocks]; exact find_ren N nm hn s.blocks h.okb
  unfold useP
  rw [hfr, N.bi nm hn]
  have hvf : ∀ v : Nat, ((r.vars[v]?).map (·.fn)).getD 0 = ((s.vars[v]?).map (·.fn)).getD 0 := fun v => by
    rw [h.vars, List.getElem?_map, Option.map_map]
    rfl
  cases findP nm s.blocks with
  | some v =>
    refine Or.inr ⟨_, _, _, rfl, rfl, ?_⟩
    have h1 : Rn rho P { s with uses := s.uses ++ [⟨pl, (v : Int)⟩] } { r with uses := r.uses ++ [⟨pl, (v : Int)⟩] } := ⟨h.scopes, h.vars, by show r.uses ++ _ = s.uses ++ _; rw [h.uses], h.blocks, h.fn, h.loops, h.labels, h.okb, h.okl⟩
    by_cases c : ((s.vars[v]?).map (·.fn)).getD 0 ≠ s.fn
    · have c' : ((r.vars[v]?).map (·.fn)).getD 0 ≠ r.fn := by rw [hvf, h.fn]; exact c
      rw [if_pos c, if_pos c']
      refine ⟨h1.scopes, ?_, h1.uses, h1.blocks, h1.fn, h1.loops, h1.labels, h1.okb, h1.okl⟩
      show r.vars.modify v _ = (s.vars.modify v _).map _
      rw [h.vars]
      refine List.ext_getElem? fun i => ?_
      simp only [List.getElem?_modify, List.getElem?_map]
      cases s.vars[i]? with
      | none => rfl
      | some z =>
        by_cases d : v = i <;> simp [d, renV]
    · have c' : ¬ ((r.vars[v]?).map (·.fn)).getD 0 ≠ r.fn := by rw [hvf, h.fn]; exact c
      rw [if_neg c, if_neg c']
      exact h1
  | none =>
    simp only
    cases bi nm with
    | true => exact Or.inr ⟨_, _, _, rfl, rfl, ⟨h.scopes, h.vars, by show r.uses ++ _ = s.uses ++ _; rw [h.uses], h.blocks, h.fn, h.loops, h.labels, h.okb, h.okl⟩⟩
    | false => exact Or.inl ⟨_, rfl, rfl⟩

theorem rn_stays (v : Option Nat) (s r : RS) (h : Rn rho P s r) : staysP v r = staysP v s := by
  unfold staysP
  cases v with
  | none => rfl
  | some v =>
    simp only
    rw [h.vars, List.getElem?_map, Option.map_map]
    rfl

theorem rn_loop {α β : Type} {R : α → β → Prop} {f : α → RM} {g : β → RM} (hk : ∀ k j, R k j → ∀ s r, Rn rho P s r → Eqv (Rn rho P) (f k s) (g j r)) (l : List α) (m : List β) (ha : All2 R l m) (s r : RS) (h : Rn rho P s r) : Eqv (Rn rho P) (loopP f l s) (loopP g m r) := by
  have h0 : Rn rho P { s with loops := s.loops + 1 } { r with loops := r.loops + 1 } := ⟨h.scopes, h.vars, h.uses, h.blocks, h.fn, by show r.loops + 1 = s.loops + 1; rw [h.loops], h.labels, h.okb, h.okl⟩
  exact (rn_each hk l m ha _ _ h0).bind fun s1 r1 q => ⟨q.scopes, q.vars, q.uses, q.blocks, q.fn, by show r1.loops - 1 = s1.loops - 1; rw [q.loops], q.labels, q.okb, q.okl⟩

theorem labels_any (N : Naming bi rho P) (nm : ByteArray) (hn : P nm) (c : Bool → Bool) : ∀ l : List (ByteArray × Bool), (∀ e ∈ l, P e.1) → (l.map fun e => (rho e.1, e.2)).any (fun e => decide (e.1 = rho nm) && c e.2) = l.any (fun e => decide (e.1 = nm) && c e.2)
  | [], _ => rfl
  | e :: l, h => by
    show ((decide (rho e.1 = rho nm) && c e.2) || (l.map _).any _) = ((decide (e.1 = nm) && c e.2) || l.any _)
    rw [eq_ren N e.1 nm (h e (by simp)) hn, labels_any N nm hn c l (fun x hx => h x (by simp [hx]))]

theorem rn_label {α β : Type} {R : α → β → Prop} (N : Naming bi rho P) {f : α → RM} {g : β → RM} (hk : ∀ k j, R k j → ∀ s r, Rn rho P s r → Eqv (Rn rho P) (f k s) (g j r)) {x y : Nd} (q : NdR rho P x y) (hx : x.kind = 41) (lead : Bool) (l : List α) (m : List β) (ha : All2 R l m) (s r : RS) (h : Rn rho P s r) : Eqv (Rn rho P) (labelP f x lead l s) (labelP g y lead m r) := by
  unfold labelP
  have e1 : (r.labels.any fun e => decide (e.1 = y.name)) = s.labels.any fun e => decide (e.1 = x.name) := by
    have := labels_any N x.name q.ok (fun _ => true) s.labels h.okl
    simp only [Bool.and_true] at this
    rw [h.labels, q.nm (by rw [hx]; rfl)]
    exact this
  rw [e1, q.pl]
  by_cases c : (s.labels.any fun e => decide (e.1 = x.name)) = true
  · rw [if_pos c, if_pos c]
    rfl
  · rw [if_neg c, if_neg c]
    have h0 : Rn rho P { s with labels := s.labels ++ [(x.name, lead)] } { r with labels := r.labels ++ [(y.name, lead)] } :=
      ⟨h.scopes, h.vars, h.uses, h.blocks, h.fn, h.loops, by show r.labels ++ _ = (s.labels ++ _).map _; rw [List.map_append, h.labels, q.nm (by rw [hx]; rfl)]; rfl, h.okb, fun e he => by
        rcases List.mem_append.1 he with he | he
        · exact h.okl e he
        · rw [List.mem_singleton.1 he]; exact q.ok⟩
    exact (rn_each hk l m ha _ _ h0).bind fun s1 r1 z => ⟨z.scopes, z.vars, z.uses, z.blocks, z.fn, z.loops, h.labels, z.okb, h.okl⟩

theorem rn_jump (N : Naming bi rho P) {x y : Nd} (q : NdR rho P x y) (hx : namedB x.kind = true) (s r : RS) (h : Rn rho P s r) : Eqv (Rn rho P) (jumpP x s) (jumpP y r) := by
  unfold jumpP
  have e1 : (if isS y.name [] then decide (0 < r.loops) else r.labels.any fun e => decide (e.1 = y.name) && (e.2 || y.kind == 39)) = (if isS x.name [] then decide (0 < s.loops) else s.labels.any fun e => decide (e.1 = x.name) && (e.2 || x.kind == 39)) := by
    rw [q.nm hx, N.nil, h.loops, h.labels, q.kind, labels_any N x.name q.ok (fun b => b || x.kind == 39) s.labels h.okl]
  rw [e1, q.pl]
  generalize (if isS x.name [] then decide (0 < s.loops) else s.labels.any fun e => decide (e.1 = x.name) && (e.2 || x.kind == 39)) = b
  cases b with
  | true => exact h
  | false => rfl

theorem lead_ren : ∀ (n : Nat) (t u : Tr n), RenT rho P n t u → leadT n u = leadT n t
  | 0, t, u, h => nomatch (t : Empty)
  | n + 1, t, u, h => by
    obtain ⟨x, a⟩ := t
    obtain ⟨y, b⟩ := u
    have hk : y.kind = x.kind := h.1.kind
    simp only [leadT]
    rw [hk]
    rcases all2_at 0 h.2 with ⟨e1, e2⟩ | ⟨p, q, e1, e2, hpq⟩
    · simp only at e1 e2
      rw [e1, e2]
    · simp only at e1 e2
      rw [e1, e2]
      simp only [Option.map_some, Option.getD_some]
      rw [lead_ren n p q hpq]
end

end Go.Proofs.Ytihmdcdifakepaa.Rz

/- ScopeRenamed, plain: of every right tree. -/
namespace Go.Proofs.Ytihmdcdifakepaa.Rz
open Go.Proofs.Ytihmdcdifakepaa.Sc
set_option linter.unusedVariables false

section
variable {bi : ByteArray → Bool} {rho : ByteArray → ByteArray} {P : ByteArray → Prop}

/-- a right tree, and its fellow that is named anew -/
def GR (rho : ByteArray → ByteArray) (P : ByteArray → Prop) (n : Nat) (t u : Tr n) : Prop := (∃ p, Good n p t) ∧ RenT rho P n t u

theorem all2_good {n : Nat} : ∀ {l m : List (Tr n)}, All2 (RenT rho P n) l m → (∀ k ∈ l, ∃ p, Good n p k) → All2 (GR rho P n) l m
  | [], [], _, _ => trivial
  | a :: l, b :: m, h, hg => ⟨⟨hg a (by simp), h.1⟩, all2_good h.2 (fun k hk => hg k (by simp [hk]))⟩
  | [], b :: m, h, _ => h.elim
  | a :: l, [], h, _ => h.elim

theorem rn_res (N : Naming bi rho P) : ∀ n,
    (∀ t u, GR rho P n t u → ∀ s r, Rn rho P s r → Eqv (Rn rho P) ((resP bi n).1 t s) ((resP bi n).1 u r)) ∧
    (∀ t u, GR rho P n t u → (ndR n t).kind = 44 → ∀ s r, Rn rho P s r → Eqv (Rn rho P) ((resP bi n).2 t s) ((resP bi n).2 u r))
  | 0 => ⟨(fun t => nomatch (t : Empty)), (fun t => nomatch (t : Empty))⟩
  | n + 1 => by
    obtain ⟨i1, i2⟩ := rn_res N n
    have hR : ∀ a b, GR rho P n a b → NdR rho P (ndR n a) (ndR n b) := fun a b h => nd_kind n a b h.2
    have hkids : ∀ (t u : Tr (n + 1)) p, p ≠ 110 → Good (n + 1) p t → RenT rho P (n + 1) t u → All2 (GR rho P n) t.2.xs u.2.xs := fun t u p hp hg h => by
      refine all2_good h.2 fun k hk => ?_
      rcases good_parts n p t hg with ⟨_, _, e⟩ | ⟨_, _, e⟩
      · rw [e] at hk; cases hk
      · obtain ⟨hlen, hgood⟩ := e.resolve_left hp
        obtain ⟨q, _, h2⟩ := good_all hlen hgood (fun _ => True) (fun _ _ => trivial) k hk
        exact ⟨q, h2⟩
    refine ⟨?_, ?_⟩
    · rintro t u ⟨⟨p, hg⟩, h⟩ s r hs
      have q := h.1
      have hk := q.kind
      by_cases c3 : t.1.kind = 3
      · simp only [resP]
        rw [hk, if_pos c3, if_pos c3, q.pl, q.nm (by rw [c3]; rfl)]
        rcases rn_use N t.1.name q.ok t.1.pl s r hs with ⟨e, e1, e2⟩ | ⟨v, s1, r1, e1, e2, e3⟩
        · rw [e1, e2]; rfl
        · rw [e1, e2]; exact e3
      have hp : p ≠ 110 := by
        rintro rfl
        rcases good_parts n 110 t hg with ⟨_, e, _⟩ | ⟨_, e, _⟩
        · exact absurd e (by decide)
        · exact c3 (by simpa [isPartB] using e)
      have ha := hkids t u p hp hg h
      simp only [resP]
      rw [hk, if_neg c3, if_neg c3]
      by_cases c21 : t.1.kind = 21 ∨ t.1.kind = 17
      · rw [if_pos c21, if_pos c21]
        unfold giveP
        cases hx : t.2.xs with
        | nil =>
          cases hy : u.2.xs with
          | nil => exact hs
          | cons b m => rw [hx, hy] at ha; exact ha.elim
        | cons a l =>
          cases hy : u.2.xs with
          | nil => rw [hx, hy] at ha; exact ha.elim
          | cons b m =>
            rw [hx, hy] at ha
            have qa := hR a b ha.1
            simp only
            rw [qa.kind]
            by_cases d : (ndR n a).kind = 3
            · rw [if_pos d, if_pos d, qa.pl, qa.nm (by rw [d]; rfl)]
              rcases rn_use N (ndR n a).name qa.ok (ndR n a).pl s r hs with ⟨e, e1, e2⟩ | ⟨v, s1, r1, e1, e2, e3⟩
              · rw [e1, e2]; rfl
              · rw [e1, e2]
                simp only
                rw [rn_stays v s1 r1 e3]
                cases staysP v s1 with
                | true => rfl
                | false => exact rn_each i1 l m ha.2 s1 r1 e3
            · rw [if_neg d, if_neg d]
              exact rn_each i1 (a :: l) (b :: m) ha s r hs
      rw [if_neg c21, if_neg c21]
      by_cases c12 : t.1.kind = 12 ∨ t.1.kind = 33
      · rw [if_pos c12, if_pos c12]
        have hk0 : t.1.kind ≠ 0 := by omega
        obtain ⟨_, hpart, hq⟩ := (good_parts n p t hg).resolve_left (fun h => hk0 h.1)
        obtain ⟨hlen, hgood⟩ := hq.resolve_left hp
        have hps : partsI t.1.kind t.2.xs.length = List.replicate (t.2.xs.length - 1) 110 ++ [98] := by
          rcases c12 with c | c <;> (rw [c]; rfl)
        refine rn_function N (ndR n) (ndR n) hR q t.2.xs u.2.xs ha (fun k hk' => ?_) (fun a b hl hab s2 r2 hs2 => ?_) s r hs
        · obtain ⟨i, hi, e⟩ := List.getElem_of_mem hk'
          rw [List.length_dropLast] at hi
          rw [List.getElem_dropLast] at e
          have hgk := hgood i 110 k (by rw [hps, List.getElem?_append_left (by rw [List.length_replicate]; exact hi), List.getElem?_replicate, if_pos hi]) (by rw [← e]; exact List.getElem?_eq_getElem _)
          cases n with
          | zero => exact nomatch (k : Empty)
          | succ m =>
            rcases good_parts m 110 k hgk with ⟨_, e, _⟩ | ⟨_, e, _⟩
            · exact absurd e (by decide)
            · show k.1.kind = 3
              simpa [isPartB] using e
        · have hx : t.2.xs ≠ [] := by intro e; rw [e] at hl; simp at hl
          have hl0 : 0 < t.2.xs.length := List.length_pos_iff.2 hx
          have hb1 : t.2.xs[t.2.xs.length - 1]? = some a := by rw [List.getLast?_eq_getElem?] at hl; exact hl
          have hgb := hgood (t.2.xs.length - 1) 98 a (by rw [hps]; simp) hb1
          cases n with
          | zero => exact nomatch (a : Empty)
          | succ m =>
            refine i2 a b hab ?_ s2 r2 hs2
            rcases good_parts m 98 a hgb with ⟨_, h1, _⟩ | ⟨_, h1, _⟩
            · exact absurd h1 (by decide)
            · show a.1.kind = 44
              simpa [isPartB] using h1
      rw [if_neg c12, if_neg c12]
      by_cases c44 : t.1.kind = 44
      · rw [if_pos c44, if_pos c44]
        unfold blockP itemsP
        exact ((rn_heads N (ndR n) (ndR n) hR _ _ ha _ _ hs.open').bind fun s1 r1 h1 => rn_each i1 _ _ ha s1 r1 h1).bind fun s1 r1 h1 => h1.shut
      rw [if_neg c44, if_neg c44]
      by_cases c43 : t.1.kind = 43
      · rw [if_pos c43, if_pos c43]
        have hk0 : t.1.kind ≠ 0 := by omega
        obtain ⟨_, hpart, hq⟩ := (good_parts n p t hg).resolve_left (fun h => hk0 h.1)
        obtain ⟨hlen, hgood⟩ := hq.resolve_left hp
        unfold tryP
        refine (rn_each i1 _ _ (all2_take 1 ha) s r hs).bind fun s1 r1 h1 => Eqv.bind (R := Rn rho P) ?_ fun s2 r2 h2 => rn_each i1 _ _ (all2_drop 2 ha) s2 r2 h2
        unfold catchP
        rcases all2_at 1 ha with ⟨e1, e2⟩ | ⟨a, b, e1, e2, hab⟩
        · rw [e1, e2]
          exact h1
        · rw [e1, e2]
          simp only
          rw [(hR a b hab).kind]
          by_cases d : (ndR n a).kind = 0
          · rw [if_pos d, if_pos d]
            exact h1
          · rw [if_neg d, if_neg d, q.pl, q.nm (by rw [c43]; rfl)]
            refine (rn_decl N _ q.ok _ _ _ _ h1.open').bind fun s2 r2 h2 => Eqv.bind (R := Rn rho P) ?_ fun s3 r3 h3 => h3.shut
            refine i2 a b hab ?_ s2 r2 h2
            have hga := hgood 1 66 a (by rw [c43]; rfl) e1
            cases n with
            | zero => exact nomatch (a : Empty)
            | succ m =>
              rcases good_parts m 66 a hga with ⟨h4, _, _⟩ | ⟨_, h4, _⟩
              · exact absurd h4 d
              · show a.1.kind = 44
                simpa [isPartB] using h4
      rw [if_neg c43, if_neg c43]
      by_cases c36 : t.1.kind = 36 ∨ t.1.kind = 37
      · rw [if_pos c36, if_pos c36]
        exact rn_loop i1 _ _ ha s r hs
      rw [if_neg c36, if_neg c36]
      by_cases c38 : t.1.kind = 38
      · rw [if_pos c38, if_pos c38]
        unfold loopOfP
        rw [q.pl, q.op, q.nm (by rw [c38]; rfl)]
        exact (rn_each i1 _ _ (all2_take 1 ha) s r hs).bind fun s1 r1 h1 => (rn_decl N _ q.ok _ _ _ _ h1.open').bind fun s2 r2 h2 => (rn_loop i1 _ _ (all2_drop 1 ha) s2 r2 h2).bind fun s3 r3 h3 => h3.shut
      rw [if_neg c38, if_neg c38]
      by_cases c41 : t.1.kind = 41
      · rw [if_pos c41, if_pos c41, lead_ren (n + 1) t u h]
        exact rn_label N i1 q c41 _ _ _ ha s r hs
      rw [if_neg c41, if_neg c41]
      by_cases c39 : t.1.kind = 39 ∨ t.1.kind = 40
      · rw [if_pos c39, if_pos c39]
        exact rn_jump N q (by rcases c39 with c | c <;> (rw [c]; rfl)) s r hs
      rw [if_neg c39, if_neg c39]
      by_cases c34 : t.1.kind = 34
      · rw [if_pos c34, if_pos c34]
        unfold leaveP
        rw [hs.fn, q.pl]
        by_cases d : s.fn = 0
        · rw [if_pos d, if_pos d]
          rfl
        · rw [if_neg d, if_neg d]
          exact rn_each i1 _ _ ha s r hs
      rw [if_neg c34, if_neg c34]
      exact rn_each i1 _ _ ha s r hs
    · rintro t u ⟨⟨p, hg⟩, h⟩ hk s r hs
      have hk' : t.1.kind = 44 := hk
      have hp : p ≠ 110 := by
        rintro rfl
        rcases good_parts n 110 t hg with ⟨_, e, _⟩ | ⟨_, e, _⟩
        · exact absurd e (by decide)
        · have : t.1.kind = 3 := by simpa [isPartB] using e
          omega
      have ha := hkids t u p hp hg h
      show Eqv (Rn rho P) (itemsP (ndR n) (resP bi n).1 t.2.xs s) (itemsP (ndR n) (resP bi n).1 u.2.xs r)
      unfold itemsP
      exact (rn_heads N (ndR n) (ndR n) hR _ _ ha _ _ hs).bind fun s1 r1 h1 => rn_each i1 _ _ ha s1 r1 h1

/-- ScopeRenamed, plain: of a right program -/
theorem renamed_plain (N : Naming bi rho P) (n : Nat) (t u : Tr (n + 1)) (h : RenT rho P (n + 1) t u) (hl : (partsI 47 t.2.xs.length).length = t.2.xs.length) (hg : ∀ (i : Nat) (q : UInt8) (k : Tr n), (partsI 47 t.2.xs.length)[i]? = some q → t.2.xs[i]? = some k → Good n q k) :
    Eqv (Rn rho P) (resolveP bi (n + 1) t) (resolveP bi (n + 1) u) := by
  obtain ⟨i1, i2⟩ := rn_res N n
  have hR : ∀ a b, GR rho P n a b → NdR rho P (ndR n a) (ndR n b) := fun a b h => nd_kind n a b h.2
  have ha : All2 (GR rho P n) t.2.xs u.2.xs := all2_good h.2 fun k hk => by
    obtain ⟨q, _, h2⟩ := good_all hl hg (fun _ => True) (fun _ _ => trivial) k hk
    exact ⟨q, h2⟩
  show Eqv (Rn rho P) (blockP (ndR n) (resP bi n).1 t.2.xs (startP t.1.pl)) (blockP (ndR n) (resP bi n).1 u.2.xs (startP u.1.pl))
  rw [h.1.pl]
  have h0 : Rn rho P (startP t.1.pl) (startP t.1.pl) := ⟨rfl, rfl, rfl, rfl, rfl, rfl, rfl, (fun b hb => by simp [startP] at hb), (fun e he => by simp [startP] at he)⟩
  unfold blockP itemsP
  exact ((rn_heads N (ndR n) (ndR n) hR _ _ ha _ _ h0.open').bind fun s1 r1 h1 => rn_each i1 _ _ ha s1 r1 h1).bind fun s1 r1 h1 => h1.shut
end

end Go.Proofs.Ytihmdcdifakepaa.Rz
