/- Whose variable a name is, as the program goes through a tree: plain. -/
import Derived.Test.YtihmdcdifakepabSD
namespace Go.Proofs.Ytihmdcdifakepab.Rz
open Go.Proofs.Ytihmdcdifakepab.Sc
set_option linter.unusedVariables false

structure Vr where
  name : ByteArray
  pl : Int
  kind : Int
  fn : Nat
  slot : Nat
  cap : Bool
structure Scp where
  pl : Int
  parent : Int
  params : Nat
  vars : Nat
structure Us where
  pl : Int
  var : Int

/-- the resolver: what is told; the blocks around, the innermost first; the innermost function -/
structure RS where
  scopes : List Scp
  vars : List Vr
  uses : List Us
  blocks : List (List (ByteArray × Nat))
  fn : Nat
  loops : Nat
  labels : List (ByteArray × Bool)

/-- what is thrown: a place, a code -/
abbrev Er := Int × Int
abbrev RM := RS → Except Er RS

def varsAt (s : RS) : Nat := ((s.scopes[s.fn]?).map (·.vars)).getD 0

def bumpP (s : RS) : RS := { s with scopes := s.scopes.modify s.fn (fun x => { x with vars := x.vars + 1 }) }

def putVarP (nm : ByteArray) (pl kd : Int) (slot : Nat) (s : RS) : RS :=
  { s with
    blocks := match s.blocks with
      | [] => []
      | b :: r => ((nm, s.vars.length) :: b) :: r
    vars := s.vars ++ [⟨nm, pl, kd, s.fn, slot, false⟩] }

def declP (nm : ByteArray) (pl kd : Int) (s : RS) : Except Er RS :=
  if (s.blocks.headD []).any (fun e => decide (e.1 = nm)) then .error (pl, 71)
  else if 200 ≤ varsAt s then .error (pl, 72)
  else .ok (putVarP nm pl kd (varsAt s) (bumpP s))

def findP (nm : ByteArray) : List (List (ByteArray × Nat)) → Option Nat
  | [] => none
  | b :: r => match b.find? (fun e => decide (e.1 = nm)) with
    | some e => some e.2
    | none => findP nm r

def capP (v : Nat) (s : RS) : RS := { s with vars := s.vars.modify v (fun x => { x with cap := true }) }

/-- a name that is used; its place -/
def useP (bi : ByteArray → Bool) (nm : ByteArray) (pl : Int) (s : RS) : Except Er (Option Nat × RS) :=
  match findP nm s.blocks with
  | some v =>
    let s1 : RS := { s with uses := s.uses ++ [⟨pl, (v : Int)⟩] }
    .ok (some v, if ((s.vars[v]?).map (·.fn)).getD 0 ≠ s.fn then capP v s1 else s1)
  | none => if bi nm then .ok (none, { s with uses := s.uses ++ [⟨pl, -1⟩] }) else .error (pl, 73)

/-- can nothing be given to it? -/
def staysP (v : Option Nat) (s : RS) : Bool := match v with
  | none => true
  | some v => ((s.vars[v]?).map (fun x => x.kind == 2 || x.kind == 5)).getD false

def eachP {α : Type} (f : α → RM) : List α → RM
  | [], s => .ok s
  | k :: r, s => (f k s).bind (eachP f r)

def ndR : (n : Nat) → Tr n → Nd
  | 0, t => nomatch (t : Empty)
  | _ + 1, (x, _) => x

def openP (s : RS) : RS := { s with blocks := [] :: s.blocks }
def shutP (s : RS) : RS := { s with blocks := s.blocks.drop 1 }

/-- what a block's own statements declare -/
def headsP {α : Type} (nd : α → Nd) : List α → RM
  | [], s => .ok s
  | k :: r, s =>
    (if (nd k).kind = 31 then declP (nd k).name (nd k).pl 1 s
     else if (nd k).kind = 32 then declP (nd k).name (nd k).pl 2 s
     else if (nd k).kind = 33 then declP (nd k).name (nd k).pl 4 s
     else .ok s).bind (headsP nd r)

def itemsP {α : Type} (nd : α → Nd) (f : α → RM) (l : List α) (s : RS) : Except Er RS := (headsP nd l s).bind (eachP f l)

def blockP {α : Type} (nd : α → Nd) (f : α → RM) (l : List α) (s : RS) : Except Er RS := (itemsP nd f l (openP s)).bind fun s => .ok (shutP s)

def parsP {α : Type} (nd : α → Nd) : List α → RM
  | [], s => .ok s
  | k :: r, s => (declP (nd k).name (nd k).pl 3 s).bind (parsP nd r)

/-- a function's beginning: its scope, its own name -/
def enterP (x : Nd) (many : Nat) (s : RS) : RS :=
  let s1 : RS := openP { s with scopes := s.scopes ++ [⟨x.pl, s.fn, many, 0⟩], fn := s.scopes.length, loops := 0, labels := [] }
  openP (if selfB x then putVarP x.name x.pl 5 many s1 else s1)

def functionP {α : Type} (nd : α → Nd) (body : α → RM) (x : Nd) (l : List α) (s : RS) : Except Er RS :=
  if s.scopes.length = 200 then .error (x.pl, 72)
  else match l.getLast? with
    | none => .ok s
    | some b => (parsP nd l.dropLast (enterP x (l.length - 1) s)).bind fun s1 =>
      (body b (if selfB x then bumpP s1 else s1)).bind fun s2 => .ok { shutP (shutP s2) with fn := s.fn, loops := s.loops, labels := s.labels }

def loopP {α : Type} (f : α → RM) (l : List α) (s : RS) : Except Er RS :=
  (eachP f l { s with loops := s.loops + 1 }).bind fun s1 => .ok { s1 with loops := s1.loops - 1 }

def loopOfP {α : Type} (f : α → RM) (x : Nd) (l : List α) (s : RS) : Except Er RS :=
  (eachP f (l.take 1) s).bind fun s1 =>
    (declP x.name x.pl (if isS x.op [99, 111, 110, 115, 116] then 2 else 1) (openP s1)).bind fun s2 =>
      (loopP f (l.drop 1) s2).bind fun s3 => .ok (shutP s3)

def catchP {α : Type} (nd : α → Nd) (body : α → RM) (x : Nd) (c : Option α) (s : RS) : Except Er RS :=
  match c with
  | none => .ok s
  | some c => if (nd c).kind = 0 then .ok s else (declP x.name x.pl 6 (openP s)).bind fun s2 => (body c s2).bind fun s3 => .ok (shutP s3)

def tryP {α : Type} (nd : α → Nd) (f body : α → RM) (x : Nd) (l : List α) (s : RS) : Except Er RS :=
  (eachP f (l.take 1) s).bind fun s1 => (catchP nd body x l[1]? s1).bind (eachP f (l.drop 2))

/-- does a label stand at a loop, or at labels of one? -/
def leadT : (n : Nat) → Tr n → Bool
  | 0, t => nomatch (t : Empty)
  | n + 1, (x, s) => if x.kind = 41 then ((s.xs[0]?).map (leadT n)).getD false else decide (36 ≤ x.kind) && decide (x.kind ≤ 38)

def labelP {α : Type} (f : α → RM) (x : Nd) (lead : Bool) (l : List α) (s : RS) : Except Er RS :=
  if s.labels.any (fun e => decide (e.1 = x.name)) then .error (x.pl, 75)
  else (eachP f l { s with labels := s.labels ++ [(x.name, lead)] }).bind fun s1 => .ok { s1 with labels := s.labels }

def jumpP (x : Nd) (s : RS) : Except Er RS :=
  if (if isS x.name [] then decide (0 < s.loops) else s.labels.any fun e => decide (e.1 = x.name) && (e.2 || x.kind == 39)) then .ok s else .error (x.pl, 75)

def leaveP {α : Type} (f : α → RM) (x : Nd) (l : List α) (s : RS) : Except Er RS := if s.fn = 0 then .error (x.pl, 76) else eachP f l s

def giveP {α : Type} (bi : ByteArray → Bool) (nd : α → Nd) (f : α → RM) (l : List α) (s : RS) : Except Er RS :=
  match l with
  | [] => .ok s
  | t :: r => if (nd t).kind = 3 then
      match useP bi (nd t).name (nd t).pl s with
      | .error e => .error e
      | .ok (v, s1) => if staysP v s1 then .error ((nd t).pl, 74) else eachP f r s1
    else eachP f l s

/-- a node; and, of a node, what stands in it as a block's statements -/
def resP (bi : ByteArray → Bool) : (n : Nat) → (Tr n → RM) × (Tr n → RM)
  | 0 => ((fun t => nomatch (t : Empty)), (fun t => nomatch (t : Empty)))
  | n + 1 =>
    (fun t s =>
      let x := t.1
      let l := t.2.xs
      let f := (resP bi n).1
      if x.kind = 3 then (match useP bi x.name x.pl s with | .error e => .error e | .ok (_, s1) => .ok s1)
      else if x.kind = 21 ∨ x.kind = 17 then giveP bi (ndR n) f l s
      else if x.kind = 12 ∨ x.kind = 33 then functionP (ndR n) (resP bi n).2 x l s
      else if x.kind = 44 then blockP (ndR n) f l s
      else if x.kind = 43 then tryP (ndR n) f (resP bi n).2 x l s
      else if x.kind = 36 ∨ x.kind = 37 then loopP f l s
      else if x.kind = 38 then loopOfP f x l s
      else if x.kind = 41 then labelP f x (leadT (n + 1) t) l s
      else if x.kind = 39 ∨ x.kind = 40 then jumpP x s
      else if x.kind = 34 then leaveP f x l s
      else eachP f l s,
     fun t s => itemsP (ndR n) (resP bi n).1 t.2.xs s)

def startP (pl : Int) : RS := ⟨[⟨pl, -1, 0, 0⟩], [], [], [], 0, 0, []⟩

/-- a program: what is told, or what is thrown -/
def resolveP (bi : ByteArray → Bool) (n : Nat) (t : Tr n) : Except Er RS :=
  match n, t with
  | 0, t => nomatch (t : Empty)
  | n + 1, t => blockP (ndR n) (resP bi n).1 t.2.xs (startP t.1.pl)

end Go.Proofs.Ytihmdcdifakepab.Rz

/- Whose variable a name is: what holds of what is told (ScopeUses): plain. -/
namespace Go.Proofs.Ytihmdcdifakepab.Rz
open Go.Proofs.Ytihmdcdifakepab.Sc
set_option linter.unusedVariables false

theorem bind_ok {α β : Type} {x : Except Er α} {f : α → Except Er β} {b : β} (h : x.bind f = .ok b) : ∃ a, x = .ok a ∧ f a = .ok b := by
  cases x with
  | error e => cases h
  | ok a => exact ⟨a, rfl, h⟩

def pr (v : Vr) : Nat × Nat := (v.fn, v.slot)

/-- the slots of a function's variables -/
def slotsOf (l : List (Nat × Nat)) (i : Nat) : List Nat := (l.filter (fun p => p.1 == i)).map (·.2)

theorem slots_app (l : List (Nat × Nat)) (p : Nat × Nat) (i : Nat) : slotsOf (l ++ [p]) i = slotsOf l i ++ (if p.1 = i then [p.2] else []) := by
  unfold slotsOf
  rw [List.filter_append, List.map_append]
  congr 1
  by_cases c : p.1 = i
  · simp [c]
  · simp [c]

theorem slots_none (l : List (Nat × Nat)) (i : Nat) (h : ∀ p ∈ l, p.1 ≠ i) : slotsOf l i = [] := by
  unfold slotsOf
  rw [List.filter_eq_nil_iff.2 (fun p hp => by simpa using h p hp)]
  rfl

theorem map_modify {α β : Type} (g : α → β) (f : α → α) (hf : ∀ x, g (f x) = g x) : ∀ (l : List α) (i : Nat), (l.modify i f).map g = l.map g
  | [], i => by cases i <;> rfl
  | x :: l, 0 => by simp [hf]
  | x :: l, i + 1 => by simp [map_modify g f hf l i]

/-- what holds on the way; ex: slots of the innermost function's that are there ahead of their time; pm: its parameters are on their way -/
structure Inv (s : RS) (ex : List Nat) (pm : Bool) : Prop where
  fnl : s.fn < s.scopes.length
  par : ∀ (i : Nat) (x : Scp), s.scopes[i]? = some x → x.parent < (i : Int) ∧ (x.parent < 0 ↔ i = 0)
  slo : ∀ (i : Nat) (x : Scp), s.scopes[i]? = some x → (slotsOf (s.vars.map pr) i).Perm (List.range x.vars ++ (if i = s.fn then ex else []))
  pms : ∀ (i : Nat) (x : Scp), s.scopes[i]? = some x → (i ≠ s.fn ∨ pm = false) → x.params ≤ x.vars
  vfn : ∀ p ∈ s.vars.map pr, p.1 < s.scopes.length
  blk : ∀ b ∈ s.blocks, ∀ e ∈ b, e.2 < s.vars.length
  use : ∀ u ∈ s.uses, -1 ≤ u.var ∧ u.var < (s.vars.length : Int)

theorem Inv.open' {s : RS} {ex : List Nat} {pm : Bool} (h : Inv s ex pm) : Inv (openP s) ex pm :=
  ⟨h.fnl, h.par, h.slo, h.pms, h.vfn, fun b hb => by
    rcases List.mem_cons.1 hb with rfl | hb
    · intro e he; cases he
    · exact h.blk b hb, h.use⟩

theorem Inv.shut {s : RS} {ex : List Nat} {pm : Bool} (h : Inv s ex pm) : Inv (shutP s) ex pm :=
  ⟨h.fnl, h.par, h.slo, h.pms, h.vfn, fun b hb => h.blk b (List.mem_of_mem_drop hb), h.use⟩

theorem perm_late (a e : List Nat) (n : Nat) : (a ++ e ++ [n]).Perm (a ++ [n] ++ e) := by
  rw [List.append_assoc, List.append_assoc]
  exact List.Perm.append_left a List.perm_append_comm

/-- the function's scope, a variable more -/
theorem scope_bump (s : RS) (i : Nat) (x : Scp) (h : (bumpP s).scopes[i]? = some x) : ∃ y, s.scopes[i]? = some y ∧ x.parent = y.parent ∧ x.params = y.params ∧ x.vars = y.vars + (if i = s.fn then 1 else 0) := by
  unfold bumpP at h
  simp only [List.getElem?_modify] at h
  cases hy : s.scopes[i]? with
  | none => rw [hy] at h; cases h
  | some y =>
    rw [hy] at h
    by_cases c : s.fn = i
    · simp [c] at h
      subst h
      exact ⟨y, rfl, rfl, rfl, by rw [if_pos c.symm]⟩
    · simp [c] at h
      subst h
      exact ⟨y, rfl, rfl, rfl, by rw [if_neg (fun e => c e.symm)]; rfl⟩

theorem bump_len (s : RS) : (bumpP s).scopes.length = s.scopes.length := by simp [bumpP]

theorem vars_at (s : RS) (x : Scp) (h : s.scopes[s.fn]? = some x) : varsAt s = x.vars := by unfold varsAt; rw [h]; rfl

theorem put_blocks (nm : ByteArray) (pl kd : Int) (slot : Nat) (s : RS) (h : ∀ b ∈ s.blocks, ∀ e ∈ b, e.2 < s.vars.length) : ∀ b ∈ (putVarP nm pl kd slot s).blocks, ∀ e ∈ b, e.2 < (putVarP nm pl kd slot s).vars.length := by
  have hl : (putVarP nm pl kd slot s).vars.length = s.vars.length + 1 := by simp [putVarP]
  rw [hl]
  intro b hb e he
  unfold putVarP at hb
  simp only at hb
  cases hs : s.blocks with
  | nil => rw [hs] at hb; cases hb
  | cons c r =>
    rw [hs] at hb h
    simp only at hb
    rcases List.mem_cons.1 hb with rfl | hb
    · rcases List.mem_cons.1 he with rfl | he
      · simp
      · have := h c (by simp) e he; omega
    · have := h b (by simp [hb]) e he; omega

theorem Inv.decl {s s' : RS} {ex : List Nat} {pm : Bool} (h : Inv s ex pm) {nm : ByteArray} {pl kd : Int} (e : declP nm pl kd s = .ok s') : Inv s' ex pm ∧ s'.fn = s.fn ∧ s'.scopes.length = s.scopes.length ∧ varsAt s' = varsAt s + 1 ∧ (∀ (i : Nat) (x' : Scp), s'.scopes[i]? = some x' → ∃ x, s.scopes[i]? = some x ∧ x'.params = x.params) := by
  unfold declP at e
  split at e
  · cases e
  · split at e
    · cases e
    · obtain rfl := Except.ok.inj e
      have hsc : (putVarP nm pl kd (varsAt s) (bumpP s)).scopes = (bumpP s).scopes := rfl
      have hvs : ((putVarP nm pl kd (varsAt s) (bumpP s)).vars).map pr = s.vars.map pr ++ [(s.fn, varsAt s)] := by
        show ((bumpP s).vars ++ [_]).map pr = _
        rw [List.map_append]
        rfl
      have hfn : (putVarP nm pl kd (varsAt s) (bumpP s)).fn = s.fn := rfl
      have hvl : (putVarP nm pl kd (varsAt s) (bumpP s)).vars.length = s.vars.length + 1 := by simp [putVarP, bumpP]
      refine ⟨⟨?_, ?_, ?_, ?_, ?_, ?_, ?_⟩, rfl, bump_len s, ?_, ?_⟩
      · rw [hsc, bump_len]; exact h.fnl
      · intro i x hx
        rw [hsc] at hx
        obtain ⟨y, h1, h2, _, _⟩ := scope_bump s i x hx
        rw [h2]
        exact h.par i y h1
      · intro i x hx
        rw [hsc] at hx
        obtain ⟨y, h1, _, _, h4⟩ := scope_bump s i x hx
        rw [hvs, slots_app, hfn, h4]
        have hp := h.slo i y h1
        by_cases c : i = s.fn
        · subst c
          rw [if_pos rfl] at hp ⊢
          rw [if_pos rfl, if_pos rfl, List.range_succ, vars_at s y h1]
          exact (hp.append_right _).trans (perm_late _ _ _)
        · rw [if_neg c] at hp ⊢
          rw [if_neg (fun e => c e.symm), if_neg c, List.append_nil]
          exact hp
      · intro i x hx hi
        rw [hsc] at hx
        obtain ⟨y, h1, _, h3, h4⟩ := scope_bump s i x hx
        have := h.pms i y h1 hi
        omega
      · intro p hp
        rw [hvs] at hp
        rw [hsc, bump_len]
        rcases List.mem_append.1 hp with hp | hp
        · exact h.vfn p hp
        · rw [List.mem_singleton.1 hp]; exact h.fnl
      · exact put_blocks nm pl kd (varsAt s) (bumpP s) h.blk
      · intro u hu
        have := h.use u hu
        rw [hvl]
        omega
      · have hx : ∃ y, s.scopes[s.fn]? = some y := ⟨_, List.getElem?_eq_getElem h.fnl⟩
        obtain ⟨y, hy⟩ := hx
        have hx' : ∃ x, (bumpP s).scopes[s.fn]? = some x := ⟨_, List.getElem?_eq_getElem (by rw [bump_len]; exact h.fnl)⟩
        obtain ⟨x, hx'⟩ := hx'
        obtain ⟨y', h1, _, _, h4⟩ := scope_bump s s.fn x hx'
        rw [hy] at h1
        cases h1
        have e1 : varsAt (putVarP nm pl kd (varsAt s) (bumpP s)) = varsAt (bumpP s) := rfl
        rw [e1, vars_at s y hy, vars_at (bumpP s) x hx', h4, if_pos rfl]
      · intro i x' hx'
        rw [hsc] at hx'
        obtain ⟨y, h1, _, h3, _⟩ := scope_bump s i x' hx'
        exact ⟨y, h1, h3⟩

end Go.Proofs.Ytihmdcdifakepab.Rz
