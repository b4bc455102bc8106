/- Whose variable a name is: which ones are captured (ScopeCaptured): plain. -/
import Derived.Test.YtihmdcdifakepabRK
namespace Go.Proofs.Ytihmdcdifakepab.Rz
open Go.Proofs.Ytihmdcdifakepab.Sc
set_option linter.unusedVariables false

def foldOwn {α : Type} (f : α → Nat → Nat → List Nat × Nat) (fn : Nat) : List α → Nat → List Nat × Nat
  | [], c => ([], c)
  | k :: r, c => ((f k fn c).1 ++ (foldOwn f fn r (f k fn c).2).1, (foldOwn f fn r (f k fn c).2).2)

/-- of each name that is used, in order, the function that uses it; c: how many functions were met -/
def ownersT : (n : Nat) → Tr n → Nat → Nat → List Nat × Nat
  | 0, t, _, _ => nomatch (t : Empty)
  | n + 1, (x, s), fn, c =>
    if x.kind = 3 then ([fn], c)
    else if x.kind = 12 ∨ x.kind = 33 then foldOwn (ownersT n) (c + 1) (s.xs.drop (s.xs.length - 1)) (c + 1)
    else foldOwn (ownersT n) fn s.xs c

/-- captured are those that another function uses -/
structure Cp (s : RS) (own : List Nat) : Prop where
  len : own.length = s.uses.length
  cap : ∀ (v : Nat) (x : Vr), s.vars[v]? = some x → (x.cap = true ↔ ∃ (j : Nat) (u : Us) (o : Nat), s.uses[j]? = some u ∧ own[j]? = some o ∧ u.var = (v : Int) ∧ o ≠ x.fn)

theorem Cp.of {s s' : RS} {own : List Nat} (h : Cp s own) (hv : s'.vars = s.vars) (hu : s'.uses = s.uses) : Cp s' own := ⟨by rw [hu]; exact h.len, by rw [hv, hu]; exact h.cap⟩

/-- a variable more, that nobody has used -/
theorem Cp.more {s s' : RS} {own : List Nat} (h : Cp s own) (hi : ∀ u ∈ s.uses, -1 ≤ u.var ∧ u.var < (s.vars.length : Int)) (y : Vr) (hy : y.cap = false) (hv : s'.vars = s.vars ++ [y]) (hu : s'.uses = s.uses) : Cp s' own := by
  refine ⟨by rw [hu]; exact h.len, ?_⟩
  intro v x hx
  rw [hv] at hx
  rw [hu]
  rcases Nat.lt_or_ge v s.vars.length with c | c
  · rw [List.getElem?_append_left c] at hx
    exact h.cap v x hx
  · rw [List.getElem?_append_right c] at hx
    have d : v - s.vars.length = 0 := by
      rcases Nat.eq_zero_or_pos (v - s.vars.length) with d | d
      · exact d
      · rw [List.getElem?_eq_none (by simp; omega)] at hx; cases hx
    rw [d] at hx
    simp at hx
    subst hx
    rw [hy]
    constructor
    · intro e; cases e
    · rintro ⟨j, u, o, h1, _, h3, _⟩
      have := hi u (List.mem_of_getElem? h1)
      omega

theorem Cp.decl {s s' : RS} {own : List Nat} (h : Cp s own) (hi : ∀ u ∈ s.uses, -1 ≤ u.var ∧ u.var < (s.vars.length : Int)) {nm : ByteArray} {pl kd : Int} (e : declP nm pl kd s = .ok s') : Cp s' own := by
  unfold declP at e
  split at e
  · cases e
  · split at e
    · cases e
    · obtain rfl := Except.ok.inj e
      exact h.more hi _ rfl rfl rfl

/-- a use more -/
theorem Cp.use {s : RS} {own : List Nat} (h : Cp s own) (pl : Int) (var : Int) (s' : RS) (hu : s'.uses = s.uses ++ [⟨pl, var⟩])
    (hv : ∀ (v : Nat) (x' : Vr), s'.vars[v]? = some x' → ∃ x, s.vars[v]? = some x ∧ x'.fn = x.fn ∧ (x'.cap = true ↔ x.cap = true ∨ (var = (v : Int) ∧ s.fn ≠ x.fn))) : Cp s' (own ++ [s.fn]) := by
  refine ⟨by rw [hu, List.length_append, List.length_append, h.len]; rfl, ?_⟩
  intro v x' hx'
  obtain ⟨x, hx, hf, hc⟩ := hv v x' hx'
  rw [hc, h.cap v x hx, hu, hf]
  constructor
  · rintro (⟨j, u, o, h1, h2, h3, h4⟩ | ⟨h1, h2⟩)
    · have j1 : j < s.uses.length := (List.getElem?_eq_some_iff.1 h1).1
      exact ⟨j, u, o, by rw [List.getElem?_append_left j1]; exact h1, by rw [List.getElem?_append_left (by rw [h.len]; exact j1)]; exact h2, h3, h4⟩
    · exact ⟨s.uses.length, ⟨pl, var⟩, s.fn, by simp, by rw [← h.len]; simp, h1, h2⟩
  · rintro ⟨j, u, o, h1, h2, h3, h4⟩
    rcases Nat.lt_or_ge j s.uses.length with c | c
    · rw [List.getElem?_append_left c] at h1
      rw [List.getElem?_append_left (by rw [h.len]; exact c)] at h2
      exact Or.inl ⟨j, u, o, h1, h2, h3, h4⟩
    · rw [List.getElem?_append_right c] at h1
      rw [List.getElem?_append_right (by rw [h.len]; exact c), h.len] at h2
      have d : j - s.uses.length = 0 := by
        rcases Nat.eq_zero_or_pos (j - s.uses.length) with d | d
        · exact d
        · rw [List.getElem?_eq_none (by simp; omega)] at h1; cases h1
      rw [d] at h1 h2
      simp at h1 h2
      subst h1 h2
      exact Or.inr ⟨h3, h4⟩

theorem use_cp (bi : ByteArray → Bool) (nm : ByteArray) (pl : Int) (s s' : RS) (v : Option Nat) (own : List Nat) (h : Cp s own) (hi : Inv s [] false) (e : useP bi nm pl s = .ok (v, s')) : Cp s' (own ++ [s.fn]) ∧ s'.scopes = s.scopes := by
  unfold useP at e
  cases hf : findP nm s.blocks with
  | some w =>
    rw [hf] at e
    simp only at e
    have hw := find_lt nm s.vars.length s.blocks w hi.blk hf
    obtain ⟨rfl, rfl⟩ := Prod.mk.inj (Except.ok.inj e)
    have hy : ∃ y, s.vars[w]? = some y := ⟨_, List.getElem?_eq_getElem hw⟩
    obtain ⟨y, hy⟩ := hy
    rw [hy]
    simp only [Option.map_some, Option.getD_some]
    by_cases c : y.fn ≠ s.fn
    · rw [if_pos c]
      refine ⟨h.use pl (w : Int) _ rfl fun v x' hx' => ?_, rfl⟩
      unfold capP at hx'
      simp only [List.getElem?_modify] at hx'
      cases hx : s.vars[v]? with
      | none => rw [hx] at hx'; cases hx'
      | some x =>
        rw [hx] at hx'
        by_cases d : w = v
        · simp [d] at hx'
          subst hx'
          subst d
          rw [hx] at hy
          obtain rfl := Option.some.inj hy
          exact ⟨x, rfl, rfl, ⟨fun _ => Or.inr ⟨rfl, fun e => c e.symm⟩, fun _ => rfl⟩⟩
        · simp [d] at hx'
          subst hx'
          exact ⟨x, rfl, rfl, ⟨Or.inl, fun q => q.resolve_right fun q => d (by omega)⟩⟩
    · rw [if_neg c]
      refine ⟨h.use pl (w : Int) _ rfl fun v x' hx' => ?_, rfl⟩
      refine ⟨x', hx', rfl, ⟨Or.inl, fun q => q.resolve_right fun q => ?_⟩⟩
      have d : w = v := by omega
      subst d
      have hx2 : s.vars[w]? = some x' := hx'
      rw [hy] at hx2
      obtain rfl := Option.some.inj hx2
      exact q.2 (by simp at c; exact c.symm)
  | none =>
    rw [hf] at e
    simp only at e
    split at e
    · obtain ⟨rfl, rfl⟩ := Prod.mk.inj (Except.ok.inj e)
      refine ⟨h.use pl (-1) _ rfl fun v x' hx' => ⟨x', hx', rfl, ⟨Or.inl, fun q => q.resolve_right fun q => ?_⟩⟩, rfl⟩
      omega
    · cases e

/-- a step, with what it tells of owners -/
def CS (f : RM) (o : Nat → Nat → List Nat × Nat) : Prop := ∀ s s' own c, Inv s [] false → Cp s own → s.scopes.length = c + 1 → f s = .ok s' → Cp s' (own ++ (o s.fn c).1) ∧ s'.scopes.length = (o s.fn c).2 + 1

theorem cs_each {α : Type} {f : α → RM} {g : α → Nat → Nat → List Nat × Nat} (hp : ∀ k, Pres (f k)) : ∀ (l : List α), (∀ k ∈ l, CS (f k) (g k)) → CS (eachP f l) (fun fn c => foldOwn g fn l c)
  | [], _, s, s', own, c, hi, h, hl, e => by
    obtain rfl := Except.ok.inj e
    exact ⟨by simpa [foldOwn] using h, hl⟩
  | k :: r, hk, s, s', own, c, hi, h, hl, e => by
    obtain ⟨s1, e1, e2⟩ := bind_ok e
    have p1 := hp k s s1 hi e1
    obtain ⟨a1, a2⟩ := hk k (by simp) s s1 own c hi h hl e1
    obtain ⟨b1, b2⟩ := cs_each hp r (fun j hj => hk j (by simp [hj])) s1 s' _ _ p1.inv a1 a2 e2
    rw [p1.fn] at b1 b2
    exact ⟨by rw [List.append_assoc] at b1; exact b1, b2⟩

theorem heads_cp {α : Type} (nd : α → Nd) : ∀ (l : List α) (s s' : RS) (own : List Nat), Inv s [] false → Cp s own → headsP nd l s = .ok s' → Cp s' own ∧ s'.scopes.length = s.scopes.length
  | [], s, s', own, hi, h, e => by obtain rfl := Except.ok.inj e; exact ⟨h, rfl⟩
  | k :: r, s, s', own, hi, h, e => by
    obtain ⟨s1, e1, e2⟩ := bind_ok e
    have h1 : Cp s1 own ∧ Inv s1 [] false ∧ s1.scopes.length = s.scopes.length := by
      split at e1
      · exact ⟨h.decl hi.use e1, (hi.decl e1).1, (hi.decl e1).2.2.1⟩
      · split at e1
        · exact ⟨h.decl hi.use e1, (hi.decl e1).1, (hi.decl e1).2.2.1⟩
        · split at e1
          · exact ⟨h.decl hi.use e1, (hi.decl e1).1, (hi.decl e1).2.2.1⟩
          · obtain rfl := Except.ok.inj e1; exact ⟨h, hi, rfl⟩
    obtain ⟨a, b⟩ := heads_cp nd r s1 s' own h1.2.1 h1.1 e2
    exact ⟨a, b.trans h1.2.2⟩

theorem cs_items {α : Type} (nd : α → Nd) {f : α → RM} {g : α → Nat → Nat → List Nat × Nat} (hp : ∀ k, Pres (f k)) (l : List α) (hk : ∀ k ∈ l, CS (f k) (g k)) : CS (itemsP nd f l) (fun fn c => foldOwn g fn l c) := fun s s' own c hi h hl e => by
  obtain ⟨s1, e1, e2⟩ := bind_ok e
  obtain ⟨a, b⟩ := heads_cp nd l s s1 own hi h e1
  have p1 := pres_heads nd l s s1 hi e1
  have q := cs_each hp l hk s1 s' own c p1.inv a (by rw [b]; exact hl) e2
  rw [p1.fn] at q
  exact q

end Go.Proofs.Ytihmdcdifakepab.Rz
