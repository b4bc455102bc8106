/- Whose variable a name is: it holds all the way: plain. -/
import Derived.Test.YtihmdcdifakepabB1
namespace Go.Proofs.Ytihmdcdifakepab.Rz
open Go.Proofs.Ytihmdcdifakepab.Sc
set_option linter.unusedVariables false

/-- what a step keeps -/
structure Stp (s s' : RS) : Prop where
  inv : Inv s' [] false
  fn : s'.fn = s.fn
  len : s.scopes.length ≤ s'.scopes.length

def Pres (f : RM) : Prop := ∀ s s', Inv s [] false → f s = .ok s' → Stp s s'

theorem Stp.refl {s : RS} (h : Inv s [] false) : Stp s s := ⟨h, rfl, Nat.le_refl _⟩
theorem Stp.trans {a b c : RS} (h1 : Stp a b) (h2 : Stp b c) : Stp a c := ⟨h2.inv, h2.fn.trans h1.fn, Nat.le_trans h1.len h2.len⟩

theorem pres_decl (nm : ByteArray) (pl kd : Int) : Pres (declP nm pl kd) := fun s s' h e => by
  obtain ⟨h1, h2, h3, _, _⟩ := h.decl e
  exact ⟨h1, h2, by omega⟩

theorem pres_each {α : Type} {f : α → RM} (hf : ∀ k, Pres (f k)) : ∀ l, Pres (eachP f l)
  | [], s, s', h, e => by obtain rfl := Except.ok.inj e; exact Stp.refl h
  | k :: r, s, s', h, e => by
    obtain ⟨s1, e1, e2⟩ := bind_ok e
    have h1 := hf k s s1 h e1
    exact h1.trans (pres_each hf r s1 s' h1.inv e2)

theorem pres_heads {α : Type} (nd : α → Nd) : ∀ l, Pres (headsP nd l)
  | [], s, s', h, e => by obtain rfl := Except.ok.inj e; exact Stp.refl h
  | k :: r, s, s', h, e => by
    obtain ⟨s1, e1, e2⟩ := bind_ok e
    have h1 : Stp s s1 := by
      split at e1
      · exact pres_decl _ _ _ s s1 h e1
      · split at e1
        · exact pres_decl _ _ _ s s1 h e1
        · split at e1
          · exact pres_decl _ _ _ s s1 h e1
          · obtain rfl := Except.ok.inj e1; exact Stp.refl h
    exact h1.trans (pres_heads nd r s1 s' h1.inv e2)

theorem pres_items {α : Type} (nd : α → Nd) {f : α → RM} (hf : ∀ k, Pres (f k)) (l : List α) : Pres (itemsP nd f l) := fun s s' h e => by
  obtain ⟨s1, e1, e2⟩ := bind_ok e
  have h1 := pres_heads nd l s s1 h e1
  exact h1.trans (pres_each hf l s1 s' h1.inv e2)

theorem pres_block {α : Type} (nd : α → Nd) {f : α → RM} (hf : ∀ k, Pres (f k)) (l : List α) : Pres (blockP nd f l) := fun s s' h e => by
  obtain ⟨s1, e1, e2⟩ := bind_ok e
  obtain rfl := Except.ok.inj e2
  have h1 := pres_items nd hf l _ s1 h.open' e1
  exact ⟨h1.inv.shut, h1.fn, h1.len⟩

theorem Inv.side {s : RS} {ex : List Nat} {pm : Bool} (h : Inv s ex pm) (a : Nat) (b : List (ByteArray × Bool)) : Inv { s with loops := a, labels := b } ex pm := ⟨h.fnl, h.par, h.slo, h.pms, h.vfn, h.blk, h.use⟩

theorem pres_loop {α : Type} {f : α → RM} (hf : ∀ k, Pres (f k)) (l : List α) : Pres (loopP f l) := fun s s' h e => by
  obtain ⟨s1, e1, e2⟩ := bind_ok e
  obtain rfl := Except.ok.inj e2
  have h1 := pres_each hf l _ s1 (h.side (s.loops + 1) s.labels) e1
  exact ⟨h1.inv.side _ _, h1.fn, h1.len⟩

theorem pres_loopOf {α : Type} {f : α → RM} (hf : ∀ k, Pres (f k)) (x : Nd) (l : List α) : Pres (loopOfP f x l) := fun s s' h e => by
  obtain ⟨s1, e1, e2⟩ := bind_ok e
  have h1 := pres_each hf _ s s1 h e1
  obtain ⟨s2, e3, e4⟩ := bind_ok e2
  have h2 := pres_decl _ _ _ _ s2 h1.inv.open' e3
  obtain ⟨s3, e5, e6⟩ := bind_ok e4
  have h3 := pres_loop hf _ s2 s3 h2.inv e5
  obtain rfl := Except.ok.inj e6
  have h4 : Stp s1 s3 := ⟨h3.inv, h3.fn.trans h2.fn, Nat.le_trans h2.len h3.len⟩
  have h5 := h1.trans h4
  exact ⟨h5.inv.shut, h5.fn, h5.len⟩

theorem pres_catch {α : Type} (nd : α → Nd) {body : α → RM} (hb : ∀ k, Pres (body k)) (x : Nd) (c : Option α) : Pres (catchP nd body x c) := fun s s' h e => by
  unfold catchP at e
  cases c with
  | none => obtain rfl := Except.ok.inj e; exact Stp.refl h
  | some c =>
    simp only at e
    split at e
    · obtain rfl := Except.ok.inj e; exact Stp.refl h
    · obtain ⟨s2, e1, e2⟩ := bind_ok e
      have h2 := pres_decl _ _ _ _ s2 h.open' e1
      obtain ⟨s3, e3, e4⟩ := bind_ok e2
      have h3 := hb c s2 s3 h2.inv e3
      obtain rfl := Except.ok.inj e4
      exact ⟨h3.inv.shut, h3.fn.trans h2.fn, Nat.le_trans h2.len h3.len⟩

theorem pres_try {α : Type} (nd : α → Nd) {f body : α → RM} (hf : ∀ k, Pres (f k)) (hb : ∀ k, Pres (body k)) (x : Nd) (l : List α) : Pres (tryP nd f body x l) := fun s s' h e => by
  obtain ⟨s1, e1, e2⟩ := bind_ok e
  have h1 := pres_each hf _ s s1 h e1
  obtain ⟨s2, e3, e4⟩ := bind_ok e2
  have h2 := pres_catch nd hb x _ s1 s2 h1.inv e3
  have h3 := pres_each hf _ s2 s' h2.inv e4
  exact (h1.trans h2).trans h3

theorem pres_label {α : Type} {f : α → RM} (hf : ∀ k, Pres (f k)) (x : Nd) (lead : Bool) (l : List α) : Pres (labelP f x lead l) := fun s s' h e => by
  unfold labelP at e
  split at e
  · cases e
  · obtain ⟨s1, e1, e2⟩ := bind_ok e
    obtain rfl := Except.ok.inj e2
    have h1 := pres_each hf l _ s1 (h.side s.loops _) e1
    exact ⟨h1.inv.side _ _, h1.fn, h1.len⟩

theorem pres_jump (x : Nd) : Pres (jumpP x) := fun s s' h e => by
  unfold jumpP at e
  generalize (if isS x.name [] then decide (0 < s.loops) else s.labels.any fun e => decide (e.1 = x.name) && (e.2 || x.kind == 39)) = b at e
  cases b with
  | true => obtain rfl := Except.ok.inj e; exact Stp.refl h
  | false => cases e

theorem pres_leave {α : Type} {f : α → RM} (hf : ∀ k, Pres (f k)) (x : Nd) (l : List α) : Pres (leaveP f x l) := fun s s' h e => by
  unfold leaveP at e
  split at e
  · cases e
  · exact pres_each hf l s s' h e

theorem find_lt (nm : ByteArray) (n : Nat) : ∀ (bs : List (List (ByteArray × Nat))) (v : Nat), (∀ b ∈ bs, ∀ e ∈ b, e.2 < n) → findP nm bs = some v → v < n
  | [], v, h, e => by cases e
  | b :: r, v, h, e => by
    unfold findP at e
    cases hb : b.find? (fun e => decide (e.1 = nm)) with
    | some x =>
      rw [hb] at e
      simp only at e
      obtain rfl := Option.some.inj e
      exact h b (by simp) x (List.mem_of_find?_eq_some hb)
    | none =>
      rw [hb] at e
      simp only at e
      exact find_lt nm n r v (fun c hc => h c (by simp [hc])) e

theorem Inv.uses {s : RS} {ex : List Nat} {pm : Bool} (h : Inv s ex pm) (u : Us) (hu : -1 ≤ u.var ∧ u.var < (s.vars.length : Int)) : Inv { s with uses := s.uses ++ [u] } ex pm :=
  ⟨h.fnl, h.par, h.slo, h.pms, h.vfn, h.blk, fun x hx => by
    rcases List.mem_append.1 hx with hx | hx
    · exact h.use x hx
    · rw [List.mem_singleton.1 hx]; exact hu⟩

theorem Inv.cap {s : RS} {ex : List Nat} {pm : Bool} (h : Inv s ex pm) (v : Nat) : Inv (capP v s) ex pm := by
  have e1 : (capP v s).vars.map pr = s.vars.map pr := map_modify pr (fun x : Vr => { x with cap := true }) (fun x => rfl) s.vars v
  have e2 : (capP v s).vars.length = s.vars.length := by simp [capP]
  refine ⟨h.fnl, h.par, ?_, h.pms, ?_, ?_, ?_⟩
  · rw [e1]; exact h.slo
  · rw [e1]; exact h.vfn
  · rw [e2]; exact h.blk
  · rw [e2]; exact h.use

theorem use_stp (bi : ByteArray → Bool) (nm : ByteArray) (pl : Int) (s s' : RS) (v : Option Nat) (h : Inv s [] false) (e : useP bi nm pl s = .ok (v, s')) : Stp s s' := by
  unfold useP at e
  cases hf : findP nm s.blocks with
  | some w =>
    rw [hf] at e
    simp only at e
    have hw := find_lt nm s.vars.length s.blocks w h.blk hf
    have h1 := h.uses ⟨pl, (w : Int)⟩ ⟨by simp only; omega, by simp only; omega⟩
    obtain ⟨rfl, rfl⟩ := Prod.mk.inj (Except.ok.inj e)
    split
    · exact ⟨h1.cap w, rfl, Nat.le_refl _⟩
    · exact ⟨h1, rfl, Nat.le_refl _⟩
  | none =>
    rw [hf] at e
    simp only at e
    split at e
    · obtain ⟨rfl, rfl⟩ := Prod.mk.inj (Except.ok.inj e)
      exact ⟨h.uses ⟨pl, -1⟩ ⟨by simp, by simp only; omega⟩, rfl, Nat.le_refl _⟩
    · cases e

theorem pres_give {α : Type} (bi : ByteArray → Bool) (nd : α → Nd) {f : α → RM} (hf : ∀ k, Pres (f k)) (l : List α) : Pres (giveP bi nd f l) := fun s s' h e => by
  unfold giveP at e
  cases l with
  | nil => obtain rfl := Except.ok.inj e; exact Stp.refl h
  | cons t r =>
    simp only at e
    split at e
    · cases hu : useP bi (nd t).name (nd t).pl s with
      | error x => rw [hu] at e; cases e
      | ok p =>
        obtain ⟨v, s1⟩ := p
        rw [hu] at e
        simp only at e
        have h1 := use_stp bi _ _ s s1 v h hu
        split at e
        · cases e
        · exact h1.trans (pres_each hf r s1 s' h1.inv e)
    · exact pres_each hf _ s s' h e

/-- the parameters of a function, on their way -/
theorem pars_inv {α : Type} (nd : α → Nd) (ex : List Nat) : ∀ (l : List α) (s s' : RS), Inv s ex true → parsP nd l s = .ok s' →
    Inv s' ex true ∧ s'.fn = s.fn ∧ s'.scopes.length = s.scopes.length ∧ varsAt s' = varsAt s + l.length ∧ (∀ (i : Nat) (x' : Scp), s'.scopes[i]? = some x' → ∃ x, s.scopes[i]? = some x ∧ x'.params = x.params)
  | [], s, s', h, e => by
    obtain rfl := Except.ok.inj e
    exact ⟨h, rfl, rfl, rfl, fun i x' hx => ⟨x', hx, rfl⟩⟩
  | k :: r, s, s', h, e => by
    obtain ⟨s1, e1, e2⟩ := bind_ok e
    obtain ⟨a1, a2, a3, a4, a5⟩ := h.decl e1
    obtain ⟨b1, b2, b3, b4, b5⟩ := pars_inv nd ex r s1 s' a1 e2
    refine ⟨b1, b2.trans a2, b3.trans a3, by rw [b4, a4, List.length_cons]; omega, fun i x' hx => ?_⟩
    obtain ⟨y, hy, q1⟩ := b5 i x' hx
    obtain ⟨z, hz, q2⟩ := a5 i y hy
    exact ⟨z, hz, q1.trans q2⟩

theorem enter_scopes (x : Nd) (many : Nat) (s : RS) : (enterP x many s).scopes = s.scopes ++ [⟨x.pl, (s.fn : Int), many, 0⟩] ∧ (enterP x many s).fn = s.scopes.length ∧ (enterP x many s).uses = s.uses := by
  unfold enterP
  simp only
  split <;> exact ⟨rfl, rfl, rfl⟩

theorem enter_inv (x : Nd) (many : Nat) (s : RS) (h : Inv s [] false) : Inv (enterP x many s) (if selfB x then [many] else []) true ∧ varsAt (enterP x many s) = 0 := by
  obtain ⟨e1, e2, e3⟩ := enter_scopes x many s
  have hvp : (enterP x many s).vars.map pr = s.vars.map pr ++ (if selfB x then [(s.scopes.length, many)] else []) := by
    unfold enterP
    simp only
    split
    · show ((openP { s with scopes := s.scopes ++ [(⟨x.pl, (s.fn : Int), many, 0⟩ : Scp)], fn := s.scopes.length, loops := 0, labels := [] }).vars ++ [(⟨x.name, x.pl, 5, s.scopes.length, many, false⟩ : Vr)]).map pr = _
      rw [List.map_append]
      rfl
    · rw [List.append_nil]; rfl
  have hvl : s.vars.length ≤ (enterP x many s).vars.length := by
    have := congrArg List.length hvp
    rw [List.length_map, List.length_append, List.length_map] at this
    omega
  have hold : ∀ p ∈ s.vars.map pr, p.1 < s.scopes.length := h.vfn
  have hat : (enterP x many s).scopes[s.scopes.length]? = some ⟨x.pl, (s.fn : Int), many, 0⟩ := by rw [e1]; simp
  refine ⟨⟨?_, ?_, ?_, ?_, ?_, ?_, ?_⟩, ?_⟩
  · rw [e1, e2]; simp
  · intro i y hy
    rw [e1] at hy
    rcases Nat.lt_or_ge i s.scopes.length with c | c
    · rw [List.getElem?_append_left c] at hy
      exact h.par i y hy
    · rw [List.getElem?_append_right c] at hy
      have : i - s.scopes.length = 0 := by
        rcases Nat.eq_zero_or_pos (i - s.scopes.length) with d | d
        · exact d
        · rw [List.getElem?_eq_none (by simp; omega)] at hy; cases hy
      rw [this] at hy
      simp at hy
      subst hy
      have := h.fnl
      exact ⟨by simp only; omega, by simp only; omega⟩
  · intro i y hy
    rw [hvp, e2]
    rw [e1] at hy
    rcases Nat.lt_or_ge i s.scopes.length with c | c
    · rw [List.getElem?_append_left c] at hy
      have hp := h.slo i y hy
      have e4 : slotsOf (s.vars.map pr ++ (if selfB x then [(s.scopes.length, many)] else [])) i = slotsOf (s.vars.map pr) i := by
        split
        · rw [slots_app, if_neg (by simp only; omega), List.append_nil]
        · rw [List.append_nil]
      rw [e4, if_neg (show ¬ i = s.scopes.length by omega), List.append_nil]
      refine hp.trans ?_
      split <;> simp
    · rw [List.getElem?_append_right c] at hy
      have d : i - s.scopes.length = 0 := by
        rcases Nat.eq_zero_or_pos (i - s.scopes.length) with d | d
        · exact d
        · rw [List.getElem?_eq_none (by simp; omega)] at hy; cases hy
      rw [d] at hy
      simp at hy
      subst hy
      have hi : i = s.scopes.length := by omega
      subst hi
      rw [if_pos rfl]
      have hn := slots_none (s.vars.map pr) s.scopes.length (fun p hp => by have := hold p hp; omega)
      split
      · rw [slots_app, hn, if_pos rfl]
        simp
      · rw [List.append_nil, hn]
        simp
  · intro i y hy hi
    rw [e2] at hi
    rw [e1] at hy
    have c : i < s.scopes.length := by
      rcases Nat.lt_or_ge i s.scopes.length with c | c
      · exact c
      · have : i < (s.scopes ++ [(⟨x.pl, (s.fn : Int), many, 0⟩ : Scp)]).length := (List.getElem?_eq_some_iff.1 hy).1
        rw [List.length_append, List.length_singleton] at this
        rcases hi with hi | hi
        · omega
        · cases hi
    rw [List.getElem?_append_left c] at hy
    exact h.pms i y hy (Or.inr rfl)
  · intro p hp
    rw [hvp] at hp
    rw [e1, List.length_append, List.length_singleton]
    rcases List.mem_append.1 hp with hp | hp
    · have := hold p hp; omega
    · split at hp
      · rw [List.mem_singleton.1 hp]; simp
      · cases hp
  · unfold enterP
    simp only
    split
    · intro b hb
      rcases List.mem_cons.1 hb with rfl | hb
      · intro e he; cases he
      · exact put_blocks _ _ _ _ (openP { s with scopes := s.scopes ++ [(⟨x.pl, (s.fn : Int), many, 0⟩ : Scp)], fn := s.scopes.length, loops := 0, labels := [] }) (fun b hb => by
          rcases List.mem_cons.1 hb with rfl | hb
          · intro e he; cases he
          · exact h.blk b hb) b hb
    · intro b hb
      rcases List.mem_cons.1 hb with rfl | hb
      · intro e he; cases he
      · rcases List.mem_cons.1 hb with rfl | hb
        · intro e he; cases he
        · exact h.blk b hb
  · intro u hu
    rw [e3] at hu
    have := h.use u hu
    omega
  · rw [vars_at _ ⟨x.pl, (s.fn : Int), many, 0⟩ (by rw [e2]; exact hat)]

end Go.Proofs.Ytihmdcdifakepab.Rz
