/- What is thrown has a code. -/
import Derived.Test.YtihmdcdifakepabB3
namespace Go.Proofs.Ytihmdcdifakepab.Rz
open Go.Proofs.Ytihmdcdifakepab.Sc
set_option linter.unusedVariables false

def Cod (f : RM) : Prop := ∀ s er, f s = .error er → er.2 ≠ 0

theorem bind_err {a : Except Er RS} {g : RS → Except Er RS} {er : Er} (h : a.bind g = .error er) : a = .error er ∨ ∃ s, a = .ok s ∧ g s = .error er := by
  cases a with
  | error e => exact Or.inl h
  | ok s => exact Or.inr ⟨s, rfl, h⟩

theorem cod_bind {f g : RM} (hf : Cod f) (hg : Cod g) : Cod (fun s => (f s).bind g) := fun s er e => by
  rcases bind_err e with h | ⟨s1, _, h⟩
  · exact hf s er h
  · exact hg s1 er h
theorem cod_ok (g : RS → RS) : Cod (fun s => .ok (g s)) := fun s er e => by cases e
theorem cod_pre {f : RM} (hf : Cod f) (g : RS → RS) : Cod (fun s => f (g s)) := fun s er e => hf (g s) er e

theorem cod_decl (nm : ByteArray) (pl kd : Int) : Cod (declP nm pl kd) := fun s er e => by
  unfold declP at e
  split at e
  · cases e; simp
  · split at e
    · cases e; simp
    · cases e

theorem cod_each {α : Type} {f : α → RM} (hf : ∀ k, Cod (f k)) : ∀ l, Cod (eachP f l)
  | [], s, er, e => by unfold eachP at e; cases e
  | k :: l, s, er, e => by
    unfold eachP at e
    rcases bind_err e with h | ⟨s1, _, h⟩
    · exact hf k s er h
    · exact cod_each hf l s1 er h
theorem cod_heads {α : Type} (nd : α → Nd) : ∀ l, Cod (headsP nd l)
  | [], s, er, e => by unfold headsP at e; cases e
  | k :: l, s, er, e => by
    unfold headsP at e
    rcases bind_err e with h | ⟨s1, _, h⟩
    · split at h
      · exact cod_decl _ _ _ s er h
      · split at h
        · exact cod_decl _ _ _ s er h
        · split at h
          · exact cod_decl _ _ _ s er h
          · cases h
    · exact cod_heads nd l s1 er h
theorem cod_pars {α : Type} (nd : α → Nd) : ∀ l, Cod (parsP nd l)
  | [], s, er, e => by unfold parsP at e; cases e
  | k :: l, s, er, e => by
    unfold parsP at e
    rcases bind_err e with h | ⟨s1, _, h⟩
    · exact cod_decl _ _ _ s er h
    · exact cod_pars nd l s1 er h
theorem cod_items {α : Type} (nd : α → Nd) {f : α → RM} (hf : ∀ k, Cod (f k)) (l : List α) : Cod (itemsP nd f l) := fun s er e => by
  unfold itemsP at e
  rcases bind_err e with h | ⟨s1, _, h⟩
  · exact cod_heads nd l s er h
  · exact cod_each hf l s1 er h
theorem cod_block {α : Type} (nd : α → Nd) {f : α → RM} (hf : ∀ k, Cod (f k)) (l : List α) : Cod (blockP nd f l) := fun s er e => by
  unfold blockP at e
  rcases bind_err e with h | ⟨s1, _, h⟩
  · exact cod_items nd hf l _ er h
  · cases h
theorem cod_loop {α : Type} {f : α → RM} (hf : ∀ k, Cod (f k)) (l : List α) : Cod (loopP f l) := fun s er e => by
  unfold loopP at e
  rcases bind_err e with h | ⟨s1, _, h⟩
  · exact cod_each hf l _ er h
  · cases h
theorem cod_loopOf {α : Type} {f : α → RM} (hf : ∀ k, Cod (f k)) (x : Nd) (l : List α) : Cod (loopOfP f x l) := fun s er e => by
  unfold loopOfP at e
  rcases bind_err e with h | ⟨s1, _, h⟩
  · exact cod_each hf _ s er h
  · rcases bind_err h with h | ⟨s2, _, h⟩
    · exact cod_decl _ _ _ _ er h
    · rcases bind_err h with h | ⟨s3, _, h⟩
      · exact cod_loop hf _ _ er h
      · cases h
theorem cod_catch {α : Type} (nd : α → Nd) {body : α → RM} (hb : ∀ k, Cod (body k)) (x : Nd) (c : Option α) : Cod (catchP nd body x c) := fun s er e => by
  unfold catchP at e
  split at e
  · cases e
  · split at e
    · cases e
    · rcases bind_err e with h | ⟨s2, _, h⟩
      · exact cod_decl _ _ _ _ er h
      · rcases bind_err h with h | ⟨s3, _, h⟩
        · exact hb _ _ er h
        · cases h
theorem cod_try {α : Type} (nd : α → Nd) {f body : α → RM} (hf : ∀ k, Cod (f k)) (hb : ∀ k, Cod (body k)) (x : Nd) (l : List α) : Cod (tryP nd f body x l) := fun s er e => by
  unfold tryP at e
  rcases bind_err e with h | ⟨s1, _, h⟩
  · exact cod_each hf _ s er h
  · rcases bind_err h with h | ⟨s2, _, h⟩
    · exact cod_catch nd hb x _ s1 er h
    · exact cod_each hf _ s2 er h
theorem cod_label {α : Type} {f : α → RM} (hf : ∀ k, Cod (f k)) (x : Nd) (b : Bool) (l : List α) : Cod (labelP f x b l) := fun s er e => by
  unfold labelP at e
  split at e
  · cases e; simp
  · rcases bind_err e with h | ⟨s1, _, h⟩
    · exact cod_each hf l _ er h
    · cases h
theorem cod_jump (x : Nd) : Cod (jumpP x) := fun s er e => by
  unfold jumpP at e
  revert e
  generalize (if isS x.name [] = true then decide (0 < s.loops) else s.labels.any fun e => decide (e.1 = x.name) && (e.2 || x.kind == 39)) = b
  intro e
  cases b with
  | true => simp at e
  | false =>
    simp at e
    subst e
    simp
theorem cod_leave {α : Type} {f : α → RM} (hf : ∀ k, Cod (f k)) (x : Nd) (l : List α) : Cod (leaveP f x l) := fun s er e => by
  unfold leaveP at e
  split at e
  · cases e; simp
  · exact cod_each hf l s er e
theorem cod_use {bi : ByteArray → Bool} {nm : ByteArray} {pl : Int} {s : RS} {er : Er} (e : useP bi nm pl s = .error er) : er.2 ≠ 0 := by
  unfold useP at e
  split at e
  · cases e
  · split at e
    · cases e
    · cases e; simp
theorem cod_give {α : Type} (bi : ByteArray → Bool) (nd : α → Nd) {f : α → RM} (hf : ∀ k, Cod (f k)) (l : List α) : Cod (giveP bi nd f l) := fun s er e => by
  unfold giveP at e
  split at e
  · cases e
  · split at e
    · split at e
      · rename_i h
        cases e
        exact cod_use h
      · split at e
        · cases e; simp
        · exact cod_each hf _ _ er e
    · exact cod_each hf _ s er e
theorem cod_function {α : Type} (nd : α → Nd) {body : α → RM} (hb : ∀ k, Cod (body k)) (x : Nd) (l : List α) : Cod (functionP nd body x l) := fun s er e => by
  unfold functionP at e
  split at e
  · cases e; simp
  · split at e
    · cases e
    · rcases bind_err e with h | ⟨s1, _, h⟩
      · exact cod_pars nd _ _ er h
      · rcases bind_err h with h | ⟨s2, _, h⟩
        · exact hb _ _ er h
        · cases h

theorem cod_res (bi : ByteArray → Bool) : ∀ n, (∀ t, Cod ((resP bi n).1 t)) ∧ (∀ t, Cod ((resP bi n).2 t))
  | 0 => ⟨(fun t => nomatch (t : Empty)), (fun t => nomatch (t : Empty))⟩
  | n + 1 => by
    obtain ⟨i1, i2⟩ := cod_res bi n
    refine ⟨fun t s er e => ?_, fun t s er e => ?_⟩
    · simp only [resP] at e
      split at e
      · split at e
        · rename_i h
          cases e
          exact cod_use h
        · cases e
      · split at e
        · exact cod_give bi _ i1 _ s er e
        · split at e
          · exact cod_function _ i2 _ _ s er e
          · split at e
            · exact cod_block _ i1 _ s er e
            · split at e
              · exact cod_try _ i1 i2 _ _ s er e
              · split at e
                · exact cod_loop i1 _ s er e
                · split at e
                  · exact cod_loopOf i1 _ _ s er e
                  · split at e
                    · exact cod_label i1 _ _ _ s er e
                    · split at e
                      · exact cod_jump _ s er e
                      · split at e
                        · exact cod_leave i1 _ _ s er e
                        · exact cod_each i1 _ s er e
    · simp only [resP] at e
      exact cod_items _ i1 _ s er e

theorem cod_resolve (bi : ByteArray → Bool) (n : Nat) (t : Tr n) (er : Er) (h : resolveP bi n t = .error er) : er.2 ≠ 0 := by
  cases n with
  | zero => exact nomatch (t : Empty)
  | succ n => exact cod_block _ (cod_res bi n).1 _ _ er h
end Go.Proofs.Ytihmdcdifakepab.Rz
