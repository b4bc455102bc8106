/- Whose variable a name is: which ones are captured: all the way: plain. -/
import Derived.Test.YtihmdcdifakepabRL
namespace Go.Proofs.Ytihmdcdifakepab.Rz
open Go.Proofs.Ytihmdcdifakepab.Sc
set_option linter.unusedVariables false

theorem fold_app {α : Type} (g : α → Nat → Nat → List Nat × Nat) (fn : Nat) : ∀ (a b : List α) (c : Nat), foldOwn g fn (a ++ b) c = ((foldOwn g fn a c).1 ++ (foldOwn g fn b (foldOwn g fn a c).2).1, (foldOwn g fn b (foldOwn g fn a c).2).2)
  | [], b, c => by simp [foldOwn]
  | k :: a, b, c => by
    rw [List.cons_append]
    simp only [foldOwn]
    rw [fold_app g fn a b]
    simp

section
variable {α : Type} {f body : α → RM} {g : α → Nat → Nat → List Nat × Nat}

theorem cs_block (nd : α → Nd) (hp : ∀ k, Pres (f k)) (l : List α) (hk : ∀ k ∈ l, CS (f k) (g k)) : CS (blockP nd f l) (fun fn c => foldOwn g fn l c) := fun s s' own c hi h hl e => by
  obtain ⟨s1, e1, e2⟩ := bind_ok e
  obtain rfl := Except.ok.inj e2
  obtain ⟨a, b⟩ := cs_items nd hp l hk (openP s) s1 own c hi.open' (h.of rfl rfl) hl e1
  exact ⟨a.of rfl rfl, b⟩

theorem cs_loop (hp : ∀ k, Pres (f k)) (l : List α) (hk : ∀ k ∈ l, CS (f k) (g k)) : CS (loopP f l) (fun fn c => foldOwn g fn l c) := fun s s' own c hi h hl e => by
  obtain ⟨s1, e1, e2⟩ := bind_ok e
  obtain rfl := Except.ok.inj e2
  obtain ⟨a, b⟩ := cs_each hp l hk _ s1 own c (hi.side (s.loops + 1) s.labels) (h.of rfl rfl) hl e1
  exact ⟨a.of rfl rfl, b⟩

theorem cs_label (hp : ∀ k, Pres (f k)) (x : Nd) (lead : Bool) (l : List α) (hk : ∀ k ∈ l, CS (f k) (g k)) : CS (labelP f x lead l) (fun fn c => foldOwn g fn l c) := fun s s' own c hi h hl e => by
  unfold labelP at e
  split at e
  · cases e
  · obtain ⟨s1, e1, e2⟩ := bind_ok e
    obtain rfl := Except.ok.inj e2
    obtain ⟨a, b⟩ := cs_each hp l hk _ s1 own c (hi.side s.loops (s.labels ++ [(x.name, lead)])) (h.of rfl rfl) hl e1
    exact ⟨a.of rfl rfl, b⟩

theorem cs_leave (hp : ∀ k, Pres (f k)) (x : Nd) (l : List α) (hk : ∀ k ∈ l, CS (f k) (g k)) : CS (leaveP f x l) (fun fn c => foldOwn g fn l c) := fun s s' own c hi h hl e => by
  unfold leaveP at e
  split at e
  · cases e
  · exact cs_each hp l hk s s' own c hi h hl e

theorem cs_loopOf (hp : ∀ k, Pres (f k)) (x : Nd) (l : List α) (hk : ∀ k ∈ l, CS (f k) (g k)) : CS (loopOfP f x l) (fun fn c => foldOwn g fn l c) := fun s s' own c hi h hl e => by
  obtain ⟨s1, e1, e2⟩ := bind_ok e
  have p1 := pres_each hp _ s s1 hi e1
  obtain ⟨a1, b1⟩ := cs_each hp (l.take 1) (fun k hk' => hk k (List.mem_of_mem_take hk')) s s1 own c hi h hl e1
  obtain ⟨s2, e3, e4⟩ := bind_ok e2
  have p2 := p1.inv.open'.decl e3
  have a2 : Cp s2 (own ++ (foldOwn g s.fn (l.take 1) c).1) := (a1.of (s' := openP s1) rfl rfl).decl p1.inv.open'.use e3
  obtain ⟨s3, e5, e6⟩ := bind_ok e4
  obtain rfl := Except.ok.inj e6
  have hl2 : s2.scopes.length = (foldOwn g s.fn (l.take 1) c).2 + 1 := p2.2.2.1.trans b1
  obtain ⟨a3, b3⟩ := cs_loop hp (l.drop 1) (fun k hk' => hk k (List.mem_of_mem_drop hk')) s2 s3 _ _ p2.1 a2 hl2 e5
  have hfn : s2.fn = s.fn := p2.2.1.trans p1.fn
  rw [hfn] at a3 b3
  have hcut : foldOwn g s.fn l c = foldOwn g s.fn (l.take 1 ++ l.drop 1) c := by rw [List.take_append_drop]
  simp only
  rw [hcut, fold_app]
  exact ⟨by rw [List.append_assoc] at a3; exact a3.of rfl rfl, b3⟩

theorem cs_catch (nd : α → Nd) (x : Nd) (k : Option α) (h0 : ∀ j, k = some j → (nd j).kind = 0 → ∀ fn c, g j fn c = ([], c)) (hb : ∀ j, k = some j → (nd j).kind ≠ 0 → CS (body j) (g j)) : CS (catchP nd body x k) (fun fn c => foldOwn g fn k.toList c) := fun s s' own c hi h hl e => by
  unfold catchP at e
  cases k with
  | none =>
    obtain rfl := Except.ok.inj e
    exact ⟨by simpa [foldOwn] using h, hl⟩
  | some j =>
    simp only [Option.toList, foldOwn] at e ⊢
    split at e
    · rename_i d
      obtain rfl := Except.ok.inj e
      rw [h0 j rfl d]
      exact ⟨by simpa using h, hl⟩
    · rename_i d
      obtain ⟨s2, e1, e2⟩ := bind_ok e
      have p2 := hi.open'.decl e1
      have a2 : Cp s2 own := (h.of (s' := openP s) rfl rfl).decl hi.open'.use e1
      obtain ⟨s3, e3, e4⟩ := bind_ok e2
      obtain rfl := Except.ok.inj e4
      obtain ⟨a3, b3⟩ := hb j rfl d s2 s3 own c p2.1 a2 (p2.2.2.1.trans hl) e3
      have hfn : s2.fn = s.fn := p2.2.1
      rw [hfn] at a3 b3
      exact ⟨by rw [List.append_nil]; exact a3.of rfl rfl, b3⟩

theorem cs_try (nd : α → Nd) (hp : ∀ k, Pres (f k)) (hpb : ∀ k, Pres (body k)) (x : Nd) (l : List α) (hk : ∀ k ∈ l, CS (f k) (g k)) (h0 : ∀ j, l[1]? = some j → (nd j).kind = 0 → ∀ fn c, g j fn c = ([], c)) (hb : ∀ j, l[1]? = some j → (nd j).kind ≠ 0 → CS (body j) (g j)) : CS (tryP nd f body x l) (fun fn c => foldOwn g fn l c) := fun s s' own c hi h hl e => by
  obtain ⟨s1, e1, e2⟩ := bind_ok e
  have p1 := pres_each hp _ s s1 hi e1
  obtain ⟨a1, b1⟩ := cs_each hp (l.take 1) (fun k hk' => hk k (List.mem_of_mem_take hk')) s s1 own c hi h hl e1
  obtain ⟨s2, e3, e4⟩ := bind_ok e2
  have p2 := pres_catch nd hpb x _ s1 s2 p1.inv e3
  obtain ⟨a2, b2⟩ := cs_catch (body := body) nd x l[1]? h0 hb s1 s2 _ _ p1.inv a1 b1 e3
  rw [p1.fn] at a2 b2
  obtain ⟨a3, b3⟩ := cs_each hp (l.drop 2) (fun k hk' => hk k (List.mem_of_mem_drop hk')) s2 s' _ _ p2.inv a2 b2 e4
  rw [p2.fn, p1.fn] at a3 b3
  have hcut : l = l.take 1 ++ (l[1]?.toList ++ l.drop 2) := by
    rcases l with _ | ⟨x0, _ | ⟨x1, r⟩⟩ <;> simp
  have e5 : foldOwn g s.fn l c = foldOwn g s.fn (l.take 1 ++ (l[1]?.toList ++ l.drop 2)) c := by rw [← hcut]
  simp only
  rw [e5, fold_app, fold_app]
  exact ⟨by simpa [List.append_assoc] using a3, b3⟩

theorem cs_give (bi : ByteArray → Bool) (nd : α → Nd) (hp : ∀ k, Pres (f k)) (l : List α) (h3 : ∀ k, (nd k).kind = 3 → ∀ fn c, g k fn c = ([fn], c)) (hk : ∀ k ∈ l, CS (f k) (g k)) : CS (giveP bi nd f l) (fun fn c => foldOwn g fn l c) := fun s s' own c hi h hl e => by
  unfold giveP at e
  cases l with
  | nil =>
    obtain rfl := Except.ok.inj e
    exact ⟨by simpa [foldOwn] using h, hl⟩
  | cons t r =>
    simp only at e
    split at e
    · rename_i d
      cases hu : useP bi (nd t).name (nd t).pl s with
      | error x => rw [hu] at e; cases e
      | ok p =>
        obtain ⟨v, s1⟩ := p
        rw [hu] at e
        simp only at e
        have p1 := use_stp bi _ _ s s1 v hi hu
        obtain ⟨a1, b1⟩ := use_cp bi _ _ s s1 v own h hi hu
        split at e
        · cases e
        · obtain ⟨a2, b2⟩ := cs_each hp r (fun k hk' => hk k (by simp [hk'])) s1 s' _ c p1.inv a1 (by rw [b1]; exact hl) e
          rw [p1.fn] at a2 b2
          simp only [foldOwn]
          rw [h3 t d]
          exact ⟨by rw [List.append_assoc] at a2; exact a2, b2⟩
    · exact cs_each hp _ hk s s' own c hi h hl e

theorem pars_cp (nd : α → Nd) (ex : List Nat) : ∀ (l : List α) (s s' : RS) (own : List Nat), Inv s ex true → Cp s own → parsP nd l s = .ok s' → Cp s' own
  | [], s, s', own, hi, h, e => by obtain rfl := Except.ok.inj e; exact h
  | k :: r, s, s', own, hi, h, e => by
    obtain ⟨s1, e1, e2⟩ := bind_ok e
    exact pars_cp nd ex r s1 s' own (hi.decl e1).1 (h.decl hi.use e1) e2

theorem enter_cp (x : Nd) (many : Nat) (s : RS) (own : List Nat) (hi : Inv s [] false) (h : Cp s own) : Cp (enterP x many s) own := by
  unfold enterP
  cases selfB x with
  | true => exact h.more hi.use _ rfl rfl rfl
  | false => exact h.of rfl rfl

theorem cs_function (nd : α → Nd) (hpb : ∀ k, Pres (body k)) (x : Nd) (l : List α) (hne : l ≠ []) (hb : ∀ b, l.getLast? = some b → CS (body b) (g b)) : CS (functionP nd body x l) (fun fn c => foldOwn g (c + 1) (l.drop (l.length - 1)) (c + 1)) := fun s s' own c hi h hl e => by
  have hall := pres_function nd hpb x l s s' hi e
  unfold functionP at e
  split at e
  · cases e
  · cases hgl : l.getLast? with
    | none => exact absurd (List.getLast?_eq_none_iff.1 hgl) hne
    | some b =>
      rw [hgl] at e
      simp only at e
      obtain ⟨s1, e1, e2⟩ := bind_ok e
      obtain ⟨s2, e3, e4⟩ := bind_ok e2
      obtain rfl := Except.ok.inj e4
      have hdrop : l.drop (l.length - 1) = [b] := by
        have hpos : 0 < l.length := List.length_pos_iff.2 hne
        rw [List.getLast?_eq_getElem?] at hgl
        have hlt : l.length - 1 < l.length := by omega
        rw [List.drop_eq_getElem_cons hlt, List.drop_of_length_le (by omega)]
        rw [List.getElem?_eq_getElem hlt] at hgl
        rw [Option.some.inj hgl]
      obtain ⟨hi0, hv0⟩ := enter_inv x (l.length - 1) s hi
      obtain ⟨q1, q2, q3⟩ := enter_scopes x (l.length - 1) s
      obtain ⟨p1, p2, p3, p4, p5⟩ := pars_inv nd _ _ _ s1 hi0 e1
      have c1 := pars_cp nd _ _ _ s1 own hi0 (enter_cp x _ s own hi h) e1
      have hx1 : ∃ y, s1.scopes[s1.fn]? = some y := ⟨_, List.getElem?_eq_getElem p1.fnl⟩
      obtain ⟨y, hy⟩ := hx1
      have hyp : y.params = l.length - 1 := by
        obtain ⟨z, hz, hz2⟩ := p5 _ y hy
        rw [p2, q2, q1] at hz
        simp at hz
        rw [hz2, ← hz]
      have hyv : y.vars = l.length - 1 := by
        rw [← vars_at s1 y hy, p4, hv0, List.length_dropLast]
        omega
      have hi1 : Inv (if selfB x then bumpP s1 else s1) [] false := by
        cases cc : selfB x with
        | true =>
          rw [cc] at p1
          simp only [if_true] at p1 ⊢
          exact pars_self (l.length - 1) p1 y hy hyv (by omega)
        | false =>
          rw [cc] at p1
          simp only [Bool.false_eq_true, if_false] at p1 ⊢
          exact pars_plain p1 y hy (by omega)
      have c2 : Cp (if selfB x then bumpP s1 else s1) own := by
        cases selfB x with
        | true => exact c1.of rfl rfl
        | false => exact c1
      have hl1 : (if selfB x then bumpP s1 else s1).scopes.length = (c + 1) + 1 := by
        have : s1.scopes.length = s.scopes.length + 1 := by rw [p3, q1]; simp
        split
        · rw [bump_len]; omega
        · omega
      have hf1 : (if selfB x then bumpP s1 else s1).fn = c + 1 := by
        have : s1.fn = c + 1 := by rw [p2, q2]; exact hl
        split
        · exact this
        · exact this
      obtain ⟨a3, b3⟩ := hb b hgl _ s2 own (c + 1) hi1 c2 hl1 e3
      rw [hf1] at a3 b3
      simp only
      rw [hdrop]
      simp only [foldOwn, List.append_nil]
      exact ⟨a3.of rfl rfl, b3⟩
end

end Go.Proofs.Ytihmdcdifakepab.Rz
