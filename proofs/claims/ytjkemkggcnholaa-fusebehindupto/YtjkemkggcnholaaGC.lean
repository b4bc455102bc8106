/- Rows of groups. -/
import Derived.Test.YtjkemkggcnholaaGP
namespace Go.Proofs.Ytjkemkggcnholaa.Fu
open Go.RowKit
set_option linter.unusedVariables false

/-- a row of groups of the call's own -/
def OwnG (B : Nat) (w : World) (v : Value) (gs : List Grp) : Prop := w.ownsRow B 32 3 v gs.length (gs.flatMap grpC)

theorem OwnG.kept {B : Nat} {w w' : World} {v : Value} {gs : List Grp} (h : OwnG B w v gs) (hb : Below w.heap.size w w') : OwnG B w' v gs :=
  World.ownsRow.kept h (grown_of_below hb) (by cases hv : v.ownBlock <;> simp)

theorem OwnG.nil (B : Nat) (w : World) : OwnG B w (.slice none 0 0) [] := ⟨rfl, Or.inl ⟨rfl, rfl⟩⟩

theorem OwnG.base {B : Nat} {w : World} {v : Value} {gs : List Grp} (h : OwnG B w v gs) : ∀ k, v.ownBlock = some k → B ≤ k := by
  intro k hk
  rcases h.2 with ⟨rfl, _⟩ | ⟨g, cap, cur, rfl, hb, _⟩
  · simp [Value.ownBlock] at hk
  · simp [Value.ownBlock] at hk
    omega

theorem OwnG.low {B B' : Nat} {w : World} {v : Value} {gs : List Grp} (h : OwnG B w v gs) (hB : B' ≤ B) : OwnG B' w v gs := by
  refine ⟨h.1, ?_⟩
  rcases h.2 with h0 | ⟨g, cap, cur, h1, hb, h2⟩
  · exact Or.inl h0
  · exact Or.inr ⟨g, cap, cur, h1, by omega, h2⟩

theorem OwnG.new {B : Nat} {w : World} {v : Value} {gs : List Grp} (h : OwnG B w v gs) (o : Obj) : OwnG B (w.alloc o) v gs := h.kept ((Below.refl _ _).alloc (Nat.le_refl _) _)

theorem flat_at : ∀ (gs : List Grp) (i : Nat) (g : Grp), gs[i]? = some g → ∀ j u, (grpC g)[j]? = some u → (gs.flatMap grpC)[i * 3 + j]? = some u
  | [], i, g, h, _, _, _ => by simp at h
  | x :: gs, 0, g, h, j, u, hj => by
    simp at h
    subst h
    have jl : j < (grpC x).length := by
      rcases Nat.lt_or_ge j (grpC x).length with c | c
      · exact c
      · rw [List.getElem?_eq_none c] at hj; cases hj
    rw [List.flatMap_cons, Nat.zero_mul, Nat.zero_add, List.getElem?_append_left jl]
    exact hj
  | x :: gs, i + 1, g, h, j, u, hj => by
    rw [List.flatMap_cons, List.getElem?_append_right (by show 3 ≤ _; omega)]
    have := flat_at gs i g (by simpa using h) j u hj
    rw [← this]
    congr 1
    show _ - 3 = _
    omega

/-- such a row, read: a slice of groups -/
theorem OwnG.sl {B : Nat} {w : World} {v : Value} {gs : List Grp} (h : OwnG B w v gs) : ∃ s : Sli Grp, v = s.val ∧ s.xs = gs ∧ s.ok grpC 3 w := by
  rcases h.2 with ⟨rfl, hn⟩ | ⟨g, cap, cur, rfl, hb, hg, hnc, hcm, hcs, ht⟩
  · have := List.length_eq_zero_iff.1 hn
    subst this
    exact ⟨⟨none, 0, []⟩, rfl, rfl, ⟨Nat.le_refl _, Nat.zero_le _, fun h => absurd rfl h⟩⟩
  · refine ⟨⟨some ⟨g, 0, none⟩, cap, gs⟩, rfl, rfl, ⟨hnc, hcm, fun h0 => ⟨g, 0, rfl, ?_⟩⟩⟩
    intro i y hi j u hj
    have hf := flat_at gs i y hi j u hj
    rw [cell_of_row w g _ cur 32 (0, 0) hg, Nat.zero_add]
    have il : i < gs.length := by
      rcases Nat.lt_or_ge i gs.length with k | k
      · exact k
      · simp only at hi
        rw [List.getElem?_eq_none k] at hi
        cases hi
    have jl : j < 3 := by
      rcases Nat.lt_or_ge j 3 with k | k
      · exact k
      · rw [List.getElem?_eq_none (by exact k)] at hj
        cases hj
    have e : (cur.toList.take (gs.length * 3))[i * 3 + j]? = some u := by rw [ht]; exact hf
    rw [List.getElem?_take_of_lt (by omega)] at e
    simpa using e

theorem info32 : (Try.prog.info? 32).map (fun i => (i.zero, i.size, i.bytes)) = some (some (.agg #[.int .i64 0, .int .i64 0, .int .i64 0]), 3, 24) := by kernel_rfl

theorem one_grp (w : World) (g : Grp) : ∀ j u, (grpC g)[j]? = some u → (w.alloc (.cells #[.int .i64 g.p, .int .i64 g.n, .int .i64 g.k] 32)).cell? ⟨w.heap.size, j, none⟩ = some u := by
  intro j u h
  rw [cell_of_row _ w.heap.size j #[.int .i64 g.p, .int .i64 g.n, .int .i64 g.k] 32 (0, 0) (by show (w.heap.push _)[w.heap.size]? = _; rw [Array.getElem?_push_size])]
  unfold grpC at h
  simpa using h

/-- a group more behind the row -/
theorem app_grp {w : World} {ops : Array Oper} {rest : List Oper} {o : Oper} {a : Act} {Q : Exit → Act → World → Prop} (hgd : o.guard = none) (s x : Operand)
    (ho : o.op = .call { callee := .builtin .append, args := #[s, x], argTypes := #[28, 28] })
    (B : Nat) (v : Value) (gs : List Grp) (hs : a.eval s = v) (hown : OwnG B w v gs) (b : Nat) (g : Grp) (hx : a.eval x = .slice (some ⟨b, 0, none⟩) 1 1) (hg : ∀ j u, (grpC g)[j]? = some u → w.cell? ⟨b, j, none⟩ = some u)
    (hb : (gs.length + 1) * 24 ≤ 140737488355328) (hB : B ≤ w.heap.size)
    (h : ∀ v' w', OwnG B w' v' (gs ++ [g]) → w.grownBy w' v.ownBlock → wpList Try.prog ops Q rest (a.put o.dst v') w') : wpList Try.prog ops Q (o :: rest) a w := by
  obtain ⟨i0, hi, hz0, hz1, hz2⟩ := info_parts info32
  refine wpList_append_own _ hgd s x 28 ho B 32 i0 (.agg #[.int .i64 0, .int .i64 0, .int .i64 0]) 3 24 Try.underlying28 hi hz0 hz1 hz2 rfl (by decide) v gs.length (gs.flatMap grpC) hs hown ⟨b, 0, none⟩ 1 1 (grpC g) hx rfl ?_ ?_ (by unfold maxLen; omega) hb hB ?_
  · intro j u hj
    have := hg j u hj
    by_cases c : j = 0
    · subst c; simpa [Addr.add] using this
    · simpa [Addr.add, c] using this
  · intro u hu
    simp [grpC] at hu
    rcases hu with rfl | rfl | rfl <;> rfl
  · intro v' w' h1 h2 _
    refine h v' w' ?_ h2
    unfold OwnG
    rw [List.length_append, List.flatMap_append]
    have e : [g].flatMap grpC = grpC g := by simp
    rw [e]
    exact h1

end Go.Proofs.Ytjkemkggcnholaa.Fu
