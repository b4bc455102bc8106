/- FuseBehind: plain; rows of instructions. -/
import Derived.Test.YtjkemkggcnholaaGI
namespace Go.Proofs.Ytjkemkggcnholaa.Fu
open Go.RowKit
set_option linter.unusedVariables false

theorem from_len (cx : List Ins) (st : List Int) (hs : st.Pairwise (· < ·)) : ∀ m p, cx.length - p = m → (from' cx st p).length ≤ cx.length - p := by
  intro m
  induction m using Nat.strongRecOn with
  | _ m ih =>
    intro p hm
    rcases Nat.lt_or_ge p cx.length with c | c
    · rw [from_step cx st p c, List.length_cons]
      have h1 := first_pos (segI cx st p)
      have h2 := (step_in cx st p hs c).1
      have := ih (cx.length - (p + (firstI (segI cx st p)).2)) (by omega) _ rfl
      omega
    · rw [from_end cx st p c]
      simp

theorem end_more (n n' p : Nat) (zs : List Int) (h : n ≤ n') (e e' : Nat) (he : endI n zs = e) (he' : endI n' zs = e') (hp : p + 3 ≤ n) (h1 : p < e) (h2 : p < e') : min 3 (e - p) = min 3 (e' - p) := by
  cases zs with
  | nil =>
    simp only [endI] at he he'
    omega
  | cons z r =>
    simp only [endI] at he he'
    split at he <;> split at he' <;> omega

/-- a group with room behind it does not hang on what comes further on -/
theorem first_more (cx ms : List Ins) (st : List Int) (hs : st.Pairwise (· < ·)) (p : Nat) (hp : p + 3 ≤ cx.length) : firstI (segI (cx ++ ms) st p) = firstI (segI cx st p) := by
  obtain ⟨e, he, h1, h2, _, _⟩ := end_spec cx.length p st hs (by omega)
  obtain ⟨e', he', h1', h2', _, _⟩ := end_spec (cx ++ ms).length p st hs (by rw [List.length_append]; omega)
  have hm := end_more cx.length (cx ++ ms).length p (behindI p st) (by rw [List.length_append]; omega) e e' he he' hp h1 h1'
  rw [← first_three, ← first_three (segI cx st p)]
  unfold segI
  rw [he, he', Int.toNat_natCast, Int.toNat_natCast, List.take_take, List.take_take, hm]
  rw [List.drop_append_of_le_length (by omega), List.take_append_of_le_length (by rw [List.length_drop]; omega)]

theorem from_more (cx ms : List Ins) (st : List Int) (hs : st.Pairwise (· < ·)) : ∀ i p g, i + 2 < (from' cx st p).length → (from' cx st p)[i]? = some g → (from' (cx ++ ms) st p)[i]? = some g := by
  intro i
  induction i with
  | zero =>
    intro p g h hg
    have hl := from_len cx st hs _ p rfl
    have c : p < cx.length := by omega
    rw [from_step cx st p c] at hg
    rw [from_step (cx ++ ms) st p (by rw [List.length_append]; omega), first_more cx ms st hs p (by omega)]
    simpa using hg
  | succ i ih =>
    intro p g h hg
    have hl := from_len cx st hs _ p rfl
    have c : p < cx.length := by omega
    have c3 : p + 3 ≤ cx.length := by omega
    rw [from_step cx st p c] at hg h
    rw [from_step (cx ++ ms) st p (by rw [List.length_append]; omega), first_more cx ms st hs p c3]
    simp at hg h ⊢
    exact ih _ g (by omega) hg

theorem groups_more (cx ms : List Ins) (st : List Int) (hs : st.Pairwise (· < ·)) (i : Nat) (g : Grp) (h : i + 2 < (groupsI cx st).length) (hg : (groupsI cx st)[i]? = some g) : (groupsI (cx ++ ms) st)[i]? = some g :=
  from_more cx ms st hs i 0 g h hg

/-- what is no jump -/
def noJump (i : Ins) : Bool := !(decide (i.op = 57) || decide (i.op = 58) || decide (i.op = 59))

theorem jumps_none : ∀ ms : List Ins, jumpsL (ms.filter noJump) = []
  | [] => rfl
  | i :: ms => by
    rw [List.filter_cons]
    split
    · rename_i h
      have e : jumpI i = (0, false) := by
        simp [noJump] at h
        unfold jumpI
        simp [h]
      rw [jumpsL, e, jumps_none ms]
      rfl
    · exact jumps_none ms

/-- the places to which code jumps are the same -/
theorem start_more (f : Fn) (ms : List Ins) (s : Sli Ins) (h : s.xs = f.code.xs ++ ms.filter noJump) : startL ⟨f.name, f.params, f.regs, f.gen, s, f.consts, f.caps, f.hnds⟩ = startL f := by
  unfold startL
  simp only
  rw [h, jumpsL_app, jumps_none, List.append_nil]

/-- a row of instructions of the call's own -/
def OwnC (B : Nat) (w : World) (v : Value) (xs : List Ins) : Prop := w.ownsRow B 41 4 v xs.length (xs.flatMap insC)

theorem OwnC.kept {B : Nat} {w w' : World} {v : Value} {xs : List Ins} (h : OwnC B w v xs) (hb : Below w.heap.size w w') : OwnC B w' v xs :=
  World.ownsRow.kept h (grown_of_below hb) (by cases hv : v.ownBlock <;> simp)

theorem OwnC.nil (B : Nat) (w : World) : OwnC B w (.slice none 0 0) [] := ⟨rfl, Or.inl ⟨rfl, rfl⟩⟩

theorem OwnC.base {B : Nat} {w : World} {v : Value} {xs : List Ins} (h : OwnC B w v xs) : ∀ k, v.ownBlock = some k → B ≤ k := by
  intro k hk
  rcases h.2 with ⟨rfl, _⟩ | ⟨g, cap, cur, rfl, hb, _⟩
  · simp [Value.ownBlock] at hk
  · simp [Value.ownBlock] at hk
    omega

theorem OwnC.new {B : Nat} {w : World} {v : Value} {xs : List Ins} (h : OwnC B w v xs) (o : Obj) : OwnC B (w.alloc o) v xs := h.kept ((Below.refl _ _).alloc (Nat.le_refl _) _)

theorem flat_ins : ∀ (xs : List Ins) (i : Nat) (g : Ins), xs[i]? = some g → ∀ j u, (insC g)[j]? = some u → (xs.flatMap insC)[i * 4 + j]? = some u
  | [], i, g, h, _, _, _ => by simp at h
  | x :: xs, 0, g, h, j, u, hj => by
    simp at h
    subst h
    have jl : j < (insC x).length := by
      rcases Nat.lt_or_ge j (insC x).length with c | c
      · exact c
      · rw [List.getElem?_eq_none c] at hj; cases hj
    rw [List.flatMap_cons, Nat.zero_mul, Nat.zero_add, List.getElem?_append_left jl]
    exact hj
  | x :: xs, i + 1, g, h, j, u, hj => by
    rw [List.flatMap_cons, List.getElem?_append_right (by show 4 ≤ _; omega)]
    have := flat_ins xs i g (by simpa using h) j u hj
    rw [← this]
    congr 1
    show _ - 4 = _
    omega

theorem flat_len : ∀ xs : List Ins, (xs.flatMap insC).length = xs.length * 4
  | [] => rfl
  | x :: xs => by
    rw [List.flatMap_cons, List.length_append, flat_len xs, List.length_cons]
    show 4 + _ = _
    omega

/-- each cell of such a row is one of an instruction's -/
theorem flat_back : ∀ (xs : List Ins) (k : Nat) (u : Value), (xs.flatMap insC)[k]? = some u → ∃ (i j : Nat) (g : Ins), xs[i]? = some g ∧ (insC g)[j]? = some u ∧ k = i * 4 + j
  | [], k, u, h => by simp at h
  | x :: xs, k, u, h => by
    rw [List.flatMap_cons] at h
    rcases Nat.lt_or_ge k 4 with c | c
    · rw [List.getElem?_append_left (by exact c)] at h
      exact ⟨0, k, x, rfl, h, by omega⟩
    · rw [List.getElem?_append_right (by exact c)] at h
      obtain ⟨i, j, g, h1, h2, h3⟩ := flat_back xs (k - 4) u h
      exact ⟨i + 1, j, g, by simpa using h1, h2, by omega⟩

theorem OwnC.sl {B : Nat} {w : World} {v : Value} {xs : List Ins} (h : OwnC B w v xs) : ∃ s : Sli Ins, v = s.val ∧ s.xs = xs ∧ s.ok insC 4 w := by
  rcases h.2 with ⟨rfl, hn⟩ | ⟨g, cap, cur, rfl, hb, hg, hnc, hcm, hcs, ht⟩
  · have := List.length_eq_zero_iff.1 hn
    subst this
    exact ⟨⟨none, 0, []⟩, rfl, rfl, ⟨Nat.le_refl _, Nat.zero_le _, fun h => absurd rfl h⟩⟩
  · refine ⟨⟨some ⟨g, 0, none⟩, cap, xs⟩, rfl, rfl, ⟨hnc, hcm, fun h0 => ⟨g, 0, rfl, ?_⟩⟩⟩
    intro i y hi j u hj
    have hf := flat_ins xs i y hi j u hj
    rw [cell_of_row w g _ cur 41 (0, 0) hg, Nat.zero_add]
    have il : i < xs.length := by
      rcases Nat.lt_or_ge i xs.length with k | k
      · exact k
      · simp only at hi
        rw [List.getElem?_eq_none k] at hi
        cases hi
    have jl : j < 4 := by
      rcases Nat.lt_or_ge j 4 with k | k
      · exact k
      · rw [List.getElem?_eq_none (by exact k)] at hj
        cases hj
    have e : (cur.toList.take (xs.length * 4))[i * 4 + j]? = some u := by rw [ht]; exact hf
    rw [List.getElem?_take_of_lt (by omega)] at e
    simpa using e

theorem info41 : (Try.prog.info? 41).map (fun i => (i.zero, i.size, i.bytes)) = some (some (.agg #[.int .i64 0, .int .i64 0, .int .i64 0, .int .i64 0]), 4, 32) := by kernel_rfl

/-- some instructions more behind the row -/
theorem app_ins {w : World} {ops : Array Oper} {rest : List Oper} {o : Oper} {a : Act} {Q : Exit → Act → World → Prop} (hgd : o.guard = none) (s x : Operand)
    (ho : o.op = .call { callee := .builtin .append, args := #[s, x], argTypes := #[22, 22] })
    (B : Nat) (v : Value) (xs : List Ins) (hs : a.eval s = v) (hown : OwnC B w v xs) (b off cap : Nat) (ys : List Ins) (hx : a.eval x = .slice (some ⟨b, off, none⟩) ys.length cap)
    (hg : ∀ i y, ys[i]? = some y → ∀ j u, (insC y)[j]? = some u → w.cell? ⟨b, off + i * 4 + j, none⟩ = some u)
    (hb : (xs.length + ys.length) * 32 ≤ 140737488355328) (hB : B ≤ w.heap.size)
    (h : ∀ v' w', OwnC B w' v' (xs ++ ys) → w.grownBy w' v.ownBlock → wpList Try.prog ops Q rest (a.put o.dst v') w') : wpList Try.prog ops Q (o :: rest) a w := by
  obtain ⟨i0, hi, hz0, hz1, hz2⟩ := info_parts info41
  refine wpList_append_own _ hgd s x 22 ho B 41 i0 (.agg #[.int .i64 0, .int .i64 0, .int .i64 0, .int .i64 0]) 4 32 Try.underlying22 hi hz0 hz1 hz2 rfl (by decide) v xs.length (xs.flatMap insC) hs hown ⟨b, off, none⟩ ys.length cap (ys.flatMap insC) hx (flat_len ys) ?_ ?_ (by unfold maxLen; omega) hb hB ?_
  · intro k u hk
    obtain ⟨i, j, g, h1, h2, rfl⟩ := flat_back ys k u hk
    have := hg i g h1 j u h2
    rw [show off + i * 4 + j = off + (i * 4 + j) by omega] at this
    generalize i * 4 + j = q at *
    by_cases c : q = 0
    · subst c; simpa [Addr.add] using this
    · simpa [Addr.add, c] using this
  · intro u hu
    obtain ⟨g, h1, h2⟩ := List.mem_flatMap.1 hu
    simp [insC] at h2
    rcases h2 with rfl | rfl | rfl | rfl <;> rfl
  · intro v' w' h1 h2 _
    refine h v' w' ?_ h2
    unfold OwnC
    rw [List.length_append, List.flatMap_append]
    exact h1

/-- nothing behind nothing -/
theorem app_none (ka : Option Addr) (kc : Nat) (ty : TypeId) (w : World) : (Builtin.append_ #[22, 22] ty #[.slice none 0 0, .slice ka 0 kc]).run Try.prog w = .ok (.slice none 0 0) w := by
  obtain ⟨i, hi, _⟩ := Option.map_eq_some_iff.1 (show (Try.prog.info? 41).map (fun i => i.size) = some 4 by kernel_rfl)
  cases ka with
  | none => simp [Builtin.append_, run_underlying Try.underlying22, sizeOf, typeInfo, hi, Builtin.lenOf, Builtin.firstCells]
  | some a => simp [Builtin.append_, run_underlying Try.underlying22, sizeOf, typeInfo, hi, Builtin.lenOf, Builtin.firstCells, loadCells, loadCellsFrom]

/-- a slice's instructions behind nothing -/
theorem app_sl {w : World} {ops : Array Oper} {rest : List Oper} {o : Oper} {a : Act} {Q : Exit → Act → World → Prop} (hgd : o.guard = none) (s x : Operand)
    (ho : o.op = .call { callee := .builtin .append, args := #[s, x], argTypes := #[22, 22] })
    (B : Nat) (hs : a.eval s = .slice none 0 0) (t : Sli Ins) (hx : a.eval x = t.val) (ht : t.ok insC 4 w) (hb : t.xs.length * 32 ≤ 140737488355328) (hB : B ≤ w.heap.size)
    (h : ∀ v' w', OwnC B w' v' t.xs → w.grownBy w' none → wpList Try.prog ops Q rest (a.put o.dst v') w') : wpList Try.prog ops Q (o :: rest) a w := by
  by_cases c : t.xs = []
  · have hr := app_none t.at' t.cap o.type w
    refine wpList_plain hgd fun K hK => ?_
    have hx2 : a.eval x = .slice t.at' 0 t.cap := by rw [hx]; unfold Sli.val; rw [c]; rfl
    unfold Oper.wp execOp
    simp only [ho, resolve, invoke, builtin, Sem.run_bind, Sem.run_pure, Result.andThen_ok, List.map_toArray, List.map_cons, List.map_nil, hs, hx2, hr]
    refine hK _ _ (h _ _ ?_ (grown_of_below (Below.refl _ _)))
    rw [c]
    exact OwnC.nil _ _
  · obtain ⟨b, off, e1, hc⟩ := ht.cells c
    refine app_ins hgd s x ho B (.slice none 0 0) [] hs (OwnC.nil _ _) b off t.cap t.xs (by rw [hx]; unfold Sli.val; rw [e1]) hc (by simpa using hb) hB ?_
    intro v' w' h1 h2
    exact h v' w' h1 h2

theorem one_ins (w : World) (i : Ins) : ∀ k y, [i][k]? = some y → ∀ j u, (insC y)[j]? = some u → (w.alloc (.cells #[.int .i64 i.op, .int .i64 i.a, .int .i64 i.b, .int .i64 i.c] 41)).cell? ⟨w.heap.size, 0 + k * 4 + j, none⟩ = some u := by
  intro k y hk j u hj
  cases k with
  | zero =>
    simp at hk
    subst hk
    rw [show 0 + 0 * 4 + j = j by omega]
    exact insB_cell _ _ _ _ w j u hj
  | succ k => simp at hk

theorem OwnC.set {B : Nat} {w : World} {v : Value} {xs : List Ins} (h : OwnC B w v xs) {a : Addr} (ha : a.block < B) (u : Value) : OwnC B (w.setCell a u) v xs := ownsRow_setCell_below h ha u

end Go.Proofs.Ytjkemkggcnholaa.Fu
