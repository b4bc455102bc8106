/- Appends to rows of whatever kind. -/
import Derived.Test.YtiliffnflamkjaaPJ
import Derived.Maps.AppendAt
namespace Go.Proofs.Ytiliffnflamkjaa.Sp
open Go.RowKit
set_option linter.unusedVariables false

/-- elements of type e, k cells each, in slices of type t -/
structure RT {β : Type} (enc : β → List Value) (t e : TypeId) (k bytes : Nat) : Prop where
  len : ∀ y, (enc y).length = k
  und : Try.prog.underlying t = some (.slice e)
  inf : ∃ i z, Try.prog.info? e = some i ∧ i.zero = some z ∧ i.size = k ∧ i.bytes = bytes ∧ z.cells.size = k
  pos : 0 < k
  one : ∀ y, ∀ u ∈ enc y, u.oneCell' = true

theorem rt_inf {t : TypeId} {z : Value} {s b : Nat} (h : (Try.prog.info? t).map (fun i => (i.zero, i.size, i.bytes)) = some (some z, s, b)) (hz : z.cells.size = s) : ∃ i z, Try.prog.info? t = some i ∧ i.zero = some z ∧ i.size = s ∧ i.bytes = b ∧ z.cells.size = s := by
  obtain ⟨i, h1, h2, h3, h4⟩ := info_parts h
  exact ⟨i, z, h1, h2, h3, h4, hz⟩

def strC (k : ByteArray) : List Value := [.string k]
def intC (z : Int) : List Value := [.int .i64 z]
def stpC (s : Bool × ByteArray × Int) : List Value := [.bool s.1, .string s.2.1, .int .i64 s.2.2]

theorem rtStr : RT strC 40 9 1 16 := ⟨fun _ => rfl, Try.underlying40, rt_inf (z := .string ⟨#[]⟩) (by kernel_rfl) rfl, by decide, fun y u h => by simp [strC] at h; subst h; rfl⟩
theorem rtInt : RT intC 71 3 1 8 := ⟨fun _ => rfl, Try.underlying71, rt_inf (z := .int .i64 0) (by kernel_rfl) rfl, by decide, fun y u h => by simp [intC] at h; subst h; rfl⟩
theorem rtStp : RT stpC 72 77 3 32 := ⟨fun _ => rfl, Try.underlying72, rt_inf (z := .agg #[.bool false, .string ⟨#[]⟩, .int .i64 0]) (by kernel_rfl) rfl, by decide, fun y u h => by simp [stpC] at h; rcases h with rfl | rfl | rfl <;> rfl⟩

section
variable {β : Type} {enc : β → List Value} {t e : TypeId} {k bytes : Nat}

/-- a slice of one, in a block of its own -/
theorem one_sli (R : RT enc t e k bytes) {w : World} {cb : Nat} {y : β} {cs : Array Value} {t' : TypeId} (h : w.heap[cb]? = some (.cells cs t' (0, 0))) (hc : cs.toList = enc y) : Sli.ok enc k w ⟨some ⟨cb, 0, none⟩, 1, [y]⟩ := by
  refine ⟨Nat.le_refl _, by show (1 : Nat) ≤ 2 ^ 63 - 1; decide, fun _ => ⟨cb, 0, rfl, fun i z hi j u hj => ?_⟩⟩
  cases i with
  | zero =>
    simp at hi
    subst hi
    rw [cell_of_row w cb _ cs t' (0, 0) h]
    rw [show 0 + 0 * k + j = j by omega, ← hj, ← hc]
    simp
  | succ i => simp at hi

theorem app_zero (R : RT enc t e k bytes) {w : World} {B : Nat} {v : Value} {xs : List β} (h : OwnR enc k e B w v xs) (ka : Option Addr) (kc : Nat) (ty : TypeId) : (Builtin.append_ #[t, t] ty #[v, .slice ka 0 kc]).run Try.prog w = .ok v w := by
  obtain ⟨i, z, hi, _⟩ := R.inf
  rcases h.2 with ⟨rfl, h0⟩ | ⟨g, cap, cur, rfl, hb, hg, hn, hc, hs, ht⟩
  · cases ka with
    | none => simp [Builtin.append_, run_underlying R.und, sizeOf, typeInfo, hi, Builtin.lenOf, Builtin.firstCells]
    | some a => simp [Builtin.append_, run_underlying R.und, sizeOf, typeInfo, hi, Builtin.lenOf, Builtin.firstCells, loadCells, loadCellsFrom]
  · cases ka with
    | none => simp [Builtin.append_, run_underlying R.und, sizeOf, typeInfo, hi, Builtin.lenOf, Builtin.firstCells, storeCells, hn]
    | some a => simp [Builtin.append_, run_underlying R.und, sizeOf, typeInfo, hi, Builtin.lenOf, Builtin.firstCells, storeCells, loadCells, loadCellsFrom, hn]

/-- a slice put behind a row -/
theorem app_row (R : RT enc t e k bytes) {w : World} {ops : Array Oper} {rest : List Oper} {o : Oper} {a : Act} {Q : Exit → Act → World → Prop} (hgd : o.guard = none) (s x : Operand)
    (ho : o.op = .call { callee := .builtin .append, args := #[s, x], argTypes := #[t, t] })
    (B : Nat) (v : Value) (xs : List β) (hs : a.eval s = v) (hown : OwnR enc k e B w v xs) (sl : Sli β) (hx : a.eval x = sl.val) (hok : sl.ok enc k w)
    (hm : xs.length + sl.xs.length ≤ maxLen) (hb : (xs.length + sl.xs.length) * bytes ≤ 140737488355328) (hB : B ≤ w.heap.size)
    (h : ∀ v' w', OwnR enc k e B w' v' (xs ++ sl.xs) → w.grownBy w' v.ownBlock → (v'.ownBlock = v.ownBlock ∨ v'.ownBlock = some w.heap.size) → wpList Try.prog ops Q rest (a.put o.dst v') w') : wpList Try.prog ops Q (o :: rest) a w := by
  by_cases c : sl.xs = []
  · have hr := app_zero R hown sl.at' sl.cap o.type
    refine wpList_plain hgd fun K hK => ?_
    have hx2 : a.eval x = .slice sl.at' 0 sl.cap := by rw [hx]; unfold Sli.val; rw [c]; rfl
    unfold Oper.wp execOp
    simp only [ho, resolve, invoke, builtin, Sem.run_bind, Sem.run_pure, Result.andThen_ok, List.map_toArray, List.map_cons, List.map_nil, hs, hx2, hr]
    refine hK _ _ (h _ _ ?_ ⟨rfl, rfl, rfl, Nat.le_refl _, fun _ _ _ => rfl⟩ (Or.inl rfl))
    rw [c, List.append_nil]
    exact hown
  · obtain ⟨b, off, e1, hc⟩ := hok.cells c
    obtain ⟨i, z, hi, hz, h1, h2, h3⟩ := R.inf
    refine wpList_append_own_at _ hgd s x t ho B e i z k bytes R.und hi hz h1 h2 h3 R.pos v xs.length (xs.flatMap enc) hs hown ⟨b, off, none⟩ sl.xs.length sl.cap (sl.xs.flatMap enc) (by rw [hx]; unfold Sli.val; rw [e1]) (flat_len R.len _) (news_of R.len hc) ?_ hm hb hB ?_
    · intro u hu
      obtain ⟨g, g1, g2⟩ := List.mem_flatMap.1 hu
      exact R.one g u g2
    · intro v' w' g1 g2 _ g4
      refine h v' w' ?_ g2 g4
      unfold OwnR
      rw [List.length_append, List.flatMap_append]
      exact g1

/-- one put behind a row, in a drawn region -/
theorem step_row (R : RT enc t e k bytes) {W : World} {ops : Array Oper} {o : Oper} {a : Act} {K : Act → World → Prop} {Q : Exit → Act → World → Prop} {E : Prop} (hgd : o.guard = none) (s x : Operand)
    (ho : o.op = .call { callee := .builtin .append, args := #[s, x], argTypes := #[t, t] })
    (B : Nat) (v : Value) (xs : List β) (hs : a.eval s = v) (hown : OwnR enc k e B W v xs) (cb : Nat) (y : β) (cs : Array Value) (t' : TypeId) (hx : a.eval x = .slice (some ⟨cb, 0, none⟩) 1 1) (hcb : W.heap[cb]? = some (.cells cs t' (0, 0))) (hcs : cs.toList = enc y)
    (hm : xs.length + 1 ≤ maxLen) (hb : (xs.length + 1) * bytes ≤ 140737488355328) (hB : B ≤ W.heap.size)
    (h : ∀ g cap w', OwnR enc k e B w' (.slice (some ⟨g, 0, none⟩) (xs.length + 1) cap) (xs ++ [y]) → W.grownBy w' v.ownBlock → K (a.put o.dst (.slice (some ⟨g, 0, none⟩) (xs.length + 1) cap)) w') :
    if Region.wanted o (yielded ops a.tmps) = true then Oper.wp Try.prog o a W K Q else E := by
  obtain ⟨i, z, hi, hz, h1, h2, h3⟩ := R.inf
  have hn : ∀ j u, (enc y)[j]? = some u → W.cell? ((⟨cb, 0, none⟩ : Addr).add j) = some u := by
    rw [← hcs]
    exact World.news_of_block (cs := cs) (t := t') (fr := (0, 0)) hcb
  refine step_append_lies _ hgd s x t ho B e i z k bytes R.und hi hz h1 h2 h3 R.pos v xs.length (xs.flatMap enc) hs hown ⟨cb, 0, none⟩ 1 1 (enc y) hx (by rw [R.len, Nat.one_mul]) hn (R.one y) (by decide) hm hb hB _ rfl ?_
  intro g cap w' g1 g2 _ _
  refine h g cap w' ?_ g2
  unfold OwnR
  rw [List.length_append, List.flatMap_append]
  have : [y].flatMap enc = enc y := by simp
  rw [this]
  exact g1

theorem empty_own {w : World} {B g : Nat} (hg : w.heap[g]? = some (.cells #[] e (0, 0))) (hb : B ≤ g) : OwnR enc k e B w (.slice (some ⟨g, 0, none⟩) 0 0) [] := by
  refine ⟨?_, Or.inr ⟨g, 0, #[], rfl, hb, hg, Nat.le_refl _, Nat.zero_le _, ?_, ?_⟩⟩ <;> simp

end

end Go.Proofs.Ytiliffnflamkjaa.Sp
