/- Steps of CodeMore's loop. -/
import Derived.Test.YtkoamenfbnpdbaaDoorDB
namespace Go.Proofs.YtkoamenfbnpdbaaDoor.Cd
open Go.RowKit Go.Deep
set_option linter.unusedVariables false

theorem app_zero (g : Nat) (ka : Option Addr) (kc : Nat) (ty : TypeId) (w : World) : (Builtin.append_ #[32, 32] ty #[.slice (some ⟨g, 0, none⟩) 0 0, .slice ka 0 kc]).run Tryd.prog w = .ok (.slice (some ⟨g, 0, none⟩) 0 0) w := by
  obtain ⟨i, hi, _⟩ := Option.map_eq_some_iff.1 (show (Tryd.prog.info? 46).map (fun i => i.size) = some 3 by kernel_rfl)
  cases ka with
  | none => simp [Builtin.append_, run_underlying Tryd.underlying32, sizeOf, typeInfo, hi, Builtin.lenOf, Builtin.firstCells, storeCells]
  | some a => simp [Builtin.append_, run_underlying Tryd.underlying32, sizeOf, typeInfo, hi, Builtin.lenOf, Builtin.firstCells, storeCells, loadCells, loadCellsFrom]

/-- an old function lies where neither the variable nor the row is -/
theorem old_okn {w2 wz : World} {gq : Nat} {v : Value} {gs : List Fn} {f : Fn} (h : QAt w2 wz gq v gs) (hg : w2.heap.size = gq) (hf : f.ok w2) : f.okn (Nq gq v wz) wz := by
  have h1 : f.okn (fun b => b < w2.heap.size) w2 := hf.okn (fun b hb => hb)
  refine h1.move (fun b hb => ⟨by have := h.bel.size; omega, by omega, ?_⟩) (fun b j u hb hc => ?_)
  · intro e
    have := (own_blk h.own b e.symm).1
    omega
  · rw [h.bel.cell (p := ⟨b, j, none⟩) hb]
    exact hc

/-- constants in a row of the call's own -/
theorem row_okn {N : Nat → Prop} {w : World} {B g cap : Nat} {cs : List Cst} (h : w.ownsRow B 46 3 (.slice (some ⟨g, 0, none⟩) cs.length cap) cs.length (cs.flatMap cstC)) (hN : N g) : Sli.okn N cstC 3 w ⟨some ⟨g, 0, none⟩, cap, cs⟩ := by
  rcases h.2 with ⟨e, _⟩ | ⟨g', cap', cur, e, hb, hg, hnc, hcm, hcs, ht⟩
  · cases e
  cases e
  refine ⟨hnc, hcm, fun h0 => ⟨g, 0, rfl, hN, ?_⟩⟩
  intro i y hi j u hj
  have hi' : cs[i]? = some y := hi
  have jl : j < 3 := by
    rcases Nat.lt_or_ge j 3 with k | k
    · exact k
    · rw [List.getElem?_eq_none (by exact k)] at hj; cases hj
  have il : i < cs.length := by
    rcases Nat.lt_or_ge i cs.length with k | k
    · exact k
    · rw [List.getElem?_eq_none k] at hi'; cases hi'
  rw [cell_of_row w g _ cur 46 (0, 0) hg]
  have e : (cs.flatMap cstC)[i * 3 + j]? = (cstC y)[j]? := by
    clear ht hcs hnc hcm hg h0 h
    induction cs generalizing i with
    | nil => simp at hi'
    | cons a r ih =>
      rw [List.flatMap_cons]
      have l3 : (cstC a).length = 3 := rfl
      cases i with
      | zero =>
        simp at hi'
        subst hi'
        rw [List.getElem?_append_left (by omega)]
        congr 1
        omega
      | succ i =>
        rw [List.getElem?_append_right (by omega), l3, show (i + 1) * 3 + j - 3 = i * 3 + j from by omega]
        exact ih i (by simpa using hi') (by simpa using hi') (by simp at il; omega)
  rw [← ht, List.getElem?_take_of_lt (by omega), hj] at e
  simpa using e

theorem own46_kept {w w' : World} {B n : Nat} {v : Value} {xs : List Value} (h : w.ownsRow B 46 3 v n xs) (hb : Below w.heap.size w w') : w'.ownsRow B 46 3 v n xs :=
  World.ownsRow.kept h (grown_of_below hb) (by cases hv : v.ownBlock <;> simp)

/-- the cells of constants that lie in memory, one behind the other -/
theorem cst_news {w : World} {b off : Nat} {cs : List Cst} (h : ∀ i y, cs[i]? = some y → ∀ j u, (cstC y)[j]? = some u → w.cell? ⟨b, off + i * 3 + j, none⟩ = some u) : ∀ j u, (cs.flatMap cstC)[j]? = some u → w.cell? ((⟨b, off, none⟩ : Addr).add j) = some u := by
  intro j u hj
  have hadd : (⟨b, off, none⟩ : Addr).add j = ⟨b, off + j, none⟩ := by
    unfold Addr.add
    by_cases hn : j = 0
    · subst hn; simp
    · simp [hn]
  rw [hadd]
  induction cs generalizing j off with
  | nil => simp at hj
  | cons a r ih =>
    rw [List.flatMap_cons] at hj
    rcases Nat.lt_or_ge j 3 with c | c
    · rw [List.getElem?_append_left (by exact c)] at hj
      have := h 0 a rfl j u hj
      simpa using this
    · rw [List.getElem?_append_right (by exact c), show (cstC a).length = 3 from rfl] at hj
      have h2 := ih (off := off + 3) (fun i y hi j' u' hj' => by
        have := h (i + 1) y (by simpa using hi) j' u' hj'
        rw [show off + 3 + i * 3 + j' = off + (i + 1) * 3 + j' by omega]
        exact this) (j - 3) hj (by
          unfold Addr.add
          by_cases hn : j - 3 = 0
          · simp [hn]
          · simp [hn])
      rw [show off + j = off + 3 + (j - 3) by omega]
      exact h2

theorem flat_cst_len (cs : List Cst) : (cs.flatMap cstC).length = cs.length * 3 := by
  induction cs with
  | nil => rfl
  | cons a r ih =>
    rw [List.flatMap_cons, List.length_append, ih, List.length_cons]
    have : (cstC a).length = 3 := rfl
    omega

theorem cst_one (cs : List Cst) : ∀ u ∈ cs.flatMap cstC, u.oneCell' = true := by
  intro u hu
  rw [List.mem_flatMap] at hu
  obtain ⟨c, _, hc⟩ := hu
  unfold cstC at hc
  simp only [List.mem_cons, List.not_mem_nil, or_false] at hc
  rcases hc with rfl | rfl | rfl <;> rfl

theorem fn_one (f : Fn) : ∀ u ∈ fnC f, u.oneCell' = true := by
  intro u hu
  unfold fnC Sli.val at hu
  simp only [List.mem_cons, List.not_mem_nil, or_false] at hu
  rcases hu with rfl | rfl | rfl | rfl | rfl | rfl | rfl | rfl <;> rfl

theorem bn {w0 w : World} (h : Below w0.heap.size w0 w) (o : Obj) : Below w0.heap.size w0 (w.alloc o) := below_new h h.size o

/-- an empty row in a block of its own -/
theorem empty_own {w : World} {B g : Nat} (hg : w.heap[g]? = some (.cells #[] 46 (0, 0))) (hb : B ≤ g) : w.ownsRow B 46 3 (.slice (some ⟨g, 0, none⟩) 0 0) 0 [] :=
  ⟨rfl, Or.inr ⟨g, 0, #[], rfl, hb, hg, Nat.le_refl _, Nat.zero_le _, rfl, rfl⟩⟩

theorem at_new (w : World) (o : Obj) : (w.alloc o).heap[w.heap.size]? = some o := by show (w.heap.push _)[w.heap.size]? = _; rw [Array.getElem?_push_size]

theorem at_old (w : World) (o p : Obj) (g : Nat) (h : w.heap[g]? = some p) : (w.alloc o).heap[g]? = some p := by
  have hl := (Array.getElem?_eq_some_iff.1 h).1
  show (w.heap.push _)[g]? = _
  rw [Array.getElem?_push_lt hl, ← h, Array.getElem?_eq_getElem hl]

theorem at_next (w : World) (o p : Obj) : ((w.alloc o).alloc p).heap[w.heap.size + 1]? = some p := by
  have := at_new (w.alloc o) p
  rw [size_new] at this
  exact this

end Go.Proofs.YtkoamenfbnpdbaaDoor.Cd
