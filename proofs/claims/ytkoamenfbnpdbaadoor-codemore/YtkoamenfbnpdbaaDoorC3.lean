/- Package code: Shape; the document's Shape. -/
import Derived.Test.YtkoamenfbnpdbaaDoorC2
namespace Go.Proofs.YtkoamenfbnpdbaaDoor.Cd
open Go.RowKit
set_option linter.unusedVariables false

def bs (l : List UInt8) : ByteArray := ⟨l.toArray⟩

/-- the operands of each Op -/
def shL : List (List UInt8) := [[45, 45, 45], [119, 107, 45], [119, 115, 45], [119, 114, 45], [119, 45, 45], [119, 45, 45], [119, 98, 45], [119, 45, 45], [119, 114, 45], [114, 114, 45], [119, 99, 45], [114, 120, 45], [119, 102, 45], [119, 114, 104], [119, 114, 114], [119, 114, 45], [119, 114, 45], [119, 114, 45], [119, 114, 45], [119, 114, 45], [119, 114, 45], [119, 114, 114], [119, 114, 114], [119, 114, 114], [119, 114, 114], [119, 114, 114], [119, 114, 114], [119, 114, 114], [119, 114, 114], [119, 114, 114], [119, 114, 114], [119, 114, 114], [119, 114, 114], [119, 114, 114], [119, 114, 114], [119, 114, 114], [119, 114, 114], [119, 114, 114], [119, 114, 114], [119, 114, 114], [119, 114, 114], [114, 114, 114], [119, 114, 120], [114, 120, 114], [119, 114, 114], [119, 114, 114], [119, 114, 114], [119, 45, 45], [119, 45, 45], [114, 114, 45], [114, 114, 114], [114, 114, 114], [114, 114, 114], [119, 114, 110], [119, 114, 110], [114, 45, 45], [114, 45, 45], [116, 45, 45], [114, 116, 45], [114, 116, 45], [119, 119, 45], [119, 45, 45], [114, 45, 45]]

/-- the table, as it lies in memory -/
def shV : Array Value := (shL.map fun t => Value.string (bs t)).toArray

/-- the variable shapes, where the program's text lays it -/
def ShAt (w : World) : Prop := ∃ t fr, w.heap[0]? = some (.cells shV t fr)

theorem ShAt.lt {w : World} (h : ShAt w) : 0 < w.heap.size := by
  obtain ⟨t, fr, h⟩ := h
  rcases Nat.lt_or_ge 0 w.heap.size with k | k
  · exact k
  · rw [Array.getElem?_eq_none k] at h
    exact absurd h (by simp)

theorem ShAt.below {w w' : World} (h : ShAt w) (hb : Below w.heap.size w w') : ShAt w' := by
  obtain ⟨t, fr, k⟩ := h
  exact ⟨t, fr, (hb.block 0 (ShAt.lt ⟨t, fr, k⟩)).trans k⟩

theorem shV_at (k : Nat) (t : List UInt8) (h : shL[k]? = some t) : shV[k]? = some (.string (bs t)) := by
  unfold shV
  simp [h]

theorem ShAt.cell {w : World} (h : ShAt w) (k : Nat) (t : List UInt8) (hk : shL[k]? = some t) : w.cell? ⟨0, k, none⟩ = some (.string (bs t)) := by
  obtain ⟨ty, fr, hg⟩ := h
  rw [cell_of_row w 0 k shV ty fr hg]
  exact shV_at k t hk

/-- an Op's operands -/
def shapeI (op : Int) : List UInt8 := if 0 ≤ op then (shL[op.toNat]?).getD [] else []

theorem shapeI_out (op : Int) (h : op < 0 ∨ 63 ≤ op) : shapeI op = [] := by
  unfold shapeI
  rcases h with h | h
  · rw [if_neg (by omega)]
  · rw [if_pos (by omega), List.getElem?_eq_none (by show 63 ≤ _; omega)]
    rfl

theorem shapeI_in (k : Nat) (h : k < 63) : ∃ t, shL[k]? = some t ∧ shapeI k = t := by
  refine ⟨shL[k]'(by show k < 63; exact h), List.getElem?_eq_getElem _, ?_⟩
  unfold shapeI
  rw [if_pos (by omega), Int.toNat_natCast, List.getElem?_eq_getElem (by show k < 63; exact h)]
  rfl

theorem shape_any (op : Int) (w : World) (hS : ShAt w) : Calls Tryd.prog 12 #[.int .i64 op] w fun e w' => e = .returned (.string (bs (shapeI op))) ∧ w' = w := by
  by_cases h0 : op < 0
  · rw [shapeI_out op (.inl h0)]
    clear hS
    go_enter Tryd.func12, Tryd.ntmps12
    go_wp2
    go_ret
    exact ⟨rfl, rfl⟩
  by_cases h1 : 63 ≤ op
  · rw [shapeI_out op (.inr h1)]
    clear hS
    go_enter Tryd.func12, Tryd.ntmps12
    go_wp2
    go_ret
    exact ⟨rfl, rfl⟩
  obtain ⟨k, rfl⟩ : ∃ k : Nat, op = (k : Int) := ⟨op.toNat, by omega⟩
  obtain ⟨t, h2, h3⟩ := shapeI_in k (by omega)
  have hc := hS.cell k t h2
  rw [h3]
  clear hS h2 h3
  go_enter Tryd.func12, Tryd.ntmps12
  go_wp2
  go_ret
  exact ⟨rfl, rfl⟩

set_option maxRecDepth 100000 in
set_option maxHeartbeats 2000000 in
theorem shapes_any (w : World) : Calls Tryd.prog 26 #[] w fun e w' => e = .returned (.slice (some ⟨w.heap.size, 0, none⟩) 63 63) ∧ w' = w.alloc (.cells shV 9) := by
  go_enter Tryd.func26, Tryd.ntmps26
  go_wp2
  go_ret
  exact ⟨rfl, rfl⟩

theorem refshape_any (op : Int) (w : World) : Calls Tryd.prog 13 #[.int .i64 op] w fun e w' => e = .returned (.string (bs (shapeI op))) ∧ w' = w.alloc (.cells shV 9) := by
  have c26 := shapes_any w
  by_cases h0 : op < 0
  · rw [shapeI_out op (.inl h0)]
    generalize w.alloc (.cells shV 9) = w1 at *
    go_enter Tryd.func13, Tryd.ntmps13
    go_wp2_with fail
    refine c26.mono ?_
    rintro e w2 ⟨rfl, rfl⟩
    go_wp2
    go_ret
    exact ⟨rfl, rfl⟩
  by_cases h1 : 63 ≤ op
  · rw [shapeI_out op (.inr h1)]
    generalize w.alloc (.cells shV 9) = w1 at *
    go_enter Tryd.func13, Tryd.ntmps13
    go_wp2_with fail
    refine c26.mono ?_
    rintro e w2 ⟨rfl, rfl⟩
    go_wp2
    go_ret
    exact ⟨rfl, rfl⟩
  obtain ⟨k, rfl⟩ : ∃ k : Nat, op = (k : Int) := ⟨op.toNat, by omega⟩
  obtain ⟨t, h2, h3⟩ := shapeI_in k (by omega)
  have hc : (w.alloc (.cells shV 9)).cell? ⟨w.heap.size, k, none⟩ = some (.string (bs t)) := by
    rw [cell_of_row _ w.heap.size k shV 9 (0, 0) (by show (w.heap.push _)[w.heap.size]? = _; rw [Array.getElem?_push_size])]
    exact shV_at k t h2
  rw [h3]
  clear h2 h3
  generalize w.alloc (.cells shV 9) = w1 at *
  go_enter Tryd.func13, Tryd.ntmps13
  go_wp2_with fail
  refine c26.mono ?_
  rintro e w2 ⟨rfl, rfl⟩
  go_wp2
  go_ret
  exact ⟨rfl, rfl⟩

end Go.Proofs.YtkoamenfbnpdbaaDoor.Cd
