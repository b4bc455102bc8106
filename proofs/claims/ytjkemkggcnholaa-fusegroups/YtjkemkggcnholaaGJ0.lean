/- FuseParts: plain. -/
import Derived.Test.YtjkemkggcnholaaGI
namespace Go.Proofs.Ytjkemkggcnholaa.Fu
open Go.RowKit
set_option linter.unusedVariables false

theorem seg_at (cx : List Ins) (st : List Int) (p i : Nat) (y : Ins) (h : (segI cx st p)[i]? = some y) : cx[p + i]? = some y := by
  unfold segI at h
  rw [List.getElem?_take] at h
  split at h
  · rw [List.getElem?_drop] at h
    exact h
  · cases h

/-- what a group is, by its kind -/
theorem first_is (cx : List Ins) (st : List Int) (p : Nat) (F : Int × Nat) (hF : firstI (segI cx st p) = F) :
    (F = (1, 3) ∧ ∃ a b c, cx[p]? = some a ∧ cx[p + 1]? = some b ∧ cx[p + 2]? = some c ∧ a.op = 13 ∧ b.op = 13 ∧ 21 ≤ c.op ∧ c.op ≤ 35 ∧ c.b = a.a ∧ c.c = b.a) ∨
    (F = (2, 2) ∧ ∃ a b, cx[p]? = some a ∧ cx[p + 1]? = some b ∧ 32 ≤ a.op ∧ a.op ≤ 39 ∧ (b.op = 58 ∨ b.op = 59) ∧ b.a = a.a) ∨
    (F = (3, 2) ∧ ∃ a b, cx[p]? = some a ∧ cx[p + 1]? = some b ∧ a.op = 10 ∧ b.op = 8 ∧ b.b = a.a) ∨
    (F = (4, 2) ∧ ∃ a b, cx[p]? = some a ∧ cx[p + 1]? = some b ∧ a.op = 3 ∧ b.op = 3) ∨ F = (0, 1) := by
  have hat := seg_at cx st p
  generalize segI cx st p = l at *
  subst hF
  unfold firstI
  split
  · rename_i h
    refine Or.inl ⟨rfl, ?_⟩
    rcases l with _ | ⟨a, _ | ⟨b, _ | ⟨c, r⟩⟩⟩
    · cases h
    · cases h
    · cases h
    · simp [arithB] at h
      exact ⟨a, b, c, hat 0 a rfl, hat 1 b rfl, hat 2 c rfl, by omega, by omega, by omega, by omega, by omega, by omega⟩
  · split
    · rename_i h
      refine Or.inr (Or.inl ⟨rfl, ?_⟩)
      rcases l with _ | ⟨a, _ | ⟨b, r⟩⟩
      · cases h
      · cases h
      · simp [testB] at h
        exact ⟨a, b, hat 0 a rfl, hat 1 b rfl, by omega, by omega, by omega, by omega⟩
    · split
      · rename_i h
        refine Or.inr (Or.inr (Or.inl ⟨rfl, ?_⟩))
        rcases l with _ | ⟨a, _ | ⟨b, r⟩⟩
        · cases h
        · cases h
        · simp [freeB] at h
          exact ⟨a, b, hat 0 a rfl, hat 1 b rfl, by omega, by omega, by omega⟩
      · split
        · rename_i h
          refine Or.inr (Or.inr (Or.inr (Or.inl ⟨rfl, ?_⟩)))
          rcases l with _ | ⟨a, _ | ⟨b, r⟩⟩
          · cases h
          · cases h
          · simp [movesB] at h
            exact ⟨a, b, hat 0 a rfl, hat 1 b rfl, by omega, by omega⟩
        · exact Or.inr (Or.inr (Or.inr (Or.inr rfl)))

/-- an instruction of a function's code, in memory -/
theorem ins_cells {s : Sli Ins} {w : World} {b off : Nat} (hs : s.ok insC 4 w) (hb : s.at' = some ⟨b, off, none⟩) {i : Nat} {y : Ins} (h : s.xs[i]? = some y) :
    w.cell? ⟨b, off + i * 4, none⟩ = some (.int .i64 y.op) ∧ w.cell? ⟨b, off + i * 4 + 1, none⟩ = some (.int .i64 y.a) ∧ w.cell? ⟨b, off + i * 4 + 2, none⟩ = some (.int .i64 y.b) ∧ w.cell? ⟨b, off + i * 4 + 3, none⟩ = some (.int .i64 y.c) := by
  obtain ⟨b', off', e, hc⟩ := hs.cells (by intro e; rw [e] at h; simp at h)
  rw [hb] at e
  cases e
  exact ⟨hc i y h 0 _ rfl, hc i y h 1 _ rfl, hc i y h 2 _ rfl, hc i y h 3 _ rfl⟩

def regN (n : Nat) : Code → Option Code
  | .region k ops d => if k = n then some (.region k ops d) else none
  | .seq a b => match regN n a with
    | some c => some c
    | none => regN n b
  | .cond _ a b => match regN n a with
    | some c => some c
    | none => regN n b
  | .block _ c => regN n c
  | .loop c => regN n c
  | .scope c => regN n c
  | _ => none

end Go.Proofs.Ytjkemkggcnholaa.Fu
