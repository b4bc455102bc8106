/- Package lex: Scan of every text. -/
import Derived.Test.YtaikkmehmiiffaaGreatDoorZ17
import Derived.Test.YtaikkmehmiiffaaGreatDoorBB
namespace Go.Proofs.YtaikkmehmiiffaaGreatDoor.Lx
open Go.RowKit
set_option linter.unusedVariables false

def litN (l : List UInt8) : Nat × Bool := ((litI l).1.toNat, (litI l).2)

theorem lit_1F : litI [48, 120, 49, 70] = (4629418941960159232, true) := by decide +kernel

theorem lit_pos (l : List UInt8) : 0 ≤ (litI l).1 := by
  unfold litI
  split
  · unfold hexI
    split
    · unfold nearI
      exact Int.natCast_nonneg _
    · exact Int.le_refl _
  · split
    · exact Int.natCast_nonneg _
    · exact Int.le_refl _

theorem litC : LitC litN := by
  intro l w hl
  refine (literal_read l w (by omega)).mono ?_
  rintro e w' ⟨rfl, hb⟩
  refine ⟨?_, hb⟩
  unfold litN
  rw [Int.toNat_of_nonneg (lit_pos l)]

/-- the variables that Scan reads, where the program's text lays them -/
structure Glob (w : World) : Prop where
  err : ErrAt w
  signs : SignsAt w

theorem Glob.below {w w' : World} (h : Glob w) (hb : Below w.heap.size w w') : Glob w' := ⟨h.err.below hb, h.signs.below hb⟩

/-- what Scan says of a text -/
def scI (l : List UInt8) : List Tok × Nat × Nat := scanI litN l

theorem scan_any (l : List UInt8) (w : World) (hG : Glob w) : Calls Tryz.prog 10 #[.string (bs l)] w (ScanPost w (scI l)) := by
  unfold scI scanI
  by_cases h1 : 65536 < l.length
  · rw [if_pos h1]
    refine (scan_long (bs l) w h1).mono ?_
    rintro e w' ⟨rfl, rfl⟩
    exact ⟨_, rfl, ⟨rfl, Or.inl ⟨rfl, rfl⟩⟩, Below.refl _ _⟩
  · rw [if_neg h1]
    have c0 := fun w => run_pure pProg 16 pure_prog l w (by omega) (Or.inr rfl)
    have le := cntP_le pProg l
    by_cases h2 : cntP pProg l < l.length
    · rw [if_pos h2]
      refine (scan_byte (bs l) _ w (by rw [bs_size]; omega) h2 c0).mono ?_
      rintro e w' ⟨rfl, hb⟩
      exact ⟨_, rfl, ⟨rfl, Or.inl ⟨rfl, rfl⟩⟩, hb⟩
    · rw [if_neg h2]
      have e1 : cntP pProg l = l.length := by omega
      rw [e1] at c0
      have ha : asc l := by
        intro c hc
        have := cntP_mem pProg l e1 c hc
        unfold pProg at this
        simp at this
        omega
      exact scan_loop litN litC l w (by omega) ha hG.err hG.signs c0

end Go.Proofs.YtaikkmehmiiffaaGreatDoor.Lx
