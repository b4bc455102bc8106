/- NumtextBlanks: what it asks of Read. -/
import Derived.Test.YtpejebohekcfoabGreatDoorP2
namespace Go.Proofs.YtpejebohekcfoabGreatDoor
open Go.RowKit
set_option linter.unusedVariables false

theorem read_ba (X : ByteArray) (w : World) (h : X.size ≤ 1000000) : Calls Tryz.prog 7 #[.string X] w fun e w' => e = .returned (.int .u64 (readI X.data.toList)) ∧ Below w.heap.size w w' := by
  have e : bs X.data.toList = X := by unfold bs; simp
  have := read_any X.data.toList w (by simpa using h)
  rw [e] at this
  exact this

theorem bs_app (a b : List UInt8) : bs a ++ bs b = bs (a ++ b) := by
  apply ByteArray.ext
  unfold bs
  simp [ByteArray.data_append]

/-- the blank that a byte stands for -/
def blankOf (z : Int) : UInt8 := if z.tmod 3 = 0 then 9 else if z.tmod 3 = 1 then 10 else 32

def spL (zs : List Int) (k : Nat) : List UInt8 := (zs.take k).map blankOf

theorem spL_len (zs : List Int) (k : Nat) (h : k ≤ zs.length) : (spL zs k).length = k := by
  unfold spL; rw [List.length_map, List.length_take, Nat.min_eq_left h]

theorem spL_next (zs : List Int) (k : Nat) (h : k < zs.length) : spL zs (k + 1) = spL zs k ++ [blankOf (zs.getD k 0)] := by
  unfold spL
  rw [List.take_add_one, List.map_append, List.getElem?_eq_getElem h, List.getD, List.getElem?_eq_getElem h]
  rfl

theorem blank_in (z : Int) : blankS.contains (blankOf z) = true := by
  unfold blankOf
  split
  · decide
  · split <;> decide

theorem spL_blank (zs : List Int) (k : Nat) : ∀ c ∈ spL zs k, blankS.contains c = true := by
  intro c hc
  unfold spL at hc
  obtain ⟨z, _, rfl⟩ := List.mem_map.1 hc
  exact blank_in z

theorem uns_kind (l : List UInt8) (h : (unsI l : Nat) ≠ 9221120237041090560) : unsI l ≤ 9218868437227405312 := by
  unfold unsI at h ⊢
  split
  · omega
  · split
    · exact valD_le _ _
    · rename_i h1 h2
      rw [if_neg h1, if_neg h2] at h
      exact absurd rfl h

theorem neg_uns (u : Nat) (h : u ≤ 9218868437227405312) : negI (u : Int) = u + 9223372036854775808 := by
  have k : kindI (u : Int) ≠ 3 := by
    unfold kindI fldN frcN
    rw [show ((u : Int)).toNat = u from by omega]
    split
    · split
      · decide
      · omega
    · split <;> decide
  unfold negI
  rw [if_neg k]
  omega

theorem neg_nan : negI 9221120237041090560 = 9221120237041090560 := by decide +kernel

/-- a text that opens with a digit but 0 -/
theorem blanks_plain (c : UInt8) (r sp : List UInt8) (h0 : 49 ≤ c.toNat) (h1 : c.toNat ≤ 57) (hs : ∀ b ∈ sp, blankS.contains b = true) (hn : readI (c :: r) ≠ 9221120237041090560) :
    readI (45 :: c :: r) = readI (c :: r) + 9223372036854775808 ∧ readI (sp ++ 43 :: c :: r) = readI (c :: r) ∧ (sp ≠ [] → readI (45 :: (sp ++ c :: r)) = 9221120237041090560) ∧ 0 ≤ readI (c :: r) ∧ readI (c :: r) < 9223372036854775808 := by
  have cb : blankS.contains c = false := by
    unfold blankS
    rw [List.contains_eq_any_beq, List.any_eq_false]
    intro x hx e
    have := eq_of_beq e
    subst this
    revert h0
    simp at hx
    rcases hx with rfl | rfl | rfl <;> decide
  have n45 : blankS.contains 45 = false := by decide
  have n43 : blankS.contains 43 = false := by decide
  have c48 : c ≠ 48 := by rintro rfl; revert h0; decide
  have c43 : c ≠ 43 := by rintro rfl; revert h0; decide
  have c45 : c ≠ 45 := by rintro rfl; revert h0; decide
  have e0 : readI (c :: r) = (unsI (c :: Lib.trimRightS r blankS) : Nat) := by
    unfold readI; rw [trimS_cons c r blankS cb, core_digit c _ c48 c43 c45]
  have u : unsI (c :: Lib.trimRightS r blankS) ≤ 9218868437227405312 := by
    refine uns_kind _ ?_
    intro e; rw [e0, e] at hn; exact hn rfl
  rw [e0]
  refine ⟨?_, ?_, ?_, by omega, by omega⟩
  · unfold readI
    rw [trimS_cons 45 _ blankS n45, trimR_cons c r blankS cb, core_minus, neg_uns _ u]
  · unfold readI
    rw [trimS_app sp _ blankS 43 hs n43, trimR_cons c r blankS cb, core_plus]
  · intro hsp
    unfold readI
    rw [trimS_cons 45 _ blankS n45, trimR_app sp r blankS c cb, core_minus]
    obtain ⟨b, t, rfl⟩ : ∃ b t, sp = b :: t := by cases sp with | nil => exact absurd rfl hsp | cons b t => exact ⟨b, t, rfl⟩
    have hb : b = 9 ∨ b = 10 ∨ b = 32 := by
      have := hs b (by simp)
      unfold blankS at this
      simpa using this
    rw [List.cons_append, uns_blank b _ hb]
    exact neg_nan

end Go.Proofs.YtpejebohekcfoabGreatDoor
