/- The walk of scale. -/
import Derived.Test.YtpejebohekcfoabGreatDoorC1
namespace Go.Proofs.YtpejebohekcfoabGreatDoor
open Go.RowKit
set_option linter.unusedVariables false

/-- the whole is made greater, and put down -/
theorem tens_whole (w : World) (B b V L U T c K : Nat) (cl : Bool) (h : Iv w B b V L U T cl) (hT : T < 2 ^ K) (hK : K + 4 * c ≤ 60000000) :
    ∃ v4, w.cell? ⟨b, 3, none⟩ = some v4 ∧ Calls Tryz.prog 70 #[v4, .int .i64 c] w fun e w1 => ∃ k l p : Nat, e = .returned (.slice (some ⟨k, 0, none⟩) l p) ∧ w1.cell? ⟨b, 3, none⟩ = some v4 ∧ w1.frozen? ⟨b, 3, none⟩ = false ∧
      Hid (Iv (w1.setCell ⟨b, 3, none⟩ (.slice (some ⟨k, 0, none⟩) l p)) B b V L U (T * 10 ^ c) cl ∧ Tame w (w1.setCell ⟨b, 3, none⟩ (.slice (some ⟨k, 0, none⟩) l p)) b ∧ Below B w (w1.setCell ⟨b, 3, none⟩ (.slice (some ⟨k, 0, none⟩) l p))) := by
  obtain ⟨v1, v2, v3, v4, g1, g2, g3, g4, hb, n1, n2, n3, n4, s1, s2, s3, s4, s5, s6, s7, s8, s9, s10, b0, b1, b2, b3, b4⟩ := h
  refine ⟨v4, (cells5_of hb).c3, ?_⟩
  refine (tens_any w v4 g4 T c K n4 hT (by omega)).mono ?_
  rintro e w1 ⟨u, k, rfl, m, mv⟩
  have l1 := n1.lt
  have l2 := n2.lt
  have l3 := n3.lt
  have l4 := n4.lt
  have lb : b < w.heap.size := (Array.getElem?_eq_some_iff.1 hb).1
  have pl := mv.place
  have hb1 := blk_kept hb mv s4
  obtain ⟨p, rfl, o⟩ := m
  refine ⟨k, _, p, rfl, (cells5_of hb1).c3, frozen_of_row w1 b 3 _ 76 hb1, ?_, ?_, ?_⟩
  · refine ⟨v1, v2, v3, _, g1, g2, g3, k, (heap_setCell_same w1 b 3 _ 76 _ hb1).trans rfl, (n1.kept mv.grown (by omega)).set s1, (n2.kept mv.grown (by omega)).set s2, (n3.kept mv.grown (by omega)).set s3, Num.set ⟨p, rfl, o⟩ (by omega), s1, s2, s3, by omega, s5, s6, by omega, s8, by omega, by omega, b0, b1, b2, b3, by omega⟩
  · exact (Tame.of_grown mv.grown n4).trans (Tame.of_set w1 b 3 _)
  · exact (mv.below b4 (by omega)).setCell b0 _

def ScaleAt (w wr : World) (B b V L U T : Nat) (cl : Bool) (g : Int) (gv uv : Value) : Prop :=
  ∃ j : Nat, gv = .int .i64 (g + (j : Int)) ∧ uv = .bool (inN (T * 10 ^ j) (V + U) cl) ∧ Iv wr B b V L U (T * 10 ^ j) cl ∧ Tame w wr b ∧ Below B w wr ∧ ∀ i < j, inN (T * 10 ^ i) (V + U) cl = true

theorem in_le {T S : Nat} {cl : Bool} (h : inN T S cl = true) : T ≤ S := by
  unfold inN at h
  simp only [Bool.or_eq_true, Bool.and_eq_true, decide_eq_true_eq] at h
  omega

theorem pow_bound {T S K j : Nat} (hT : 0 < T) (h : T * 10 ^ j ≤ S) (hS : S < 2 ^ K) : j < K := by
  have h1 : 2 ^ j ≤ 10 ^ j := Nat.pow_le_pow_left (by decide) j
  have h2 : 10 ^ j ≤ T * 10 ^ j := Nat.le_mul_of_pos_left _ hT
  exact (Nat.pow_lt_pow_iff_right (by decide : 1 < 2)).1 (by omega)

end Go.Proofs.YtpejebohekcfoabGreatDoor
