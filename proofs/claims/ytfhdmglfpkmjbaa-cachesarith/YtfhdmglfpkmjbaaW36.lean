/- The document's Trunc, Floor and Whole. -/
import Derived.Test.YtfhdmglfpkmjbaaW35
namespace Go.Proofs.Ytfhdmglfpkmjbaa
open Go.RowKit

theorem trunc_kind (a : Int) (h0 : 0 ≤ a) (h1 : a < 18446744073709551616) (k : kindI a ≠ 3) : kindI (truncI a) ≠ 3 := by
  by_cases c : kindI a = 2
  · have t : truncI a = a := by unfold truncI; rw [if_neg k, if_pos (Or.inl (by omega))]
    rw [t]; exact k
  · have := kind_cases a
    have := (trunc_val a h0 h1 (by omega)).1
    omega

theorem trunc_nanv (a : Int) (k : kindI a = 3) : truncI a = 9221120237041090560 := by unfold truncI; rw [if_pos k]

theorem floor_bd (a : Int) (h0 : 0 ≤ a) (h1 : a < 18446744073709551616) : 0 ≤ floorI a ∧ floorI a < 18446744073709551616 := by
  unfold floorI
  split
  · exact subI_bd _ _
  · exact trunc_bd a h0 h1

theorem floor_kind (a : Int) (h0 : 0 ≤ a) (h1 : a < 18446744073709551616) (k : kindI a ≠ 3) : kindI (floorI a) ≠ 3 := by
  unfold floorI
  by_cases c : kindI a = 2
  · have t : truncI a = a := by unfold truncI; rw [if_neg k, if_pos (Or.inl (by omega))]
    rw [t, less_false a a h0 h0 (Int.le_refl _), if_neg (by decide)]
    exact k
  · have := kind_cases a
    obtain ⟨kt, _⟩ := trunc_val a h0 h1 (by omega)
    obtain ⟨t0, t1⟩ := trunc_bd a h0 h1
    split
    · obtain ⟨s0, s1⟩ := subI_bd (truncI a) 4607182418800017408
      refine kind_of_rank _ s0 s1 ?_
      rw [rank_sub _ _ t0 t1 (by omega) (by omega) kt (by rw [one_prt.1]; decide)]
      exact srp_bd _ _
    · omega

theorem floor_nanv (a : Int) (k : kindI a = 3) : floorI a = 9221120237041090560 := by
  unfold floorI
  have : lessI a (truncI a) = false := by unfold lessI; rw [k]; rfl
  rw [this, if_neg (by decide), trunc_nanv a k]end Go.Proofs.Ytfhdmglfpkmjbaa
