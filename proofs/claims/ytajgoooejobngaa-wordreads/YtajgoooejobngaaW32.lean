/- math.Mod of two finite numbers that are not 0. -/
import Derived.Test.YtajgoooejobngaaW31
namespace Go.Proofs.Ytajgoooejobngaa
open Go.RowKit

theorem abs_word (a : Int) (h0 : 0 ≤ a) (h1 : a < 18446744073709551616) (k : kindI a < 2) : (a % 9223372036854775808).toNat = wd (magI a) ∧ Rep (magI a) := by
  have K := (kind_fld a h0 h1).1.1 k
  obtain ⟨F, hF⟩ : ∃ F : Int, a % 9223372036854775808 = F := ⟨_, rfl⟩
  have f0 : 0 ≤ F := by omega
  have f1 : F < 9218868437227405312 := by
    unfold rankI at K
    split at K <;> omega
  obtain ⟨r, e⟩ := fin_rep F f0 f1
  have v := val_mag a h0 h1 k
  have m : magI a = valN F.toNat := by
    unfold valI at v
    unfold withS negB at v
    by_cases c : a < 9223372036854775808
    · rw [if_pos c, show decide (9223372036854775808 ≤ a.toNat) = false from decide_eq_false (by omega), if_neg (by decide)] at v
      have : a = F := by omega
      rw [← this]
      exact (Int.ofNat.inj v).symm
    · rw [if_neg c, show decide (9223372036854775808 ≤ a.toNat) = true from decide_eq_true (by omega), if_pos rfl] at v
      have : a - 9223372036854775808 = F := by omega
      rw [this] at v
      have v2 : ((valN F.toNat : Nat) : Int) = ((magI a : Nat) : Int) := by omega
      exact (Int.ofNat.inj v2).symm
  rw [hF, m]
  exact ⟨e.symm, r⟩

/-- a float's size, in units of the smallest -/
def flN : Value → Nat
  | .float _ n => valN n
  | _ => 0

end Go.Proofs.Ytajgoooejobngaa
