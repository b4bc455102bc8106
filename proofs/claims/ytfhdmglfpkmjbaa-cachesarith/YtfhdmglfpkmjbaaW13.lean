/- The language's own sums, and the walk of SoftSums. -/
import Derived.Test.YtfhdmglfpkmjbaaW12
namespace Go.Proofs.Ytfhdmglfpkmjbaa
open Go.RowKit

/-- the bits of a NaN that the language leaves open -/
def nanOf (t : Nat) : Nat := t % 2 * 9223372036854775808 + 9218868437227405312 + 1 + t / 2 % 4503599627370495

theorem nanOf_kind (t : Nat) : kindI ((nanOf t : Nat) : Int) = 3 ∧ nanOf t < 18446744073709551616 := by
  have hb : nanOf t < 18446744073709551616 := by unfold nanOf; omega
  refine ⟨?_, hb⟩
  unfold kindI
  rw [Int.toNat_natCast]
  have hr : t / 2 % 4503599627370495 < 4503599627370495 := Nat.mod_lt _ (by decide)
  have hp : t % 2 = 0 ∨ t % 2 = 1 := by omega
  have e1 : fldN (nanOf t) = 2047 := by
    unfold fldN nanOf
    generalize t / 2 % 4503599627370495 = r at *
    rcases hp with hp | hp <;> rw [hp] <;> omega
  have e2 : frcN (nanOf t) ≠ 0 := by
    unfold frcN nanOf
    generalize t / 2 % 4503599627370495 = r at *
    rcases hp with hp | hp <;> rw [hp] <;> omega
  rw [if_pos e1, if_neg e2]

theorem run_float_none (op : BinOp) (t : TypeId) (x y : Nat) (w : World) (hop : op = .add ∨ op = .sub ∨ op = .mul ∨ op = .quo) (h : floatBits op .f64 x y = none) :
    (binOp op t (.float .f64 x) (.float .f64 y)).run Try.prog w = .ok (.float .f64 (nanOf (w.tape w.drawn (.nanBits .f64 x y)))) w.drew := by
  rcases hop with rfl | rfl | rfl | rfl <;> unfold floatBits at h <;> simp only at h <;> simp [binOp, Op.floatArith, h] <;> rfl

theorem write_kind (d : Ieee.Datum) (hd : ∀ s t, d ≠ .nan s t) : kindI ((Ieee.double.write d : Nat) : Int) ≠ 3 ∧ Ieee.double.write d < 18446744073709551616 := by
  have key : ∃ s q, Ieee.double.write d = wordOf s q ∧ q ≤ 9218868437227405312 := by
    cases d with
    | number s m e => exact ⟨s, _, write_num s m e, rung_le m e⟩
    | infinity s => exact ⟨s, _, write_inf s, Nat.le_refl _⟩
    | nan s t => exact absurd rfl (hd s t)
  obtain ⟨s, q, e, hq⟩ := key
  rw [e]
  have hb : wordOf s q < 18446744073709551616 := by unfold wordOf; split <;> omega
  refine ⟨?_, hb⟩
  intro k
  have := (kind_fld ((wordOf s q : Nat) : Int) (by omega) (by omega)).2.2.1 k
  unfold rankI wordOf at this
  cases s
  · simp only [Bool.false_eq_true, if_false] at this
    rw [if_pos (by omega)] at this
    omega
  · simp only [if_true] at this
    rw [if_neg (by omega)] at this
    omega

theorem sum_not_nan (x y d : Ieee.Datum) (h : x.sum y = some d) (s : Bool) (t : Nat) : d ≠ .nan s t := by
  intro e; subst e
  cases x <;> cases y <;> simp only [Ieee.Datum.sum] at h <;> first | cases h | (split at h <;> cases h)

theorem product_not_nan (x y d : Ieee.Datum) (h : x.product y = some d) (s : Bool) (t : Nat) : d ≠ .nan s t := by
  intro e; subst e
  cases x <;> cases y <;> simp only [Ieee.Datum.product] at h <;> first | cases h | (split at h <;> cases h)

theorem quotient_not_nan (n : Nat) (x y d : Ieee.Datum) (h : x.quotient n y = some d) (s : Bool) (t : Nat) : d ≠ .nan s t := by
  intro e; subst e
  cases x <;> cases y <;> simp only [Ieee.Datum.quotient] at h <;> first | cases h | (split at h <;> first | cases h | (split at h <;> cases h))

theorem map_kind (o : Option Ieee.Datum) (ho : ∀ d, o = some d → ∀ s t, d ≠ .nan s t) (r : Nat) (h : o.map Ieee.double.write = some r) : kindI ((r : Nat) : Int) ≠ 3 ∧ r < 18446744073709551616 := by
  cases o with
  | none => cases h
  | some d =>
    rw [Option.map_some] at h
    cases h
    exact write_kind d (ho d rfl)

theorem bits_kind (op : BinOp) (x y r : Nat) (h : floatBits op .f64 x y = some r) : kindI ((r : Nat) : Int) ≠ 3 ∧ r < 18446744073709551616 := by
  cases op <;> simp only [floatBits] at h <;> first | (cases h; done) | skip
  · exact map_kind _ (fun d hd => sum_not_nan _ _ d hd) r h
  · exact map_kind _ (fun d hd => sum_not_nan _ _ d hd) r h
  · exact map_kind _ (fun d hd => product_not_nan _ _ d hd) r h
  · exact map_kind _ (fun d hd => quotient_not_nan _ _ _ d hd) r h

end Go.Proofs.Ytfhdmglfpkmjbaa
