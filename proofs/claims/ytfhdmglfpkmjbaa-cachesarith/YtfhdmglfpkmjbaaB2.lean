/- Sub, the first of Div, alive. -/
import Derived.Test.YtfhdmglfpkmjbaaW5
namespace Go.Proofs.Ytfhdmglfpkmjbaa
open Go.RowKit

def subI (a b : Int) : Int := opI (Ieee.double.sub a.toNat b.toNat)
/-- the other sign -/
def flipI (b : Int) : Int := (b + 9223372036854775808) % 18446744073709551616

theorem read_flip (b : Int) (h2 : 0 ≤ b) (h3 : b < 18446744073709551616) : Ieee.double.read (flipI b).toNat = (Ieee.double.read b.toNat).opposite := by
  unfold flipI
  rw [read_eq _ (by omega), read_eq b.toNat (by omega)]
  have e1 : fldN ((b + 9223372036854775808) % 18446744073709551616).toNat = fldN b.toNat := by unfold fldN; omega
  have e2 : frcN ((b + 9223372036854775808) % 18446744073709551616).toNat = frcN b.toNat := by unfold frcN; omega
  have e3 : negB ((b + 9223372036854775808) % 18446744073709551616).toNat = !negB b.toNat := by
    unfold negB
    by_cases c : 9223372036854775808 ≤ b.toNat
    · rw [decide_eq_true c, decide_eq_false (by omega)]; rfl
    · rw [decide_eq_false c, decide_eq_true (by omega)]; rfl
  unfold manN
  rw [e1, e2, e3]
  split
  · rfl
  · split <;> rfl

theorem sub_flip (a b : Int) (h2 : 0 ≤ b) (h3 : b < 18446744073709551616) : addI a (flipI b) = subI a b := by
  unfold addI subI Ieee.Format.add Ieee.Format.sub
  rw [read_flip b h2 h3]

theorem flip_bd (b : Int) : 0 ≤ flipI b ∧ flipI b < 18446744073709551616 := by unfold flipI; omega

end Go.Proofs.Ytfhdmglfpkmjbaa

/- The order of numbers by the bits is that of the language; the walk of SoftOrders. -/
namespace Go.Proofs.Ytfhdmglfpkmjbaa
open Go.RowKit

theorem less_order (a b : Int) (h0 : 0 ≤ a) (h1 : a < 18446744073709551616) (h2 : 0 ≤ b) (h3 : b < 18446744073709551616) :
    (FloatKind.f64.format.order a.toNat b.toNat == some Ordering.lt) = lessI a b := by
  show (Ieee.double.order a.toNat b.toNat == some Ordering.lt) = lessI a b
  unfold lessI
  by_cases ka : kindI a = 3
  · rw [order_nan a b h0 h1 h2 h3 (Or.inl ka)]; simp [ka]
  · by_cases kb : kindI b = 3
    · rw [order_nan a b h0 h1 h2 h3 (Or.inr kb)]; simp [kb]
    · rw [order_eq a b h0 h1 h2 h3 ka kb]
      simp only [compare, compareOfLessAndEq]
      by_cases c : rankI a < rankI b
      · simp [c, ka, kb]
      · by_cases c2 : rankI a = rankI b
        · simp [c2]
        · simp [c, c2]

theorem equal_order (a b : Int) (h0 : 0 ≤ a) (h1 : a < 18446744073709551616) (h2 : 0 ≤ b) (h3 : b < 18446744073709551616) :
    (FloatKind.f64.format.order a.toNat b.toNat == some Ordering.eq) = equalI a b := by
  show (Ieee.double.order a.toNat b.toNat == some Ordering.eq) = equalI a b
  unfold equalI
  by_cases ka : kindI a = 3
  · rw [order_nan a b h0 h1 h2 h3 (Or.inl ka)]; simp [ka]
  · by_cases kb : kindI b = 3
    · rw [order_nan a b h0 h1 h2 h3 (Or.inr kb)]; simp [kb]
    · rw [order_eq a b h0 h1 h2 h3 ka kb]
      simp only [compare, compareOfLessAndEq]
      by_cases c : rankI a < rankI b
      · have : rankI a ≠ rankI b := by omega
        simp [c, this]
      · by_cases c2 : rankI a = rankI b
        · simp [c2, ka, kb]
        · simp [c, c2]

theorem nan_order (a : Int) (h0 : 0 ≤ a) (h1 : a < 18446744073709551616) :
    (FloatKind.f64.format.order a.toNat a.toNat != some Ordering.eq) = (kindI a == 3) := by
  show (!(FloatKind.f64.format.order a.toNat a.toNat == some Ordering.eq)) = _
  rw [equal_order a a h0 h1 h0 h1]
  unfold equalI
  by_cases k : kindI a = 3 <;> simp [k]

theorem kind_mod (a z : Int) (h0 : 0 ≤ a) (h1 : a < 18446744073709551616) (hz : z % 9223372036854775808 = a % 9223372036854775808) (hz0 : 0 ≤ z) : kindI z = kindI a := by
  have e1 : fldN z.toNat = fldN a.toNat := by unfold fldN; omega
  have e2 : frcN z.toNat = frcN a.toNat := by unfold frcN; omega
  unfold kindI; rw [e1, e2]

theorem gt_order (a : Int) (h0 : 0 ≤ a) (h1 : a < 9223372036854775808) :
    (FloatKind.f64.format.order a.toNat 9218868437227405311 == some Ordering.gt) = (kindI a == 2) := by
  show (Ieee.double.order a.toNat (9218868437227405311 : Int).toNat == some Ordering.gt) = _
  by_cases ka : kindI a = 3
  · rw [order_nan a _ h0 (by omega) (by omega) (by omega) (Or.inl ka)]; simp [ka]
  · rw [order_eq a _ h0 (by omega) (by omega) (by omega) ka (by decide +kernel)]
    have e1 : rankI a = a := by unfold rankI; rw [if_pos (by omega)]
    have e2 : rankI 9218868437227405311 = 9218868437227405311 := by decide +kernel
    have K := kind_fld a h0 (by omega)
    rw [e1] at K
    rw [e1, e2]
    simp only [compare, compareOfLessAndEq]
    by_cases c : kindI a = 2
    · have := K.2.1.1 c
      rw [if_neg (by omega), if_neg (by omega)]
      simp [c]
    · have c1 : kindI a < 2 := by rcases kind_cases a with d | d | d | d <;> omega
      have := K.1.1 c1
      have ck : (kindI a == 2) = false := by simp [c]
      rw [ck]
      by_cases d : a < 9218868437227405311
      · rw [if_pos d]; rfl
      · rw [if_neg d, if_pos (by omega)]; rfl

set_option maxHeartbeats 400000 in
theorem mathInf_any (a : Int) (w : World) (h0 : 0 ≤ a) (h1 : a < 18446744073709551616) :
    Calls Try.prog 65 #[.float .f64 a.toNat, .int .i64 0] w fun e w' => e = .returned (.bool (kindI a == 2)) ∧ w' = w := by
  have hm : bits .andNot .u64 ((a.toNat : Nat) : Int) 9223372036854775808 = a % 9223372036854775808 := by
    rw [Int.toNat_of_nonneg h0]; exact mask_size a h0 h1
  have ca := fun w => abs_any a.toNat w _ hm
  have hk : kindI (a % 9223372036854775808) = kindI a := kind_mod a _ h0 h1 (by omega) (by omega)
  have hg := gt_order (a % 9223372036854775808) (by omega) (by omega)
  rw [hk] at hg
  generalize (kindI a == 2) = K at *
  generalize a % 9223372036854775808 = z at *
  generalize a.toNat = n at *
  generalize z.toNat = zn at *
  clear hm hk
  go_enter Try.func65, Try.ntmps65
  go_wp2_with (go_at_call 67; refine (ca _).mono ?_; rintro e w1 ⟨rfl, rfl⟩)
  go_ret
  exact ⟨rfl, rfl⟩

theorem neg_float (a : Int) (h0 : 0 ≤ a) (h1 : a < 18446744073709551616) : Op.negFloat .f64 a.toNat = (flipI a).toNat := by
  show a.toNat ^^^ 9223372036854775808 = _
  rw [nat_flip _ (by omega)]
  unfold flipI
  split <;> omega

theorem kind_flip (a : Int) (h0 : 0 ≤ a) (h1 : a < 18446744073709551616) : kindI (flipI a) = kindI a :=
  kind_mod a _ h0 h1 (by unfold flipI; omega) (flip_bd a).1