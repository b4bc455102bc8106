/- Sub, the first of Div, alive. -/
import Derived.Test.YtnocnodiecihnaaW5
namespace Go.Proofs.Ytnocnodiecihnaa
open Go.RowKit

def subI (a b : Int) : Int := opI (Ieee.double.sub a.toNat b.toNat)
/-- the other sign -/
def flipI (b : Int) : Int := (b + 9223372036854775808) % 18446744073709551616

theorem read_flip (b : Int) (h2 : 0 ≤ b) (h3 : b < 18446744073709551616) : Ieee.double.read (flipI b).toNat = (Ieee.double.read b.toNat).opposite := by
  unfold flipI
  rw [read_eq _ (by omega), read_eq b.toNat (by omega)]
  have e1 : fldN ((b + 9223372036854775808) % 18446744073709551616).toNat = fldN b.toNat := by unfold fldN; omega
  have e2 : frcN ((b + 9223372036854775808) % 18446744073709551616).toNat = frcN b.toNat := by unfold frcN; omega
  have e3 : negB ((b + 9223372036854775808) % 18446744073709551616).toNat = !negB b.toNat := by
    unfold negB
    by_cases c : 9223372036854775808 ≤ b.toNat
    · rw [decide_eq_true c, decide_eq_false (by omega)]; rfl
    · rw [decide_eq_false c, decide_eq_true (by omega)]; rfl
  unfold manN
  rw [e1, e2, e3]
  split
  · rfl
  · split <;> rfl

theorem sub_flip (a b : Int) (h2 : 0 ≤ b) (h3 : b < 18446744073709551616) : addI a (flipI b) = subI a b := by
  unfold addI subI Ieee.Format.add Ieee.Format.sub
  rw [read_flip b h2 h3]

theorem flip_bd (b : Int) : 0 ≤ flipI b ∧ flipI b < 18446744073709551616 := by unfold flipI; omega

set_option maxHeartbeats 400000 in
theorem sub_any (a b : Int) (w : World) (h0 : 0 ≤ a) (h1 : a < 18446744073709551616) (h2 : 0 ≤ b) (h3 : b < 18446744073709551616) :
    Calls Try.prog 13 #[.int .u64 a, .int .u64 b] w fun e w' => e = .returned (.int .u64 (subI a b)) ∧ Below w.heap.size w w' := by
  rw [← sub_flip a b h2 h3]
  have hx : bits .xor .u64 b 9223372036854775808 = flipI b := flip_sign b h2 h3
  obtain ⟨f0, f1⟩ := flip_bd b
  have hz := fun w => add_any a (flipI b) w h0 h1 f0 f1
  generalize addI a (flipI b) = Z at *
  generalize flipI b = c at *
  go_enter Try.func13, Try.ntmps13
  go_wp2_with (go_at_call 11; refine (hz _).mono ?_; rintro e w1 ⟨rfl, hb⟩)
  go_ret
  exact ⟨rfl, hb⟩

set_option maxHeartbeats 1000000 in
theorem div_00 (a b sa ma ea sb mb eb : Int) (w : World) (ca : ∀ w : World, Calls Try.prog 38 #[.int .u64 a] w fun e w' => e = .returned (.agg #[.int .i64 0, .int .u64 sa, .int .u64 ma, .int .i64 ea]) ∧ Below w.heap.size w w')
    (cb : ∀ w : World, Calls Try.prog 38 #[.int .u64 b] w fun e w' => e = .returned (.agg #[.int .i64 0, .int .u64 sb, .int .u64 mb, .int .i64 eb]) ∧ Below w.heap.size w w') :
    Calls Try.prog 15 #[.int .u64 a, .int .u64 b] w fun e w' => e = .returned (.int .u64 9221120237041090560) ∧ Below w.heap.size w w' := by
  go_enter Try.func15, Try.ntmps15
  go_wp2_with fail
  refine (ca _).mono ?_
  rintro e w1 ⟨rfl, hb1⟩
  go_wp2_with fail
  refine (cb _).mono ?_
  rintro e w2 ⟨rfl, hb2⟩
  go_wp2_with fail
  refine (either_any _ _ _ _ _ _ _ _ _ _).mono ?_
  rintro e w3 ⟨rfl, hb3⟩
  obtain ⟨hc, hf⟩ := bcell hb3
  go_wp2
  go_ret
  exact ⟨rfl, bt (bt hb1 hb2) (bt (b2 _ _) hb3)⟩

set_option maxHeartbeats 1000000 in
theorem alive_any (w : World) :
    Calls Try.prog 10 #[] w fun e w' => e = .returned (.bool true) ∧ Below w.heap.size w w' := by
  have c1 := fun w => add_any 4591870180066957722 4596373779694328218 w (by omega) (by omega) (by omega) (by omega)
  have e1 : addI 4591870180066957722 4596373779694328218 = 4599075939470750516 := by decide +kernel
  rw [e1] at c1
  have k0 : kindI 0 = 0 := by decide +kernel
  have cs := fun w => split_any 0 w (by omega) (by omega)
  rw [k0] at cs
  have c2 := fun w => div_00 0 0 _ _ _ _ _ _ w cs cs
  have c3 := fun w => isNaN_any 9221120237041090560 w (by omega) (by omega)
  have e3 : (kindI 9221120237041090560 == 3) = true := by decide +kernel
  rw [e3] at c3
  have c4 := fun w => neg_any 4607182418800017408 w (by omega) (by omega)
  have e4 : negI 4607182418800017408 = 13830554455654793216 := by decide +kernel
  rw [e4] at c4
  have c5 := fun w => less_any 13830554455654793216 0 w (by omega) (by omega) (by omega) (by omega)
  have e5 : lessI 13830554455654793216 0 = true := by decide +kernel
  rw [e5] at c5
  clear e1 k0 cs e3 e4 e5
  go_enter Try.func10, Try.ntmps10
  go_wp2_with fail
  refine (c1 _).mono ?_
  rintro e w1 ⟨rfl, hb1⟩
  go_wp2_with fail
  refine (c2 _).mono ?_
  rintro e w2 ⟨rfl, hb2⟩
  go_wp2_with fail
  refine (c3 _).mono ?_
  rintro e w3 ⟨rfl, hb3⟩
  go_wp2_with fail
  refine (c4 _).mono ?_
  rintro e w4 ⟨rfl, hb4⟩
  go_wp2_with fail
  refine (c5 _).mono ?_
  rintro e w5 ⟨rfl, hb5⟩
  go_wp2
  go_ret
  exact ⟨rfl, bt (bt (bt (bt hb1 hb2) hb3) hb4) hb5⟩

end Go.Proofs.Ytnocnodiecihnaa
