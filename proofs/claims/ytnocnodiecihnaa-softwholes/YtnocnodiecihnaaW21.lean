/- math.Ldexp of a whole number of at most 53 bits; the bits of a number that was rounded. -/
import Derived.Test.YtnocnodiecihnaaW19
import Derived.Test.YtnocnodiecihnaaM10
namespace Go.Proofs.Ytnocnodiecihnaa
open Go.RowKit

theorem nearest_rung (n : Int) (h : 0 ≤ n) : FloatKind.f64.nearest n = rung n.toNat 0 := by
  have e : FloatKind.f64.nearest n = Ieee.double.nearest (decide (n < 0)) n.natAbs 0 := by
    unfold FloatKind.nearest FloatKind.encode Ieee.Format.write
    rfl
  rw [e, nearest_eq, decide_eq_false (by omega), show n.natAbs = n.toNat from by omega]
  unfold wordOf
  rw [if_neg (by decide)]

theorem kind_le (R : Nat) (h : R ≤ 9218868437227405312) : kindI ((R : Nat) : Int) ≠ 3 := by
  unfold kindI fldN frcN
  rw [Int.toNat_natCast]
  split
  · split
    · omega
    · exfalso; omega
  · split <;> omega

theorem of_rung (R : Nat) (h : R ≤ 9218868437227405312) (w : World) :
    Calls Try.prog 12 #[.float .f64 R] w fun e w' => e = .returned (.int .u64 ((R : Nat) : Int)) ∧ w' = w := by
  have hk := kind_le R h
  obtain ⟨a, ha⟩ : ∃ a : Int, a = ((R : Nat) : Int) := ⟨_, rfl⟩
  have h0 : 0 ≤ a := by omega
  have h1 : a < 18446744073709551616 := by omega
  have hR : R = a.toNat := by omega
  rw [← ha] at hk ⊢
  rw [hR]
  have := of_any a w h0 h1
  rw [if_neg hk] at this
  exact this

set_option maxHeartbeats 400000 in
theorem ldexp_zero (k : Int) (w : World) :
    Calls Try.prog 65 #[.float .f64 0, .int .i64 k] w fun e w' => e = .returned (.float .f64 0) ∧ w' = w := by
  have hz : (FloatKind.f64.format.order 0 0 == some Ordering.eq) = true := by decide +kernel
  go_enter Try.func65, Try.ntmps65
  go_wp2
  go_ret
  exact ⟨rfl, rfl⟩

set_option maxHeartbeats 400000 in
theorem Ldexp_zero (k : Int) (w : World) :
    Calls Try.prog 55 #[.float .f64 0, .int .i64 k] w fun e w' => e = .returned (.float .f64 0) ∧ w' = w := by
  have c := fun w => ldexp_zero k w
  go_enter Try.func55, Try.ntmps55
  go_wp2_with (go_at_call 65; refine (c _).mono ?_; rintro e w1 ⟨rfl, rfl⟩)
  go_ret
  exact ⟨rfl, rfl⟩

theorem whole_word (n : Nat) (h0 : 0 < n) (h1 : n ≤ 9007199254740992) (F : Int) (hF : F = ((rung n 0 : Nat) : Int)) :
    0 < F ∧ F < 9218868437227405312 ∧ ∀ k : Int, rung (manI F).toNat (expI F + k) = rung n k := by
  obtain ⟨m, d, m0, m1, d0, d1, hr⟩ := whole_parts n h0 h1
  obtain ⟨q, hq, hw⟩ := rung_word m d m0 m1 (by omega) (by omega)
  have e0 : rung n 0 = rung m (-d) := by rw [hr, show (0 : Int) - d = -d from by omega]
  rw [e0, hw] at hF
  clear e0 hw
  have q0 : 1 ≤ q := by omega
  have q1 : q ≤ 2046 := by omega
  have pos : 0 < F := by rw [hF]; clear hF hr; omega
  obtain ⟨X0, X1, kX, mX, eX⟩ := parts_of q (m - 4503599627370496) q0 q1 (by omega) F hF
  refine ⟨pos, X1, fun k => ?_⟩
  rw [mX, eX, hr k, Int.toNat_natCast, show m - 4503599627370496 + 4503599627370496 = m from by omega]
  clear kX mX eX hF hr
  congr 1
  omega

theorem Ldexp_int (n k : Int) (n0 : 0 ≤ n) (n1 : n ≤ 9007199254740992) (k0 : -90000 ≤ k) (k1 : k ≤ 90000) (w : World) :
    Calls Try.prog 55 #[.float .f64 (FloatKind.f64.nearest n), .int .i64 k] w fun e w' => e = .returned (.float .f64 (rung n.toNat k)) ∧ w' = w := by
  rw [nearest_rung n n0]
  by_cases c : n = 0
  · subst c
    have e1 : rung (0 : Int).toNat 0 = 0 := rung_zero' 0
    have e2 : rung (0 : Int).toNat k = 0 := rung_zero' k
    rw [e1, e2]
    exact Ldexp_zero k w
  · obtain ⟨F, hF⟩ : ∃ F : Int, F = ((rung n.toNat 0 : Nat) : Int) := ⟨_, rfl⟩
    obtain ⟨f0, f1, fr⟩ := whole_word n.toNat (by omega) (by omega) F hF
    have hT : rung n.toNat 0 = F.toNat := by rw [hF, Int.toNat_natCast]
    rw [hT, ← fr k]
    exact Ldexp_any F k f0 f1 k0 k1 w

end Go.Proofs.Ytnocnodiecihnaa
