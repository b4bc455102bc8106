/- The contract of shortest: all of it. -/
import Derived.Test.YtpejebohekcfoabGreatDoorG4
namespace Go.Proofs.YtpejebohekcfoabGreatDoor
open Go.RowKit
set_option linter.unusedVariables false

theorem ten_next (T i : Nat) : T * 10 ^ (i + 1) = T * 10 * 10 ^ i := by rw [Nat.pow_succ, Nat.mul_comm (10 ^ i) 10, Nat.mul_assoc]

theorem scF_stop (S : Nat) (cl : Bool) : ∀ (f T : Nat), 0 < T → S < T + f → inN (T * 10 ^ scF f T S cl) S cl = false ∧ ∀ i < scF f T S cl, inN (T * 10 ^ i) S cl = true := by
  intro f
  induction f with
  | zero =>
    intro T h0 h
    refine ⟨?_, fun i hi => absurd hi (by rw [scF]; omega)⟩
    rw [scF, Nat.pow_zero, Nat.mul_one]
    unfold inN
    rw [decide_eq_false (by omega), decide_eq_false (by omega)]
    rfl
  | succ f ih =>
    intro T h0 h
    cases hc : inN T S cl with
    | false =>
      have e : scF (f + 1) T S cl = 0 := by rw [scF, hc]; rfl
      rw [e]
      refine ⟨by rw [Nat.pow_zero, Nat.mul_one]; exact hc, fun i hi => absurd hi (by omega)⟩
    | true =>
      have e : scF (f + 1) T S cl = scF f (T * 10) S cl + 1 := by rw [scF, hc, if_pos rfl]
      obtain ⟨h1, h2⟩ := ih (T * 10) (by omega) (by omega)
      rw [e]
      refine ⟨by rw [ten_next]; exact h1, ?_⟩
      intro i hi
      cases i with
      | zero => rw [Nat.pow_zero, Nat.mul_one]; exact hc
      | succ i => rw [ten_next]; exact h2 i (by omega)

theorem sh_stop (a : Nat) (h0 : 0 < a) (h1 : a < 9218868437227405312) : inN (shT1 a) (shV1 a + shU1 a) (shC a) = false ∧ ∀ i < shJ a, inN (shT0 a * 10 ^ i) (shV1 a + shU1 a) (shC a) = true := by
  obtain ⟨q1, q2, q3, q4, q5, q6, q7⟩ := sh_bd a 1100 h0 h1 (by omega)
  exact scF_stop _ _ _ _ (Nat.mul_pos q6 (Nat.pow_pos (by decide))) (by omega)

theorem up_lt {x c K : Nat} (h : x < 2 ^ c) (hc : c ≤ K) : x < 2 ^ K := Nat.lt_of_lt_of_le h (Nat.pow_le_pow_right (by decide) hc)

theorem sh1_bd (a K : Nat) (h0 : 0 < a) (h1 : a < 9218868437227405312) (hK : 1100 ≤ K) : shT1 a < 2 ^ (K + 1700) ∧ 0 < shU1 a ∧ shL1 a ≤ shU1 a := by
  obtain ⟨q1, q2, q3, q4, q5, q6, q7⟩ := sh_bd a K h0 h1 hK
  have g := shG_bd a h0 h1
  have v := up_lt (tens_lt (j := (-shG a).toNat) q1) (show K + 4 * (-shG a).toNat ≤ K + 1600 by omega)
  have u := up_lt (tens_lt (j := (-shG a).toNat) q3) (show K + 4 * (-shG a).toNat ≤ K + 1600 by omega)
  have t := up_lt (tens_lt (j := (shG a).toNat) q4) (show K + 4 * (shG a).toNat ≤ K + 1600 by omega)
  refine ⟨?_, Nat.mul_pos q5 (Nat.pow_pos (by decide)), Nat.mul_le_mul_right _ q7⟩
  have P : 2 ^ (K + 1700) = 2 ^ (K + 1695) * 32 := by rw [show K + 1700 = (K + 1695) + 5 from by omega, Nat.pow_add]
  have P2 : 2 ^ (K + 1600) ≤ 2 ^ (K + 1695) := Nat.pow_le_pow_right (by decide) (by omega)
  have al := (sh_stop a h0 h1).2
  unfold shT1
  change shV1 a < _ at v
  change shU1 a < _ at u
  change shT0 a < _ at t
  rcases Nat.eq_zero_or_pos (shJ a) with c | c
  · rw [c, Nat.pow_zero, Nat.mul_one]; omega
  · have h2 := in_le (al (shJ a - 1) (by omega))
    obtain ⟨j, hj⟩ : ∃ j, shJ a = j + 1 := ⟨shJ a - 1, by omega⟩
    rw [hj] at h2 ⊢
    rw [Nat.add_sub_cancel] at h2
    rw [Nat.pow_succ, ← Nat.mul_assoc]
    omega

theorem short_any (a : Nat) (w : World) (h0 : 0 < a) (h1 : a < 9218868437227405312) :
    Calls Tryz.prog 20 #[.int .u64 a] w fun e w' => e = .returned (.tuple #[.string (bs (txt (shD a))), .int .i64 (shP a)]) ∧ Below w.heap.size w w' := by
  obtain ⟨K, hK0, hK1⟩ : ∃ K : Nat, 1100 ≤ K ∧ K ≤ 1100 := ⟨1100, by omega, by omega⟩
  obtain ⟨q1, q2, q3, q4, q5, q6, q7⟩ := sh_bd a K h0 h1 hK0
  obtain ⟨t1, u1, l1⟩ := sh1_bd a K h0 h1 hK0
  have sb := sh_bits a h0 h1
  have g := shG_bd a h0 h1
  refine short_core (a : Int) w (shV a) (shL a) (shU a) (shT a) (shC a) (bitl (shV a) : Int) (bitl (shT a) : Int) ((bitl (shV a) : Int) - (bitl (shT a) : Int)) (shG a) (shP a) (shV1 a) (shL1 a) (shU1 a) (shT1 a) (K + 1700) (sh_stop a h0 h1).1 u1 l1 t1 (by omega) (fun _ _ _ _ => rfl) ?_ ?_ ?_ ?_ ?_ ?_
  · refine (around_any a w h0 h1).mono ?_
    rintro e w1 ⟨v1, v2, v3, v4, rfl, ar⟩
    obtain ⟨g1, g2, g3, g4, n1, n2, n3, n4, r⟩ := ar
    have HA : Hid (Around w w1 v1 v2 v3 v4 (shV a) (shL a) (shU a) (shT a)) := ⟨g1, g2, g3, g4, n1, n2, n3, n4, r⟩
    obtain ⟨a1, b1, rfl⟩ := slice_of n1
    obtain ⟨a2, b2, rfl⟩ := slice_of n2
    obtain ⟨a3, b3, rfl⟩ := slice_of n3
    obtain ⟨a4, b4, rfl⟩ := slice_of n4
    exact ⟨g1, a1, b1, g2, a2, b2, g3, a3, b3, g4, a4, b4, rfl, HA⟩
  · intro w1 v k n
    exact nsize_any w1 v k _ n (len_small q1 (by omega))
  · intro w1 v k n
    exact nsize_any w1 v k _ n (len_small q4 (by omega))
  · rw [IntKind.wrap_i64]; omega
  · intro w1
    exact lowPoint_any _ w1 (by omega) (by omega)
  · intro w1 B b i
    refine (scale_fun a K w1 B b h0 h1 hK0 (by omega) i).mono ?_
    rintro e w' ⟨rfl, h, _⟩
    exact ⟨rfl, h⟩

end Go.Proofs.YtpejebohekcfoabGreatDoor
