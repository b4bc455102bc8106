/- Sums and products of small whole numbers; a number, its whole part and what is left: plain. -/
import Derived.Test.YtfhdmglfpkmjbaaW26
namespace Go.Proofs.Ytfhdmglfpkmjbaa
open Go.RowKit

theorem kind_same_rank (a b : Int) (h0 : 0 ≤ a) (h1 : a < 18446744073709551616) (h2 : 0 ≤ b) (h3 : b < 18446744073709551616) (hr : rankI a = rankI b) (k : kindI b < 2) : kindI a < 2 := by
  have := (kind_fld b h2 h3).1.1 k
  exact (kind_fld a h0 h1).1.2 (by rw [hr]; exact this)

theorem back_sum (m n : Int) (m0 : -2147483648 ≤ m) (m1 : m ≤ 2147483647) (n0 : -2147483648 ≤ n) (n1 : n ≤ 2147483647) :
    subI (addI (fromI m) (fromI n)) (fromI n) = fromI m := by
  have km := from_kind m (by omega) (by omega)
  have kn := from_kind n (by omega) (by omega)
  have ks := from_kind (m + n) (by omega) (by omega)
  obtain ⟨xm0, xm1⟩ := from_bd m (by omega) (by omega)
  obtain ⟨xn0, xn1⟩ := from_bd n (by omega) (by omega)
  obtain ⟨xs0, xs1⟩ := from_bd (m + n) (by omega) (by omega)
  by_cases c : m = 0
  · subst c
    by_cases d : n = 0
    · subst d; decide +kernel
    · have k1 := from_kind1 n (by omega) (by omega) d
      have z : fromI 0 = 0 := by decide +kernel
      have kz : kindI 0 = 0 := by decide +kernel
      rw [z, addI_comm, addI_z (fromI n) 0 xn0 xn1 (by omega) (by omega) k1 kz, sub_self _ xn0 xn1 kn]
  · have vm := from_val m (by omega) (by omega)
    have vn := from_val n (by omega) (by omega)
    have vs := from_val (m + n) (by omega) (by omega)
    have rs := from_rank (m + n) (by omega) (by omega)
    have rm := from_rank m (by omega) (by omega)
    have nm := from_rank_ne m (by omega) (by omega) c
    obtain ⟨s0, s1⟩ := addI_bd (fromI m) (fromI n)
    have e1 : rankI (addI (fromI m) (fromI n)) = rankI (fromI (m + n)) := by
      rw [rank_add _ _ xm0 xm1 xn0 xn1 km kn, vm, vn, ← Int.add_mul, srp_unit, rs]
    have k := kind_same_rank _ _ s0 s1 xs0 xs1 e1 ks
    have v : valI (addI (fromI m) (fromI n)) = (m + n) * unit := by rw [val_of_rank _ s0, e1, ← val_of_rank _ xs0, vs]
    obtain ⟨d0, d1⟩ := subI_bd (addI (fromI m) (fromI n)) (fromI n)
    refine word_of_rank _ _ d0 d1 xm0 xm1 ?_ nm
    rw [rank_sub _ _ s0 s1 xn0 xn1 k kn, v, vn, ← Int.sub_mul, show m + n - n = m from by omega, srp_unit, rm]

theorem back_less (m n : Int) (m0 : -2147483648 ≤ m) (m1 : m ≤ 2147483647) (n0 : -2147483648 ≤ n) (n1 : n ≤ 2147483647) :
    lessI (fromI m) (fromI n) = decide (m < n) := by
  have km := from_kind m (by omega) (by omega)
  have kn := from_kind n (by omega) (by omega)
  obtain ⟨xm0, xm1⟩ := from_bd m (by omega) (by omega)
  obtain ⟨xn0, xn1⟩ := from_bd n (by omega) (by omega)
  have vm := from_val m (by omega) (by omega)
  have vn := from_val n (by omega) (by omega)
  have h := (val_rank (fromI m) (fromI n) xm0 xn0).1
  rw [vm, vn, Int.mul_lt_mul_right unit_pos] at h
  unfold lessI
  have a1 : (kindI (fromI m) == 3) = false := by rw [beq_eq_false_iff_ne]; omega
  have a2 : (kindI (fromI n) == 3) = false := by rw [beq_eq_false_iff_ne]; omega
  rw [a1, a2, ← decide_eq_decide.2 h]
  rfl

theorem back_i32 (m : Int) (m0 : -2147483648 ≤ m) (m1 : m ≤ 2147483647) : IntKind.i32.wrap (u32I (fromI m)) = m := by
  rw [from_u32 m (by omega) (by omega), IntKind.wrap_i32]
  omega

theorem srp_unit2 (T : Int) : srp (-2148) (T * (2 ^ unitE * 2 ^ unitE)) = srp 0 T := by
  rw [← Int.pow_add, srp_scale, show -2148 + ((unitE + unitE : Nat) : Int) = 0 from by have := ue; omega]

theorem neg_from (n : Int) (n0 : -9007199254740992 < n) (n1 : n < 9007199254740992) : negB (fromI n).toNat = decide (n < 0) := by
  unfold fromI negB
  by_cases c : n < 0
  · have := rung_whole_lt (-n).toNat (by omega)
    rw [if_pos c, decide_eq_true c]
    exact decide_eq_true (by omega)
  · have := rung_whole_lt n.toNat (by omega)
    rw [if_neg c, decide_eq_false c]
    exact decide_eq_false (by omega)

theorem zero_times (n : Int) (n0 : -9007199254740992 < n) (n1 : n < 9007199254740992) : mulI 0 (fromI n) = if n < 0 then 9223372036854775808 else 0 := by
  obtain ⟨x0, x1⟩ := from_bd n n0 n1
  have kz : kindI 0 = 0 := by decide +kernel
  rw [mulI_0k 0 (fromI n) (by omega) (by omega) x0 x1 kz (from_kind n n0 n1), neg_from n n0 n1]
  by_cases c : n < 0
  · rw [if_pos c, decide_eq_true c]; decide +kernel
  · rw [if_neg c, decide_eq_false c]; decide +kernel

theorem back_mul (p n : Int) (p0 : -32768 ≤ p) (p1 : p ≤ 32767) (n0 : -2147483648 ≤ n) (n1 : n ≤ 2147483647) :
    wholeI (mulI (fromI p) (fromI n)) = (p * n, true) ∨ (wholeI (mulI (fromI p) (fromI n)) = (0, false) ∧ ((p = 0 ∧ n < 0) ∨ (n = 0 ∧ p < 0))) := by
  have zf : fromI 0 = 0 := by decide +kernel
  have w0 : wholeI 0 = (0, true) := by decide +kernel
  have wn : wholeI 9223372036854775808 = (0, false) := by decide +kernel
  by_cases cp : p = 0
  · subst cp
    rw [zf, zero_times n (by omega) (by omega)]
    by_cases c : n < 0
    · rw [if_pos c, wn]; exact Or.inr ⟨rfl, Or.inl ⟨rfl, c⟩⟩
    · rw [if_neg c, w0, Int.zero_mul]; exact Or.inl rfl
  by_cases cn : n = 0
  · subst cn
    rw [zf, mulI_comm, zero_times p (by omega) (by omega)]
    by_cases c : p < 0
    · rw [if_pos c, wn]; exact Or.inr ⟨rfl, Or.inr ⟨rfl, c⟩⟩
    · rw [if_neg c, w0, Int.mul_zero]; exact Or.inl rfl
  have kp := from_kind p (by omega) (by omega)
  have kn := from_kind n (by omega) (by omega)
  obtain ⟨xp0, xp1⟩ := from_bd p (by omega) (by omega)
  obtain ⟨xn0, xn1⟩ := from_bd n (by omega) (by omega)
  have vp := from_val p (by omega) (by omega)
  have vn := from_val n (by omega) (by omega)
  have b : (p * n).natAbs ≤ 32768 * 2147483648 := by rw [Int.natAbs_mul]; exact Nat.mul_le_mul (by omega) (by omega)
  have ne : p * n ≠ 0 := Int.mul_ne_zero cp cn
  have e : rankI (mulI (fromI p) (fromI n)) = srp 0 (p * n) := by
    rw [rank_mul _ _ xp0 xp1 xn0 xn1 kp kn, vp, vn]
    unfold unit
    rw [← srp_unit2 (p * n)]
    congr 1
    rw [Int.mul_assoc p, Int.mul_left_comm _ n, ← Int.mul_assoc, ← Int.mul_assoc]
  generalize p * n = T at *
  obtain ⟨xt0, xt1⟩ := from_bd T (by omega) (by omega)
  have rt := from_rank T (by omega) (by omega)
  have nt := from_rank_ne T (by omega) (by omega) ne
  obtain ⟨z0, z1⟩ := mulI_bd (fromI p) (fromI n)
  have eq : mulI (fromI p) (fromI n) = fromI T := word_of_rank _ _ z0 z1 xt0 xt1 (by rw [e, rt]) nt
  rw [eq, from_whole T (by omega) (by omega)]
  exact Or.inl rfl

end Go.Proofs.Ytfhdmglfpkmjbaa
