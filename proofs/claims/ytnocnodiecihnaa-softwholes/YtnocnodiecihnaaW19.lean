/- math.Ldexp of a finite number above 0, whole. -/
import Derived.Test.YtnocnodiecihnaaW18
namespace Go.Proofs.Ytnocnodiecihnaa
open Go.RowKit

theorem rank_small (n : Nat) (h : n < 9223372036854775808) : rankI ((n : Nat) : Int) = ((n : Nat) : Int) := by unfold rankI; rw [if_pos (by omega)]

theorem not_below (n : Nat) (h : n < 9223372036854775808) : (FloatKind.f64.format.order n 0 == some Ordering.lt) = false := by
  have := less_order ((n : Nat) : Int) 0 (by omega) (by omega) (by omega) (by omega)
  rw [Int.toNat_natCast, show (0 : Int).toNat = 0 from rfl] at this
  rw [this]
  unfold lessI
  rw [rank_small n h, show rankI 0 = 0 from rfl, decide_eq_false (by omega)]
  simp

set_option maxHeartbeats 1000000 in
theorem ldexp_any (F k : Int) (h0 : 0 < F) (h1 : F < 9218868437227405312) (k0 : -90000 ≤ k) (k1 : k ≤ 90000) (w : World) :
    Calls Try.prog 65 #[.float .f64 F.toNat, .int .i64 k] w fun e w' => e = .returned (.float .f64 (rung (manI F).toNat (expI F + k))) ∧ w' = w := by
  obtain ⟨_, _, _, kF⟩ := own_parts F h0 h1
  have hz : (FloatKind.f64.format.order F.toNat 0 == some Ordering.eq) = false := by
    have := equal_order F 0 (by omega) (by omega) (by omega) (by omega)
    have z : (0 : Int).toNat = 0 := rfl
    rw [z] at this
    rw [this]
    unfold equalI
    have r1 : rankI F = F := by unfold rankI; rw [if_pos (by omega)]
    have r2 : rankI 0 = 0 := rfl
    rw [r1, r2]
    have : (F == 0) = false := by rw [beq_eq_false_iff_ne]; omega
    rw [this]; simp
  have ci := fun w => mathInf_any F w (by omega) (by omega)
  rw [show (kindI F == 2) = false from by rw [kF]; rfl] at ci
  have cn := fun w => mathNaN_any F w (by omega) (by omega)
  rw [show (kindI F == 3) = false from by rw [kF]; rfl] at cn
  have nm := fun w => normalize_any F h0 h1 w
  obtain ⟨q, f, q0, q1, hf, hG, hr⟩ := norm_parts F h0 h1
  have E0 : -52 ≤ nexpI F := by unfold nexpI; split <;> omega
  have E1 : nexpI F ≤ 0 := by unfold nexpI; split <;> omega
  have hgb : (normI F).toNat = q * 4503599627370496 + f := by rw [hG]; omega
  rw [hgb] at nm
  have hq : ((q * 4503599627370496 + f : Nat) : Int) / 4503599627370496 = q := by omega
  have HM : Hid (bits .andNot .u64 ((q * 4503599627370496 + f : Nat) : Int) 9218868437227405312 = ((f : Nat) : Int)) := by
    show bits .andNot .u64 ((q * 4503599627370496 + f : Nat) : Int) 9218868437227405312 = _
    rw [mask_exp _ (by omega) (by omega)]; omega
  have hr' := hr k
  rw [← hr']
  clear hr hr' hG hgb kF
  generalize nexpI F = E at *
  obtain ⟨p, hp⟩ : ∃ p : Int, k + E + ((q : Int) - 1023) = p := ⟨_, rfl⟩
  have z1 : 0 ≤ (q : Int) := by omega
  have z2 : (q : Int) ≤ 2047 := by omega
  have z3 := and_2047 (q : Int) z1 z2
  have Z3 : Hid _ := z3
  clear z3
  have z4 : -100000 ≤ k := by omega
  have z5 : k ≤ 100000 := by omega
  by_cases c1 : p < -1075
  · rw [rung_none (f + 4503599627370496) ((q : Int) - 1075 + E + k) (by omega) (by omega)]
    have hs : bits .and .u64 ((q * 4503599627370496 + f : Nat) : Int) 9223372036854775808 = 0 := by
      rw [mask_sgn _ (by omega) (by omega)]
      unfold sgnI sgnN
      rw [Int.toNat_natCast, Nat.div_eq_of_lt (by omega)]
      rfl
    exact ldexp_under F.toNat _ k E q p w hz ci cn nm hq z1 z2 Z3.out z4 z5 E0 E1 hp c1 (fun w => copysign0 _ w hs (by decide +kernel) (by decide +kernel))
  by_cases c2 : 1023 < p
  · rw [rung_far (f + 4503599627370496) ((q : Int) - 1075 + E + k) (by omega) (by omega) (by omega)]
    have hl := not_below (q * 4503599627370496 + f) (by omega)
    exact ldexp_over F.toNat _ k E q p w hz ci cn nm hq z1 z2 Z3.out z4 z5 E0 E1 hp c2 hl
  by_cases c3 : p < -1022
  · obtain ⟨s, hs⟩ : ∃ s : Nat, (s : Int) = p + 53 + 1023 := ⟨(p + 53 + 1023).toNat, by omega⟩
    have z6 : -1075 ≤ p := by omega
    have hsb : s ≤ 2047 := by omega
    have hs1 : 1 ≤ s := by omega
    have hs2 : s ≤ 2046 := by omega
    have hpl : -105 + ((s : Int) - 1075) + ((52 : Nat) : Int) = (q : Int) - 1075 + E + k := by omega
    have hX : bits .or .u64 ((f : Nat) : Int) ((p + 53 + 1023) * 4503599627370496) = ((s * 4503599627370496 + f : Nat) : Int) := by rw [← hs]; exact or_field f s hf hsb
    obtain ⟨X, hXe⟩ : ∃ X : Int, X = ((s * 4503599627370496 + f : Nat) : Int) := ⟨_, rfl⟩
    obtain ⟨X0, X1, kX, mX, eX⟩ := parts_of s f hs1 hs2 hf X hXe
    rw [← hXe] at hX
    clear hXe hs
    have X2 : X < 18446744073709551616 := by omega
    have X3 : X < 9223372036854775808 := by omega
    have hm := fun w => mul_run 4368491638549381120 X (by decide) (by decide) X0 X2 (by rw [c53.1]; decide) (by rw [kX]; decide) w
    have e := mulI_pos 4368491638549381120 X (by decide) (by decide) X0 X3 c53.1 kX
    rw [c53.2.1, c53.2.2, mX, eX, Int.toNat_natCast] at e
    have hn : (4503599627370496 : Int).toNat = 2 ^ 52 := rfl
    rw [hn, Nat.mul_comm, rung_scale, hpl] at e
    rw [e] at hm
    have hn2 : (4368491638549381120 : Int).toNat = 4368491638549381120 := rfl
    rw [hn2, Int.toNat_natCast] at hm
    clear kX mX eX e
    exact ldexp_denorm F.toNat _ k E q f p w _ _ hz ci cn nm hq z1 z2 Z3.out z4 z5 E0 E1 hp z6 c3 HM.out hX hm
  · obtain ⟨s, hs⟩ : ∃ s : Nat, (s : Int) = p + 1023 := ⟨(p + 1023).toNat, by omega⟩
    have z6 : -1022 ≤ p := by omega
    have z7 : p ≤ 1023 := by omega
    have hsb : s ≤ 2047 := by omega
    have hs1 : 1 ≤ s := by omega
    have hs2 : s ≤ 2046 := by omega
    have hpl : -52 + ((s : Int) - 1075) + ((52 : Nat) : Int) = (q : Int) - 1075 + E + k := by omega
    have hX : bits .or .u64 ((f : Nat) : Int) ((p + 1023) * 4503599627370496) = ((s * 4503599627370496 + f : Nat) : Int) := by rw [← hs]; exact or_field f s hf hsb
    obtain ⟨X, hXe⟩ : ∃ X : Int, X = ((s * 4503599627370496 + f : Nat) : Int) := ⟨_, rfl⟩
    obtain ⟨X0, X1, kX, mX, eX⟩ := parts_of s f hs1 hs2 hf X hXe
    rw [← hXe] at hX
    clear hXe hs
    have X2 : X < 18446744073709551616 := by omega
    have X3 : X < 9223372036854775808 := by omega
    have hm := fun w => mul_run 4607182418800017408 X (by decide) (by decide) X0 X2 (by rw [one_run.1]; decide) (by rw [kX]; decide) w
    have e := mulI_pos 4607182418800017408 X (by decide) (by decide) X0 X3 one_run.1 kX
    rw [one_run.2.1, one_run.2.2, mX, eX, Int.toNat_natCast] at e
    have hn : (4503599627370496 : Int).toNat = 2 ^ 52 := rfl
    rw [hn, Nat.mul_comm, rung_scale, hpl] at e
    rw [e] at hm
    have hn2 : (4607182418800017408 : Int).toNat = 4607182418800017408 := rfl
    rw [hn2, Int.toNat_natCast] at hm
    clear kX mX eX e
    exact ldexp_norm F.toNat _ k E q f p w _ _ hz ci cn nm hq z1 z2 Z3.out z4 z5 E0 E1 hp z6 z7 HM.out hX hm

set_option maxHeartbeats 400000 in
theorem Ldexp_any (F k : Int) (h0 : 0 < F) (h1 : F < 9218868437227405312) (k0 : -90000 ≤ k) (k1 : k ≤ 90000) (w : World) :
    Calls Try.prog 55 #[.float .f64 F.toNat, .int .i64 k] w fun e w' => e = .returned (.float .f64 (rung (manI F).toNat (expI F + k))) ∧ w' = w := by
  have c := fun w => ldexp_any F k h0 h1 k0 k1 w
  generalize rung (manI F).toNat (expI F + k) = R at *
  generalize F.toNat = x at *
  clear h0 h1
  go_enter Try.func55, Try.ntmps55
  go_wp2_with (go_at_call 65; refine (c _).mono ?_; rintro e w1 ⟨rfl, rfl⟩)
  go_ret
  exact ⟨rfl, rfl⟩

end Go.Proofs.Ytnocnodiecihnaa
