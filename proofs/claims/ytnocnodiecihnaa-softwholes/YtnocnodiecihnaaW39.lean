/- The walk of SoftWholes. -/
import Derived.Test.YtnocnodiecihnaaW38
namespace Go.Proofs.Ytnocnodiecihnaa
open Go.RowKit

theorem nearest_word (n : Int) : FloatKind.f64.nearest n = wordOf (decide (n < 0)) (rung n.natAbs 0) := by
  have e : FloatKind.f64.nearest n = Ieee.double.nearest (decide (n < 0)) n.natAbs 0 := by
    unfold FloatKind.nearest FloatKind.encode Ieee.Format.write
    rfl
  rw [e, nearest_eq]

theorem from_nearest (n : Int) : fromI n = ((FloatKind.f64.nearest n : Nat) : Int) := by
  rw [nearest_word n, word_int]
  unfold fromI sb
  by_cases c : n < 0
  · rw [if_pos c, decide_eq_true c, if_pos rfl, show n.natAbs = (-n).toNat from by omega]
  · rw [if_neg c, decide_eq_false c, if_neg (by decide), show n.natAbs = n.toNat from by omega]
    omega

theorem of_float (n : Int) (w : World) :
    Calls Try.prog 12 #[.float .f64 (floatOfInt .f64 n)] w fun e w' => e = .returned (.int .u64 (fromI n)) ∧ w' = w := by
  have le := rung_le n.natAbs 0
  have e := nearest_word n
  have f := from_nearest n
  have fo : floatOfInt .f64 n = FloatKind.f64.nearest n := rfl
  rw [fo]
  have b : FloatKind.f64.nearest n < 18446744073709551616 := by rw [e]; unfold wordOf; split <;> omega
  have k : kindI ((FloatKind.f64.nearest n : Nat) : Int) ≠ 3 := by
    rw [e]
    refine kind_of_rank _ (by omega) (by rw [← e]; omega) ?_
    rw [rank_word _ _ le]
    split <;> omega
  have := of_any ((FloatKind.f64.nearest n : Nat) : Int) w (by omega) (by omega)
  rw [if_neg k, Int.toNat_natCast, ← f] at this
  exact this

theorem from_nat (n : Int) (h : 0 ≤ n) : fromI n = ((rung n.toNat 0 : Nat) : Int) := by unfold fromI; rw [if_neg (by omega)]

set_option maxHeartbeats 1000000 in
theorem wholes_w (a n N K X Y F T W32 : Int) (is : Bool) (w : World) (_n0 : -9223372036854775808 ≤ n) (_n1 : n ≤ 9223372036854775807) (hK : IntKind.u64.wrap n = K)
    (_w0 : 0 ≤ W32) (_w1 : W32 < 4294967296)
    (c1 : ∀ w : World, Calls Try.prog 24 #[.int .u64 a] w fun e w' => e = .returned (.tuple #[.int .i64 N, .bool is]) ∧ Below w.heap.size w w')
    (c2 : ∀ w : World, Calls Try.prog 25 #[.int .u64 a] w fun e w' => e = .returned (.tuple #[.int .i64 N, .bool is]) ∧ Below w.heap.size w w')
    (c3 : ∀ w : World, Calls Try.prog 26 #[.int .u64 a] w fun e w' => e = .returned (.int .u32 W32) ∧ Below w.heap.size w w')
    (c4 : ∀ w : World, Calls Try.prog 27 #[.int .u64 a] w fun e w' => e = .returned (.int .u32 W32) ∧ Below w.heap.size w w')
    (c5 : ∀ w : World, Calls Try.prog 28 #[.int .u64 a] w fun e w' => e = .returned (.int .i32 (IntKind.i32.wrap W32)) ∧ Below w.heap.size w w')
    (al : ∀ w : World, Calls Try.prog 10 #[] w fun e w' => e = .returned (.bool true) ∧ Below w.heap.size w w')
    (c6 : ∀ w : World, Calls Try.prog 29 #[.int .i64 n] w fun e w' => e = .returned (.int .u64 X) ∧ Below w.heap.size w w')
    (o6 : ∀ w : World, Calls Try.prog 12 #[.float .f64 (floatOfInt .f64 n)] w fun e w' => e = .returned (.int .u64 X) ∧ w' = w)
    (c7 : ∀ w : World, Calls Try.prog 30 #[.int .u64 K] w fun e w' => e = .returned (.int .u64 Y) ∧ Below w.heap.size w w')
    (o7 : ∀ w : World, Calls Try.prog 12 #[.float .f64 (floatOfInt .f64 K)] w fun e w' => e = .returned (.int .u64 Y) ∧ w' = w)
    (c8 : ∀ w : World, Calls Try.prog 31 #[.int .u64 a] w fun e w' => e = .returned (.int .u64 F) ∧ Below w.heap.size w w')
    (c9 : ∀ w : World, Calls Try.prog 32 #[.int .u64 a] w fun e w' => e = .returned (.int .u64 F) ∧ Below w.heap.size w w')
    (d8 : ∀ w : World, Calls Try.prog 33 #[.int .u64 a] w fun e w' => e = .returned (.int .u64 T) ∧ Below w.heap.size w w')
    (d9 : ∀ w : World, Calls Try.prog 34 #[.int .u64 a] w fun e w' => e = .returned (.int .u64 T) ∧ Below w.heap.size w w') :
    Calls Try.prog 6 #[.int .u64 a, .int .i64 n] w fun e w' => e = .returned (.bool true) ∧ Below w.heap.size w w' := by
  go_enter Try.func6, Try.ntmps6
  go_wp2_with fail
  refine (c1 _).mono ?_
  rintro e w1 ⟨rfl, hb1⟩
  go_wp2_with fail
  refine (c2 _).mono ?_
  rintro e w2 ⟨rfl, hb2⟩
  go_wp2_with fail
  refine (c3 _).mono ?_
  rintro e w3 ⟨rfl, hb3⟩
  go_wp2_with fail
  refine (c4 _).mono ?_
  rintro e w4 ⟨rfl, hb4⟩
  go_wp2_with fail
  refine (c5 _).mono ?_
  rintro e w5 ⟨rfl, hb5⟩
  go_wp2_with fail
  refine (al _).mono ?_
  rintro e w6 ⟨rfl, hb6⟩
  go_wp2_with fail
  refine (c6 _).mono ?_
  rintro e w7 ⟨rfl, hb7⟩
  go_wp2_with fail
  refine (o6 _).mono ?_
  rintro e w8 ⟨rfl, hw⟩
  subst hw
  go_wp2_with fail
  refine (c7 _).mono ?_
  rintro e w9 ⟨rfl, hb9⟩
  go_wp2_with fail
  refine (o7 _).mono ?_
  rintro e w10 ⟨rfl, hw⟩
  subst hw
  go_wp2_with fail
  refine (c8 _).mono ?_
  rintro e w11 ⟨rfl, hb11⟩
  go_wp2_with fail
  refine (c9 _).mono ?_
  rintro e w12 ⟨rfl, hb12⟩
  go_wp2_with fail
  refine (d8 _).mono ?_
  rintro e w13 ⟨rfl, hb13⟩
  go_wp2_with fail
  refine (d9 _).mono ?_
  rintro e w14 ⟨rfl, hb14⟩
  go_wp2
  go_ret
  exact ⟨rfl, bt (bt (bt (bt (bt (bt (bt (bt (bt (bt (bt hb1 hb2) hb3) hb4) hb5) hb6) hb7) hb9) hb11) hb12) hb13) hb14⟩

theorem wholes_walk (a n : Int) (h0 : 0 ≤ a) (h1 : a < 18446744073709551616) (n0 : -9223372036854775808 ≤ n) (n1 : n ≤ 9223372036854775807) (w : World) :
    Calls Try.prog 6 #[.int .u64 a, .int .i64 n] w fun e w' => e = .returned (.bool true) ∧ Below w.heap.size w w' := by
  obtain ⟨K, hK⟩ : ∃ K, IntKind.u64.wrap n = K := ⟨_, rfl⟩
  have k0 : 0 ≤ K := by rw [← hK, IntKind.wrap_u64]; omega
  have k1 : K < 18446744073709551616 := by rw [← hK, IntKind.wrap_u64]; omega
  obtain ⟨b0, b1⟩ := u32_bd a
  have c7 := fun w => fromUint_any K w k0 k1
  rw [← from_nat K k0] at c7
  exact wholes_w a n _ K _ _ _ _ _ _ w n0 n1 hK b0 b1 (fun w => whole_any a w h0 h1) (fun w => refwhole_any a w h0 h1) (fun w => refu32_any a w h0 h1)
    (fun w => toUint32_any a w h0 h1) (fun w => toInt32_any a w h0 h1) (fun w => alive_any w) (fun w => fromInt_any n w n0 (by omega)) (fun w => of_float n w)
    c7 (fun w => of_float K w) (fun w => floor_any a w h0 h1) (fun w => reffloor_any a h0 h1 w) (fun w => trunc_any a w h0 h1) (fun w => reftrunc_any a h0 h1 w)

end Go.Proofs.Ytnocnodiecihnaa
