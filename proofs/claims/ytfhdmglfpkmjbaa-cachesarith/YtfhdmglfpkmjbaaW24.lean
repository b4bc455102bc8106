/- The walks of FromInt, FromUint, size, Trunc, ToUint32, ToInt32, Whole and Floor. -/
import Derived.Test.YtfhdmglfpkmjbaaW14
namespace Go.Proofs.Ytfhdmglfpkmjbaa
open Go.RowKit

/-- one box of four cells -/
def Box1 (w : World) (n : Nat) (p0 p1 p2 p3 : Value) : Prop :=
  (w.cell? ⟨n, 0, none⟩ = some p0 ∧ w.cell? ⟨n, 1, none⟩ = some p1 ∧ w.cell? ⟨n, 2, none⟩ = some p2 ∧ w.cell? ⟨n, 3, none⟩ = some p3) ∧ n < w.heap.size

theorem box1_new (w : World) (p0 p1 p2 p3 : Value) (t : TypeId) : Box1 (w.alloc (.cells #[p0, p1, p2, p3] t)) w.heap.size p0 p1 p2 p3 := by
  unfold Box1
  simp [go_sem]

theorem Box1.keep {W w' : World} {n : Nat} {p0 p1 p2 p3 : Value} (h : Box1 W n p0 p1 p2 p3) (hb : Below W.heap.size W w') : Box1 w' n p0 p1 p2 p3 := by
  obtain ⟨⟨a0, a1, a2, a3⟩, hz⟩ := h
  have k : ∀ o, w'.cell? ⟨n, o, none⟩ = W.cell? ⟨n, o, none⟩ := fun o => hb.cell (p := ⟨n, o, none⟩) hz
  exact ⟨⟨by rw [k]; exact a0, by rw [k]; exact a1, by rw [k]; exact a2, by rw [k]; exact a3⟩, Nat.lt_of_lt_of_le hz hb.size⟩

theorem b1 {w : World} (a : Obj) : Below w.heap.size w (w.alloc a) := (Below.refl _ _).alloc (Nat.le_refl _) _

set_option maxHeartbeats 400000 in
theorem fromInt_neg (n R : Int) (w : World) (_n0 : -9223372036854775808 ≤ n) (_n1 : n < 0)
    (rnd : ∀ w : World, Calls Try.prog 44 #[.int .u64 9223372036854775808, .int .u64 (-n), .int .i64 0] w fun e w' => e = .returned (.int .u64 R) ∧ Below w.heap.size w w') :
    Calls Try.prog 39 #[.int .i64 n] w fun e w' => e = .returned (.int .u64 R) ∧ Below w.heap.size w w' := by
  have e1 : IntKind.u64.wrap (-IntKind.u64.wrap n) = -n := by rw [IntKind.wrap_u64, IntKind.wrap_u64]; omega
  go_enter Try.func39, Try.ntmps39
  go_wp2_with (go_at_call 44; refine (rnd _).mono ?_; rintro e w1 ⟨rfl, hb⟩)
  go_ret
  exact ⟨rfl, hb⟩

set_option maxHeartbeats 400000 in
theorem fromInt_pos (n R : Int) (w : World) (_n0 : 0 ≤ n) (_n1 : n < 9223372036854775808)
    (rnd : ∀ w : World, Calls Try.prog 44 #[.int .u64 0, .int .u64 n, .int .i64 0] w fun e w' => e = .returned (.int .u64 R) ∧ Below w.heap.size w w') :
    Calls Try.prog 39 #[.int .i64 n] w fun e w' => e = .returned (.int .u64 R) ∧ Below w.heap.size w w' := by
  go_enter Try.func39, Try.ntmps39
  go_wp2_with (go_at_call 44; refine (rnd _).mono ?_; rintro e w1 ⟨rfl, hb⟩)
  go_ret
  exact ⟨rfl, hb⟩

/-- a whole number, as a number -/
def fromI (n : Int) : Int := if n < 0 then 9223372036854775808 + ((rung (-n).toNat 0 : Nat) : Int) else ((rung n.toNat 0 : Nat) : Int)

theorem fromInt_any (n : Int) (w : World) (n0 : -9223372036854775808 ≤ n) (n1 : n < 9223372036854775808) :
    Calls Try.prog 39 #[.int .i64 n] w fun e w' => e = .returned (.int .u64 (fromI n)) ∧ Below w.heap.size w w' := by
  unfold fromI
  by_cases c : n < 0
  · rw [if_pos c]
    exact fromInt_neg n _ w n0 c (fun w => round_any 9223372036854775808 (-n) 0 w (Or.inr rfl) (by omega) (by omega) (by omega) (by omega))
  · rw [if_neg c]
    have e : roundI 0 n 0 = ((rung n.toNat 0 : Nat) : Int) := by unfold roundI; omega
    rw [← e]
    exact fromInt_pos n _ w (by omega) n1 (fun w => round_any 0 n 0 w (Or.inl rfl) (by omega) (by omega) (by omega) (by omega))

/-- a size without its fraction, modulo 2^64 -/
def sizeI (m e : Int) : Int := if e < 0 then m / 2 ^ (-e).toNat else m * 2 ^ e.toNat % 18446744073709551616

set_option maxHeartbeats 400000 in
theorem size_neg (k s m d K : Int) (w : World) (_e0 : d ≤ 2000) (_e1 : 0 < d) (hK : m / 2 ^ min d.toNat 64 = K) :
    Calls Try.prog 55 #[.agg #[.int .i64 k, .int .u64 s, .int .u64 m, .int .i64 (-d)]] w fun e' w' => e' = .returned (.int .u64 K) ∧ Below w.heap.size w w' := by
  have hd : - -d = d := by omega
  have d0 : 0 ≤ d := by omega
  go_enter Try.func55, Try.ntmps55
  go_wp2
  go_ret
  exact ⟨rfl, b1 _⟩

set_option maxHeartbeats 400000 in
theorem size_pos (k s m e K : Int) (w : World) (_e0 : 0 ≤ e) (_e1 : e ≤ 2000) (hK : IntKind.u64.wrap (m * 2 ^ min e.toNat 64) = K) :
    Calls Try.prog 55 #[.agg #[.int .i64 k, .int .u64 s, .int .u64 m, .int .i64 e]] w fun e' w' => e' = .returned (.int .u64 K) ∧ Below w.heap.size w w' := by
  go_enter Try.func55, Try.ntmps55
  go_wp2
  go_ret
  exact ⟨rfl, b1 _⟩

theorem div_min (m : Int) (d : Nat) (m0 : 0 ≤ m) (m1 : m < 18446744073709551616) : m / 2 ^ min d 64 = m / 2 ^ d := by
  by_cases c : d ≤ 64
  · rw [Nat.min_eq_left c]
  · rw [Nat.min_eq_right (by omega)]
    have h : 2 ^ 64 ≤ 2 ^ d := Nat.pow_le_pow_right (by decide) (by omega)
    have h' : 18446744073709551616 ≤ 2 ^ d := h
    have e : ((2 ^ d : Nat) : Int) = (2 : Int) ^ d := by rw [Int.natCast_pow]; rfl
    have e64 : (2 : Int) ^ 64 = 18446744073709551616 := by decide
    rw [← e, e64, Int.ediv_eq_zero_of_lt m0 m1, Int.ediv_eq_zero_of_lt m0 (by omega)]

theorem mul_min (m : Int) (d : Nat) : m * 2 ^ min d 64 % 18446744073709551616 = m * 2 ^ d % 18446744073709551616 := by
  by_cases c : d ≤ 64
  · rw [Nat.min_eq_left c]
  · rw [Nat.min_eq_right (by omega)]
    obtain ⟨k, hk⟩ : ∃ k, d = 64 + k := ⟨d - 64, by omega⟩
    have e64 : (2 : Int) ^ 64 = 18446744073709551616 := by decide
    rw [hk, Int.pow_add, e64, ← Int.mul_assoc, Int.mul_right_comm, Int.mul_emod_left, Int.mul_emod_left]

theorem size_any (k s m e : Int) (w : World) (m0 : 0 ≤ m) (m1 : m < 18446744073709551616) (e0 : -2000 ≤ e) (e1 : e ≤ 2000) :
    Calls Try.prog 55 #[.agg #[.int .i64 k, .int .u64 s, .int .u64 m, .int .i64 e]] w fun e' w' => e' = .returned (.int .u64 (sizeI m e)) ∧ Below w.heap.size w w' := by
  unfold sizeI
  by_cases c : e < 0
  · rw [if_pos c]
    have := size_neg k s m (-e) _ w (by omega) (by omega) (div_min m _ m0 m1)
    rwa [show - -e = e from by omega] at this
  · rw [if_neg c]
    exact size_pos k s m e _ w (by omega) e1 (by rw [IntKind.wrap_u64]; exact mul_min m _)

section
variable (a sa ma ea : Int) (w : World)

set_option maxHeartbeats 1000000 in
theorem trunc_nan (ca : ∀ w : World, Calls Try.prog 53 #[.int .u64 a] w fun e w' => e = .returned (.agg #[.int .i64 3, .int .u64 sa, .int .u64 ma, .int .i64 ea]) ∧ Below w.heap.size w w') :
    Calls Try.prog 54 #[.int .u64 a] w fun e w' => e = .returned (.int .u64 9221120237041090560) ∧ Below w.heap.size w w' := by
  go_enter Try.func54, Try.ntmps54
  go_wp2_with fail
  refine (ca _).mono ?_
  rintro e w1 ⟨rfl, hb1⟩
  go_wp2
  go_ret
  exact ⟨rfl, bt hb1 (b1 _)⟩

set_option maxHeartbeats 1000000 in
theorem trunc_not (k : Int) (k1 : (k == 3) = false) (k2 : (k == 1) = false)
    (ca : ∀ w : World, Calls Try.prog 53 #[.int .u64 a] w fun e w' => e = .returned (.agg #[.int .i64 k, .int .u64 sa, .int .u64 ma, .int .i64 ea]) ∧ Below w.heap.size w w') :
    Calls Try.prog 54 #[.int .u64 a] w fun e w' => e = .returned (.int .u64 a) ∧ Below w.heap.size w w' := by
  have k3 : (k != 1) = true := by rw [bne, k2]; rfl
  go_enter Try.func54, Try.ntmps54
  go_wp2_with fail
  refine (ca _).mono ?_
  rintro e w1 ⟨rfl, hb1⟩
  go_wp2
  go_ret
  exact ⟨rfl, bt hb1 (b1 _)⟩

set_option maxHeartbeats 1000000 in
theorem trunc_big (_he : 0 ≤ ea)
    (ca : ∀ w : World, Calls Try.prog 53 #[.int .u64 a] w fun e w' => e = .returned (.agg #[.int .i64 1, .int .u64 sa, .int .u64 ma, .int .i64 ea]) ∧ Below w.heap.size w w') :
    Calls Try.prog 54 #[.int .u64 a] w fun e w' => e = .returned (.int .u64 a) ∧ Below w.heap.size w w' := by
  go_enter Try.func54, Try.ntmps54
  go_wp2_with fail
  refine (ca _).mono ?_
  rintro e w1 ⟨rfl, hb1⟩
  go_wp2
  go_ret
  exact ⟨rfl, bt hb1 (b1 _)⟩

set_option maxHeartbeats 1000000 in
theorem trunc_small (K Z : Int) (_he : ea < 0)
    (ca : ∀ w : World, Calls Try.prog 53 #[.int .u64 a] w fun e w' => e = .returned (.agg #[.int .i64 1, .int .u64 sa, .int .u64 ma, .int .i64 ea]) ∧ Below w.heap.size w w')
    (cz : ∀ w : World, Calls Try.prog 55 #[.agg #[.int .i64 1, .int .u64 sa, .int .u64 ma, .int .i64 ea]] w fun e w' => e = .returned (.int .u64 K) ∧ Below w.heap.size w w')
    (rnd : ∀ w : World, Calls Try.prog 44 #[.int .u64 sa, .int .u64 K, .int .i64 0] w fun e w' => e = .returned (.int .u64 Z) ∧ Below w.heap.size w w') :
    Calls Try.prog 54 #[.int .u64 a] w fun e w' => e = .returned (.int .u64 Z) ∧ Below w.heap.size w w' := by
  go_enter Try.func54, Try.ntmps54
  go_wp2_with fail
  refine (ca _).mono ?_
  rintro e w1 ⟨rfl, hb1⟩
  have B1 := box1_new w1 (.int .i64 1) (.int .u64 sa) (.int .u64 ma) (.int .i64 ea) 77
  go_upto_region 6 with fail
  go_region_held3 (fun w' => w'.cell? ⟨w1.heap.size, 0, none⟩ = some (.int .i64 1) ∧ w'.cell? ⟨w1.heap.size, 1, none⟩ = some (.int .u64 sa) ∧ w'.cell? ⟨w1.heap.size, 2, none⟩ = some (.int .u64 ma) ∧ w'.cell? ⟨w1.heap.size, 3, none⟩ = some (.int .i64 ea)) (go_keep) (first | (go_at_call 55; refine (cz _).mono ?_; rintro e w9 ⟨rfl, hb9⟩; have B2 := Box1.keep (by exact B1) hb9; unfold Box1 at B2; obtain ⟨⟨X0, X1, X2, X3⟩, hZ⟩ := B2) | (go_at_call 44; refine (rnd _).mono ?_; rintro e w8 ⟨rfl, hb8⟩; have B3 := Box1.keep (by exact ⟨⟨X0, X1, X2, X3⟩, hZ⟩) hb8; unfold Box1 at B3; obtain ⟨⟨Y0, Y1, Y2, Y3⟩, hZ8⟩ := B3))
  go_wp2
  go_ret
  exact ⟨rfl, bt (bt (bt hb1 (b1 _)).drew hb9) hb8⟩

end

end Go.Proofs.Ytfhdmglfpkmjbaa
