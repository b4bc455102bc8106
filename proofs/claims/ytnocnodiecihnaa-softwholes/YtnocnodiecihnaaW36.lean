/- The document's Trunc, Floor and Whole. -/
import Derived.Test.YtnocnodiecihnaaW35
namespace Go.Proofs.Ytnocnodiecihnaa
open Go.RowKit

theorem trunc_kind (a : Int) (h0 : 0 ≤ a) (h1 : a < 18446744073709551616) (k : kindI a ≠ 3) : kindI (truncI a) ≠ 3 := by
  by_cases c : kindI a = 2
  · have t : truncI a = a := by unfold truncI; rw [if_neg k, if_pos (Or.inl (by omega))]
    rw [t]; exact k
  · have := kind_cases a
    have := (trunc_val a h0 h1 (by omega)).1
    omega

theorem trunc_nanv (a : Int) (k : kindI a = 3) : truncI a = 9221120237041090560 := by unfold truncI; rw [if_pos k]

theorem floor_bd (a : Int) (h0 : 0 ≤ a) (h1 : a < 18446744073709551616) : 0 ≤ floorI a ∧ floorI a < 18446744073709551616 := by
  unfold floorI
  split
  · exact subI_bd _ _
  · exact trunc_bd a h0 h1

theorem floor_kind (a : Int) (h0 : 0 ≤ a) (h1 : a < 18446744073709551616) (k : kindI a ≠ 3) : kindI (floorI a) ≠ 3 := by
  unfold floorI
  by_cases c : kindI a = 2
  · have t : truncI a = a := by unfold truncI; rw [if_neg k, if_pos (Or.inl (by omega))]
    rw [t, less_false a a h0 h0 (Int.le_refl _), if_neg (by decide)]
    exact k
  · have := kind_cases a
    obtain ⟨kt, _⟩ := trunc_val a h0 h1 (by omega)
    obtain ⟨t0, t1⟩ := trunc_bd a h0 h1
    split
    · obtain ⟨s0, s1⟩ := subI_bd (truncI a) 4607182418800017408
      refine kind_of_rank _ s0 s1 ?_
      rw [rank_sub _ _ t0 t1 (by omega) (by omega) kt (by rw [one_prt.1]; decide)]
      exact srp_bd _ _
    · omega

theorem floor_nanv (a : Int) (k : kindI a = 3) : floorI a = 9221120237041090560 := by
  unfold floorI
  have : lessI a (truncI a) = false := by unfold lessI; rw [k]; rfl
  rw [this, if_neg (by decide), trunc_nanv a k]

theorem of_made (a T : Int) (n : Nat) (M : Made a T n) (t0 : 0 ≤ T) (t1 : T < 18446744073709551616) (hT : kindI a ≠ 3 → kindI T ≠ 3) (hN : kindI a = 3 → T = 9221120237041090560) (w : World) :
    Calls Try.prog 12 #[.float .f64 n] w fun e w' => e = .returned (.int .u64 T) ∧ w' = w := by
  by_cases k : kindI a = 3
  · obtain ⟨kn, bn⟩ := M.nan k
    have := of_any ((n : Nat) : Int) w (by omega) (by omega)
    rw [if_pos kn, Int.toNat_natCast, ← hN k] at this
    exact this
  · rw [M.num k]
    have := of_any T w t0 t1
    rw [if_neg (hT k)] at this
    exact this

set_option maxHeartbeats 400000 in
theorem reftrunc_any (a : Int) (h0 : 0 ≤ a) (h1 : a < 18446744073709551616) (w : World) :
    Calls Try.prog 34 #[.int .u64 a] w fun e w' => e = .returned (.int .u64 (truncI a)) ∧ Below w.heap.size w w' := by
  obtain ⟨t0, t1⟩ := trunc_bd a h0 h1
  have va := fun w => val_any a w
  have ct := fun w => mathTrunc_any a h0 h1 w
  have co := fun n M w => of_made a (truncI a) n M t0 t1 (trunc_kind a h0 h1) (trunc_nanv a) w
  generalize truncI a = T at *
  generalize a.toNat = x at *
  go_enter Try.func34, Try.ntmps34
  go_wp2_with fail
  refine (va _).mono ?_
  rintro e w1 ⟨rfl, hw⟩
  subst hw
  go_wp2_with fail
  refine (ct _).mono ?_
  rintro e w1 ⟨n, rfl, hb, M⟩
  go_wp2_with fail
  refine (co n M _).mono ?_
  rintro e w2 ⟨rfl, hw⟩
  subst hw
  go_wp2
  go_ret
  exact ⟨rfl, hb⟩

set_option maxHeartbeats 400000 in
theorem reffloor_any (a : Int) (h0 : 0 ≤ a) (h1 : a < 18446744073709551616) (w : World) :
    Calls Try.prog 32 #[.int .u64 a] w fun e w' => e = .returned (.int .u64 (floorI a)) ∧ Below w.heap.size w w' := by
  obtain ⟨t0, t1⟩ := floor_bd a h0 h1
  have va := fun w => val_any a w
  have ct := fun w => mathFloor_any a h0 h1 w
  have co := fun n M w => of_made a (floorI a) n M t0 t1 (floor_kind a h0 h1) (floor_nanv a) w
  generalize floorI a = T at *
  generalize a.toNat = x at *
  go_enter Try.func32, Try.ntmps32
  go_wp2_with fail
  refine (va _).mono ?_
  rintro e w1 ⟨rfl, hw⟩
  subst hw
  go_wp2_with fail
  refine (ct _).mono ?_
  rintro e w1 ⟨n, rfl, hb, M⟩
  go_wp2_with fail
  refine (co n M _).mono ?_
  rintro e w2 ⟨rfl, hw⟩
  subst hw
  go_wp2
  go_ret
  exact ⟨rfl, hb⟩

set_option maxHeartbeats 400000 in
theorem rw_frac (a : Int) (x : Nat) (w : World) (va : ∀ w : World, Calls Try.prog 9 #[.int .u64 a] w fun e w' => e = .returned (.float .f64 x) ∧ w' = w) (ct : ∀ w : World, Calls Try.prog 52 #[.float .f64 x] w fun e w' => ∃ n, e = .returned (.float .f64 n) ∧ Below w.heap.size w w' ∧ (FloatKind.f64.format.order x n != some Ordering.eq) = true) :
    Calls Try.prog 25 #[.int .u64 a] w fun e w' => e = .returned (.tuple #[.int .i64 0, .bool false]) ∧ Below w.heap.size w w' := by
  go_enter Try.func25, Try.ntmps25
  go_wp2_with fail
  refine (va _).mono ?_
  rintro e w1 ⟨rfl, hw⟩
  subst hw
  go_wp2_with fail
  refine (ct _).mono ?_
  rintro e w1 ⟨n, rfl, hb, hn⟩
  go_wp2
  go_ret2
  exact ⟨rfl, hb⟩

set_option maxHeartbeats 400000 in
theorem rw_low (a : Int) (x : Nat) (w : World) (va : ∀ w : World, Calls Try.prog 9 #[.int .u64 a] w fun e w' => e = .returned (.float .f64 x) ∧ w' = w) (ct : ∀ w : World, Calls Try.prog 52 #[.float .f64 x] w fun e w' => ∃ n, e = .returned (.float .f64 n) ∧ Below w.heap.size w w' ∧ (FloatKind.f64.format.order x n != some Ordering.eq) = false) (h1 : (FloatKind.f64.format.order x 14069245235905429504 == some Ordering.lt || FloatKind.f64.format.order x 14069245235905429504 == some Ordering.eq) = true) :
    Calls Try.prog 25 #[.int .u64 a] w fun e w' => e = .returned (.tuple #[.int .i64 0, .bool false]) ∧ Below w.heap.size w w' := by
  go_enter Try.func25, Try.ntmps25
  go_wp2_with fail
  refine (va _).mono ?_
  rintro e w1 ⟨rfl, hw⟩
  subst hw
  go_wp2_with fail
  refine (ct _).mono ?_
  rintro e w1 ⟨n, rfl, hb, hn⟩
  go_wp2
  go_ret2
  exact ⟨rfl, hb⟩

set_option maxHeartbeats 400000 in
theorem rw_high (a : Int) (x : Nat) (w : World) (va : ∀ w : World, Calls Try.prog 9 #[.int .u64 a] w fun e w' => e = .returned (.float .f64 x) ∧ w' = w) (ct : ∀ w : World, Calls Try.prog 52 #[.float .f64 x] w fun e w' => ∃ n, e = .returned (.float .f64 n) ∧ Below w.heap.size w w' ∧ (FloatKind.f64.format.order x n != some Ordering.eq) = false) (h1 : (FloatKind.f64.format.order x 14069245235905429504 == some Ordering.lt || FloatKind.f64.format.order x 14069245235905429504 == some Ordering.eq) = false)
    (h2 : (FloatKind.f64.format.order x 4845873199050653696 == some Ordering.gt || FloatKind.f64.format.order x 4845873199050653696 == some Ordering.eq) = true) :
    Calls Try.prog 25 #[.int .u64 a] w fun e w' => e = .returned (.tuple #[.int .i64 0, .bool false]) ∧ Below w.heap.size w w' := by
  go_enter Try.func25, Try.ntmps25
  go_wp2_with fail
  refine (va _).mono ?_
  rintro e w1 ⟨rfl, hw⟩
  subst hw
  go_wp2_with fail
  refine (ct _).mono ?_
  rintro e w1 ⟨n, rfl, hb, hn⟩
  go_wp2
  go_ret2
  exact ⟨rfl, hb⟩

set_option maxHeartbeats 400000 in
theorem rw_neg0 (a : Int) (x : Nat) (w : World) (va : ∀ w : World, Calls Try.prog 9 #[.int .u64 a] w fun e w' => e = .returned (.float .f64 x) ∧ w' = w) (ct : ∀ w : World, Calls Try.prog 52 #[.float .f64 x] w fun e w' => ∃ n, e = .returned (.float .f64 n) ∧ Below w.heap.size w w' ∧ (FloatKind.f64.format.order x n != some Ordering.eq) = false) (h1 : (FloatKind.f64.format.order x 14069245235905429504 == some Ordering.lt || FloatKind.f64.format.order x 14069245235905429504 == some Ordering.eq) = false)
    (h2 : (FloatKind.f64.format.order x 4845873199050653696 == some Ordering.gt || FloatKind.f64.format.order x 4845873199050653696 == some Ordering.eq) = false)
    (h3 : (a == 9223372036854775808) = true) :
    Calls Try.prog 25 #[.int .u64 a] w fun e w' => e = .returned (.tuple #[.int .i64 0, .bool false]) ∧ Below w.heap.size w w' := by
  go_enter Try.func25, Try.ntmps25
  go_wp2_with fail
  refine (va _).mono ?_
  rintro e w1 ⟨rfl, hw⟩
  subst hw
  go_wp2_with fail
  refine (ct _).mono ?_
  rintro e w1 ⟨n, rfl, hb, hn⟩
  go_wp2
  go_ret2
  exact ⟨rfl, hb⟩

set_option maxHeartbeats 400000 in
theorem rw_is (a : Int) (x : Nat) (w : World) (va : ∀ w : World, Calls Try.prog 9 #[.int .u64 a] w fun e w' => e = .returned (.float .f64 x) ∧ w' = w) (ct : ∀ w : World, Calls Try.prog 52 #[.float .f64 x] w fun e w' => ∃ n, e = .returned (.float .f64 n) ∧ Below w.heap.size w w' ∧ (FloatKind.f64.format.order x n != some Ordering.eq) = false) (N : Int) (h1 : (FloatKind.f64.format.order x 14069245235905429504 == some Ordering.lt || FloatKind.f64.format.order x 14069245235905429504 == some Ordering.eq) = false)
    (h2 : (FloatKind.f64.format.order x 4845873199050653696 == some Ordering.gt || FloatKind.f64.format.order x 4845873199050653696 == some Ordering.eq) = false)
    (h3 : (a == 9223372036854775808) = false)
    (hc : ∀ w : World, (convert 23 2 (.float .f64 x)).run Try.prog w = .ok (.int .i64 N) w) :
    Calls Try.prog 25 #[.int .u64 a] w fun e w' => e = .returned (.tuple #[.int .i64 N, .bool true]) ∧ Below w.heap.size w w' := by
  go_enter Try.func25, Try.ntmps25
  go_wp2_with fail
  refine (va _).mono ?_
  rintro e w1 ⟨rfl, hw⟩
  subst hw
  go_wp2_with fail
  refine (ct _).mono ?_
  rintro e w1 ⟨n, rfl, hb, hn⟩
  go_wp2
  go_ret2
  exact ⟨rfl, hb⟩end Go.Proofs.Ytnocnodiecihnaa
