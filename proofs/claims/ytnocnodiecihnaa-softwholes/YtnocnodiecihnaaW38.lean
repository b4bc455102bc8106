/- The document's ToUint32, and the walk of SoftWholes. -/
import Derived.Test.YtnocnodiecihnaaW37
import Derived.Test.YtnocnodiecihnaaW21
namespace Go.Proofs.Ytnocnodiecihnaa
open Go.RowKit

theorem mag_from (n : Int) (n0 : -9007199254740992 < n) (n1 : n < 9007199254740992) : magI (fromI n) = n.natAbs * 2 ^ unitE := by
  obtain ⟨b0, b1⟩ := from_bd n n0 n1
  have v := val_mag _ b0 b1 (from_kind n n0 n1)
  rw [from_val n n0 n1] at v
  have e1 : (n * unit).natAbs = n.natAbs * 2 ^ unitE := by unfold unit; rw [natAbs_scale]
  have e2 : (withS (negB (fromI n).toNat) (magI (fromI n))).natAbs = magI (fromI n) := by unfold withS; split <;> omega
  rw [← e1, v, e2]

theorem whole_from (n : Int) (n0 : -9007199254740992 < n) (n1 : n < 9007199254740992) : wholeOf (fromI n) = n := by
  unfold wholeOf
  rw [mag_from n n0 n1, neg_from n n0 n1, Nat.mul_div_cancel _ (Nat.two_pow_pos _)]
  unfold withS
  by_cases c : n < 0
  · rw [decide_eq_true c, if_pos rfl]; omega
  · rw [decide_eq_false c, if_neg (by decide)]; omega

theorem c32 : fromI 4294967296 = 4751297606875873280 := by decide +kernel

/-- a sum of two finite ones, by the language -/
theorem add_run (a b : Int) (h0 : 0 ≤ a) (h1 : a < 18446744073709551616) (h2 : 0 ≤ b) (h3 : b < 18446744073709551616) (ka : kindI a < 2) (kb : kindI b < 2) (w : World) :
    (binOp .add 23 (.float .f64 a.toNat) (.float .f64 b.toNat)).run Try.prog w = .ok (.float .f64 (addI a b).toNat) w := by
  obtain ⟨m, i, ra⟩ := read_num a h0 h1 ka
  obtain ⟨n, j, rb⟩ := read_num b h2 h3 kb
  have h : Ieee.double.add a.toNat b.toNat = some (addI a b).toNat := by
    unfold addI Ieee.Format.add
    rw [ra, rb]
    simp only [Ieee.Datum.sum]
    rw [Option.map_some, opI_some, Int.toNat_natCast]
  exact run_float_arith w .add 23 .f64 _ _ _ h

theorem add_from (m n : Int) (m0 : -4294967296 ≤ m) (m1 : m ≤ 4294967296) (n0 : -4294967296 ≤ n) (n1 : n ≤ 4294967296) (h : m + n ≠ 0) : addI (fromI m) (fromI n) = fromI (m + n) := by
  have km := from_kind m (by omega) (by omega)
  have kn := from_kind n (by omega) (by omega)
  obtain ⟨xm0, xm1⟩ := from_bd m (by omega) (by omega)
  obtain ⟨xn0, xn1⟩ := from_bd n (by omega) (by omega)
  obtain ⟨xs0, xs1⟩ := from_bd (m + n) (by omega) (by omega)
  have vm := from_val m (by omega) (by omega)
  have vn := from_val n (by omega) (by omega)
  have rs := from_rank (m + n) (by omega) (by omega)
  obtain ⟨s0, s1⟩ := addI_bd (fromI m) (fromI n)
  refine word_of_rank _ _ s0 s1 xs0 xs1 ?_ (from_rank_ne _ (by omega) (by omega) h)
  rw [rank_add _ _ xm0 xm1 xn0 xn1 km kn, vm, vn, ← Int.add_mul, srp_unit, rs]

set_option maxHeartbeats 1000000 in
theorem mod_zero_w (x g : Nat) (E : Int) (w : World)
    (hz : (FloatKind.f64.format.order 4751297606875873280 0 == some Ordering.eq) = false)
    (ci : ∀ w : World, Calls Try.prog 23 #[.float .f64 x, .int .i64 0] w fun e w' => e = .returned (.bool false) ∧ w' = w)
    (cn : ∀ w : World, Calls Try.prog 67 #[.float .f64 x] w fun e w' => e = .returned (.bool false) ∧ w' = w)
    (cm : ∀ w : World, Calls Try.prog 67 #[.float .f64 4751297606875873280] w fun e w' => e = .returned (.bool false) ∧ w' = w)
    (cab : ∀ w : World, Calls Try.prog 50 #[.float .f64 4751297606875873280] w fun e w' => e = .returned (.float .f64 4751297606875873280) ∧ w' = w)
    (cf : ∀ w : World, Calls Try.prog 69 #[.float .f64 4751297606875873280] w fun e w' => e = .returned (.tuple #[.float .f64 g, .int .i64 E]) ∧ w' = w)
    (hl : (FloatKind.f64.format.order x 0 == some Ordering.lt) = false)
    (hg : (FloatKind.f64.format.order x 4751297606875873280 == some Ordering.gt || FloatKind.f64.format.order x 4751297606875873280 == some Ordering.eq) = false) :
    Calls Try.prog 59 #[.float .f64 x, .float .f64 4751297606875873280] w fun e w' => e = .returned (.float .f64 x) ∧ w' = w := by
  go_enter Try.func59, Try.ntmps59
  go_wp2_with fail
  refine (ci _).mono ?_
  rintro e w1 ⟨rfl, hw⟩
  subst hw
  go_wp2_with fail
  refine (cn _).mono ?_
  rintro e w1 ⟨rfl, hw⟩
  subst hw
  go_wp2_with fail
  refine (cm _).mono ?_
  rintro e w1 ⟨rfl, hw⟩
  subst hw
  go_wp2_with fail
  refine (cab _).mono ?_
  rintro e w1 ⟨rfl, hw⟩
  subst hw
  go_wp2_with fail
  refine (cf _).mono ?_
  rintro e w1 ⟨rfl, hw⟩
  subst hw
  go_wp2_with fail
  go_loop [7, 8, 9] (fun r _ _ => r = .float .f64 x) (fun _ _ _ => 0)
  case atStart => rfl
  case round =>
    subst hrel
    go_wp2
    go_ret
    exact ⟨rfl, rfl⟩

theorem mod_zero (a : Int) (h0 : 0 ≤ a) (h1 : a < 18446744073709551616) (k : kindI a = 0) (w : World) :
    Calls Try.prog 59 #[.float .f64 a.toNat, .float .f64 4751297606875873280] w fun e w' => e = .returned (.float .f64 a.toNat) ∧ w' = w := by
  have kc : kindI 4751297606875873280 = 1 := by decide +kernel
  have cc : (4751297606875873280 : Int).toNat = 4751297606875873280 := rfl
  have hz := zero_order 4751297606875873280 (by omega) (by omega) (by omega)
  rw [show (kindI 4751297606875873280 == 0) = false from by rw [kc]; rfl, cc] at hz
  have ci := fun w => mathInf_any a w h0 h1
  rw [show (kindI a == 2) = false from by rw [k]; rfl] at ci
  have cn := fun w => mathNaN_any a w h0 h1
  rw [show (kindI a == 3) = false from by rw [k]; rfl] at cn
  have cm := fun w => mathNaN_any 4751297606875873280 w (by omega) (by omega)
  rw [show (kindI 4751297606875873280 == 3) = false from by rw [kc]; rfl, cc] at cm
  have hm : bits .andNot .u64 ((4751297606875873280 : Nat) : Int) 9223372036854775808 = 4751297606875873280 := by decide +kernel
  have cab := fun w => abs_any 4751297606875873280 w _ hm
  rw [cc] at cab
  have cf := fun w => Frexp_any 4751297606875873280 (by omega) (by omega) w
  rw [cc] at cf
  have r0 : rankI a = 0 := by
    have := (read_zero a h0 h1 k).2
    rw [this]
    cases negB a.toNat <;> rfl
  have hl := less_order a 0 h0 h1 (by omega) (by omega)
  have z : (0 : Int).toNat = 0 := rfl
  have lz : lessI a 0 = false := by unfold lessI; rw [r0]; simp [show rankI 0 = 0 from rfl]
  rw [z, lz] at hl
  have hg := geq_order a 4751297606875873280 h0 h1 (by omega) (by omega) (by omega) (by omega)
  have rc : rankI 4751297606875873280 = 4751297606875873280 := by decide +kernel
  rw [r0, rc, cc, decide_eq_false (by omega)] at hg
  exact mod_zero_w a.toNat _ _ w hz ci cn cm cab cf hl hg

set_option maxHeartbeats 400000 in
theorem Mod_zero (a : Int) (h0 : 0 ≤ a) (h1 : a < 18446744073709551616) (k : kindI a = 0) (w : World) :
    Calls Try.prog 48 #[.float .f64 a.toNat, .float .f64 4751297606875873280] w fun e w' => e = .returned (.float .f64 a.toNat) ∧ w' = w := by
  have c := fun w => mod_zero a h0 h1 k w
  generalize a.toNat = x at *
  clear h0 h1 k
  go_enter Try.func48, Try.ntmps48
  go_wp2_with (go_at_call 59; refine (c _).mono ?_; rintro e w1 ⟨rfl, rfl⟩)
  go_ret
  exact ⟨rfl, rfl⟩

set_option maxHeartbeats 400000 in
theorem tu_nan (a : Int) (x : Nat) (w : World) (va : ∀ w : World, Calls Try.prog 9 #[.int .u64 a] w fun e w' => e = .returned (.float .f64 x) ∧ w' = w) (ct : ∀ w : World, Calls Try.prog 52 #[.float .f64 x] w fun e w' => ∃ n, e = .returned (.float .f64 n) ∧ Below w.heap.size w w' ∧ (FloatKind.f64.format.order n n != some Ordering.eq) = true) :
    Calls Try.prog 26 #[.int .u64 a] w fun e w' => e = .returned (.int .u32 0) ∧ Below w.heap.size w w' := by
  go_enter Try.func26, Try.ntmps26
  go_wp2_with fail
  refine (va _).mono ?_
  rintro e w1 ⟨rfl, hw⟩
  subst hw
  go_wp2_with fail
  refine (ct _).mono ?_
  rintro e w1 ⟨n, rfl, hb, hn⟩
  go_wp2
  go_ret
  exact ⟨rfl, hb⟩

set_option maxHeartbeats 400000 in
theorem tu_inf (a : Int) (x : Nat) (w : World) (va : ∀ w : World, Calls Try.prog 9 #[.int .u64 a] w fun e w' => e = .returned (.float .f64 x) ∧ w' = w) (n : Nat) (ct : ∀ w : World, Calls Try.prog 52 #[.float .f64 x] w fun e w' => e = .returned (.float .f64 n) ∧ Below w.heap.size w w')
    (hn : (FloatKind.f64.format.order n n != some Ordering.eq) = false)
    (ci : ∀ w : World, Calls Try.prog 23 #[.float .f64 n, .int .i64 0] w fun e w' => e = .returned (.bool true) ∧ w' = w) :
    Calls Try.prog 26 #[.int .u64 a] w fun e w' => e = .returned (.int .u32 0) ∧ Below w.heap.size w w' := by
  go_enter Try.func26, Try.ntmps26
  go_wp2_with fail
  refine (va _).mono ?_
  rintro e w1 ⟨rfl, hw⟩
  subst hw
  go_wp2_with fail
  refine (ct _).mono ?_
  rintro e w1 ⟨rfl, hb⟩
  go_wp2_with fail
  refine (ci _).mono ?_
  rintro e w2 ⟨rfl, hw⟩
  subst hw
  go_wp2
  go_ret
  exact ⟨rfl, hb⟩

set_option maxHeartbeats 400000 in
theorem tu_pos (a : Int) (x : Nat) (w : World) (va : ∀ w : World, Calls Try.prog 9 #[.int .u64 a] w fun e w' => e = .returned (.float .f64 x) ∧ w' = w) (n : Nat) (ct : ∀ w : World, Calls Try.prog 52 #[.float .f64 x] w fun e w' => e = .returned (.float .f64 n) ∧ Below w.heap.size w w')
    (hn : (FloatKind.f64.format.order n n != some Ordering.eq) = false)
    (ci : ∀ w : World, Calls Try.prog 23 #[.float .f64 n, .int .i64 0] w fun e w' => e = .returned (.bool false) ∧ w' = w)
    (m : Nat) (N : Int) (cm : ∀ w : World, Calls Try.prog 48 #[.float .f64 n, .float .f64 4751297606875873280] w fun e w' => e = .returned (.float .f64 m) ∧ w' = w)
    (hl : (FloatKind.f64.format.order m 0 == some Ordering.lt) = false)
    (hc : ∀ w : World, (convert 23 34 (.float .f64 m)).run Try.prog w = .ok (.int .u32 N) w) :
    Calls Try.prog 26 #[.int .u64 a] w fun e w' => e = .returned (.int .u32 N) ∧ Below w.heap.size w w' := by
  go_enter Try.func26, Try.ntmps26
  go_wp2_with fail
  refine (va _).mono ?_
  rintro e w1 ⟨rfl, hw⟩
  subst hw
  go_wp2_with fail
  refine (ct _).mono ?_
  rintro e w1 ⟨rfl, hb⟩
  go_wp2_with fail
  refine (ci _).mono ?_
  rintro e w2 ⟨rfl, hw⟩
  subst hw
  go_wp2_with fail
  refine (cm _).mono ?_
  rintro e w2 ⟨rfl, hw⟩
  subst hw
  go_wp2
  go_ret
  exact ⟨rfl, hb⟩

set_option maxHeartbeats 400000 in
theorem tu_neg (a : Int) (x : Nat) (w : World) (va : ∀ w : World, Calls Try.prog 9 #[.int .u64 a] w fun e w' => e = .returned (.float .f64 x) ∧ w' = w) (n : Nat) (ct : ∀ w : World, Calls Try.prog 52 #[.float .f64 x] w fun e w' => e = .returned (.float .f64 n) ∧ Below w.heap.size w w')
    (hn : (FloatKind.f64.format.order n n != some Ordering.eq) = false)
    (ci : ∀ w : World, Calls Try.prog 23 #[.float .f64 n, .int .i64 0] w fun e w' => e = .returned (.bool false) ∧ w' = w)
    (m : Nat) (N : Int) (cm : ∀ w : World, Calls Try.prog 48 #[.float .f64 n, .float .f64 4751297606875873280] w fun e w' => e = .returned (.float .f64 m) ∧ w' = w)
    (hl : (FloatKind.f64.format.order m 0 == some Ordering.lt) = true)
    (s : Nat) (ha : ∀ w : World, (binOp .add 23 (.float .f64 m) (.float .f64 4751297606875873280)).run Try.prog w = .ok (.float .f64 s) w)
    (hc : ∀ w : World, (convert 23 34 (.float .f64 s)).run Try.prog w = .ok (.int .u32 N) w) :
    Calls Try.prog 26 #[.int .u64 a] w fun e w' => e = .returned (.int .u32 N) ∧ Below w.heap.size w w' := by
  go_enter Try.func26, Try.ntmps26
  go_wp2_with fail
  refine (va _).mono ?_
  rintro e w1 ⟨rfl, hw⟩
  subst hw
  go_wp2_with fail
  refine (ct _).mono ?_
  rintro e w1 ⟨rfl, hb⟩
  go_wp2_with fail
  refine (ci _).mono ?_
  rintro e w2 ⟨rfl, hw⟩
  subst hw
  go_wp2_with fail
  refine (cm _).mono ?_
  rintro e w2 ⟨rfl, hw⟩
  subst hw
  go_wp2
  go_ret
  exact ⟨rfl, hb⟩
theorem u32_q (a : Int) (h0 : 0 ≤ a) (h1 : a < 18446744073709551616) : u32I a = withS (negB a.toNat) (magI a / 2 ^ unitE) % 4294967296 := by
  unfold u32I
  by_cases k1 : kindI a = 1
  · rw [if_neg (by simp [k1])]
    have key : ∃ z : Int, sizeI (manI a) (expI a) = ((magI a / 2 ^ unitE : Nat) : Int) + z * 18446744073709551616 := by
      by_cases c : expI a ≤ 0
      · exact ⟨0, by rw [(size_whole a h0 h1 k1 c).1]; omega⟩
      · have hu := ue
        obtain ⟨_, f, _⟩ := read_fin a h0 h1 k1
        obtain ⟨f1, f2, f3, f4, f5⟩ := f
        have mg : magI a = (manI a).toNat * 2 ^ (expI a + 1074).toNat := by unfold magI; rw [if_pos k1]
        have q : magI a / 2 ^ unitE = (manI a).toNat * 2 ^ (expI a).toNat := by
          rw [mg, show (expI a + 1074).toNat = (expI a).toNat + unitE from by omega, Nat.pow_add, ← Nat.mul_assoc, Nat.mul_div_cancel _ (Nat.two_pow_pos _)]
        have e : manI a * 2 ^ (expI a).toNat = (((manI a).toNat * 2 ^ (expI a).toNat : Nat) : Int) := by
          rw [Int.natCast_mul, Int.natCast_pow, Int.toNat_of_nonneg (by omega)]; rfl
        unfold sizeI
        rw [if_neg (by omega), q, e]
        generalize (manI a).toNat * 2 ^ (expI a).toNat = z
        exact ⟨-((z : Int) / 18446744073709551616), by omega⟩
    obtain ⟨z, hz⟩ := key
    have ns := neg_sgn a h0 h1
    rw [hz]
    generalize magI a / 2 ^ unitE = q at *
    unfold withS
    generalize negB a.toNat = s at *
    cases s
    · rw [if_pos (ns.2 rfl), if_neg (by decide)]; omega
    · rw [if_neg (fun h => by have := ns.1 h; cases this), if_pos rfl]; omega
  · rw [if_pos k1]
    have mg : magI a = 0 := by unfold magI; rw [if_neg k1]
    rw [mg, Nat.zero_div]
    cases negB a.toNat <;> rfl

theorem mag_trunc (a : Int) (h0 : 0 ≤ a) (h1 : a < 18446744073709551616) (k : kindI a < 2) : magI (truncI a) = magI a / 2 ^ unitE * 2 ^ unitE := by
  obtain ⟨t0, t1⟩ := trunc_bd a h0 h1
  obtain ⟨kt, vt⟩ := trunc_val a h0 h1 k
  have v := val_mag _ t0 t1 kt
  rw [v] at vt
  generalize magI (truncI a) = y at *
  generalize magI a / 2 ^ unitE * 2 ^ unitE = x at *
  unfold withS at vt
  split at vt <;> split at vt <;> omega

theorem neg_trunc (a : Int) (h0 : 0 ≤ a) (h1 : a < 18446744073709551616) (k : kindI a < 2) (hq : 0 < magI a / 2 ^ unitE) : negB (truncI a).toNat = negB a.toNat := by
  obtain ⟨t0, t1⟩ := trunc_bd a h0 h1
  obtain ⟨kt, vt⟩ := trunc_val a h0 h1 k
  have v := val_mag _ t0 t1 kt
  have p : 0 < magI a / 2 ^ unitE * 2 ^ unitE := Nat.mul_pos hq (Nat.two_pow_pos _)
  rw [v, mag_trunc a h0 h1 k] at vt
  generalize magI a / 2 ^ unitE * 2 ^ unitE = x at *
  unfold withS at vt
  generalize negB (truncI a).toNat = s1 at *
  generalize negB a.toNat = s2 at *
  cases s1 <;> cases s2
  · rfl
  · simp only [Bool.false_eq_true, if_false, if_true] at vt; omega
  · simp only [Bool.false_eq_true, if_false, if_true] at vt; omega
  · rfl

theorem u32_min : IntKind.u32.min = 0 ∧ IntKind.u32.max = 4294967295 := by decide

theorem less0 (n : Int) (n0 : -9007199254740992 < n) (n1 : n < 9007199254740992) : (FloatKind.f64.format.order (fromI n).toNat 0 == some Ordering.lt) = decide (n < 0) := by
  obtain ⟨b0, b1⟩ := from_bd n n0 n1
  have o := less_order (fromI n) 0 b0 b1 (by omega) (by omega)
  have z : (0 : Int).toNat = 0 := rfl
  rw [z] at o
  rw [o]
  have h := (val_rank (fromI n) 0 b0 (by omega)).1
  have v0 : valI 0 = 0 * unit := by rw [Int.zero_mul]; rfl
  rw [from_val n n0 n1, v0, Int.mul_lt_mul_right unit_pos] at h
  have k := from_kind n n0 n1
  have k0 : kindI 0 = 0 := by decide +kernel
  unfold lessI
  have a1 : (kindI (fromI n) == 3) = false := by rw [beq_eq_false_iff_ne]; omega
  rw [a1, k0, ← decide_eq_decide.2 h]
  rfl

theorem refu32_any (a : Int) (w : World) (h0 : 0 ≤ a) (h1 : a < 18446744073709551616) :
    Calls Try.prog 26 #[.int .u64 a] w fun e w' => e = .returned (.int .u32 (u32I a)) ∧ Below w.heap.size w w' := by
  have va := fun w => val_any a w
  have mt := fun w => mathTrunc_any a h0 h1 w
  by_cases k3 : kindI a = 3
  · have e : u32I a = 0 := by unfold u32I; rw [if_pos (by omega)]
    rw [e]
    refine tu_nan a _ w va (fun w => (mt w).mono ?_)
    rintro e w' ⟨n, he, hb, M⟩
    refine ⟨n, he, hb, ?_⟩
    obtain ⟨kn, bn⟩ := M.nan k3
    have o := nan_order ((n : Nat) : Int) (by omega) (by omega)
    rw [Int.toNat_natCast] at o
    rw [o, kn]
    rfl
  obtain ⟨t0, t1⟩ := trunc_bd a h0 h1
  have kt := trunc_kind a h0 h1 k3
  have ct : ∀ w : World, Calls Try.prog 52 #[.float .f64 a.toNat] w fun e w' => e = .returned (.float .f64 (truncI a).toNat) ∧ Below w.heap.size w w' := fun w => by
    refine (mt w).mono ?_
    rintro e w' ⟨n, he, hb, M⟩
    rw [← M.num k3]
    exact ⟨he, hb⟩
  have hn := nan_order (truncI a) t0 t1
  rw [show (kindI (truncI a) == 3) = false from by simp [kt]] at hn
  have ci := fun w => mathInf_any (truncI a) w t0 t1
  by_cases k2 : kindI a = 2
  · have ta : truncI a = a := by unfold truncI; rw [if_neg k3, if_pos (Or.inl (by omega))]
    have e : u32I a = 0 := by unfold u32I; rw [if_pos (by omega)]
    rw [e]
    rw [show (kindI (truncI a) == 2) = true from by rw [ta, k2]; rfl] at ci
    exact tu_inf a _ w va _ ct hn ci
  have kc := kind_cases a
  have k : kindI a < 2 := by omega
  obtain ⟨kT, vT⟩ := trunc_val a h0 h1 k
  rw [show (kindI (truncI a) == 2) = false from by rw [beq_eq_false_iff_ne]; omega] at ci
  have mT := mag_trunc a h0 h1 k
  have uq := u32_q a h0 h1
  obtain ⟨mn, mx⟩ := u32_min
  by_cases q0 : magI a / 2 ^ unitE = 0
  · rw [q0, Nat.zero_mul] at mT
    have kz : kindI (truncI a) = 0 := by
      have := kind_cases (truncI a)
      have : kindI (truncI a) ≠ 1 := fun h => by have := mag_pos _ t0 t1 h; omega
      omega
    have r0 : rankI (truncI a) = 0 := by
      have := (read_zero _ t0 t1 kz).2
      rw [this]
      cases negB (truncI a).toNat <;> rfl
    have wz : wholeOf (truncI a) = 0 := by
      unfold wholeOf
      rw [mT, Nat.zero_div]
      cases negB (truncI a).toNat <;> rfl
    have e : u32I a = 0 := by rw [uq, q0]; cases negB a.toNat <;> rfl
    rw [e]
    have hl := less_order (truncI a) 0 t0 t1 (by omega) (by omega)
    have z : (0 : Int).toNat = 0 := rfl
    have lz : lessI (truncI a) 0 = false := by unfold lessI; rw [r0]; simp [show rankI 0 = 0 from rfl]
    rw [z, lz] at hl
    have hc := fun w => conv_run 34 .u32 Try.underlying34 (truncI a) t0 t1 kT (by rw [wz, mn, mx]; omega) w
    rw [wz] at hc
    exact tu_pos a _ w va _ ct hn ci _ _ (fun w => Mod_zero _ t0 t1 kz w) hl hc
  · have nT := neg_trunc a h0 h1 k (Nat.pos_of_ne_zero q0)
    have k1 : kindI (truncI a) = 1 := by
      have := kind_cases (truncI a)
      have : kindI (truncI a) ≠ 0 := fun h => by
        have : magI (truncI a) = 0 := by unfold magI; rw [if_neg (by omega)]
        have p : 0 < magI a / 2 ^ unitE * 2 ^ unitE := Nat.mul_pos (Nat.pos_of_ne_zero q0) (Nat.two_pow_pos _)
        omega
      omega
    obtain ⟨cb0, cb1⟩ := from_bd 4294967296 (by omega) (by omega)
    have kc1 := from_kind1 4294967296 (by omega) (by omega) (by omega)
    have mc := mag_from 4294967296 (by omega) (by omega)
    have cm := fun w => Mod_any (truncI a) (fromI 4294967296) w t0 t1 cb0 cb1 k1 kc1
    have cc : (4751297606875873280 : Int).toNat = 4751297606875873280 := rfl
    have mw : modW (truncI a) (fromI 4294967296) = wordOf (negB a.toNat) (rung (magI a / 2 ^ unitE % 4294967296) 0) := by
      unfold modW
      have n32 : (4294967296 : Int).natAbs = 4294967296 := rfl
      rw [nT, mT, mc, n32, Nat.mul_mod_mul_right]
      unfold wd
      rw [rung_scale, show -1074 + ((unitE : Nat) : Int) = 0 from by have := ue; omega]
    rw [mw, c32, cc] at cm
    clear mw mc mT vT
    have pl : magI a / 2 ^ unitE % 4294967296 < 4294967296 := Nat.mod_lt _ (by decide)
    have e : ((magI a / 2 ^ unitE : Nat) : Int) % 4294967296 = ((magI a / 2 ^ unitE % 4294967296 : Nat) : Int) := by omega
    generalize magI a / 2 ^ unitE = q at *
    generalize hp : q % 4294967296 = p at *
    generalize hs : negB a.toNat = s at *
    cases s
    · have e1 : u32I a = (p : Int) := by
        rw [uq]; unfold withS; rw [if_neg (by decide)]; exact e
      have wf : wordOf false (rung p 0) = (fromI (p : Int)).toNat := by
        unfold wordOf fromI
        rw [if_neg (by decide), if_neg (by omega), Int.toNat_natCast, Int.toNat_natCast]
      rw [wf] at cm
      obtain ⟨x0, x1⟩ := from_bd (p : Int) (by omega) (by omega)
      have hl := less0 (p : Int) (by omega) (by omega)
      rw [decide_eq_false (by omega)] at hl
      have wo := whole_from (p : Int) (by omega) (by omega)
      have hc := fun w => conv_run 34 .u32 Try.underlying34 (fromI (p : Int)) x0 x1 (from_kind _ (by omega) (by omega)) (by rw [wo, mn, mx]; omega) w
      rw [wo] at hc
      rw [e1]
      exact tu_pos a _ w va _ ct hn ci _ _ cm hl hc
    · have e1 : u32I a = (-(q : Int)) % 4294967296 := by
        rw [uq]; unfold withS; rw [if_pos rfl]
      by_cases pz : p = 0
      · have e2 : u32I a = 0 := by rw [e1]; omega
        subst pz
        have wf : wordOf true (rung 0 0) = 9223372036854775808 := by decide +kernel
        rw [wf] at cm
        have hl : (FloatKind.f64.format.order 9223372036854775808 0 == some Ordering.lt) = false := by decide +kernel
        have wo : wholeOf 9223372036854775808 = 0 := by decide +kernel
        have hc := fun w => conv_run 34 .u32 Try.underlying34 9223372036854775808 (by omega) (by omega) (by rw [kind0_parts.2]; decide) (by rw [wo, mn, mx]; omega) w
        have c63 : (9223372036854775808 : Int).toNat = 9223372036854775808 := rfl
        rw [wo, c63] at hc
        rw [e2]
        exact tu_pos a _ w va _ ct hn ci _ _ cm hl hc
      · have e2 : u32I a = -(p : Int) + 4294967296 := by rw [e1]; omega
        have wf : wordOf true (rung p 0) = (fromI (-(p : Int))).toNat := by
          unfold wordOf fromI
          rw [if_pos rfl, if_pos (by omega), show (- -(p : Int)).toNat = p from by omega]
          omega
        rw [wf] at cm
        obtain ⟨x0, x1⟩ := from_bd (-(p : Int)) (by omega) (by omega)
        have hl := less0 (-(p : Int)) (by omega) (by omega)
        rw [decide_eq_true (by omega)] at hl
        have ha := fun w => add_run (fromI (-(p : Int))) (fromI 4294967296) x0 x1 cb0 cb1 (from_kind _ (by omega) (by omega)) (by omega) w
        rw [add_from _ _ (by omega) (by omega) (by omega) (by omega) (by omega), c32, cc] at ha
        obtain ⟨y0, y1⟩ := from_bd (-(p : Int) + 4294967296) (by omega) (by omega)
        have wo := whole_from (-(p : Int) + 4294967296) (by omega) (by omega)
        have hc := fun w => conv_run 34 .u32 Try.underlying34 (fromI (-(p : Int) + 4294967296)) y0 y1 (from_kind _ (by omega) (by omega)) (by rw [wo, mn, mx]; omega) w
        rw [wo] at hc
        rw [e2]
        exact tu_neg a _ w va _ ct hn ci _ _ cm hl _ ha hc

end Go.Proofs.Ytnocnodiecihnaa
