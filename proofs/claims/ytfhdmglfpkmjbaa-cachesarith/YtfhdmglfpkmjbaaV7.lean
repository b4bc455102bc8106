/- The document's word: Float, Number, Tag, Right, Value, Bits, IsTag, whole; WordNumbers, WordReads. -/
import Derived.Test.YtfhdmglfpkmjbaaV6
import Derived.Test.YtfhdmglfpkmjbaaV3
namespace Go.Proofs.Ytfhdmglfpkmjbaa
open Go.RowKit
set_option linter.unusedVariables false

theorem floor_call (a : Int) (h0 : 0 ≤ a) (h1 : a < 18446744073709551616) (k : kindI a ≠ 3) (w : World) :
    Calls Try.prog 57 #[.float .f64 a.toNat] w fun e w' => e = .returned (.float .f64 (floorI a).toNat) ∧ Below w.heap.size w w' := by
  refine (mathFloor_any a h0 h1 w).mono ?_
  rintro e w' ⟨n, he, hb, M⟩
  rw [M.num k] at he
  exact ⟨he, hb⟩

theorem zero_rank : rankI 0 = 0 ∧ kindI 0 = 0 ∧ smallB 0 = true ∧ (wholeI 0).1 = 0 ∧ smallB 9223372036854775808 = false := by decide +kernel

theorem float_any (a : Int) (h0 : 0 ≤ a) (h1 : a < 18446744073709551616) (w : World) :
    Calls Try.prog 51 #[.float .f64 a.toNat] w fun e w' => e = .returned (.int .u64 (numI a)) ∧ Below w.heap.size w w' := by
  have hn := nan_order a h0 h1
  by_cases k : kindI a = 3
  · rw [num_nan a k]
    rw [k] at hn
    exact float_nan _ w hn
  have kn : (kindI a == 3) = false := by simp [k]
  rw [kn] at hn
  have ax : ((a.toNat : Nat) : Int) = a := by omega
  have hl := geq_order a 13970166044103278592 h0 h1 (by omega) (by omega) k (by rw [lo_parts.1]; decide)
  have hh := leq_order a 4746794007244308480 h0 h1 (by omega) (by omega) k (by rw [lo_parts.2]; decide)
  obtain ⟨z1, z2, z3, z4, z5⟩ := zero_rank
  have hz := neq_order a 0 h0 h1 (by omega) (by omega) k (by rw [z2]; decide)
  obtain ⟨f0, f1⟩ := floor_bd a h0 h1
  have hf := equal_order a (floorI a) h0 h1 f0 f1
  have cf := fun w => floor_call a h0 h1 k w
  rw [show (13970166044103278592 : Int).toNat = 13970166044103278592 from rfl] at hl
  rw [show (4746794007244308480 : Int).toNat = 4746794007244308480 from rfl] at hh
  rw [show (0 : Int).toNat = 0 from rfl, z1] at hz
  cases s : smallB a with
  | true =>
    obtain ⟨k2, t1, t2, t3, t4, t5⟩ := small_tests a h0 h1 s
    obtain ⟨wh, n0, n1⟩ := small_whole a s
    have hq : equalI a (floorI a) = true := by rw [t3]; exact equal_of_rank a a k2 k2 rfl
    rw [decide_eq_true t1] at hl
    rw [decide_eq_true t2] at hh
    rw [hq] at hf
    have e : numI a = intW (wholeI a).1 := by unfold numI; rw [if_neg k, s, if_pos rfl]
    rw [e]
    have hc := fun w => conv_run 21 .i32 Try.underlying21 a h0 h1 k2 (by rw [t5]; exact ⟨n0, n1⟩) w
    rw [t5] at hc
    by_cases z : rankI a = 0
    · have a0 : a = 0 := by rcases zero_of_rank a z with c | c; exact c; exact absurd c t4
      rw [decide_eq_true z] at hz
      have cs := fun w => signbit_any a.toNat (by omega) w
      rw [show negB a.toNat = false from by rw [a0]; rfl] at cs
      exact float_pos0 _ w _ _ _ hn hl hh cf hf hz cs hc (fun w => refInt_any _ w)
    · rw [decide_eq_false z] at hz
      exact float_int _ w _ _ _ hn hl hh cf hf hz hc (fun w => refInt_any _ w)
  | false =>
    rw [num_own a s k]
    have key : ∀ {P : Prop}, (Calls Try.prog 51 #[.float .f64 a.toNat] w fun e w' => e = .returned (.int .u64 ((a.toNat : Nat) : Int)) ∧ Below w.heap.size w w') → Calls Try.prog 51 #[.float .f64 a.toNat] w fun e w' => e = .returned (.int .u64 a) ∧ Below w.heap.size w w' := by
      intro _ h
      rw [ax] at h
      exact h
    apply key (P := True)
    clear key ax
    by_cases t1 : rankI 13970166044103278592 ≤ rankI a
    · rw [decide_eq_true t1] at hl
      by_cases t2 : rankI a ≤ rankI 4746794007244308480
      · rw [decide_eq_true t2] at hh
        cases q : equalI a (floorI a) with
        | false =>
          rw [q] at hf
          exact float_frac _ w _ hn hl hh cf hf
        | true =>
          rw [q] at hf
          by_cases m : a = 9223372036854775808
          · have cs := fun w => signbit_any a.toNat (by omega) w
            rw [show negB a.toNat = true from by rw [m]; rfl] at cs
            have z : rankI a = 0 := by rw [m]; rfl
            rw [decide_eq_true z] at hz
            exact float_neg0 _ w _ hn hl hh cf hf hz cs
          · exact absurd (tests_small a h0 h1 k t1 t2 q m) (by rw [s]; decide)
      · rw [decide_eq_false t2] at hh
        exact float_hi _ w hn hl hh
    · rw [decide_eq_false t1] at hl
      exact float_lo _ w hn hl

set_option maxHeartbeats 400000 in
theorem refNumber_any (a : Int) (h0 : 0 ≤ a) (h1 : a < 18446744073709551616) (w : World) :
    Calls Try.prog 46 #[.int .u64 a] w fun e w' => e = .returned (.int .u64 (numI a)) ∧ Below w.heap.size w w' := by
  have c := fun w => float_any a h0 h1 w
  have hx := frombits_run
  generalize numI a = N at *
  go_enter Try.func46, Try.ntmps46
  go_wp2_with fail
  refine (c _).mono ?_
  rintro e w1 ⟨rfl, hb1⟩
  go_wp2
  go_ret
  exact ⟨rfl, hb1⟩

/-- the tag that a word would have, and its payload -/
def tagI (a : Int) : Int × Int := if 65529 ≤ a / 281474976710656 ∧ a / 281474976710656 ≤ 65532 then (a / 281474976710656, a % 4294967296) else (0, 0)

set_option maxHeartbeats 400000 in
theorem refTag_any (a : Int) (h0 : 0 ≤ a) (h1 : a < 18446744073709551616) (w : World) :
    Calls Try.prog 41 #[.int .u64 a] w fun e w' => e = .returned (.tuple #[.int .u64 (tagI a).1, .int .u32 (tagI a).2]) ∧ w' = w := by
  have e1 : a / 65536 / 65536 / 65536 = a / 281474976710656 := by omega
  have e2 : IntKind.u32.wrap (a % 4294967296) = a % 4294967296 := by rw [IntKind.wrap_u32]; omega
  have b0 : 0 ≤ a / 281474976710656 := by omega
  have b1 : a / 281474976710656 < 65536 := by omega
  have m0 : 0 ≤ a % 4294967296 := by omega
  have m1 : a % 4294967296 < 4294967296 := by omega
  unfold tagI
  generalize a / 281474976710656 = T at *
  by_cases c : 65529 ≤ T
  · by_cases d : T ≤ 65532
    · rw [if_pos ⟨c, d⟩]
      generalize hm : a % 4294967296 = M at *
      go_enter Try.func41, Try.ntmps41
      go_wp2
      go_ret2
      exact ⟨rfl, rfl⟩
    · rw [if_neg (by omega)]
      go_enter Try.func41, Try.ntmps41
      go_wp2
      go_ret2
      exact ⟨rfl, rfl⟩
  · rw [if_neg (by omega)]
    go_enter Try.func41, Try.ntmps41
    go_wp2
    go_ret2
    exact ⟨rfl, rfl⟩

section
variable (a t n : Int) (w : World)

set_option maxHeartbeats 400000 in
theorem rr_own (N : Int) (ct : ∀ w : World, Calls Try.prog 41 #[.int .u64 a] w fun e w' => e = .returned (.tuple #[.int .u64 0, .int .u32 n]) ∧ w' = w)
    (cn : ∀ w : World, Calls Try.prog 46 #[.int .u64 a] w fun e w' => e = .returned (.int .u64 N) ∧ Below w.heap.size w w') :
    Calls Try.prog 42 #[.int .u64 a] w fun e w' => e = .returned (.bool (N == a)) ∧ Below w.heap.size w w' := by
  go_enter Try.func42, Try.ntmps42
  go_wp2_with fail
  refine (ct _).mono ?_
  rintro e wx ⟨rfl, hw⟩
  subst hw
  go_wp2_with fail
  refine (cn _).mono ?_
  rintro e w1 ⟨rfl, hb1⟩
  go_wp2
  go_ret
  exact ⟨rfl, hb1⟩

set_option maxHeartbeats 400000 in
theorem rr_bad (_h0 : 0 ≤ a) (_h1 : a < 18446744073709551616) (ht : (t == 0) = false) (ct : ∀ w : World, Calls Try.prog 41 #[.int .u64 a] w fun e w' => e = .returned (.tuple #[.int .u64 t, .int .u32 n]) ∧ w' = w)
    (Z : Int) (hZ : a / 4294967296 % 65536 = Z) (hb : (Z != 0) = true) :
    Calls Try.prog 42 #[.int .u64 a] w fun e w' => e = .returned (.bool false) ∧ Below w.heap.size w w' := by
  go_enter Try.func42, Try.ntmps42
  go_wp2_with fail
  refine (ct _).mono ?_
  rintro e wx ⟨rfl, hw⟩
  subst hw
  go_wp2
  go_ret
  exact ⟨rfl, Below.refl _ _⟩

set_option maxHeartbeats 400000 in
theorem rr_tag (_h0 : 0 ≤ a) (_h1 : a < 18446744073709551616) (ht : (t == 0) = false) (ct : ∀ w : World, Calls Try.prog 41 #[.int .u64 a] w fun e w' => e = .returned (.tuple #[.int .u64 t, .int .u32 n]) ∧ w' = w)
    (hb : a / 4294967296 % 65536 = 0) (hs : (t != 65531) = true) :
    Calls Try.prog 42 #[.int .u64 a] w fun e w' => e = .returned (.bool true) ∧ Below w.heap.size w w' := by
  go_enter Try.func42, Try.ntmps42
  go_wp2_with fail
  refine (ct _).mono ?_
  rintro e wx ⟨rfl, hw⟩
  subst hw
  go_wp2
  go_ret
  exact ⟨rfl, Below.refl _ _⟩

set_option maxHeartbeats 400000 in
theorem rr_small (_h0 : 0 ≤ a) (_h1 : a < 18446744073709551616) (ct : ∀ w : World, Calls Try.prog 41 #[.int .u64 a] w fun e w' => e = .returned (.tuple #[.int .u64 65531, .int .u32 n]) ∧ w' = w)
    (hb : a / 4294967296 % 65536 = 0) :
    Calls Try.prog 42 #[.int .u64 a] w fun e w' => e = .returned (.bool (decide (n ≤ 4))) ∧ Below w.heap.size w w' := by
  go_enter Try.func42, Try.ntmps42
  go_wp2_with fail
  refine (ct _).mono ?_
  rintro e wx ⟨rfl, hw⟩
  subst hw
  go_wp2
  go_ret
  exact ⟨rfl, Below.refl _ _⟩
end

theorem refRight_any (a : Int) (h0 : 0 ≤ a) (h1 : a < 18446744073709551616) (w : World) :
    Calls Try.prog 42 #[.int .u64 a] w fun e w' => e = .returned (.bool (rightI a)) ∧ Below w.heap.size w w' := by
  have ct := fun w => refTag_any a h0 h1 w
  unfold tagI at ct
  by_cases c : 65529 ≤ a / 281474976710656 ∧ a / 281474976710656 ≤ 65532
  · rw [if_pos c] at ct
    dsimp only at ct
    by_cases z : a / 4294967296 % 65536 = 0
    · by_cases d : a / 281474976710656 = 65531
      · have e : rightI a = decide (a % 4294967296 ≤ 4) := by
          unfold rightI
          rw [if_neg (by omega), if_pos d, (isT_iff a 65531).2 (by omega), Bool.true_and]
        rw [e]
        rw [d] at ct
        exact rr_small a _ w h0 h1 ct z
      · have e : rightI a = true := by
          unfold rightI
          rw [if_pos (by omega)]
          exact (isT_iff a _).2 (by omega)
        rw [e]
        exact rr_tag a _ _ w h0 h1 (by simp; omega) ct z (by simp [d])
    · have e : rightI a = false := by
        unfold rightI
        by_cases d : a / 281474976710656 = 65531
        · rw [if_neg (by omega), if_pos d, isT_false a 65531 (by omega), Bool.false_and]
        · rw [if_pos (by omega)]
          exact isT_false a _ (by omega)
      rw [e]
      exact rr_bad a _ _ w h0 h1 (by simp; omega) ct _ rfl (by simp [z])
  · rw [if_neg c] at ct
    have e : rightI a = (numI a == a) := by
      unfold rightI
      rw [if_neg (by omega), if_neg (by omega)]
    rw [e]
    exact rr_own a _ w _ ct (fun w => refNumber_any a h0 h1 w)

theorem nearest_from (n : Int) : floatOfInt .f64 n = (fromI n).toNat := by
  have e : FloatKind.f64.nearest n = Ieee.double.nearest (decide (n < 0)) n.natAbs 0 := by
    unfold FloatKind.nearest FloatKind.encode Ieee.Format.write
    rfl
  show FloatKind.f64.nearest n = _
  rw [e, nearest_eq]
  unfold wordOf fromI
  by_cases c : n < 0
  · rw [decide_eq_true c, if_pos rfl, if_pos c, show n.natAbs = (-n).toNat from by omega]; omega
  · rw [decide_eq_false c, if_neg (by decide), if_neg c, show n.natAbs = n.toNat from by omega]; omega
end Go.Proofs.Ytfhdmglfpkmjbaa
