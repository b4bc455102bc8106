/- WordNumbers and WordReads. -/
import Derived.Test.YtajgoooejobngaaV7
namespace Go.Proofs.Ytajgoooejobngaa
open Go.RowKit
set_option linter.unusedVariables false

section
variable (a t n : Int) (w : World)

set_option maxHeartbeats 400000 in
theorem v_bad (ct : ∀ w : World, Calls Try.prog 35 #[.int .u64 a] w fun e w' => e = .returned (.tuple #[.int .u64 t, .int .u32 n]) ∧ w' = w)
    (cr : ∀ w : World, Calls Try.prog 19 #[.int .u64 a] w fun e w' => e = .returned (.bool false) ∧ Below w.heap.size w w') :
    Calls Try.prog 30 #[.int .u64 a] w fun e w' => e = .returned (.tuple #[.float .f64 0, .bool false]) ∧ Below w.heap.size w w' := by
  go_enter Try.func30, Try.ntmps30
  go_wp2_with fail
  refine (ct _).mono ?_
  rintro e wx ⟨rfl, hw⟩
  subst hw
  go_wp2_with fail
  refine (cr _).mono ?_
  rintro e w1 ⟨rfl, hb1⟩
  go_wp2
  go_ret2
  exact ⟨rfl, hb1⟩

set_option maxHeartbeats 400000 in
theorem v_int (L : Int) (hL : IntKind.i32.wrap n = L) (ct : ∀ w : World, Calls Try.prog 35 #[.int .u64 a] w fun e w' => e = .returned (.tuple #[.int .u64 65529, .int .u32 n]) ∧ w' = w)
    (cr : ∀ w : World, Calls Try.prog 19 #[.int .u64 a] w fun e w' => e = .returned (.bool true) ∧ Below w.heap.size w w') :
    Calls Try.prog 30 #[.int .u64 a] w fun e w' => e = .returned (.tuple #[.float .f64 (floatOfInt .f64 L), .bool true]) ∧ Below w.heap.size w w' := by
  go_enter Try.func30, Try.ntmps30
  go_wp2_with fail
  refine (ct _).mono ?_
  rintro e wx ⟨rfl, hw⟩
  subst hw
  go_wp2_with fail
  refine (cr _).mono ?_
  rintro e w1 ⟨rfl, hb1⟩
  go_wp2
  go_ret2
  exact ⟨rfl, hb1⟩

set_option maxHeartbeats 400000 in
theorem v_own (ht : (t == 65529) = false) (ct : ∀ w : World, Calls Try.prog 35 #[.int .u64 a] w fun e w' => e = .returned (.tuple #[.int .u64 t, .int .u32 n]) ∧ w' = w)
    (cr : ∀ w : World, Calls Try.prog 19 #[.int .u64 a] w fun e w' => e = .returned (.bool true) ∧ Below w.heap.size w w') :
    Calls Try.prog 30 #[.int .u64 a] w fun e w' => e = .returned (.tuple #[.float .f64 a.toNat, .bool (t == 0)]) ∧ Below w.heap.size w w' := by
  have hx := frombits_run
  go_enter Try.func30, Try.ntmps30
  go_wp2_with fail
  refine (ct _).mono ?_
  rintro e wx ⟨rfl, hw⟩
  subst hw
  go_wp2_with fail
  refine (cr _).mono ?_
  rintro e w1 ⟨rfl, hb1⟩
  go_wp2
  go_ret2
  exact ⟨rfl, hb1⟩

set_option maxHeartbeats 400000 in
theorem b_no (x : Nat) (cv : ∀ w : World, Calls Try.prog 30 #[.int .u64 a] w fun e w' => e = .returned (.tuple #[.float .f64 x, .bool false]) ∧ Below w.heap.size w w') :
    Calls Try.prog 11 #[.int .u64 a] w fun e w' => e = .returned (.tuple #[.int .u64 0, .bool false]) ∧ Below w.heap.size w w' := by
  go_enter Try.func11, Try.ntmps11
  go_wp2_with fail
  refine (cv _).mono ?_
  rintro e w1 ⟨rfl, hb1⟩
  go_wp2
  go_ret2
  exact ⟨rfl, hb1⟩

set_option maxHeartbeats 400000 in
theorem b_nan (x : Nat) (hn : (FloatKind.f64.format.order x x != some Ordering.eq) = true) (cv : ∀ w : World, Calls Try.prog 30 #[.int .u64 a] w fun e w' => e = .returned (.tuple #[.float .f64 x, .bool true]) ∧ Below w.heap.size w w') :
    Calls Try.prog 11 #[.int .u64 a] w fun e w' => e = .returned (.tuple #[.int .u64 9221120237041090560, .bool true]) ∧ Below w.heap.size w w' := by
  go_enter Try.func11, Try.ntmps11
  go_wp2_with fail
  refine (cv _).mono ?_
  rintro e w1 ⟨rfl, hb1⟩
  go_wp2
  go_ret2
  exact ⟨rfl, hb1⟩

set_option maxHeartbeats 400000 in
theorem b_num (x : Nat) (hn : (FloatKind.f64.format.order x x != some Ordering.eq) = false) (cv : ∀ w : World, Calls Try.prog 30 #[.int .u64 a] w fun e w' => e = .returned (.tuple #[.float .f64 x, .bool true]) ∧ Below w.heap.size w w') :
    Calls Try.prog 11 #[.int .u64 a] w fun e w' => e = .returned (.tuple #[.int .u64 x, .bool true]) ∧ Below w.heap.size w w' := by
  have hx := tobits_run
  go_enter Try.func11, Try.ntmps11
  go_wp2_with fail
  refine (cv _).mono ?_
  rintro e w1 ⟨rfl, hb1⟩
  go_wp2
  go_ret2
  exact ⟨rfl, hb1⟩
end

/-- which words of each tag can be -/
theorem tag_right (a t : Int) (ht : t = 65529 ∨ t = 65530 ∨ t = 65532) : ((tagI a).1 = t ∧ rightI a = true) ↔ isT a t = true := by
  unfold tagI
  constructor
  · rintro ⟨h1, h2⟩
    by_cases c : 65529 ≤ a / 281474976710656 ∧ a / 281474976710656 ≤ 65532
    · rw [if_pos c] at h1
      unfold rightI at h2
      rw [if_pos (by dsimp only at h1; omega), show a / 281474976710656 = t from h1] at h2
      exact h2
    · rw [if_neg c] at h1
      dsimp only at h1
      omega
  · intro h
    have q := (isT_iff a t).1 h
    rw [if_pos (by omega)]
    refine ⟨by dsimp only; omega, ?_⟩
    unfold rightI
    rw [if_pos (by omega), show a / 281474976710656 = t from by omega]
    exact h

theorem refBits_any (a : Int) (h0 : 0 ≤ a) (h1 : a < 18446744073709551616) (w : World) :
    Calls Try.prog 11 #[.int .u64 a] w fun e w' => e = .returned (.tuple #[.int .u64 (bitsI a).1, .bool (bitsI a).2]) ∧ Below w.heap.size w w' := by
  have ct := fun w => refTag_any a h0 h1 w
  have cr := fun w => refRight_any a h0 h1 w
  unfold bitsI
  cases hi : isT a 65529 with
  | true =>
    rw [if_pos rfl]
    obtain ⟨t, r⟩ := (tag_right a 65529 (Or.inl rfl)).2 hi
    have q := (isT_iff a 65529).1 hi
    have t2 : (tagI a).2 = a % 4294967296 := by unfold tagI; rw [if_pos (by omega)]
    rw [t, t2] at ct
    rw [r] at cr
    have cv := fun w => v_int a (a % 4294967296) w (lowI a) (by unfold lowI; rw [IntKind.wrap_i32, IntKind.wrap_i32]; omega) ct cr
    obtain ⟨l0, l1⟩ := lowI_bd a
    obtain ⟨f0, f1⟩ := from_bd (lowI a) (by omega) (by omega)
    have fk := from_kind (lowI a) (by omega) (by omega)
    rw [nearest_from] at cv
    have hn := nan_order (fromI (lowI a)) f0 f1
    rw [show (kindI (fromI (lowI a)) == 3) = false from by simp; omega] at hn
    have := b_num a w _ hn cv
    rw [show (((fromI (lowI a)).toNat : Nat) : Int) = fromI (lowI a) from by omega] at this
    exact this
  | false =>
    rw [if_neg (by decide)]
    cases ho : numI a == a with
    | true =>
      rw [if_pos rfl]
      have o : numI a = a := by simpa using ho
      have tg := own_tag a h0 h1 o
      have te : tagI a = (0, 0) := by unfold tagI; rw [if_neg (by omega)]
      rw [te] at ct
      rw [right_own a h0 h1 o] at cr
      have cv := fun w => v_own a 0 0 w rfl ct cr
      have hn := nan_order a h0 h1
      by_cases k : kindI a = 3
      · rw [k] at hn
        have e : a = 9221120237041090560 := by rw [← num_nan a k]; exact o.symm
        have := b_nan a w _ hn cv
        rw [← e] at this
        exact this
      · rw [show (kindI a == 3) = false from by simp [k]] at hn
        have := b_num a w _ hn cv
        rw [show ((a.toNat : Nat) : Int) = a from by omega] at this
        exact this
    | false =>
      rw [if_neg (by decide)]
      have o : numI a ≠ a := by simpa using ho
      cases hr : rightI a with
      | false =>
        rw [hr] at cr
        exact b_no a w _ (fun w => v_bad a _ _ w ct cr)
      | true =>
        rw [hr] at cr
        have nt : (tagI a).1 ≠ 65529 := fun h => by
          have := (tag_right a 65529 (Or.inl rfl)).1 ⟨h, hr⟩
          rw [hi] at this
          exact absurd this (by decide)
        have n0 : (tagI a).1 ≠ 0 := by
          unfold tagI
          intro h
          by_cases c : 65529 ≤ a / 281474976710656 ∧ a / 281474976710656 ≤ 65532
          · rw [if_pos c] at h; dsimp only at h; omega
          · unfold rightI at hr
            rw [if_neg (by omega), if_neg (by omega), ho] at hr
            exact absurd hr (by decide)
        have cv := fun w => v_own a _ _ w (by simp [nt]) ct cr
        rw [show ((tagI a).1 == 0) = false from by simp [n0]] at cv
        exact b_no a w _ cv

section
variable (a t n g : Int) (w : World)

set_option maxHeartbeats 400000 in
theorem isTag_ne (hg : (t != g) = true) (r : Bool) (ct : ∀ w : World, Calls Try.prog 35 #[.int .u64 a] w fun e w' => e = .returned (.tuple #[.int .u64 t, .int .u32 n]) ∧ w' = w)
    (cr : ∀ w : World, Calls Try.prog 19 #[.int .u64 a] w fun e w' => e = .returned (.bool r) ∧ Below w.heap.size w w') :
    Calls Try.prog 15 #[.int .u64 a, .int .u64 g] w fun e w' => e = .returned (.tuple #[.int .u32 0, .bool false]) ∧ Below w.heap.size w w' := by
  go_enter Try.func15, Try.ntmps15
  go_wp2_with fail
  refine (ct _).mono ?_
  rintro e wx ⟨rfl, hw⟩
  subst hw
  go_wp2_with fail
  refine (cr _).mono ?_
  rintro e w1 ⟨rfl, hb1⟩
  go_wp2
  go_ret2
  exact ⟨rfl, hb1⟩

set_option maxHeartbeats 400000 in
theorem isTag_bad (hg : (t != g) = false) (ct : ∀ w : World, Calls Try.prog 35 #[.int .u64 a] w fun e w' => e = .returned (.tuple #[.int .u64 t, .int .u32 n]) ∧ w' = w)
    (cr : ∀ w : World, Calls Try.prog 19 #[.int .u64 a] w fun e w' => e = .returned (.bool false) ∧ Below w.heap.size w w') :
    Calls Try.prog 15 #[.int .u64 a, .int .u64 g] w fun e w' => e = .returned (.tuple #[.int .u32 0, .bool false]) ∧ Below w.heap.size w w' := by
  go_enter Try.func15, Try.ntmps15
  go_wp2_with fail
  refine (ct _).mono ?_
  rintro e wx ⟨rfl, hw⟩
  subst hw
  go_wp2_with fail
  refine (cr _).mono ?_
  rintro e w1 ⟨rfl, hb1⟩
  go_wp2
  go_ret2
  exact ⟨rfl, hb1⟩

set_option maxHeartbeats 400000 in
theorem isTag_yes (hg : (t != g) = false) (ct : ∀ w : World, Calls Try.prog 35 #[.int .u64 a] w fun e w' => e = .returned (.tuple #[.int .u64 t, .int .u32 n]) ∧ w' = w)
    (cr : ∀ w : World, Calls Try.prog 19 #[.int .u64 a] w fun e w' => e = .returned (.bool true) ∧ Below w.heap.size w w') :
    Calls Try.prog 15 #[.int .u64 a, .int .u64 g] w fun e w' => e = .returned (.tuple #[.int .u32 n, .bool true]) ∧ Below w.heap.size w w' := by
  go_enter Try.func15, Try.ntmps15
  go_wp2_with fail
  refine (ct _).mono ?_
  rintro e wx ⟨rfl, hw⟩
  subst hw
  go_wp2_with fail
  refine (cr _).mono ?_
  rintro e w1 ⟨rfl, hb1⟩
  go_wp2
  go_ret2
  exact ⟨rfl, hb1⟩
end

theorem isTag_any (a g : Int) (h0 : 0 ≤ a) (h1 : a < 18446744073709551616) (hg : g = 65529 ∨ g = 65530 ∨ g = 65532) (w : World) :
    Calls Try.prog 15 #[.int .u64 a, .int .u64 g] w fun e w' => e = .returned (.tuple #[.int .u32 (if isT a g then a % 4294967296 else 0), .bool (isT a g)]) ∧ Below w.heap.size w w' := by
  have ct := fun w => refTag_any a h0 h1 w
  have cr := fun w => refRight_any a h0 h1 w
  have tr := tag_right a g hg
  cases hi : isT a g with
  | true =>
    obtain ⟨t, r⟩ := tr.2 hi
    have q := (isT_iff a g).1 hi
    have t2 : (tagI a).2 = a % 4294967296 := by unfold tagI; rw [if_pos (by omega)]
    rw [t2] at ct
    rw [r] at cr
    rw [if_pos rfl]
    exact isTag_yes a _ _ g w (by simp [t]) ct cr
  | false =>
    rw [if_neg (by decide)]
    by_cases t : (tagI a).1 = g
    · have r : rightI a = false := by
        cases hr : rightI a with
        | false => rfl
        | true =>
          have := tr.1 ⟨t, hr⟩
          rw [hi] at this
          exact absurd this (by decide)
      rw [r] at cr
      exact isTag_bad a _ _ g w (by simp [t]) ct cr
    · exact isTag_ne a _ _ g w (by simp [t]) _ ct cr

set_option maxHeartbeats 1000000 in
theorem numbers_core (a N X : Int) (w : World)
    (cn : ∀ w : World, Calls Try.prog 9 #[.int .u64 a] w fun e w' => e = .returned (.int .u64 N) ∧ Below w.heap.size w w')
    (rn : ∀ w : World, Calls Try.prog 12 #[.int .u64 a] w fun e w' => e = .returned (.int .u64 N) ∧ Below w.heap.size w w')
    (cb : ∀ w : World, Calls Try.prog 10 #[.int .u64 N] w fun e w' => e = .returned (.tuple #[.int .u64 X, .bool true]) ∧ Below w.heap.size w w')
    (rb : ∀ w : World, Calls Try.prog 11 #[.int .u64 N] w fun e w' => e = .returned (.tuple #[.int .u64 X, .bool true]) ∧ Below w.heap.size w w') :
    Calls Try.prog 3 #[.int .u64 a] w fun e w' => e = .returned (.bool true) ∧ Below w.heap.size w w' := by
  have al := alive_any
  go_enter Try.func3, Try.ntmps3
  go_wp2_with fail
  refine (cn _).mono ?_
  rintro e w1 ⟨rfl, hb1⟩
  go_wp2_with fail
  refine (cb _).mono ?_
  rintro e w2 ⟨rfl, hb2⟩
  go_wp2_with fail
  refine (rn _).mono ?_
  rintro e w3 ⟨rfl, hb3⟩
  go_wp2_with fail
  refine (rb _).mono ?_
  rintro e w4 ⟨rfl, hb4⟩
  go_wp2_with fail
  refine (al _).mono ?_
  rintro e w5 ⟨rfl, hb5⟩
  go_wp2_with fail
  refine (rn _).mono ?_
  rintro e w6 ⟨rfl, hb6⟩
  go_wp2
  go_ret
  exact ⟨rfl, bt (bt (bt (bt (bt hb1 hb2) hb3) hb4) hb5) hb6⟩

theorem numbers_walk (a : Int) (h0 : 0 ≤ a) (h1 : a < 18446744073709551616) (w : World) :
    Calls Try.prog 3 #[.int .u64 a] w fun e w' => e = .returned (.bool true) ∧ Below w.heap.size w w' := by
  obtain ⟨a0, a1⟩ := numI_bd a h0 h1
  refine numbers_core a (numI a) (canon a) w (fun w => number_any a w h0 h1) (fun w => refNumber_any a h0 h1 w) (fun w => ?_) (fun w => ?_)
  · have := bits_any (numI a) w a0 a1
    rw [bits_num a h0 h1] at this
    exact this
  · have := refBits_any (numI a) a0 a1 w
    rw [bits_num a h0 h1] at this
    exact this

set_option maxHeartbeats 2000000 in
theorem reads_core (a X N M O T : Int) (x i o t r : Bool) (w : World) (hM : IntKind.i32.wrap M = N)
    (cb : ∀ w : World, Calls Try.prog 10 #[.int .u64 a] w fun e w' => e = .returned (.tuple #[.int .u64 X, .bool x]) ∧ Below w.heap.size w w')
    (rb : ∀ w : World, Calls Try.prog 11 #[.int .u64 a] w fun e w' => e = .returned (.tuple #[.int .u64 X, .bool x]) ∧ Below w.heap.size w w')
    (ci : ∀ w : World, Calls Try.prog 14 #[.int .u64 a] w fun e w' => e = .returned (.tuple #[.int .i32 N, .bool i]) ∧ w' = w)
    (ri : ∀ w : World, Calls Try.prog 15 #[.int .u64 a, .int .u64 65529] w fun e w' => e = .returned (.tuple #[.int .u32 M, .bool i]) ∧ Below w.heap.size w w')
    (co : ∀ w : World, Calls Try.prog 16 #[.int .u64 a] w fun e w' => e = .returned (.tuple #[.int .u32 O, .bool o]) ∧ w' = w)
    (ro : ∀ w : World, Calls Try.prog 15 #[.int .u64 a, .int .u64 65530] w fun e w' => e = .returned (.tuple #[.int .u32 O, .bool o]) ∧ Below w.heap.size w w')
    (ct : ∀ w : World, Calls Try.prog 17 #[.int .u64 a] w fun e w' => e = .returned (.tuple #[.int .u32 T, .bool t]) ∧ w' = w)
    (rt : ∀ w : World, Calls Try.prog 15 #[.int .u64 a, .int .u64 65532] w fun e w' => e = .returned (.tuple #[.int .u32 T, .bool t]) ∧ Below w.heap.size w w')
    (cr : ∀ w : World, Calls Try.prog 18 #[.int .u64 a] w fun e w' => e = .returned (.bool r) ∧ Below w.heap.size w w')
    (rr : ∀ w : World, Calls Try.prog 19 #[.int .u64 a] w fun e w' => e = .returned (.bool r) ∧ Below w.heap.size w w') :
    Calls Try.prog 4 #[.int .u64 a] w fun e w' => e = .returned (.bool true) ∧ Below w.heap.size w w' := by
  have al := alive_any
  go_enter Try.func4, Try.ntmps4
  go_wp2_with fail
  refine (cb _).mono ?_
  rintro e w1 ⟨rfl, hb1⟩
  go_wp2_with fail
  refine (rb _).mono ?_
  rintro e w2 ⟨rfl, hb2⟩
  go_wp2_with fail
  refine (ci _).mono ?_
  rintro e wx ⟨rfl, hw⟩
  subst hw
  go_wp2_with fail
  refine (ri _).mono ?_
  rintro e w3 ⟨rfl, hb3⟩
  go_wp2_with fail
  refine (co _).mono ?_
  rintro e wx ⟨rfl, hw⟩
  subst hw
  go_wp2_with fail
  refine (ro _).mono ?_
  rintro e w4 ⟨rfl, hb4⟩
  go_wp2_with fail
  refine (ct _).mono ?_
  rintro e wx ⟨rfl, hw⟩
  subst hw
  go_wp2_with fail
  refine (rt _).mono ?_
  rintro e w5 ⟨rfl, hb5⟩
  go_wp2_with fail
  refine (al _).mono ?_
  rintro e w6 ⟨rfl, hb6⟩
  go_wp2_with fail
  refine (cr _).mono ?_
  rintro e w7 ⟨rfl, hb7⟩
  go_wp2_with fail
  refine (rr _).mono ?_
  rintro e w8 ⟨rfl, hb8⟩
  go_wp2
  go_ret
  exact ⟨rfl, bt (bt (bt (bt (bt (bt (bt hb1 hb2) hb3) hb4) hb5) hb6) hb7) hb8⟩

theorem reads_walk (a : Int) (h0 : 0 ≤ a) (h1 : a < 18446744073709551616) (w : World) :
    Calls Try.prog 4 #[.int .u64 a] w fun e w' => e = .returned (.bool true) ∧ Below w.heap.size w w' := by
  refine reads_core a _ _ (if isT a 65529 then a % 4294967296 else 0) _ _ _ _ _ _ _ w ?_ (fun w => bits_any a w h0 h1) (fun w => refBits_any a h0 h1 w) (fun w => isInt_any a w h0 h1) (fun w => isTag_any a 65529 h0 h1 (by omega) w)
    (fun w => isObject_any a w h0 h1) (fun w => isTag_any a 65530 h0 h1 (by omega) w) (fun w => isText_any a w h0 h1) (fun w => isTag_any a 65532 h0 h1 (by omega) w) (fun w => right_any a w h0 h1) (fun w => refRight_any a h0 h1 w)
  unfold isIntI
  dsimp only
  cases isT a 65529
  · rfl
  · rw [if_pos rfl, if_pos rfl]
    unfold lowI
    rw [IntKind.wrap_i32, IntKind.wrap_i32]
    omega
end Go.Proofs.Ytajgoooejobngaa
