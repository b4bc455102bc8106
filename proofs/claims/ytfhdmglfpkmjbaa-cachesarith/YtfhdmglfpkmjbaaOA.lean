/- Caches: what arithmetic must be ready for, by the program and by the document. -/
import Derived.Test.YtfhdmglfpkmjbaaV8
import Derived.Test.YtfhdmglfpkmjbaaNF
namespace Go.Proofs.Ytfhdmglfpkmjbaa.Hp
open Go.RowKit
set_option linter.unusedVariables false
set_option linter.unusedSimpArgs false

/-- 1: a whole number of 32 bits; 2: another number; 3: no number -/
def rkI (a : Int) : Int := if isT a 65529 then 1 else if numI a == a then 2 else 3
theorem rk_bd (a : Int) : 1 ≤ rkI a ∧ rkI a ≤ 3 := by
  unfold rkI
  split
  · omega
  · split <;> omega

set_option maxRecDepth 100000 in
theorem stateOf_any (a : Int) (w : World) (h0 : 0 ≤ a) (h1 : a < 18446744073709551616) :
    Calls Try.prog 30 #[.int .u64 a] w fun e w' => e = .returned (.int .i64 (rkI a)) ∧ Below w.heap.size w w' := by
  have ki := isInt_any a w h0 h1
  have kb := bits_any a w h0 h1
  have hb2 := bits_snd a
  have hi2 : (isIntI a).2 = isT a 65529 := rfl
  obtain ⟨R, hR⟩ : ∃ R, R = rkI a := ⟨_, rfl⟩
  have HR : Hid (R = if isT a 65529 then 1 else if numI a == a then 2 else 3) := hR
  rw [← hR]
  rw [hi2] at ki
  rw [hb2] at kb
  generalize (isIntI a).1 = x at *
  generalize (bitsI a).1 = y at *
  generalize isT a 65529 = b at *
  generalize (numI a == a) = c at *
  clear hb2 hi2 hR
  go_enter Try.func30, Try.ntmps30
  go_wp2_with fail
  refine ki.mono ?_
  rintro e w1 ⟨rfl, rfl⟩
  clear ki
  cases b with
  | true =>
    clear kb
    go_wp2_with fail
    go_ret
    rw [HR.out]
    exact ⟨rfl, Below.refl _ _⟩
  | false =>
    rw [Bool.false_or] at kb
    go_wp2_with fail
    refine kb.mono ?_
    rintro e w2 ⟨rfl, hb⟩
    have HB : Hid (Below w1.heap.size w1 w2) := hb
    clear kb hb
    cases c with
    | true =>
      go_wp2_with fail
      go_ret
      rw [HR.out]
      exact ⟨rfl, HB.out⟩
    | false =>
      go_wp2_with fail
      go_ret
      rw [HR.out]
      exact ⟨rfl, HB.out⟩

theorem value_any (a : Int) (h0 : 0 ≤ a) (h1 : a < 18446744073709551616) (w : World) :
    Calls Try.prog 36 #[.int .u64 a] w fun e w' => ∃ x, e = .returned (.tuple #[.float .f64 x, .bool (isT a 65529 || numI a == a)]) ∧ Below w.heap.size w w' := by
  have ct := fun w => refTag_any a h0 h1 w
  have cr := fun w => refRight_any a h0 h1 w
  cases hi : isT a 65529 with
  | true =>
    obtain ⟨t, r⟩ := (tag_right a 65529 (Or.inl rfl)).2 hi
    have q := (isT_iff a 65529).1 hi
    have t2 : (tagI a).2 = a % 4294967296 := by unfold tagI; rw [if_pos (by omega)]
    rw [t, t2] at ct
    rw [r] at cr
    refine (v_int a (a % 4294967296) w (lowI a) (by unfold lowI; rw [IntKind.wrap_i32, IntKind.wrap_i32]; omega) ct cr).mono ?_
    rintro e w' ⟨rfl, hb⟩
    exact ⟨_, rfl, hb⟩
  | false =>
    cases ho : numI a == a with
    | true =>
      have o : numI a = a := by simpa using ho
      have tg := own_tag a h0 h1 o
      have te : tagI a = (0, 0) := by unfold tagI; rw [if_neg (by omega)]
      rw [te] at ct
      rw [right_own a h0 h1 o] at cr
      refine (v_own a 0 0 w rfl ct cr).mono ?_
      rintro e w' ⟨rfl, hb⟩
      exact ⟨_, rfl, hb⟩
    | false =>
      have o : numI a ≠ a := by simpa using ho
      cases hr : rightI a with
      | false =>
        rw [hr] at cr
        refine (v_bad a _ _ w ct cr).mono ?_
        rintro e w' ⟨rfl, hb⟩
        exact ⟨_, rfl, hb⟩
      | true =>
        rw [hr] at cr
        have nt : (tagI a).1 ≠ 65529 := fun h => by
          have := (tag_right a 65529 (Or.inl rfl)).1 ⟨h, hr⟩
          rw [hi] at this
          exact absurd this (by decide)
        have n0 : (tagI a).1 ≠ 0 := by
          unfold tagI
          intro h
          by_cases c : 65529 ≤ a / 281474976710656 ∧ a / 281474976710656 ≤ 65532
          · rw [if_pos c] at h; dsimp only at h; omega
          · unfold rightI at hr
            rw [if_neg (by omega), if_neg (by omega), ho] at hr
            exact absurd hr (by decide)
        refine (v_own a _ _ w (by simp [nt]) ct cr).mono ?_
        rintro e w' ⟨rfl, hb⟩
        exact ⟨_, by rw [show ((tagI a).1 == 0) = false from by simp [n0]]; rfl, hb⟩

set_option maxRecDepth 100000 in
theorem rank_any (a : Int) (w : World) (h0 : 0 ≤ a) (h1 : a < 18446744073709551616) :
    Calls Try.prog 31 #[.int .u64 a] w fun e w' => e = .returned (.int .i64 (rkI a)) ∧ Below w.heap.size w w' := by
  have ki := isTag_any a 65529 h0 h1 (Or.inl rfl) w
  have HV : Hid (∀ w : World, Calls Try.prog 36 #[.int .u64 a] w fun e w' => ∃ x, e = .returned (.tuple #[.float .f64 x, .bool (isT a 65529 || numI a == a)]) ∧ Below w.heap.size w w') := fun w => value_any a h0 h1 w
  obtain ⟨R, hR⟩ : ∃ R, R = rkI a := ⟨_, rfl⟩
  have HR : Hid (R = if isT a 65529 then 1 else if numI a == a then 2 else 3) := hR
  rw [← hR]
  generalize (if isT a 65529 then a % 4294967296 else 0) = x at *
  generalize isT a 65529 = b at *
  generalize (numI a == a) = c at *
  clear hR
  go_enter Try.func31, Try.ntmps31
  go_wp2_with fail
  refine ki.mono ?_
  rintro e w1 ⟨rfl, hb1⟩
  have HB1 : Hid (Below w.heap.size w w1) := hb1
  have kv := HV.out w1
  clear ki hb1
  go_wp2_with fail
  refine kv.mono ?_
  rintro e w2 ⟨y, rfl, hb2⟩
  have HB2 : Hid (Below w.heap.size w w2) := HB1.out.trans (hb2.mono HB1.out.size)
  clear kv hb2 HB1 HV
  cases b with
  | true =>
    go_wp2_with fail
    go_ret
    rw [HR.out]
    exact ⟨rfl, HB2.out⟩
  | false =>
    cases c with
    | true =>
      go_wp2_with fail
      go_ret
      rw [HR.out]
      exact ⟨rfl, HB2.out⟩
    | false =>
      go_wp2_with fail
      go_ret
      rw [HR.out]
      exact ⟨rfl, HB2.out⟩
end Go.Proofs.Ytfhdmglfpkmjbaa.Hp
