/- The walks of package word: tagged, payload, Int, Object, Text, IsInt, IsObject, IsText, Bool, Number, untagged, Bits, Right. -/
import Derived.Test.YtfhdmglfpkmjbaaW25
namespace Go.Proofs.Ytfhdmglfpkmjbaa
open Go.RowKit
set_option linter.unusedVariables false

theorem or_tag (t n : Int) (t0 : 0 ≤ t) (t1 : t < 65536) (n0 : 0 ≤ n) (n1 : n < 4294967296) : bits .or .u64 (t * 281474976710656) n = t * 281474976710656 + n := by
  rw [u64_or _ _ (by omega) (by omega) (by omega) (by omega)]
  have e := nat_join 48 (t.toNat * 281474976710656) n.toNat (by omega) (by show n.toNat < 281474976710656; omega)
  rw [show (t * 281474976710656).toNat = t.toNat * 281474976710656 from by omega, e]
  omega

set_option maxHeartbeats 400000 in
theorem tagged_any (t n : Int) (w : World) (t0 : 0 ≤ t) (t1 : t < 65536) (n0 : 0 ≤ n) (n1 : n < 4294967296) :
    Calls Try.prog 56 #[.int .u64 t, .int .u32 n] w fun e w' => e = .returned (.int .u64 (t * 281474976710656 + n)) ∧ w' = w := by
  have ho := or_tag t n t0 t1 n0 n1
  have hw : IntKind.u64.wrap (t * 281474976710656) = t * 281474976710656 := by rw [IntKind.wrap_u64]; omega
  go_enter Try.func56, Try.ntmps56
  go_wp2
  go_ret
  exact ⟨rfl, rfl⟩

/-- the words of the tags -/
def intW (n : Int) : Int := 18444773748872577024 + n % 4294967296
def objW (n : Int) : Int := 18445055223849287680 + n
def txtW (n : Int) : Int := 18445618173802708992 + n

set_option maxHeartbeats 400000 in
theorem int_any (n : Int) (w : World) : Calls Try.prog 50 #[.int .i32 n] w fun e w' => e = .returned (.int .u64 (intW n)) ∧ w' = w := by
  have c := fun w => tagged_any 65529 (n % 4294967296) w (by omega) (by omega) (by omega) (by omega)
  have hw : IntKind.u32.wrap n = n % 4294967296 := IntKind.wrap_u32 n
  unfold intW
  rw [show (65529 * 281474976710656 : Int) = 18444773748872577024 from rfl] at c
  generalize n % 4294967296 = m at *
  go_enter Try.func50, Try.ntmps50
  go_wp2_with (go_at_call 56; refine (c _).mono ?_; rintro e w1 ⟨rfl, rfl⟩)
  go_ret
  exact ⟨rfl, rfl⟩

set_option maxHeartbeats 400000 in
theorem refInt_any (n : Int) (w : World) : Calls Try.prog 59 #[.int .i32 n] w fun e w' => e = .returned (.int .u64 (intW n)) ∧ w' = w := by
  have hw : IntKind.u32.wrap n = n % 4294967296 := IntKind.wrap_u32 n
  unfold intW
  have m0 : 0 ≤ n % 4294967296 := by omega
  have m1 : n % 4294967296 < 4294967296 := by omega
  generalize n % 4294967296 = m at *
  go_enter Try.func59, Try.ntmps59
  go_wp2
  go_ret
  exact ⟨rfl, rfl⟩

/-- whether a word is of a tag -/
def isT (a t : Int) : Bool := a / 4294967296 == t * 65536

/-- the low 32 bits of a word, as a whole number -/
def lowI (a : Int) : Int := IntKind.i32.wrap a

set_option maxHeartbeats 400000 in
theorem payI_any (a t : Int) (w : World) (h0 : 0 ≤ a) (h1 : a < 18446744073709551616) (t0 : 0 ≤ t) (t1 : t < 65536) :
    Calls Try.prog 38 #[.int .u64 a, .int .u64 t] w fun e w' => e = .returned (.tuple #[.int .i32 (if isT a t then lowI a else 0), .bool (isT a t)]) ∧ w' = w := by
  have hw : IntKind.u64.wrap (t * 65536) = t * 65536 := by rw [IntKind.wrap_u64]; omega
  unfold lowI
  obtain ⟨L, hL⟩ : ∃ L, IntKind.i32.wrap a = L := ⟨_, rfl⟩
  cases hc : isT a t with
  | true =>
    have hn : (a / 4294967296 != t * 65536) = false := by unfold isT at hc; rw [bne, hc]; rfl
    rw [if_pos rfl, hL]
    clear hc
    go_enter Try.func38, Try.ntmps38
    go_wp2
    go_ret2
    exact ⟨rfl, rfl⟩
  | false =>
    have hn : (a / 4294967296 != t * 65536) = true := by unfold isT at hc; rw [bne, hc]; rfl
    rw [if_neg (by decide)]
    clear hc hL
    go_enter Try.func38, Try.ntmps38
    go_wp2
    go_ret2
    exact ⟨rfl, rfl⟩

def isIntI (a : Int) : Int × Bool := (if isT a 65529 then lowI a else 0, isT a 65529)
def isObjI (a : Int) : Int × Bool := (if isT a 65530 then a % 4294967296 else 0, isT a 65530)
def isTxtI (a : Int) : Int × Bool := (if isT a 65532 then a % 4294967296 else 0, isT a 65532)

set_option maxHeartbeats 400000 in
theorem isInt_any (a : Int) (w : World) (h0 : 0 ≤ a) (h1 : a < 18446744073709551616) :
    Calls Try.prog 33 #[.int .u64 a] w fun e w' => e = .returned (.tuple #[.int .i32 (isIntI a).1, .bool (isIntI a).2]) ∧ w' = w := by
  have c := fun w => payI_any a 65529 w h0 h1 (by omega) (by omega)
  unfold isIntI
  dsimp only
  generalize (if isT a 65529 then lowI a else 0) = x at *
  generalize isT a 65529 = y at *
  go_enter Try.func33, Try.ntmps33
  go_wp2_with (go_at_call 38; refine (c _).mono ?_; rintro e w1 ⟨rfl, rfl⟩)
  go_ret2
  exact ⟨rfl, rfl⟩

def boolW (b : Bool) : Int := if b then 18445336698825998339 else 18445336698825998338

/-- whether a number is a whole one of 32 bits -/
def smallB (a : Int) : Bool := (wholeI a).2 && (decide (-2147483648 ≤ (wholeI a).1) && decide ((wholeI a).1 ≤ 2147483647))

/-- the word of a number -/
def numI (a : Int) : Int := if kindI a = 3 then 9221120237041090560 else if smallB a then intW (wholeI a).1 else a

section
variable (a n : Int) (w : World)

set_option maxHeartbeats 400000 in
theorem number_nan (ct : ∀ w : World, Calls Try.prog 48 #[.int .u64 a] w fun e w' => e = .returned (.bool true) ∧ Below w.heap.size w w') :
    Calls Try.prog 45 #[.int .u64 a] w fun e w' => e = .returned (.int .u64 9221120237041090560) ∧ Below w.heap.size w w' := by
  go_enter Try.func45, Try.ntmps45
  go_wp2_with (go_at_call 48; refine (ct _).mono ?_; rintro e w1 ⟨rfl, hb1⟩)
  go_ret
  exact ⟨rfl, hb1⟩

set_option maxHeartbeats 400000 in
theorem number_frac (cn : ∀ w : World, Calls Try.prog 48 #[.int .u64 a] w fun e w' => e = .returned (.bool false) ∧ Below w.heap.size w w')
    (cw : ∀ w : World, Calls Try.prog 49 #[.int .u64 a] w fun e w' => e = .returned (.tuple #[.int .i64 n, .bool false]) ∧ Below w.heap.size w w') :
    Calls Try.prog 45 #[.int .u64 a] w fun e w' => e = .returned (.int .u64 a) ∧ Below w.heap.size w w' := by
  go_enter Try.func45, Try.ntmps45
  go_wp2_with fail
  refine (cn _).mono ?_
  rintro e w1 ⟨rfl, hb1⟩
  go_wp2_with fail
  refine (cw _).mono ?_
  rintro e w2 ⟨rfl, hb2⟩
  go_wp2
  go_ret
  exact ⟨rfl, bt hb1 hb2⟩

set_option maxHeartbeats 400000 in
theorem number_out (cn : ∀ w : World, Calls Try.prog 48 #[.int .u64 a] w fun e w' => e = .returned (.bool false) ∧ Below w.heap.size w w')
    (hn : n < -2147483648 ∨ 2147483647 < n) (cw : ∀ w : World, Calls Try.prog 49 #[.int .u64 a] w fun e w' => e = .returned (.tuple #[.int .i64 n, .bool true]) ∧ Below w.heap.size w w') :
    Calls Try.prog 45 #[.int .u64 a] w fun e w' => e = .returned (.int .u64 a) ∧ Below w.heap.size w w' := by
  rcases hn with hn | hn
  · go_enter Try.func45, Try.ntmps45
    go_wp2_with fail
    refine (cn _).mono ?_
    rintro e w1 ⟨rfl, hb1⟩
    go_wp2_with fail
    refine (cw _).mono ?_
    rintro e w2 ⟨rfl, hb2⟩
    go_wp2
    go_ret
    exact ⟨rfl, bt hb1 hb2⟩
  · go_enter Try.func45, Try.ntmps45
    go_wp2_with fail
    refine (cn _).mono ?_
    rintro e w1 ⟨rfl, hb1⟩
    go_wp2_with fail
    refine (cw _).mono ?_
    rintro e w2 ⟨rfl, hb2⟩
    go_wp2
    go_ret
    exact ⟨rfl, bt hb1 hb2⟩

set_option maxHeartbeats 400000 in
theorem number_int (cn : ∀ w : World, Calls Try.prog 48 #[.int .u64 a] w fun e w' => e = .returned (.bool false) ∧ Below w.heap.size w w')
    (n0 : -2147483648 ≤ n) (n1 : n ≤ 2147483647) (cw : ∀ w : World, Calls Try.prog 49 #[.int .u64 a] w fun e w' => e = .returned (.tuple #[.int .i64 n, .bool true]) ∧ Below w.heap.size w w') :
    Calls Try.prog 45 #[.int .u64 a] w fun e w' => e = .returned (.int .u64 (intW n)) ∧ Below w.heap.size w w' := by
  have ci := fun w => int_any n w
  generalize intW n = R at *
  go_enter Try.func45, Try.ntmps45
  go_wp2_with fail
  refine (cn _).mono ?_
  rintro e w1 ⟨rfl, hb1⟩
  go_wp2_with fail
  refine (cw _).mono ?_
  rintro e w2 ⟨rfl, hb2⟩
  go_wp2_with fail
  refine (ci _).mono ?_
  rintro e w3 ⟨rfl, hw⟩
  subst hw
  go_wp2
  go_ret
  exact ⟨rfl, bt hb1 hb2⟩
end

theorem number_any (a : Int) (w : World) (h0 : 0 ≤ a) (h1 : a < 18446744073709551616) :
    Calls Try.prog 45 #[.int .u64 a] w fun e w' => e = .returned (.int .u64 (numI a)) ∧ Below w.heap.size w w' := by
  have cn := fun w => isNaN_any a w h0 h1
  have cw := fun w => whole_any a w h0 h1
  unfold numI smallB
  by_cases k3 : kindI a = 3
  · rw [if_pos k3]
    rw [k3] at cn
    exact number_nan a w cn
  rw [if_neg k3]
  have e3 : (kindI a == 3) = false := by simp [k3]
  rw [e3] at cn
  generalize (wholeI a).1 = n at *
  generalize (wholeI a).2 = b at *
  cases b
  · rw [if_neg (by simp)]
    exact number_frac a n w cn cw
  · by_cases c : -2147483648 ≤ n ∧ n ≤ 2147483647
    · rw [if_pos (by simp [c.1, c.2])]
      exact number_int a n w cn c.1 c.2 cw
    · rw [if_neg (by simp; omega)]
      exact number_out a n w cn (by omega) cw

theorem intW_bd (n : Int) : 18444773748872577024 ≤ intW n ∧ intW n < 18444773753167544320 := by unfold intW; omega
theorem numI_bd (a : Int) (h0 : 0 ≤ a) (h1 : a < 18446744073709551616) : 0 ≤ numI a ∧ numI a < 18446744073709551616 := by
  unfold numI
  have := intW_bd (wholeI a).1
  split
  · omega
  · split <;> omega

set_option maxHeartbeats 400000 in
theorem untagged_any (a : Int) (w : World) (h0 : 0 ≤ a) (h1 : a < 18446744073709551616) :
    Calls Try.prog 40 #[.int .u64 a] w fun e w' => e = .returned (.bool (numI a == a)) ∧ Below w.heap.size w w' := by
  have c := fun w => number_any a w h0 h1
  generalize numI a = N at *
  go_enter Try.func40, Try.ntmps40
  go_wp2_with (go_at_call 45; refine (c _).mono ?_; rintro e w1 ⟨rfl, hb1⟩)
  go_ret
  exact ⟨rfl, hb1⟩

/-- the number of a word -/
def bitsI (a : Int) : Int × Bool := if isT a 65529 then (fromI (lowI a), true) else if numI a == a then (a, true) else (0, false)

theorem lowI_bd (a : Int) : -2147483648 ≤ lowI a ∧ lowI a ≤ 2147483647 := by unfold lowI; rw [IntKind.wrap_i32]; omega

set_option maxHeartbeats 400000 in
theorem bits_any (a : Int) (w : World) (h0 : 0 ≤ a) (h1 : a < 18446744073709551616) :
    Calls Try.prog 34 #[.int .u64 a] w fun e w' => e = .returned (.tuple #[.int .u64 (bitsI a).1, .bool (bitsI a).2]) ∧ Below w.heap.size w w' := by
  have ci := fun w => isInt_any a w h0 h1
  have cu := fun w => untagged_any a w h0 h1
  obtain ⟨l0, l1⟩ := lowI_bd a
  have cf := fun w => fromInt_any (lowI a) w (by omega) (by omega)
  unfold isIntI at ci
  dsimp only at ci
  unfold bitsI
  cases hc : isT a 65529 with
  | true =>
    rw [if_pos rfl]
    rw [hc, if_pos rfl] at ci
    clear hc cu
    generalize fromI (lowI a) = F at *
    generalize lowI a = L at *
    go_enter Try.func34, Try.ntmps34
    go_wp2_with fail
    refine (ci _).mono ?_
    rintro e w1 ⟨rfl, hw⟩
    subst hw
    go_wp2_with fail
    refine (cf _).mono ?_
    rintro e w2 ⟨rfl, hb2⟩
    go_wp2
    go_ret2
    exact ⟨rfl, hb2⟩
  | false =>
    rw [if_neg (by decide)]
    rw [hc, if_neg (by decide)] at ci
    clear hc cf
    cases hd : numI a == a with
    | true =>
      rw [if_pos rfl]
      rw [hd] at cu
      clear hd
      go_enter Try.func34, Try.ntmps34
      go_wp2_with fail
      refine (ci _).mono ?_
      rintro e w1 ⟨rfl, hw⟩
      subst hw
      go_wp2_with fail
      refine (cu _).mono ?_
      rintro e w2 ⟨rfl, hb2⟩
      go_wp2
      go_ret2
      exact ⟨rfl, hb2⟩
    | false =>
      rw [if_neg (by decide)]
      rw [hd] at cu
      clear hd
      go_enter Try.func34, Try.ntmps34
      go_wp2_with fail
      refine (ci _).mono ?_
      rintro e w1 ⟨rfl, hw⟩
      subst hw
      go_wp2_with fail
      refine (cu _).mono ?_
      rintro e w2 ⟨rfl, hb2⟩
      go_wp2
      go_ret2
      exact ⟨rfl, hb2⟩

/-- whether a word can be -/
def rightI (a : Int) : Bool :=
  if a / 281474976710656 = 65529 ∨ a / 281474976710656 = 65530 ∨ a / 281474976710656 = 65532 then isT a (a / 281474976710656)
  else if a / 281474976710656 = 65531 then isT a 65531 && decide (a % 4294967296 ≤ 4) else numI a == a

section
variable (a t : Int) (b : Bool) (w : World)