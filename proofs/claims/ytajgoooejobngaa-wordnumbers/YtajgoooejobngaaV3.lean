/- The walks of the laws of word that ask the program alone: alive, WordOnce, WordWholes, WordMakes. -/
import Derived.Test.YtajgoooejobngaaV2
namespace Go.Proofs.Ytajgoooejobngaa
open Go.RowKit
set_option linter.unusedVariables false

set_option maxHeartbeats 400000 in
theorem alive_walk (I B : Int) (w : World)
    (ci : ∀ w : World, Calls Try.prog 20 #[.int .i32 (-1)] w fun e w' => e = .returned (.int .u64 I) ∧ w' = w)
    (cr : ∀ w : World, Calls Try.prog 23 #[.int .i32 (-1)] w fun e w' => e = .returned (.int .u64 I) ∧ w' = w)
    (cb : ∀ w : World, Calls Try.prog 24 #[.bool true] w fun e w' => e = .returned (.int .u64 18445336698825998339) ∧ w' = w)
    (cu : ∀ w : World, Calls Try.prog 18 #[.int .u64 18445336698825998336] w fun e w' => e = .returned (.bool true) ∧ Below w.heap.size w w') :
    Calls Try.prog 13 #[] w fun e w' => e = .returned (.bool true) ∧ Below w.heap.size w w' := by
  go_enter Try.func13, Try.ntmps13
  go_wp2_with fail
  refine (ci _).mono ?_
  rintro e wx ⟨rfl, hw⟩
  subst hw
  go_wp2_with fail
  refine (cr _).mono ?_
  rintro e wx ⟨rfl, hw⟩
  subst hw
  go_wp2_with fail
  refine (cb _).mono ?_
  rintro e wx ⟨rfl, hw⟩
  subst hw
  go_wp2_with fail
  refine (cu _).mono ?_
  rintro e w1 ⟨rfl, hb1⟩
  go_wp2
  go_ret
  exact ⟨rfl, hb1⟩

theorem alive_any (w : World) : Calls Try.prog 13 #[] w fun e w' => e = .returned (.bool true) ∧ Below w.heap.size w w' := by
  refine alive_walk (intW (-1)) 0 w (fun w => int_any _ w) (fun w => refInt_any _ w) (fun w => bool_any true w) (fun w => ?_)
  have e : rightI 18445336698825998336 = true := by decide +kernel
  have := right_any 18445336698825998336 w (by omega) (by omega)
  rw [e] at this
  exact this

set_option maxHeartbeats 1000000 in
theorem once_core (a b A B X Y : Int) (w : World) (hs : (A == B) = (X == Y))
    (ca : ∀ w : World, Calls Try.prog 9 #[.int .u64 a] w fun e w' => e = .returned (.int .u64 A) ∧ Below w.heap.size w w')
    (cb : ∀ w : World, Calls Try.prog 9 #[.int .u64 b] w fun e w' => e = .returned (.int .u64 B) ∧ Below w.heap.size w w')
    (cx : ∀ w : World, Calls Try.prog 10 #[.int .u64 A] w fun e w' => e = .returned (.tuple #[.int .u64 X, .bool true]) ∧ Below w.heap.size w w')
    (cy : ∀ w : World, Calls Try.prog 10 #[.int .u64 B] w fun e w' => e = .returned (.tuple #[.int .u64 Y, .bool true]) ∧ Below w.heap.size w w')
    (cr : ∀ w : World, Calls Try.prog 18 #[.int .u64 A] w fun e w' => e = .returned (.bool true) ∧ Below w.heap.size w w')
    (cn : ∀ w : World, Calls Try.prog 9 #[.int .u64 X] w fun e w' => e = .returned (.int .u64 A) ∧ Below w.heap.size w w') :
    Calls Try.prog 6 #[.int .u64 a, .int .u64 b] w fun e w' => e = .returned (.bool true) ∧ Below w.heap.size w w' := by
  have al := alive_any
  generalize hq : (X == Y) = q at *
  go_enter Try.func6, Try.ntmps6
  go_wp2_with fail
  refine (ca _).mono ?_
  rintro e w1 ⟨rfl, hb1⟩
  go_wp2_with fail
  refine (cx _).mono ?_
  rintro e w2 ⟨rfl, hb2⟩
  go_wp2_with fail
  refine (cb _).mono ?_
  rintro e w3 ⟨rfl, hb3⟩
  go_wp2_with fail
  refine (cy _).mono ?_
  rintro e w4 ⟨rfl, hb4⟩
  go_wp2_with fail
  refine (al _).mono ?_
  rintro e w5 ⟨rfl, hb5⟩
  go_wp2_with fail
  refine (ca _).mono ?_
  rintro e w6 ⟨rfl, hb6⟩
  go_wp2_with fail
  refine (cb _).mono ?_
  rintro e w7 ⟨rfl, hb7⟩
  go_wp2_with fail
  refine (ca _).mono ?_
  rintro e w8 ⟨rfl, hb8⟩
  go_wp2_with fail
  refine (cr _).mono ?_
  rintro e w9 ⟨rfl, hb9⟩
  go_wp2_with fail
  refine (cn _).mono ?_
  rintro e w10 ⟨rfl, hb10⟩
  go_wp2_with fail
  refine (ca _).mono ?_
  rintro e w11 ⟨rfl, hb11⟩
  go_wp2
  go_ret
  exact ⟨rfl, bt (bt (bt (bt (bt (bt (bt (bt (bt (bt hb1 hb2) hb3) hb4) hb5) hb6) hb7) hb8) hb9) hb10) hb11⟩

theorem once_walk (a b : Int) (h0 : 0 ≤ a) (h1 : a < 18446744073709551616) (h2 : 0 ≤ b) (h3 : b < 18446744073709551616) (w : World) :
    Calls Try.prog 6 #[.int .u64 a, .int .u64 b] w fun e w' => e = .returned (.bool true) ∧ Below w.heap.size w w' := by
  obtain ⟨a0, a1⟩ := numI_bd a h0 h1
  obtain ⟨b0, b1⟩ := numI_bd b h2 h3
  obtain ⟨x0, x1⟩ := canon_bd a h0 h1
  refine once_core a b (numI a) (numI b) (canon a) (canon b) w (num_same a b h0 h1 h2 h3) (fun w => number_any a w h0 h1) (fun w => number_any b w h2 h3) (fun w => ?_) (fun w => ?_) (fun w => ?_) (fun w => ?_)
  · have := bits_any (numI a) w a0 a1
    rw [bits_num a h0 h1] at this
    exact this
  · have := bits_any (numI b) w b0 b1
    rw [bits_num b h2 h3] at this
    exact this
  · have := right_any (numI a) w a0 a1
    rw [right_num a h0 h1] at this
    exact this
  · have := number_any (canon a) w x0 x1
    rw [num_canon a] at this
    exact this

set_option maxHeartbeats 1000000 in
theorem wholes_core (n I F : Int) (w : World)
    (ci : ∀ w : World, Calls Try.prog 20 #[.int .i32 n] w fun e w' => e = .returned (.int .u64 I) ∧ w' = w)
    (cb : ∀ w : World, Calls Try.prog 10 #[.int .u64 I] w fun e w' => e = .returned (.tuple #[.int .u64 F, .bool true]) ∧ Below w.heap.size w w')
    (cn : ∀ w : World, Calls Try.prog 9 #[.int .u64 F] w fun e w' => e = .returned (.int .u64 I) ∧ Below w.heap.size w w') :
    Calls Try.prog 8 #[.int .i32 n] w fun e w' => e = .returned (.bool true) ∧ Below w.heap.size w w' := by
  have al := alive_any
  go_enter Try.func8, Try.ntmps8
  go_wp2_with fail
  refine (ci _).mono ?_
  rintro e wx ⟨rfl, hw⟩
  subst hw
  go_wp2_with fail
  refine (cb _).mono ?_
  rintro e w1 ⟨rfl, hb1⟩
  go_wp2_with fail
  refine (al _).mono ?_
  rintro e w2 ⟨rfl, hb2⟩
  go_wp2_with fail
  refine (cn _).mono ?_
  rintro e w3 ⟨rfl, hb3⟩
  go_wp2_with fail
  refine (ci _).mono ?_
  rintro e wx ⟨rfl, hw⟩
  subst hw
  go_wp2
  go_ret
  exact ⟨rfl, bt (bt hb1 hb2) hb3⟩

theorem wholes_walk (n : Int) (n0 : -2147483648 ≤ n) (n1 : n ≤ 2147483647) (w : World) :
    Calls Try.prog 8 #[.int .i32 n] w fun e w' => e = .returned (.bool true) ∧ Below w.heap.size w w' := by
  have i := intW_bd n
  obtain ⟨f0, f1⟩ := from_bd n (by omega) (by omega)
  refine wholes_core n (intW n) (fromI n) w (fun w => int_any n w) (fun w => ?_) (fun w => ?_)
  · have := bits_any (intW n) w (by omega) (by omega)
    rw [bits_int n n0 n1] at this
    exact this
  · have := number_any (fromI n) w f0 f1
    rw [from_small n n0 n1] at this
    exact this

set_option maxHeartbeats 1000000 in
theorem makes_core (n k I O T : Int) (b : Bool) (V : Int) (x y : Int) (w : World) (hV : (V == 18445336698825998339) = b)
    (ci : ∀ w : World, Calls Try.prog 20 #[.int .i32 n] w fun e w' => e = .returned (.int .u64 I) ∧ w' = w)
    (co : ∀ w : World, Calls Try.prog 21 #[.int .u32 k] w fun e w' => e = .returned (.int .u64 O) ∧ w' = w)
    (ct : ∀ w : World, Calls Try.prog 22 #[.int .u32 k] w fun e w' => e = .returned (.int .u64 T) ∧ w' = w)
    (ii : ∀ w : World, Calls Try.prog 14 #[.int .u64 I] w fun e w' => e = .returned (.tuple #[.int .i32 n, .bool true]) ∧ w' = w)
    (oo : ∀ w : World, Calls Try.prog 16 #[.int .u64 O] w fun e w' => e = .returned (.tuple #[.int .u32 k, .bool true]) ∧ w' = w)
    (tt : ∀ w : World, Calls Try.prog 17 #[.int .u64 T] w fun e w' => e = .returned (.tuple #[.int .u32 k, .bool true]) ∧ w' = w)
    (ot : ∀ w : World, Calls Try.prog 16 #[.int .u64 T] w fun e w' => e = .returned (.tuple #[.int .u32 x, .bool false]) ∧ w' = w)
    (io : ∀ w : World, Calls Try.prog 14 #[.int .u64 O] w fun e w' => e = .returned (.tuple #[.int .i32 y, .bool false]) ∧ w' = w)
    (ri : ∀ w : World, Calls Try.prog 18 #[.int .u64 I] w fun e w' => e = .returned (.bool true) ∧ Below w.heap.size w w')
    (ro : ∀ w : World, Calls Try.prog 18 #[.int .u64 O] w fun e w' => e = .returned (.bool true) ∧ Below w.heap.size w w')
    (rt : ∀ w : World, Calls Try.prog 18 #[.int .u64 T] w fun e w' => e = .returned (.bool true) ∧ Below w.heap.size w w')
    (rfi : ∀ w : World, Calls Try.prog 23 #[.int .i32 n] w fun e w' => e = .returned (.int .u64 I) ∧ w' = w)
    (cb : ∀ w : World, Calls Try.prog 24 #[.bool b] w fun e w' => e = .returned (.int .u64 V) ∧ w' = w)
    (rb : ∀ w : World, Calls Try.prog 25 #[.bool b] w fun e w' => e = .returned (.int .u64 V) ∧ w' = w) :
    Calls Try.prog 5 #[.int .i32 n, .int .u32 k, .bool b] w fun e w' => e = .returned (.bool true) ∧ Below w.heap.size w w' := by
  have al := alive_any
  go_enter Try.func5, Try.ntmps5
  go_wp2_with fail
  refine (ci _).mono ?_
  rintro e wx ⟨rfl, hw⟩
  subst hw
  go_wp2_with fail
  refine (co _).mono ?_
  rintro e wx ⟨rfl, hw⟩
  subst hw
  go_wp2_with fail
  refine (ct _).mono ?_
  rintro e wx ⟨rfl, hw⟩
  subst hw
  go_wp2_with fail
  refine (ii _).mono ?_
  rintro e wx ⟨rfl, hw⟩
  subst hw
  go_wp2_with fail
  refine (oo _).mono ?_
  rintro e wx ⟨rfl, hw⟩
  subst hw
  go_wp2_with fail
  refine (tt _).mono ?_
  rintro e wx ⟨rfl, hw⟩
  subst hw
  go_wp2_with fail
  refine (ot _).mono ?_
  rintro e wx ⟨rfl, hw⟩
  subst hw
  go_wp2_with fail
  refine (io _).mono ?_
  rintro e wx ⟨rfl, hw⟩
  subst hw
  go_wp2_with fail
  refine (al _).mono ?_
  rintro e w1 ⟨rfl, hb1⟩
  go_wp2_with fail
  refine (ri _).mono ?_
  rintro e w2 ⟨rfl, hb2⟩
  go_wp2_with fail
  refine (ro _).mono ?_
  rintro e w3 ⟨rfl, hb3⟩
  go_wp2_with fail
  refine (rt _).mono ?_
  rintro e w4 ⟨rfl, hb4⟩
  go_wp2_with fail
  refine (rfi _).mono ?_
  rintro e wx ⟨rfl, hw⟩
  subst hw
  go_wp2_with fail
  refine (cb _).mono ?_
  rintro e wx ⟨rfl, hw⟩
  subst hw
  go_wp2_with fail
  refine (cb _).mono ?_
  rintro e wx ⟨rfl, hw⟩
  subst hw
  go_wp2_with fail
  refine (rb _).mono ?_
  rintro e wx ⟨rfl, hw⟩
  subst hw
  go_wp2
  go_ret
  exact ⟨rfl, bt (bt (bt hb1 hb2) hb3) hb4⟩

theorem makes_walk (n k : Int) (b : Bool) (n0 : -2147483648 ≤ n) (n1 : n ≤ 2147483647) (k0 : 0 ≤ k) (k1 : k < 4294967296) (w : World) :
    Calls Try.prog 5 #[.int .i32 n, .int .u32 k, .bool b] w fun e w' => e = .returned (.bool true) ∧ Below w.heap.size w w' := by
  have bi := intW_bd n
  have bo : 0 ≤ objW k ∧ objW k < 18446744073709551616 := by unfold objW; omega
  have bx : 0 ≤ txtW k ∧ txtW k < 18446744073709551616 := by unfold txtW; omega
  obtain ⟨o1, o2, o3⟩ := obj_facts k k0 k1
  obtain ⟨t1, t2, t3⟩ := txt_facts k k0 k1
  have i1 := int_facts n n0 n1
  refine makes_core n k (intW n) (objW k) (txtW k) b (boolW b) (isObjI (txtW k)).1 (isIntI (objW k)).1 w (by cases b <;> rfl) (fun w => int_any n w) (fun w => object_any k w k0 k1) (fun w => text_any k w k0 k1)
    (fun w => ?_) (fun w => ?_) (fun w => ?_) (fun w => ?_) (fun w => ?_) (fun w => ?_) (fun w => ?_) (fun w => ?_) (fun w => refInt_any n w) (fun w => bool_any b w) (fun w => refBool_any b w)
  · have := isInt_any (intW n) w (by omega) (by omega)
    rw [i1] at this; exact this
  · have := isObject_any (objW k) w bo.1 bo.2
    rw [o1] at this; exact this
  · have := isText_any (txtW k) w bx.1 bx.2
    rw [t1] at this; exact this
  · have := isObject_any (txtW k) w bx.1 bx.2
    rw [t2] at this; exact this
  · have := isInt_any (objW k) w bo.1 bo.2
    rw [o2] at this; exact this
  · have := right_any (intW n) w (by omega) (by omega)
    rw [right_int n] at this; exact this
  · have := right_any (objW k) w bo.1 bo.2
    rw [o3] at this; exact this
  · have := right_any (txtW k) w bx.1 bx.2
    rw [t3] at this; exact this
end Go.Proofs.Ytajgoooejobngaa
