/- The walk of SoftBack. -/
import Derived.Test.YtnocnodiecihnabW28
namespace Go.Proofs.Ytnocnodiecihnab
open Go.RowKit

section
variable (a m n p X Y S P Z Q : Int) (w : World)

set_option maxHeartbeats 1000000 in
theorem back_f1 (_m0 : -2147483648 ≤ m) (_m1 : m ≤ 2147483647) (_n0 : -2147483648 ≤ n) (_n1 : n ≤ 2147483647) (hp : IntKind.i16.wrap m = p) (_p0 : -32768 ≤ p) (_p1 : p ≤ 32767)
    (cx : ∀ w : World, Calls Try.prog 4 #[.int .i64 m] w fun e w' => e = .returned (.int .u64 X) ∧ Below w.heap.size w w')
    (cy : ∀ w : World, Calls Try.prog 4 #[.int .i64 n] w fun e w' => e = .returned (.int .u64 Y) ∧ Below w.heap.size w w')
    (cp : ∀ w : World, Calls Try.prog 4 #[.int .i64 p] w fun e w' => e = .returned (.int .u64 P) ∧ Below w.heap.size w w')
    (ca : ∀ w : World, Calls Try.prog 7 #[.int .u64 X, .int .u64 Y] w fun e w' => e = .returned (.int .u64 S) ∧ Below w.heap.size w w')
    (cs : ∀ w : World, Calls Try.prog 6 #[.int .u64 S, .int .u64 Y] w fun e w' => e = .returned (.int .u64 X) ∧ Below w.heap.size w w')
    (cw : ∀ w : World, Calls Try.prog 5 #[.int .u64 X] w fun e w' => e = .returned (.tuple #[.int .i64 m, .bool true]) ∧ Below w.heap.size w w')
    (ci : ∀ w : World, Calls Try.prog 8 #[.int .u64 X] w fun e w' => e = .returned (.int .i32 m) ∧ Below w.heap.size w w')
    (cl : ∀ w : World, Calls Try.prog 9 #[.int .u64 X, .int .u64 Y] w fun e w' => e = .returned (.bool (decide (m < n))) ∧ Below w.heap.size w w')
    (cm : ∀ w : World, Calls Try.prog 10 #[.int .u64 P, .int .u64 Y] w fun e w' => e = .returned (.int .u64 Z) ∧ Below w.heap.size w w')
    (al : ∀ w : World, Calls Try.prog 11 #[] w fun e w' => e = .returned (.bool true) ∧ Below w.heap.size w w')
    (cz : ∀ w : World, Calls Try.prog 5 #[.int .u64 Z] w fun e w' => e = .returned (.tuple #[.int .i64 Q, .bool false]) ∧ Below w.heap.size w w')
    (c1 : (p == 0) = true) (_c2 : n < 0) :
    Calls Try.prog 3 #[.int .u64 a, .int .i32 m, .int .i32 n] w fun e w' => e = .returned (.bool true) ∧ Below w.heap.size w w' := by
  go_enter Try.func3, Try.ntmps3
  go_wp2_with fail
  refine (cx _).mono ?_
  rintro e w1 ⟨rfl, hb1⟩
  go_wp2_with fail
  refine (cy _).mono ?_
  rintro e w2 ⟨rfl, hb2⟩
  go_wp2_with fail
  refine (ca _).mono ?_
  rintro e w3 ⟨rfl, hb3⟩
  go_wp2_with fail
  refine (cs _).mono ?_
  rintro e w4 ⟨rfl, hb4⟩
  go_wp2_with fail
  refine (cw _).mono ?_
  rintro e w5 ⟨rfl, hb5⟩
  go_wp2_with fail
  refine (ci _).mono ?_
  rintro e w6 ⟨rfl, hb6⟩
  go_wp2_with fail
  refine (cl _).mono ?_
  rintro e w7 ⟨rfl, hb7⟩
  go_wp2_with fail
  refine (cp _).mono ?_
  rintro e w8 ⟨rfl, hb8⟩
  go_wp2_with fail
  refine (cm _).mono ?_
  rintro e w9 ⟨rfl, hb9⟩
  go_wp2_with fail
  refine (cz _).mono ?_
  rintro e w10 ⟨rfl, hb10⟩
  go_wp2_with fail
  refine (al _).mono ?_
  rintro e w11 ⟨rfl, hb11⟩
  go_wp2
  go_ret
  exact ⟨rfl, (bt (bt (bt (bt (bt (bt (bt (bt (bt (bt hb1 hb2) hb3) hb4) hb5) hb6) hb7) hb8) hb9) hb10) hb11)⟩

set_option maxHeartbeats 1000000 in
theorem back_f2 (_m0 : -2147483648 ≤ m) (_m1 : m ≤ 2147483647) (_n0 : -2147483648 ≤ n) (_n1 : n ≤ 2147483647) (hp : IntKind.i16.wrap m = p) (_p0 : -32768 ≤ p) (_p1 : p ≤ 32767)
    (cx : ∀ w : World, Calls Try.prog 4 #[.int .i64 m] w fun e w' => e = .returned (.int .u64 X) ∧ Below w.heap.size w w')
    (cy : ∀ w : World, Calls Try.prog 4 #[.int .i64 n] w fun e w' => e = .returned (.int .u64 Y) ∧ Below w.heap.size w w')
    (cp : ∀ w : World, Calls Try.prog 4 #[.int .i64 p] w fun e w' => e = .returned (.int .u64 P) ∧ Below w.heap.size w w')
    (ca : ∀ w : World, Calls Try.prog 7 #[.int .u64 X, .int .u64 Y] w fun e w' => e = .returned (.int .u64 S) ∧ Below w.heap.size w w')
    (cs : ∀ w : World, Calls Try.prog 6 #[.int .u64 S, .int .u64 Y] w fun e w' => e = .returned (.int .u64 X) ∧ Below w.heap.size w w')
    (cw : ∀ w : World, Calls Try.prog 5 #[.int .u64 X] w fun e w' => e = .returned (.tuple #[.int .i64 m, .bool true]) ∧ Below w.heap.size w w')
    (ci : ∀ w : World, Calls Try.prog 8 #[.int .u64 X] w fun e w' => e = .returned (.int .i32 m) ∧ Below w.heap.size w w')
    (cl : ∀ w : World, Calls Try.prog 9 #[.int .u64 X, .int .u64 Y] w fun e w' => e = .returned (.bool (decide (m < n))) ∧ Below w.heap.size w w')
    (cm : ∀ w : World, Calls Try.prog 10 #[.int .u64 P, .int .u64 Y] w fun e w' => e = .returned (.int .u64 Z) ∧ Below w.heap.size w w')
    (al : ∀ w : World, Calls Try.prog 11 #[] w fun e w' => e = .returned (.bool true) ∧ Below w.heap.size w w')
    (cz : ∀ w : World, Calls Try.prog 5 #[.int .u64 Z] w fun e w' => e = .returned (.tuple #[.int .i64 Q, .bool false]) ∧ Below w.heap.size w w')
    (c1 : (p == 0) = false) (c2 : (n == 0) = true) (_c3 : p < 0) :
    Calls Try.prog 3 #[.int .u64 a, .int .i32 m, .int .i32 n] w fun e w' => e = .returned (.bool true) ∧ Below w.heap.size w w' := by
  go_enter Try.func3, Try.ntmps3
  go_wp2_with fail
  refine (cx _).mono ?_
  rintro e w1 ⟨rfl, hb1⟩
  go_wp2_with fail
  refine (cy _).mono ?_
  rintro e w2 ⟨rfl, hb2⟩
  go_wp2_with fail
  refine (ca _).mono ?_
  rintro e w3 ⟨rfl, hb3⟩
  go_wp2_with fail
  refine (cs _).mono ?_
  rintro e w4 ⟨rfl, hb4⟩
  go_wp2_with fail
  refine (cw _).mono ?_
  rintro e w5 ⟨rfl, hb5⟩
  go_wp2_with fail
  refine (ci _).mono ?_
  rintro e w6 ⟨rfl, hb6⟩
  go_wp2_with fail
  refine (cl _).mono ?_
  rintro e w7 ⟨rfl, hb7⟩
  go_wp2_with fail
  refine (cp _).mono ?_
  rintro e w8 ⟨rfl, hb8⟩
  go_wp2_with fail
  refine (cm _).mono ?_
  rintro e w9 ⟨rfl, hb9⟩
  go_wp2_with fail
  refine (cz _).mono ?_
  rintro e w10 ⟨rfl, hb10⟩
  go_wp2_with fail
  refine (al _).mono ?_
  rintro e w11 ⟨rfl, hb11⟩
  go_wp2_with fail
  refine (al _).mono ?_
  rintro e w12 ⟨rfl, hb12⟩
  go_wp2
  go_ret
  exact ⟨rfl, (bt (bt (bt (bt (bt (bt (bt (bt (bt (bt (bt hb1 hb2) hb3) hb4) hb5) hb6) hb7) hb8) hb9) hb10) hb11) hb12)⟩

set_option maxHeartbeats 1000000 in
theorem back_nan (_m0 : -2147483648 ≤ m) (_m1 : m ≤ 2147483647) (_n0 : -2147483648 ≤ n) (_n1 : n ≤ 2147483647) (hp : IntKind.i16.wrap m = p) (_p0 : -32768 ≤ p) (_p1 : p ≤ 32767)
    (cx : ∀ w : World, Calls Try.prog 4 #[.int .i64 m] w fun e w' => e = .returned (.int .u64 X) ∧ Below w.heap.size w w')
    (cy : ∀ w : World, Calls Try.prog 4 #[.int .i64 n] w fun e w' => e = .returned (.int .u64 Y) ∧ Below w.heap.size w w')
    (cp : ∀ w : World, Calls Try.prog 4 #[.int .i64 p] w fun e w' => e = .returned (.int .u64 P) ∧ Below w.heap.size w w')
    (ca : ∀ w : World, Calls Try.prog 7 #[.int .u64 X, .int .u64 Y] w fun e w' => e = .returned (.int .u64 S) ∧ Below w.heap.size w w')
    (cs : ∀ w : World, Calls Try.prog 6 #[.int .u64 S, .int .u64 Y] w fun e w' => e = .returned (.int .u64 X) ∧ Below w.heap.size w w')
    (cw : ∀ w : World, Calls Try.prog 5 #[.int .u64 X] w fun e w' => e = .returned (.tuple #[.int .i64 m, .bool true]) ∧ Below w.heap.size w w')
    (ci : ∀ w : World, Calls Try.prog 8 #[.int .u64 X] w fun e w' => e = .returned (.int .i32 m) ∧ Below w.heap.size w w')
    (cl : ∀ w : World, Calls Try.prog 9 #[.int .u64 X, .int .u64 Y] w fun e w' => e = .returned (.bool (decide (m < n))) ∧ Below w.heap.size w w')
    (cm : ∀ w : World, Calls Try.prog 10 #[.int .u64 P, .int .u64 Y] w fun e w' => e = .returned (.int .u64 Z) ∧ Below w.heap.size w w')
    (al : ∀ w : World, Calls Try.prog 11 #[] w fun e w' => e = .returned (.bool true) ∧ Below w.heap.size w w')
    (cz : ∀ w : World, Calls Try.prog 5 #[.int .u64 Z] w fun e w' => e = .returned (.tuple #[.int .i64 Q, .bool true]) ∧ Below w.heap.size w w') (hq : IntKind.i64.wrap (p * n) = Q)
    (k3 : ∀ w : World, Calls Try.prog 12 #[.int .u64 a] w fun e w' => e = .returned (.bool true) ∧ Below w.heap.size w w') :
    Calls Try.prog 3 #[.int .u64 a, .int .i32 m, .int .i32 n] w fun e w' => e = .returned (.bool true) ∧ Below w.heap.size w w' := by
  go_enter Try.func3, Try.ntmps3
  go_wp2_with fail
  refine (cx _).mono ?_
  rintro e w1 ⟨rfl, hb1⟩
  go_wp2_with fail
  refine (cy _).mono ?_
  rintro e w2 ⟨rfl, hb2⟩
  go_wp2_with fail
  refine (ca _).mono ?_
  rintro e w3 ⟨rfl, hb3⟩
  go_wp2_with fail
  refine (cs _).mono ?_
  rintro e w4 ⟨rfl, hb4⟩
  go_wp2_with fail
  refine (cw _).mono ?_
  rintro e w5 ⟨rfl, hb5⟩
  go_wp2_with fail
  refine (ci _).mono ?_
  rintro e w6 ⟨rfl, hb6⟩
  go_wp2_with fail
  refine (cl _).mono ?_
  rintro e w7 ⟨rfl, hb7⟩
  go_wp2_with fail
  refine (cp _).mono ?_
  rintro e w8 ⟨rfl, hb8⟩
  go_wp2_with fail
  refine (cm _).mono ?_
  rintro e w9 ⟨rfl, hb9⟩
  go_wp2_with fail
  refine (cz _).mono ?_
  rintro e w10 ⟨rfl, hb10⟩
  go_wp2_with fail
  refine (k3 _).mono ?_
  rintro e w11 ⟨rfl, hb11⟩
  go_wp2_with fail
  refine (al _).mono ?_
  rintro e w12 ⟨rfl, hb12⟩
  go_wp2
  go_ret
  exact ⟨rfl, (bt (bt (bt (bt (bt (bt (bt (bt (bt (bt (bt hb1 hb2) hb3) hb4) hb5) hb6) hb7) hb8) hb9) hb10) hb11) hb12)⟩

set_option maxHeartbeats 1000000 in
theorem back_inf (_m0 : -2147483648 ≤ m) (_m1 : m ≤ 2147483647) (_n0 : -2147483648 ≤ n) (_n1 : n ≤ 2147483647) (hp : IntKind.i16.wrap m = p) (_p0 : -32768 ≤ p) (_p1 : p ≤ 32767)
    (cx : ∀ w : World, Calls Try.prog 4 #[.int .i64 m] w fun e w' => e = .returned (.int .u64 X) ∧ Below w.heap.size w w')
    (cy : ∀ w : World, Calls Try.prog 4 #[.int .i64 n] w fun e w' => e = .returned (.int .u64 Y) ∧ Below w.heap.size w w')
    (cp : ∀ w : World, Calls Try.prog 4 #[.int .i64 p] w fun e w' => e = .returned (.int .u64 P) ∧ Below w.heap.size w w')
    (ca : ∀ w : World, Calls Try.prog 7 #[.int .u64 X, .int .u64 Y] w fun e w' => e = .returned (.int .u64 S) ∧ Below w.heap.size w w')
    (cs : ∀ w : World, Calls Try.prog 6 #[.int .u64 S, .int .u64 Y] w fun e w' => e = .returned (.int .u64 X) ∧ Below w.heap.size w w')
    (cw : ∀ w : World, Calls Try.prog 5 #[.int .u64 X] w fun e w' => e = .returned (.tuple #[.int .i64 m, .bool true]) ∧ Below w.heap.size w w')
    (ci : ∀ w : World, Calls Try.prog 8 #[.int .u64 X] w fun e w' => e = .returned (.int .i32 m) ∧ Below w.heap.size w w')
    (cl : ∀ w : World, Calls Try.prog 9 #[.int .u64 X, .int .u64 Y] w fun e w' => e = .returned (.bool (decide (m < n))) ∧ Below w.heap.size w w')
    (cm : ∀ w : World, Calls Try.prog 10 #[.int .u64 P, .int .u64 Y] w fun e w' => e = .returned (.int .u64 Z) ∧ Below w.heap.size w w')
    (al : ∀ w : World, Calls Try.prog 11 #[] w fun e w' => e = .returned (.bool true) ∧ Below w.heap.size w w')
    (cz : ∀ w : World, Calls Try.prog 5 #[.int .u64 Z] w fun e w' => e = .returned (.tuple #[.int .i64 Q, .bool true]) ∧ Below w.heap.size w w') (hq : IntKind.i64.wrap (p * n) = Q)
    (k3 : ∀ w : World, Calls Try.prog 12 #[.int .u64 a] w fun e w' => e = .returned (.bool false) ∧ Below w.heap.size w w')
    (k2 : ∀ w : World, Calls Try.prog 13 #[.int .u64 a] w fun e w' => e = .returned (.bool true) ∧ Below w.heap.size w w') :
    Calls Try.prog 3 #[.int .u64 a, .int .i32 m, .int .i32 n] w fun e w' => e = .returned (.bool true) ∧ Below w.heap.size w w' := by
  go_enter Try.func3, Try.ntmps3
  go_wp2_with fail
  refine (cx _).mono ?_
  rintro e w1 ⟨rfl, hb1⟩
  go_wp2_with fail
  refine (cy _).mono ?_
  rintro e w2 ⟨rfl, hb2⟩
  go_wp2_with fail
  refine (ca _).mono ?_
  rintro e w3 ⟨rfl, hb3⟩
  go_wp2_with fail
  refine (cs _).mono ?_
  rintro e w4 ⟨rfl, hb4⟩
  go_wp2_with fail
  refine (cw _).mono ?_
  rintro e w5 ⟨rfl, hb5⟩
  go_wp2_with fail
  refine (ci _).mono ?_
  rintro e w6 ⟨rfl, hb6⟩
  go_wp2_with fail
  refine (cl _).mono ?_
  rintro e w7 ⟨rfl, hb7⟩
  go_wp2_with fail
  refine (cp _).mono ?_
  rintro e w8 ⟨rfl, hb8⟩
  go_wp2_with fail
  refine (cm _).mono ?_
  rintro e w9 ⟨rfl, hb9⟩
  go_wp2_with fail
  refine (cz _).mono ?_
  rintro e w10 ⟨rfl, hb10⟩
  go_wp2_with fail
  refine (k3 _).mono ?_
  rintro e w11 ⟨rfl, hb11⟩
  go_wp2_with fail
  refine (k2 _).mono ?_
  rintro e w12 ⟨rfl, hb12⟩
  go_wp2_with fail
  refine (al _).mono ?_
  rintro e w13 ⟨rfl, hb13⟩
  go_wp2
  go_ret
  exact ⟨rfl, (bt (bt (bt (bt (bt (bt (bt (bt (bt (bt (bt (bt hb1 hb2) hb3) hb4) hb5) hb6) hb7) hb8) hb9) hb10) hb11) hb12) hb13)⟩

set_option maxHeartbeats 1000000 in
theorem back_rest (_m0 : -2147483648 ≤ m) (_m1 : m ≤ 2147483647) (_n0 : -2147483648 ≤ n) (_n1 : n ≤ 2147483647) (hp : IntKind.i16.wrap m = p) (_p0 : -32768 ≤ p) (_p1 : p ≤ 32767)
    (cx : ∀ w : World, Calls Try.prog 4 #[.int .i64 m] w fun e w' => e = .returned (.int .u64 X) ∧ Below w.heap.size w w')
    (cy : ∀ w : World, Calls Try.prog 4 #[.int .i64 n] w fun e w' => e = .returned (.int .u64 Y) ∧ Below w.heap.size w w')
    (cp : ∀ w : World, Calls Try.prog 4 #[.int .i64 p] w fun e w' => e = .returned (.int .u64 P) ∧ Below w.heap.size w w')
    (ca : ∀ w : World, Calls Try.prog 7 #[.int .u64 X, .int .u64 Y] w fun e w' => e = .returned (.int .u64 S) ∧ Below w.heap.size w w')
    (cs : ∀ w : World, Calls Try.prog 6 #[.int .u64 S, .int .u64 Y] w fun e w' => e = .returned (.int .u64 X) ∧ Below w.heap.size w w')
    (cw : ∀ w : World, Calls Try.prog 5 #[.int .u64 X] w fun e w' => e = .returned (.tuple #[.int .i64 m, .bool true]) ∧ Below w.heap.size w w')
    (ci : ∀ w : World, Calls Try.prog 8 #[.int .u64 X] w fun e w' => e = .returned (.int .i32 m) ∧ Below w.heap.size w w')
    (cl : ∀ w : World, Calls Try.prog 9 #[.int .u64 X, .int .u64 Y] w fun e w' => e = .returned (.bool (decide (m < n))) ∧ Below w.heap.size w w')
    (cm : ∀ w : World, Calls Try.prog 10 #[.int .u64 P, .int .u64 Y] w fun e w' => e = .returned (.int .u64 Z) ∧ Below w.heap.size w w')
    (al : ∀ w : World, Calls Try.prog 11 #[] w fun e w' => e = .returned (.bool true) ∧ Below w.heap.size w w')
    (cz : ∀ w : World, Calls Try.prog 5 #[.int .u64 Z] w fun e w' => e = .returned (.tuple #[.int .i64 Q, .bool true]) ∧ Below w.heap.size w w') (hq : IntKind.i64.wrap (p * n) = Q)
    (k3 : ∀ w : World, Calls Try.prog 12 #[.int .u64 a] w fun e w' => e = .returned (.bool false) ∧ Below w.heap.size w w')
    (k2 : ∀ w : World, Calls Try.prog 13 #[.int .u64 a] w fun e w' => e = .returned (.bool false) ∧ Below w.heap.size w w')
    (T D B R F : Int)
    (ct : ∀ w : World, Calls Try.prog 14 #[.int .u64 a] w fun e w' => e = .returned (.int .u64 T) ∧ Below w.heap.size w w')
    (cd : ∀ w : World, Calls Try.prog 6 #[.int .u64 a, .int .u64 T] w fun e w' => e = .returned (.int .u64 D) ∧ Below w.heap.size w w')
    (cb : ∀ w : World, Calls Try.prog 7 #[.int .u64 T, .int .u64 D] w fun e w' => e = .returned (.int .u64 B) ∧ Below w.heap.size w w')
    (q1 : ∀ w : World, Calls Try.prog 15 #[.int .u64 B, .int .u64 a] w fun e w' => e = .returned (.bool true) ∧ Below w.heap.size w w')
    (cr : ∀ w : World, Calls Try.prog 16 #[.int .u64 a, .int .u64 4607182418800017408] w fun e w' => e = .returned (.int .u64 R) ∧ Below w.heap.size w w')
    (q2 : ∀ w : World, Calls Try.prog 15 #[.int .u64 D, .int .u64 R] w fun e w' => e = .returned (.bool true) ∧ Below w.heap.size w w')
    (cf : ∀ w : World, Calls Try.prog 17 #[.int .u64 a] w fun e w' => e = .returned (.int .u64 F) ∧ Below w.heap.size w w')
    (q3 : ∀ w : World, Calls Try.prog 9 #[.int .u64 a, .int .u64 F] w fun e w' => e = .returned (.bool false) ∧ Below w.heap.size w w') :
    Calls Try.prog 3 #[.int .u64 a, .int .i32 m, .int .i32 n] w fun e w' => e = .returned (.bool true) ∧ Below w.heap.size w w' := by
  go_enter Try.func3, Try.ntmps3
  go_wp2_with fail
  refine (cx _).mono ?_
  rintro e w1 ⟨rfl, hb1⟩
  go_wp2_with fail
  refine (cy _).mono ?_
  rintro e w2 ⟨rfl, hb2⟩
  go_wp2_with fail
  refine (ca _).mono ?_
  rintro e w3 ⟨rfl, hb3⟩
  go_wp2_with fail
  refine (cs _).mono ?_
  rintro e w4 ⟨rfl, hb4⟩
  go_wp2_with fail
  refine (cw _).mono ?_
  rintro e w5 ⟨rfl, hb5⟩
  go_wp2_with fail
  refine (ci _).mono ?_
  rintro e w6 ⟨rfl, hb6⟩
  go_wp2_with fail
  refine (cl _).mono ?_
  rintro e w7 ⟨rfl, hb7⟩
  go_wp2_with fail
  refine (cp _).mono ?_
  rintro e w8 ⟨rfl, hb8⟩
  go_wp2_with fail
  refine (cm _).mono ?_
  rintro e w9 ⟨rfl, hb9⟩
  go_wp2_with fail
  refine (cz _).mono ?_
  rintro e w10 ⟨rfl, hb10⟩
  go_wp2_with fail
  refine (k3 _).mono ?_
  rintro e w11 ⟨rfl, hb11⟩
  go_wp2_with fail
  refine (k2 _).mono ?_
  rintro e w12 ⟨rfl, hb12⟩
  go_wp2_with fail
  refine (ct _).mono ?_
  rintro e w13 ⟨rfl, hb13⟩
  go_wp2_with fail
  refine (al _).mono ?_
  rintro e w14 ⟨rfl, hb14⟩
  go_wp2_with fail
  refine (cd _).mono ?_
  rintro e w15 ⟨rfl, hb15⟩
  go_wp2_with fail
  refine (cb _).mono ?_
  rintro e w16 ⟨rfl, hb16⟩
  go_wp2_with fail
  refine (q1 _).mono ?_
  rintro e w17 ⟨rfl, hb17⟩
  go_wp2_with fail
  refine (cd _).mono ?_
  rintro e w18 ⟨rfl, hb18⟩
  go_wp2_with fail
  refine (cr _).mono ?_
  rintro e w19 ⟨rfl, hb19⟩
  go_wp2_with fail
  refine (q2 _).mono ?_
  rintro e w20 ⟨rfl, hb20⟩
  go_wp2_with fail
  refine (cf _).mono ?_
  rintro e w21 ⟨rfl, hb21⟩
  go_wp2_with fail
  refine (q3 _).mono ?_
  rintro e w22 ⟨rfl, hb22⟩
  go_wp2
  go_ret
  exact ⟨rfl, (bt (bt (bt (bt (bt (bt (bt (bt (bt (bt (bt (bt (bt (bt (bt (bt (bt (bt (bt (bt (bt hb1 hb2) hb3) hb4) hb5) hb6) hb7) hb8) hb9) hb10) hb11) hb12) hb13) hb14) hb15) hb16) hb17) hb18) hb19) hb20) hb21) hb22)⟩

end

theorem back_walk (a m n : Int) (h0 : 0 ≤ a) (h1 : a < 18446744073709551616) (m0 : -2147483648 ≤ m) (m1 : m ≤ 2147483647) (n0 : -2147483648 ≤ n) (n1 : n ≤ 2147483647) (w : World) :
    Calls Try.prog 3 #[.int .u64 a, .int .i32 m, .int .i32 n] w fun e w' => e = .returned (.bool true) ∧ Below w.heap.size w w' := by
  obtain ⟨p, hp⟩ : ∃ p, IntKind.i16.wrap m = p := ⟨_, rfl⟩
  have pb : -32768 ≤ p ∧ p ≤ 32767 := by
    have e : IntKind.i16.wrap m = if m % 65536 ≥ 32768 then m % 65536 - 65536 else m % 65536 := by
      by_cases c : m % 65536 ≥ 32768
      · rw [if_pos c]; unfold IntKind.wrap; simp [IntKind.signed, IntKind.bits, c]
      · rw [if_neg c]; unfold IntKind.wrap; simp [IntKind.signed, IntKind.bits, c]
    rw [← hp, e]
    split <;> omega
  obtain ⟨p0, p1⟩ := pb
  obtain ⟨xm0, xm1⟩ := from_bd m (by omega) (by omega)
  obtain ⟨xn0, xn1⟩ := from_bd n (by omega) (by omega)
  obtain ⟨xp0, xp1⟩ := from_bd p (by omega) (by omega)
  obtain ⟨s0, s1⟩ := addI_bd (fromI m) (fromI n)
  obtain ⟨z0, z1⟩ := mulI_bd (fromI p) (fromI n)
  have cx := fun w => fromInt_any m w (by omega) (by omega)
  have cy := fun w => fromInt_any n w (by omega) (by omega)
  have cp := fun w => fromInt_any p w (by omega) (by omega)
  have ca := fun w => add_any (fromI m) (fromI n) w xm0 xm1 xn0 xn1
  have cs := fun w => sub_any (addI (fromI m) (fromI n)) (fromI n) w s0 s1 xn0 xn1
  rw [back_sum m n m0 m1 n0 n1] at cs
  have cw := fun w => whole_any (fromI m) w xm0 xm1
  rw [from_whole m (by omega) (by omega)] at cw
  have ci := fun w => toInt32_any (fromI m) w xm0 xm1
  rw [back_i32 m m0 m1] at ci
  have cl := fun w => less_any (fromI m) (fromI n) w xm0 xm1 xn0 xn1
  rw [back_less m n m0 m1 n0 n1] at cl
  have cm := fun w => mul_any (fromI p) (fromI n) w xp0 xp1 xn0 xn1
  have cz := fun w => whole_any (mulI (fromI p) (fromI n)) w z0 z1
  have al := fun w => alive_any w
  have b : (p * n).natAbs ≤ 32768 * 2147483648 := by rw [Int.natAbs_mul]; exact Nat.mul_le_mul (by omega) (by omega)
  rcases back_mul p n p0 p1 n0 n1 with hw | ⟨hw, hc⟩
  · rw [hw] at cz
    have hq : IntKind.i64.wrap (p * n) = p * n := by rw [IntKind.wrap_i64]; omega
    have k3 := fun w => isNaN_any a w h0 h1
    have k2 := fun w => isInf_any a w h0 h1
    by_cases c3 : kindI a = 3
    · rw [show (kindI a == 3) = true from by rw [c3]; rfl] at k3
      exact back_nan a m n p _ _ _ _ _ _ w m0 m1 n0 n1 hp p0 p1 cx cy cp ca cs cw ci cl cm al cz hq k3
    rw [show (kindI a == 3) = false from by simp [c3]] at k3
    by_cases c2 : kindI a = 2
    · rw [show (kindI a == 2) = true from by rw [c2]; rfl] at k2
      exact back_inf a m n p _ _ _ _ _ _ w m0 m1 n0 n1 hp p0 p1 cx cy cp ca cs cw ci cl cm al cz hq k3 k2
    rw [show (kindI a == 2) = false from by simp [c2]] at k2
    have k : kindI a < 2 := by have := kind_cases a; omega
    obtain ⟨t0, t1⟩ := trunc_bd a h0 h1
    obtain ⟨d0, d1⟩ := subI_bd a (truncI a)
    obtain ⟨b0, b1⟩ := addI_bd (truncI a) (subI a (truncI a))
    obtain ⟨r0, r1⟩ := remC_bd a 4607182418800017408 h0 h1
    have fb : 0 ≤ floorI a ∧ floorI a < 18446744073709551616 := by
      unfold floorI
      split
      · exact subI_bd _ _
      · exact trunc_bd a h0 h1
    have q1 := fun w => equal_any (addI (truncI a) (subI a (truncI a))) a w b0 b1 h0 h1
    rw [back_add a h0 h1 k] at q1
    have q2 := fun w => equal_any (subI a (truncI a)) (remC a 4607182418800017408) w d0 d1 r0 r1
    rw [back_rem a h0 h1 k] at q2
    have q3 := fun w => less_any a (floorI a) w h0 h1 fb.1 fb.2
    rw [back_floor a h0 h1 k] at q3
    exact back_rest a m n p _ _ _ _ _ _ w m0 m1 n0 n1 hp p0 p1 cx cy cp ca cs cw ci cl cm al cz hq k3 k2 _ _ _ _ _
      (fun w => trunc_any a w h0 h1) (fun w => sub_any a _ w h0 h1 t0 t1) (fun w => add_any _ _ w t0 t1 d0 d1) q1 (fun w => rem_any a _ w h0 h1 (by omega) (by omega)) q2 (fun w => floor_any a w h0 h1) q3
  · rw [hw] at cz
    rcases hc with ⟨c1, c2⟩ | ⟨c2, c1⟩
    · exact back_f1 a m n p _ _ _ _ _ _ w m0 m1 n0 n1 hp p0 p1 cx cy cp ca cs cw ci cl cm al cz (by simp [c1]) c2
    · exact back_f2 a m n p _ _ _ _ _ _ w m0 m1 n0 n1 hp p0 p1 cx cy cp ca cs cw ci cl cm al cz (by rw [beq_eq_false_iff_ne]; omega) (by simp [c2]) c1

end Go.Proofs.Ytnocnodiecihnab
