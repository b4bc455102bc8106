/- The walk of SoftLaws. -/
import Derived.Test.YtnocnodiecihnaaW15
namespace Go.Proofs.Ytnocnodiecihnaa
open Go.RowKit

set_option maxHeartbeats 1000000 in
theorem laws_nan (a b c : Int) (h0 : 0 ≤ a) (h1 : a < 18446744073709551616) (h2 : 0 ≤ b) (h3 : b < 18446744073709551616) (w : World) (k : kindI a = 3) :
    Calls Try.prog 8 #[.int .u64 a, .int .u64 b, .int .u64 c] w fun e w' => e = .returned (.bool true) ∧ Below w.heap.size w w' := by
  have c1 := fun w => add_any a b w h0 h1 h2 h3
  have c2 := fun w => add_any b a w h2 h3 h0 h1
  rw [addI_nan a b h0 h1 k] at c1
  rw [addI_comm, addI_nan a b h0 h1 k] at c2
  have c3 := fun w => mul_any a b w h0 h1 h2 h3
  have c4 := fun w => mul_any b a w h2 h3 h0 h1
  rw [mulI_nan a b h0 h1 k] at c3
  rw [mulI_comm, mulI_nan a b h0 h1 k] at c4
  have c5 := fun w => isNaN_any a w h0 h1
  have e5 : (kindI a == 3) = true := by simp [k]
  rw [e5] at c5
  have c6 := fun w => isNaN_any 9221120237041090560 w (by omega) (by omega)
  have e6 : (kindI 9221120237041090560 == 3) = true := by decide +kernel
  rw [e6] at c6
  have c7 := fun w => rem_any b a w h2 h3 h0 h1
  have e7 : remC b a = 9221120237041090560 := by unfold remC; rw [if_pos (Or.inr (Or.inl k))]
  rw [e7] at c7
  have c8 := fun w => equal_any a a w h0 h1 h0 h1
  have e8 : equalI a a = false := by unfold equalI; simp [k]
  rw [e8] at c8
  clear e5 e6 e7 e8 k
  go_enter Try.func8, Try.ntmps8
  go_wp2_with fail
  refine (c1 _).mono ?_
  rintro e w1 ⟨rfl, hb1⟩
  go_wp2_with fail
  refine (c2 _).mono ?_
  rintro e w2 ⟨rfl, hb2⟩
  go_wp2_with fail
  refine (c3 _).mono ?_
  rintro e w3 ⟨rfl, hb3⟩
  go_wp2_with fail
  refine (c4 _).mono ?_
  rintro e w4 ⟨rfl, hb4⟩
  go_wp2_with fail
  refine (c5 _).mono ?_
  rintro e w5 ⟨rfl, hb5⟩
  go_wp2_with fail
  refine (alive_any _).mono ?_
  rintro e w6 ⟨rfl, hb6⟩
  go_wp2_with fail
  refine (c1 _).mono ?_
  rintro e w7 ⟨rfl, hb7⟩
  go_wp2_with fail
  refine (c6 _).mono ?_
  rintro e w8 ⟨rfl, hb8⟩
  go_wp2_with fail
  refine (c7 _).mono ?_
  rintro e w9 ⟨rfl, hb9⟩
  go_wp2_with fail
  refine (c6 _).mono ?_
  rintro e w10 ⟨rfl, hb10⟩
  go_wp2_with fail
  refine (c8 _).mono ?_
  rintro e w11 ⟨rfl, hb11⟩
  go_wp2
  go_ret
  exact ⟨rfl, bt (bt (bt (bt (bt (bt (bt (bt (bt (bt hb1 hb2) hb3) hb4) hb5) hb6) hb7) hb8) hb9) hb10) hb11⟩

set_option maxHeartbeats 2000000 in
set_option maxRecDepth 100000 in
theorem laws_num (a b c A M N S1 S2 R : Int) (KI E0 KL KN KF L0 : Bool) (w : World)
    (c1 : ∀ w : World, Calls Try.prog 11 #[.int .u64 a, .int .u64 b] w fun e w' => e = .returned (.int .u64 A) ∧ Below w.heap.size w w')
    (c2 : ∀ w : World, Calls Try.prog 11 #[.int .u64 b, .int .u64 a] w fun e w' => e = .returned (.int .u64 A) ∧ Below w.heap.size w w')
    (c3 : ∀ w : World, Calls Try.prog 14 #[.int .u64 a, .int .u64 b] w fun e w' => e = .returned (.int .u64 M) ∧ Below w.heap.size w w')
    (c4 : ∀ w : World, Calls Try.prog 14 #[.int .u64 b, .int .u64 a] w fun e w' => e = .returned (.int .u64 M) ∧ Below w.heap.size w w')
    (c5 : ∀ w : World, Calls Try.prog 21 #[.int .u64 a] w fun e w' => e = .returned (.bool false) ∧ Below w.heap.size w w')
    (n1 : ∀ w : World, Calls Try.prog 20 #[.int .u64 a] w fun e w' => e = .returned (.int .u64 N) ∧ Below w.heap.size w w')
    (n2 : ∀ w : World, Calls Try.prog 20 #[.int .u64 N] w fun e w' => e = .returned (.int .u64 a) ∧ Below w.heap.size w w')
    (d1 : ∀ w : World, Calls Try.prog 15 #[.int .u64 a, .int .u64 4607182418800017408] w fun e w' => e = .returned (.int .u64 a) ∧ Below w.heap.size w w')
    (s1 : ∀ w : World, Calls Try.prog 13 #[.int .u64 0, .int .u64 a] w fun e w' => e = .returned (.int .u64 S1) ∧ Below w.heap.size w w')
    (s2 : ∀ w : World, Calls Try.prog 13 #[.int .u64 0, .int .u64 S1] w fun e w' => e = .returned (.int .u64 S2) ∧ Below w.heap.size w w')
    (s3 : ∀ w : World, Calls Try.prog 11 #[.int .u64 a, .int .u64 0] w fun e w' => e = .returned (.int .u64 S2) ∧ Below w.heap.size w w')
    (i1 : ∀ w : World, Calls Try.prog 22 #[.int .u64 a] w fun e w' => e = .returned (.bool KI) ∧ Below w.heap.size w w')
    (s4 : Hid (KI = false → ∀ w : World, Calls Try.prog 13 #[.int .u64 a, .int .u64 a] w fun e w' => e = .returned (.int .u64 0) ∧ Below w.heap.size w w'))
    (q1 : Hid (KI = false → ∀ w : World, Calls Try.prog 19 #[.int .u64 a, .int .u64 0] w fun e w' => e = .returned (.bool E0) ∧ Below w.heap.size w w'))
    (r1 : Hid (KI = false → E0 = false → ∀ w : World, Calls Try.prog 16 #[.int .u64 a, .int .u64 a] w fun e w' => e = .returned (.int .u64 R) ∧ Below w.heap.size w w'))
    (q2 : Hid (KI = false → E0 = false → ∀ w : World, Calls Try.prog 19 #[.int .u64 R, .int .u64 0] w fun e w' => e = .returned (.bool true) ∧ Below w.heap.size w w'))
    (l1 : ∀ w : World, Calls Try.prog 18 #[.int .u64 a, .int .u64 b] w fun e w' => e = .returned (.bool KL) ∧ Below w.heap.size w w')
    (k1 : ∀ w : World, Calls Try.prog 21 #[.int .u64 c] w fun e w' => e = .returned (.bool KN) ∧ Below w.heap.size w w')
    (k2 : ∀ w : World, Calls Try.prog 22 #[.int .u64 c] w fun e w' => e = .returned (.bool KF) ∧ Below w.heap.size w w')
    (BC AC BM AM : Int)
    (t1 : ∀ w : World, Calls Try.prog 11 #[.int .u64 b, .int .u64 c] w fun e w' => e = .returned (.int .u64 BC) ∧ Below w.heap.size w w')
    (t2 : ∀ w : World, Calls Try.prog 11 #[.int .u64 a, .int .u64 c] w fun e w' => e = .returned (.int .u64 AC) ∧ Below w.heap.size w w')
    (t3 : Hid (KL = true → KN = false → KF = false → ∀ w : World, Calls Try.prog 18 #[.int .u64 BC, .int .u64 AC] w fun e w' => e = .returned (.bool false) ∧ Below w.heap.size w w'))
    (t4 : ∀ w : World, Calls Try.prog 18 #[.int .u64 0, .int .u64 c] w fun e w' => e = .returned (.bool L0) ∧ Below w.heap.size w w')
    (t5 : ∀ w : World, Calls Try.prog 14 #[.int .u64 b, .int .u64 c] w fun e w' => e = .returned (.int .u64 BM) ∧ Below w.heap.size w w')
    (t6 : ∀ w : World, Calls Try.prog 14 #[.int .u64 a, .int .u64 c] w fun e w' => e = .returned (.int .u64 AM) ∧ Below w.heap.size w w')
    (t7 : Hid (KL = true → KN = false → KF = false → L0 = true → ∀ w : World, Calls Try.prog 18 #[.int .u64 BM, .int .u64 AM] w fun e w' => e = .returned (.bool false) ∧ Below w.heap.size w w')) :
    Calls Try.prog 8 #[.int .u64 a, .int .u64 b, .int .u64 c] w fun e w' => e = .returned (.bool true) ∧ Below w.heap.size w w' := by
  go_enter Try.func8, Try.ntmps8
  go_wp2_with fail
  refine (c1 _).mono ?_
  rintro e w1 ⟨rfl, hb1⟩
  go_wp2_with fail
  refine (c2 _).mono ?_
  rintro e w2 ⟨rfl, hb2⟩
  go_wp2_with fail
  refine (c3 _).mono ?_
  rintro e w3 ⟨rfl, hb3⟩
  go_wp2_with fail
  refine (c4 _).mono ?_
  rintro e w4 ⟨rfl, hb4⟩
  go_wp2_with fail
  refine (c5 _).mono ?_
  rintro e w5 ⟨rfl, hb5⟩
  go_wp2_with fail
  refine (n1 _).mono ?_
  rintro e w6 ⟨rfl, hb6⟩
  go_wp2_with fail
  refine (n2 _).mono ?_
  rintro e w7 ⟨rfl, hb7⟩
  go_wp2_with fail
  refine (d1 _).mono ?_
  rintro e w8 ⟨rfl, hb8⟩
  go_wp2_with fail
  refine (s1 _).mono ?_
  rintro e w9 ⟨rfl, hb9⟩
  go_wp2_with fail
  refine (s2 _).mono ?_
  rintro e w10 ⟨rfl, hb10⟩
  go_wp2_with fail
  refine (s3 _).mono ?_
  rintro e w11 ⟨rfl, hb11⟩
  have G : Below w.heap.size w w11 := bt (bt (bt (bt (bt (bt (bt (bt (bt (bt hb1 hb2) hb3) hb4) hb5) hb6) hb7) hb8) hb9) hb10) hb11
  clear hb1 hb2 hb3 hb4 hb5 hb6 hb7 hb8 hb9 hb10 hb11 c1 c2 c3 c4 c5 n1 n2 d1 s1 s2 s3
  go_upto_region 7 with fail
  go_cut [84] (fun s wx => s = .bool false ∧ Below w.heap.size w wx)
  case first =>
    go_wp2_with fail
    refine (i1 _).mono ?_
    rintro e w12 ⟨rfl, hb12⟩
    cases KI
    · have s4' := s4.out (by first | rfl | trivial)
      have q1' := q1.out (by first | rfl | trivial)
      have r1' : Hid _ := r1.out (by first | rfl | trivial)
      have q2' : Hid _ := q2.out (by first | rfl | trivial)
      go_wp2_with fail
      refine (s4' _).mono ?_
      rintro e w13 ⟨rfl, hb13⟩
      go_wp2_with fail
      refine (q1' _).mono ?_
      rintro e w14 ⟨rfl, hb14⟩
      cases E0
      · have r1'' := r1'.out (by first | rfl | trivial)
        have q2'' := q2'.out (by first | rfl | trivial)
        go_wp2_with fail
        refine (r1'' _).mono ?_
        rintro e w15 ⟨rfl, hb15⟩
        go_wp2_with fail
        refine (q2'' _).mono ?_
        rintro e w16 ⟨rfl, hb16⟩
        go_wp2_with fail
        go_meet
        case rel => exact ⟨rfl, bt (bt (bt (bt (bt G hb12) hb13) hb14) hb15) hb16⟩
      · go_wp2_with fail
        go_meet
        case rel => exact ⟨rfl, bt (bt (bt G hb12) hb13) hb14⟩
    · go_wp2_with fail
      go_meet
      case rel => exact ⟨rfl, bt G hb12⟩
  case rest =>
    obtain ⟨rfl, Gx⟩ := hcut
    clear i1 s4 q1 r1 q2 G
    go_wp2_with fail
    refine (l1 _).mono ?_
    rintro e w20 ⟨rfl, hb20⟩
    cases KL
    · go_wp2_with fail
      refine (alive_any _).mono ?_
      rintro e w21 ⟨rfl, hb21⟩
      go_wp2
      go_ret
      exact ⟨rfl, bt (bt Gx hb20) hb21⟩
    · go_wp2_with fail
      refine (k1 _).mono ?_
      rintro e w21 ⟨rfl, hb21⟩
      cases KN
      · go_wp2_with fail
        refine (k2 _).mono ?_
        rintro e w22 ⟨rfl, hb22⟩
        cases KF
        · have t3' := t3.out (by first | rfl | trivial) (by first | rfl | trivial) (by first | rfl | trivial)
          have t7' : Hid _ := t7.out (by first | rfl | trivial) (by first | rfl | trivial) (by first | rfl | trivial)
          go_wp2_with fail
          refine (t1 _).mono ?_
          rintro e w23 ⟨rfl, hb23⟩
          go_wp2_with fail
          refine (t2 _).mono ?_
          rintro e w24 ⟨rfl, hb24⟩
          go_wp2_with fail
          refine (t3' _).mono ?_
          rintro e w25 ⟨rfl, hb25⟩
          go_wp2_with fail
          refine (t4 _).mono ?_
          rintro e w26 ⟨rfl, hb26⟩
          have G26 : Below w.heap.size w w26 := bt (bt (bt (bt (bt (bt (bt Gx hb20) hb21) hb22) hb23) hb24) hb25) hb26
          clear Gx hb20 hb21 hb22 hb23 hb24 hb25 hb26
          cases L0
          · go_wp2_with fail
            refine (alive_any _).mono ?_
            rintro e w27 ⟨rfl, hb27⟩
            go_wp2
            go_ret
            exact ⟨rfl, bt G26 hb27⟩
          · have t7'' := t7'.out (by first | rfl | trivial)
            go_wp2_with fail
            refine (t5 _).mono ?_
            rintro e w28 ⟨rfl, hb28⟩
            go_wp2_with fail
            refine (t6 _).mono ?_
            rintro e w29 ⟨rfl, hb29⟩
            go_wp2_with fail
            refine (t7'' _).mono ?_
            rintro e w30 ⟨rfl, hb30⟩
            go_wp2_with fail
            refine (alive_any _).mono ?_
            rintro e w31 ⟨rfl, hb31⟩
            go_wp2
            go_ret
            exact ⟨rfl, bt (bt (bt (bt G26 hb28) hb29) hb30) hb31⟩
        · go_wp2_with fail
          refine (alive_any _).mono ?_
          rintro e w23 ⟨rfl, hb23⟩
          go_wp2
          go_ret
          exact ⟨rfl, bt (bt (bt (bt Gx hb20) hb21) hb22) hb23⟩
      · go_wp2_with fail
        refine (alive_any _).mono ?_
        rintro e w22 ⟨rfl, hb22⟩
        go_wp2
        go_ret
        exact ⟨rfl, bt (bt (bt Gx hb20) hb21) hb22⟩

theorem laws_walk (a b c : Int) (h0 : 0 ≤ a) (h1 : a < 18446744073709551616) (h2 : 0 ≤ b) (h3 : b < 18446744073709551616) (h4 : 0 ≤ c) (h5 : c < 18446744073709551616) (w : World) :
    Calls Try.prog 8 #[.int .u64 a, .int .u64 b, .int .u64 c] w fun e w' => e = .returned (.bool true) ∧ Below w.heap.size w w' := by
  by_cases k : kindI a = 3
  · exact laws_nan a b c h0 h1 h2 h3 w k
  have z0 : (0 : Int) ≤ 0 := by omega
  have z1 : (0 : Int) < 18446744073709551616 := by omega
  have fin_of : (kindI a == 2) = false → kindI a < 2 := fun h => by
    have : kindI a ≠ 2 := by simpa using h
    rcases kind_cases a with d | d | d | d <;> omega
  have one_of : (kindI a == 2) = false → equalI a 0 = false → kindI a = 1 := fun h g => by
    have hf := fin_of h
    rw [equal_zero a h0 h1 hf] at g
    have : kindI a ≠ 0 := by simpa using g
    rcases kind_cases a with d | d | d | d <;> omega
  refine laws_num a b c (addI a b) (mulI a b) (negI a) (subI 0 a) (addI a 0) (remC a a) (kindI a == 2) (equalI a 0) (lessI a b) (kindI c == 3) (kindI c == 2) (lessI 0 c) w
    (fun w => add_any a b w h0 h1 h2 h3) (fun w => by rw [addI_comm]; exact add_any b a w h2 h3 h0 h1)
    (fun w => mul_any a b w h0 h1 h2 h3) (fun w => by rw [mulI_comm]; exact mul_any b a w h2 h3 h0 h1)
    (fun w => by have := isNaN_any a w h0 h1; rwa [show (kindI a == 3) = false from by simp [k]] at this)
    (fun w => neg_any a w h0 h1)
    (fun w => by have := neg_any (negI a) w (negI_bd a).1 (negI_bd a).2; rwa [neg_neg a h0 h1 k] at this)
    (fun w => by have := div_any a 4607182418800017408 w h0 h1 (by omega) (by omega); rwa [div_one a h0 h1 k] at this)
    (fun w => sub_any 0 a w z0 z1 h0 h1)
    (fun w => by have := sub_any 0 (subI 0 a) w z0 z1 (subI_bd 0 a).1 (subI_bd 0 a).2; rwa [sub_twice a h0 h1 k] at this)
    (fun w => add_any a 0 w h0 h1 z0 z1)
    (fun w => isInf_any a w h0 h1)
    (fun h w => by have := sub_any a a w h0 h1 h0 h1; rwa [sub_self a h0 h1 (fin_of h)] at this)
    (fun _ w => equal_any a 0 w h0 h1 z0 z1)
    (fun _ _ w => rem_any a a w h0 h1 h0 h1)
    (fun h g w => by have := equal_any (remC a a) 0 w (remC_bd a a h0 h1).1 (remC_bd a a h0 h1).2 z0 z1; rwa [rem_self a h0 h1 (one_of h g)] at this)
    (fun w => less_any a b w h0 h1 h2 h3)
    (fun w => isNaN_any c w h4 h5) (fun w => isInf_any c w h4 h5)
    (addI b c) (addI a c) (mulI b c) (mulI a c)
    (fun w => add_any b c w h2 h3 h4 h5) (fun w => add_any a c w h0 h1 h4 h5)
    (fun hl hn hf w => by
      have kc : kindI c < 2 := by
        have x1 : kindI c ≠ 3 := by simpa using hn
        have x2 : kindI c ≠ 2 := by simpa using hf
        rcases kind_cases c with d | d | d | d <;> omega
      have := less_any (addI b c) (addI a c) w (addI_bd b c).1 (addI_bd b c).2 (addI_bd a c).1 (addI_bd a c).2
      rwa [add_rises a b c h0 h1 h2 h3 h4 h5 hl kc] at this)
    (fun w => less_any 0 c w z0 z1 h4 h5)
    (fun w => mul_any b c w h2 h3 h4 h5) (fun w => mul_any a c w h0 h1 h4 h5)
    (fun hl hn hf hc w => by
      have kc : kindI c < 2 := by
        have x1 : kindI c ≠ 3 := by simpa using hn
        have x2 : kindI c ≠ 2 := by simpa using hf
        rcases kind_cases c with d | d | d | d <;> omega
      have := less_any (mulI b c) (mulI a c) w (mulI_bd b c).1 (mulI_bd b c).2 (mulI_bd a c).1 (mulI_bd a c).2
      rwa [mul_rises a b c h0 h1 h2 h3 h4 h5 hl kc hc] at this)

end Go.Proofs.Ytnocnodiecihnaa
