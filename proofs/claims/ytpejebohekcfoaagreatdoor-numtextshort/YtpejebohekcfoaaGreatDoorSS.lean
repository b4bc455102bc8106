/- NumtextPoints: the walk. -/
import Derived.Test.YtpejebohekcfoaaGreatDoorRR
import Derived.Deep.RegionWith
import Derived.Test.YtpejebohekcfoaaGreatDoorQ2
namespace Go.Proofs.YtpejebohekcfoaaGreatDoor
open Go.RowKit
set_option linter.unusedVariables false

set_option maxHeartbeats 4000000 in
theorem points_in (u at0 e0 A : Int) (k L l1 l2 l3 : Nat) (X Y Z I1 I2 I3 : ByteArray) (w : World) (hX : X.size = L) (hL : L ≤ 1000) (hk : k ≤ L) (he0 : -2147483648 ≤ e0) (he1 : e0 ≤ 2147483647) 
    (hY : X.extract 0 k = Y) (hZ : X.extract k L = Z) (zY : Y.size = k) (zZ : Z.size = L - k) (z1 : I1.size = l1) (z2 : I2.size = l2) (z3 : I3.size = l3) (q1 : l1 ≤ 1000) (q2 : l2 ≤ 1000) (q3 : l3 ≤ 1000)
    (c1 : Calls Tryz.prog 21 #[.int .u64 u, .int .i64 10] w fun e w' => e = .returned (.string X) ∧ Below w.heap.size w w')
    (i1 : ∀ w1, Below w.heap.size w w1 → Calls Tryz.prog 22 #[.int .i64 e0] w1 fun e w' => e = .returned (.string I1) ∧ Below w.heap.size w w')
    (r1 : ∀ w1, Below w.heap.size w w1 → Calls Tryz.prog 14 #[.string (X ++ ByteArray.mk #[101] ++ I1)] w1 fun e w' => e = .returned (.int .u64 A) ∧ Below w.heap.size w w')
    (i2 : ∀ w1, Below w.heap.size w w1 → Calls Tryz.prog 22 #[.int .i64 (e0 + (L : Int) - (k : Int))] w1 fun e w' => e = .returned (.string I2) ∧ Below w.heap.size w w')
    (r2 : ∀ w1, Below w.heap.size w w1 → Calls Tryz.prog 14 #[.string (Y ++ ByteArray.mk #[46] ++ Z ++ ByteArray.mk #[69] ++ I2)] w1 fun e w' => e = .returned (.int .u64 A) ∧ Below w.heap.size w w')
    (i3 : ∀ w1, Below w.heap.size w w1 → Calls Tryz.prog 22 #[.int .i64 (e0 - 3)] w1 fun e w' => e = .returned (.string I3) ∧ Below w.heap.size w w')
    (r3 : ∀ w1, Below w.heap.size w w1 → Calls Tryz.prog 14 #[.string (ByteArray.mk #[48, 48, 48] ++ X ++ ByteArray.mk #[48, 48, 48, 101] ++ I3)] w1 fun e w' => e = .returned (.int .u64 A) ∧ Below w.heap.size w w')
    (al : ∀ w1, Below w.heap.size w w1 → Calls Tryz.prog 9 #[] w1 fun e w' => e = .returned (.bool true) ∧ Below w.heap.size w w') :
    Calls Tryz.prog 8 #[.int .u64 u, .int .i64 (k : Int), .int .i32 e0] w fun e w' => e = .returned (.bool true) ∧ Below w.heap.size w w' := by
  go_enter Tryz.func8, Tryz.ntmps8
  go_wp2_with fail
  refine c1.mono ?_
  rintro e w1 ⟨rfl, hb1⟩
  go_wp2_with fail
  refine (i1 _ hb1).mono ?_
  rintro e w2 ⟨rfl, hb2⟩
  go_wp2_with fail
  refine (r1 _ hb2).mono ?_
  rintro e w3 ⟨rfl, hb3⟩
  go_wp2_with fail
  have hb4 : Below w.heap.size w w3.drew := hb3.drew
  have hw1 : IntKind.i64.wrap (e0 + (L : Int)) = e0 + (L : Int) := by rw [IntKind.wrap_i64]; omega
  have hw2 : IntKind.i64.wrap (e0 + (L : Int) - (k : Int)) = e0 + (L : Int) - (k : Int) := by rw [IntKind.wrap_i64]; omega
  clear c1 i1 r1
  go_region_with (first | (go_at_call 22; refine (i2 _ hb4).mono ?_; rintro e w4 ⟨rfl, hb5⟩) | (go_at_call 14; refine (r2 _ hb5).mono ?_; rintro e w5 ⟨rfl, hb6⟩))
  all_goals (go_wp2_with fail; refine (i3 _ hb6).mono ?_; rintro e w6 ⟨rfl, hb7⟩; go_wp2_with fail; refine (r3 _ hb7).mono ?_; rintro e w7 ⟨rfl, hb8⟩; go_wp2_with fail; refine (al _ hb8).mono ?_; rintro e w8 ⟨rfl, hb9⟩; go_wp2; go_ret; exact ⟨rfl, hb9⟩)

set_option maxHeartbeats 4000000 in
theorem points_neg (u at0 e0 A : Int) (L l1 l2 l3 : Nat) (X Y Z I1 I2 I3 : ByteArray) (w : World) (hX : X.size = L) (hL : L ≤ 1000) (he0 : -2147483648 ≤ e0) (he1 : e0 ≤ 2147483647) (hat : at0 < 0)
    (hY : X.extract 0 L = Y) (hZ : X.extract L L = Z) (zY : Y.size = L) (zZ : Z.size = 0) (z1 : I1.size = l1) (z2 : I2.size = l2) (z3 : I3.size = l3) (q1 : l1 ≤ 1000) (q2 : l2 ≤ 1000) (q3 : l3 ≤ 1000)
    (c1 : Calls Tryz.prog 21 #[.int .u64 u, .int .i64 10] w fun e w' => e = .returned (.string X) ∧ Below w.heap.size w w')
    (i1 : ∀ w1, Below w.heap.size w w1 → Calls Tryz.prog 22 #[.int .i64 e0] w1 fun e w' => e = .returned (.string I1) ∧ Below w.heap.size w w')
    (r1 : ∀ w1, Below w.heap.size w w1 → Calls Tryz.prog 14 #[.string (X ++ ByteArray.mk #[101] ++ I1)] w1 fun e w' => e = .returned (.int .u64 A) ∧ Below w.heap.size w w')
    (i2 : ∀ w1, Below w.heap.size w w1 → Calls Tryz.prog 22 #[.int .i64 e0] w1 fun e w' => e = .returned (.string I2) ∧ Below w.heap.size w w')
    (r2 : ∀ w1, Below w.heap.size w w1 → Calls Tryz.prog 14 #[.string (Y ++ ByteArray.mk #[46] ++ ByteArray.mk #[69] ++ I2)] w1 fun e w' => e = .returned (.int .u64 A) ∧ Below w.heap.size w w')
    (i3 : ∀ w1, Below w.heap.size w w1 → Calls Tryz.prog 22 #[.int .i64 (e0 - 3)] w1 fun e w' => e = .returned (.string I3) ∧ Below w.heap.size w w')
    (r3 : ∀ w1, Below w.heap.size w w1 → Calls Tryz.prog 14 #[.string (ByteArray.mk #[48, 48, 48] ++ X ++ ByteArray.mk #[48, 48, 48, 101] ++ I3)] w1 fun e w' => e = .returned (.int .u64 A) ∧ Below w.heap.size w w')
    (al : ∀ w1, Below w.heap.size w w1 → Calls Tryz.prog 9 #[] w1 fun e w' => e = .returned (.bool true) ∧ Below w.heap.size w w') :
    Calls Tryz.prog 8 #[.int .u64 u, .int .i64 at0, .int .i32 e0] w fun e w' => e = .returned (.bool true) ∧ Below w.heap.size w w' := by
  go_enter Tryz.func8, Tryz.ntmps8
  go_wp2_with fail
  refine c1.mono ?_
  rintro e w1 ⟨rfl, hb1⟩
  go_wp2_with fail
  refine (i1 _ hb1).mono ?_
  rintro e w2 ⟨rfl, hb2⟩
  go_wp2_with fail
  refine (r1 _ hb2).mono ?_
  rintro e w3 ⟨rfl, hb3⟩
  go_wp2_with fail
  have hb4 : Below w.heap.size w w3.drew := hb3.drew
  have hw1 : IntKind.i64.wrap (e0 + (L : Int)) = e0 + (L : Int) := by rw [IntKind.wrap_i64]; omega
  have hw2 : IntKind.i64.wrap e0 = e0 := by rw [IntKind.wrap_i64]; omega
  clear c1 i1 r1
  go_region_with (first | (go_at_call 22; refine (i2 _ hb4).mono ?_; rintro e w4 ⟨rfl, hb5⟩) | (go_at_call 14; refine (r2 _ hb5).mono ?_; rintro e w5 ⟨rfl, hb6⟩))
  all_goals (go_wp2_with fail; refine (i3 _ hb6).mono ?_; rintro e w6 ⟨rfl, hb7⟩; go_wp2_with fail; refine (r3 _ hb7).mono ?_; rintro e w7 ⟨rfl, hb8⟩; go_wp2_with fail; refine (al _ hb8).mono ?_; rintro e w8 ⟨rfl, hb9⟩; go_wp2; go_ret; exact ⟨rfl, hb9⟩)

set_option maxHeartbeats 4000000 in
theorem points_big (u at0 e0 A : Int) (L l1 l2 l3 : Nat) (X Y Z I1 I2 I3 : ByteArray) (w : World) (hX : X.size = L) (hL : L ≤ 1000) (he0 : -2147483648 ≤ e0) (he1 : e0 ≤ 2147483647) (hat : (L : Int) < at0)
    (hY : X.extract 0 L = Y) (hZ : X.extract L L = Z) (zY : Y.size = L) (zZ : Z.size = 0) (z1 : I1.size = l1) (z2 : I2.size = l2) (z3 : I3.size = l3) (q1 : l1 ≤ 1000) (q2 : l2 ≤ 1000) (q3 : l3 ≤ 1000)
    (c1 : Calls Tryz.prog 21 #[.int .u64 u, .int .i64 10] w fun e w' => e = .returned (.string X) ∧ Below w.heap.size w w')
    (i1 : ∀ w1, Below w.heap.size w w1 → Calls Tryz.prog 22 #[.int .i64 e0] w1 fun e w' => e = .returned (.string I1) ∧ Below w.heap.size w w')
    (r1 : ∀ w1, Below w.heap.size w w1 → Calls Tryz.prog 14 #[.string (X ++ ByteArray.mk #[101] ++ I1)] w1 fun e w' => e = .returned (.int .u64 A) ∧ Below w.heap.size w w')
    (i2 : ∀ w1, Below w.heap.size w w1 → Calls Tryz.prog 22 #[.int .i64 e0] w1 fun e w' => e = .returned (.string I2) ∧ Below w.heap.size w w')
    (r2 : ∀ w1, Below w.heap.size w w1 → Calls Tryz.prog 14 #[.string (Y ++ ByteArray.mk #[46] ++ ByteArray.mk #[69] ++ I2)] w1 fun e w' => e = .returned (.int .u64 A) ∧ Below w.heap.size w w')
    (i3 : ∀ w1, Below w.heap.size w w1 → Calls Tryz.prog 22 #[.int .i64 (e0 - 3)] w1 fun e w' => e = .returned (.string I3) ∧ Below w.heap.size w w')
    (r3 : ∀ w1, Below w.heap.size w w1 → Calls Tryz.prog 14 #[.string (ByteArray.mk #[48, 48, 48] ++ X ++ ByteArray.mk #[48, 48, 48, 101] ++ I3)] w1 fun e w' => e = .returned (.int .u64 A) ∧ Below w.heap.size w w')
    (al : ∀ w1, Below w.heap.size w w1 → Calls Tryz.prog 9 #[] w1 fun e w' => e = .returned (.bool true) ∧ Below w.heap.size w w') :
    Calls Tryz.prog 8 #[.int .u64 u, .int .i64 at0, .int .i32 e0] w fun e w' => e = .returned (.bool true) ∧ Below w.heap.size w w' := by
  go_enter Tryz.func8, Tryz.ntmps8
  go_wp2_with fail
  refine c1.mono ?_
  rintro e w1 ⟨rfl, hb1⟩
  go_wp2_with fail
  refine (i1 _ hb1).mono ?_
  rintro e w2 ⟨rfl, hb2⟩
  go_wp2_with fail
  refine (r1 _ hb2).mono ?_
  rintro e w3 ⟨rfl, hb3⟩
  go_wp2_with fail
  have hb4 : Below w.heap.size w w3.drew := hb3.drew
  have hw1 : IntKind.i64.wrap (e0 + (L : Int)) = e0 + (L : Int) := by rw [IntKind.wrap_i64]; omega
  have hw2 : IntKind.i64.wrap e0 = e0 := by rw [IntKind.wrap_i64]; omega
  clear c1 i1 r1
  go_region_with (first | (go_at_call 22; refine (i2 _ hb4).mono ?_; rintro e w4 ⟨rfl, hb5⟩) | (go_at_call 14; refine (r2 _ hb5).mono ?_; rintro e w5 ⟨rfl, hb6⟩))
  all_goals (go_wp2_with fail; refine (i3 _ hb6).mono ?_; rintro e w6 ⟨rfl, hb7⟩; go_wp2_with fail; refine (r3 _ hb7).mono ?_; rintro e w7 ⟨rfl, hb8⟩; go_wp2_with fail; refine (al _ hb8).mono ?_; rintro e w8 ⟨rfl, hb9⟩; go_wp2; go_ret; exact ⟨rfl, hb9⟩)

end Go.Proofs.YtpejebohekcfoaaGreatDoor
/- NumtextPoints: all of it. -/
namespace Go.Proofs.YtpejebohekcfoaaGreatDoor
open Go.RowKit
set_option linter.unusedVariables false

theorem nd_le : ∀ (k u : Nat), u < 10 ^ (k + 1) → Lib.nDigits u ≤ k + 1 := by
  intro k
  induction k with
  | zero => intro u h; rw [Lib.nDigits_small (by simpa using h)]; omega
  | succ k ih =>
    intro u h
    by_cases c : u < 10
    · rw [Lib.nDigits_small c]; omega
    · rw [Lib.nDigits_big c]
      have := ih (u / 10) (by rw [Nat.pow_succ] at h; omega)
      omega

theorem dd_len (u : Nat) (h : u < 18446744073709551616) : (Lib.decDigits u).length ≤ 20 := by
  rw [Lib.decDigits_length]
  exact nd_le 19 u (Nat.lt_of_lt_of_le h (by decide))

theorem itoa_len (e : Int) (h : e.natAbs < 18446744073709551616) : (Lib.itoa e).length ≤ 21 := by
  unfold Lib.itoa
  split
  · have := dd_len e.natAbs h
    simp; omega
  · have := dd_len e.toNat (by omega)
    omega

theorem after {w : World} {f : Nat} {args : Array Value} {Q : Ending → Prop} (h : ∀ w1, Calls Tryz.prog f args w1 fun e w' => Q e ∧ Below w1.heap.size w1 w') :
    ∀ w1, Below w.heap.size w w1 → Calls Tryz.prog f args w1 fun e w' => Q e ∧ Below w.heap.size w w' := by
  intro w1 hb
  refine (h w1).mono ?_
  rintro e w' ⟨hq, b⟩
  exact ⟨hq, hb.trans (b.mono hb.size)⟩

theorem itoa_after {w : World} (ht : Pow10 w) (n : Int) (h0 : -9223372036854775808 ≤ n) (h1 : n ≤ 9223372036854775807) :
    ∀ w1, Below w.heap.size w w1 → Calls Tryz.prog 22 #[.int .i64 n] w1 fun e w' => e = .returned (.string (bs (Lib.itoa n))) ∧ Below w.heap.size w w' := by
  intro w1 hb
  refine (itoa_c n h0 h1 w1 (pow10_below ht hb)).mono ?_
  rintro e w' ⟨rfl, b⟩
  exact ⟨rfl, hb.trans (b.mono hb.size)⟩

theorem read_is (X : ByteArray) (l : List UInt8) (A : Int) (hX : X.data.toList = l) (hl : l.length ≤ 1000000) (hA : readI l = A) (w : World) :
    ∀ w1, Below w.heap.size w w1 → Calls Tryz.prog 14 #[.string X] w1 fun e w' => e = .returned (.int .u64 A) ∧ Below w.heap.size w w' := by
  have hs : X.size ≤ 1000000 := by rw [← hX] at hl; simpa using hl
  refine after (Q := fun e => e = .returned (.int .u64 A)) (fun w1 => ?_)
  have := read_ba X w1 hs
  rw [hX, hA] at this
  exact this

theorem ext_list (l : List UInt8) (a b : Nat) : ((bs l).extract a b).data.toList = (l.drop a).take (b - a) := by
  unfold bs
  simp [ByteArray.data_extract]

theorem points_walk (u : Nat) (at0 e0 : Int) (w : World) (hu : u < 18446744073709551616) (he0 : -2147483648 ≤ e0) (he1 : e0 ≤ 2147483647) (ht : Pow10 w) :
    Calls Tryz.prog 8 #[.int .u64 u, .int .i64 at0, .int .i32 e0] w fun e w' => e = .returned (.bool true) ∧ Below w.heap.size w w' := by
  have hL := dd_len u hu
  have zX : (bs (Lib.decDigits u)).size = (Lib.decDigits u).length := bs_size _
  have lX : (bs (Lib.decDigits u)).data.toList = Lib.decDigits u := by simp [bs]
  have l1 := itoa_len e0 (by omega)
  have l3 := itoa_len (e0 - 3) (by omega)
  have al := after (w := w) (Q := fun e => e = .returned (.bool true)) (fun w1 => alive_any w1)
  have i1 := itoa_after ht e0 (by omega) (by omega)
  have i3 := itoa_after ht (e0 - 3) (by omega) (by omega)
  have bl : ∀ l : List UInt8, (bs l).data.toList = l := fun l => by simp [bs]
  have r1 := read_is (bs (Lib.decDigits u) ++ ByteArray.mk #[101] ++ bs (Lib.itoa e0)) (Lib.decDigits u ++ 101 :: Lib.itoa e0) _ (by rw [ba_list, ba_list, bl, bl]; simp) (by simp; omega) rfl w
  have hk : ∀ k, k ≤ (Lib.decDigits u).length → _ := fun k hk => points_plain u k e0 (by omega) hk (by omega)
  have r3 := read_is (ByteArray.mk #[48, 48, 48] ++ bs (Lib.decDigits u) ++ ByteArray.mk #[48, 48, 48, 101] ++ bs (Lib.itoa (e0 - 3))) (([48, 48, 48] ++ Lib.decDigits u ++ [48, 48, 48]) ++ 101 :: Lib.itoa (e0 - 3)) _ (by rw [ba_list, ba_list, ba_list, bl, bl]; simp) (by simp; omega) (hk 0 (by omega)).2 w
  have c1 := formatUint_any u hu w ht
  by_cases a0 : at0 < 0
  · have e : e0 + ((Lib.decDigits u).length : Int) - ((Lib.decDigits u).length : Nat) = e0 := by omega
    have p := (hk (Lib.decDigits u).length (Nat.le_refl _)).1
    rw [e, List.take_length, List.drop_length, List.nil_append] at p
    have r2 := read_is ((bs (Lib.decDigits u)).extract 0 (Lib.decDigits u).length ++ ByteArray.mk #[46] ++ ByteArray.mk #[69] ++ bs (Lib.itoa e0)) (Lib.decDigits u ++ 46 :: 69 :: Lib.itoa e0) _ (by rw [ba_list, ba_list, ba_list, bl, ext_list]; simp) (by simp; omega) p w
    exact points_neg u at0 e0 _ (Lib.decDigits u).length _ _ _ _ _ _ _ _ _ w zX (by omega) he0 he1 a0 rfl rfl (by simp [zX]) (by simp) rfl rfl rfl (by rw [bs_size]; omega) (by rw [bs_size]; omega) (by rw [bs_size]; omega) c1 i1 r1 i1 r2 i3 r3 al
  · by_cases a1 : ((Lib.decDigits u).length : Int) < at0
    · have e : e0 + ((Lib.decDigits u).length : Int) - ((Lib.decDigits u).length : Nat) = e0 := by omega
      have p := (hk (Lib.decDigits u).length (Nat.le_refl _)).1
      rw [e, List.take_length, List.drop_length, List.nil_append] at p
      have r2 := read_is ((bs (Lib.decDigits u)).extract 0 (Lib.decDigits u).length ++ ByteArray.mk #[46] ++ ByteArray.mk #[69] ++ bs (Lib.itoa e0)) (Lib.decDigits u ++ 46 :: 69 :: Lib.itoa e0) _ (by rw [ba_list, ba_list, ba_list, bl, ext_list]; simp) (by simp; omega) p w
      exact points_big u at0 e0 _ (Lib.decDigits u).length _ _ _ _ _ _ _ _ _ w zX (by omega) he0 he1 a1 rfl rfl (by simp [zX]) (by simp) rfl rfl rfl (by rw [bs_size]; omega) (by rw [bs_size]; omega) (by rw [bs_size]; omega) c1 i1 r1 i1 r2 i3 r3 al
    · obtain ⟨k, rfl⟩ : ∃ k : Nat, at0 = k := ⟨at0.toNat, by omega⟩
      have kl : k ≤ (Lib.decDigits u).length := by omega
      have i2 := itoa_after ht (e0 + ((Lib.decDigits u).length : Int) - (k : Int)) (by omega) (by omega)
      have l2 := itoa_len (e0 + ((Lib.decDigits u).length : Int) - (k : Int)) (by omega)
      have r2 := read_is ((bs (Lib.decDigits u)).extract 0 k ++ ByteArray.mk #[46] ++ (bs (Lib.decDigits u)).extract k (Lib.decDigits u).length ++ ByteArray.mk #[69] ++ bs (Lib.itoa (e0 + ((Lib.decDigits u).length : Int) - (k : Int)))) ((Lib.decDigits u).take k ++ 46 :: ((Lib.decDigits u).drop k ++ 69 :: Lib.itoa (e0 + ((Lib.decDigits u).length : Int) - (k : Int)))) _
        (by rw [ba_list, ba_list, ba_list, ba_list, bl, ext_list, ext_list, List.take_of_length_le (l := (Lib.decDigits u).drop k) (by simp)]; simp) (by simp; omega) (hk k kl).1 w
      exact points_in u k e0 _ k (Lib.decDigits u).length _ _ _ _ _ _ _ _ _ w zX (by omega) kl he0 he1 rfl rfl (by simp [zX]; omega) (by simp [zX]) rfl rfl rfl (by rw [bs_size]; omega) (by rw [bs_size]; omega) (by rw [bs_size]; omega) c1 i1 r1 i2 r2 i3 r3 al

end Go.Proofs.YtpejebohekcfoaaGreatDoor
