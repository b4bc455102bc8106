/- The walk of near10, of more than 800 digits. -/
import Derived.Test.YtpejebohekcfoaaGreatDoorRR
import Derived.Deep.RegionWith
import Derived.Test.YtpejebohekcfoaaGreatDoorQ2
import Derived.Test.YtpejebohekcfoaaGreatDoorH2
import Derived.Test.YtpejebohekcfoaaGreatDoorG5
import Derived.Test.YtpejebohekcfoaaGreatDoorP1
import Derived.Test.YtpejebohekcfoaaGreatDoorMN
import Derived.Test.YtpejebohekcfoaaGreatDoorA3
import Derived.Test.YtpejebohekcfoaaGreatDoorKB
import Derived.Test.YtpejebohekcfoaaGreatDoorBB
/- NumtextPoints: the walk. -/
namespace Go.Proofs.YtpejebohekcfoaaGreatDoor
open Go.RowKit
set_option linter.unusedVariables false

set_option maxHeartbeats 4000000 in
theorem points_in (u at0 e0 A : Int) (k L l1 l2 l3 : Nat) (X Y Z I1 I2 I3 : ByteArray) (w : World) (hX : X.size = L) (hL : L ≤ 1000) (hk : k ≤ L) (he0 : -2147483648 ≤ e0) (he1 : e0 ≤ 2147483647) 
    (hY : X.extract 0 k = Y) (hZ : X.extract k L = Z) (zY : Y.size = k) (zZ : Z.size = L - k) (z1 : I1.size = l1) (z2 : I2.size = l2) (z3 : I3.size = l3) (q1 : l1 ≤ 1000) (q2 : l2 ≤ 1000) (q3 : l3 ≤ 1000)
    (c1 : Calls Tryz.prog 21 #[.int .u64 u, .int .i64 10] w fun e w' => e = .returned (.string X) ∧ Below w.heap.size w w')
    (i1 : ∀ w1, Below w.heap.size w w1 → Calls Tryz.prog 22 #[.int .i64 e0] w1 fun e w' => e = .returned (.string I1) ∧ Below w.heap.size w w')
    (r1 : ∀ w1, Below w.heap.size w w1 → Calls Tryz.prog 14 #[.string (X ++ ByteArray.mk #[101] ++ I1)] w1 fun e w' => e = .returned (.int .u64 A) ∧ Below w.heap.size w w')
    (i2 : ∀ w1, Below w.heap.size w w1 → Calls Tryz.prog 22 #[.int .i64 (e0 + (L : Int) - (k : Int))] w1 fun e w' => e = .returned (.string I2) ∧ Below w.heap.size w w')
    (r2 : ∀ w1, Below w.heap.size w w1 → Calls Tryz.prog 14 #[.string (Y ++ ByteArray.mk #[46] ++ Z ++ ByteArray.mk #[69] ++ I2)] w1 fun e w' => e = .returned (.int .u64 A) ∧ Below w.heap.size w w')
    (i3 : ∀ w1, Below w.heap.size w w1 → Calls Tryz.prog 22 #[.int .i64 (e0 - 3)] w1 fun e w' => e = .returned (.string I3) ∧ Below w.heap.size w w')
    (r3 : ∀ w1, Below w.heap.size w w1 → Calls Tryz.prog 14 #[.string (ByteArray.mk #[48, 48, 48] ++ X ++ ByteArray.mk #[48, 48, 48, 101] ++ I3)] w1 fun e w' => e = .returned (.int .u64 A) ∧ Below w.heap.size w w')
    (al : ∀ w1, Below w.heap.size w w1 → Calls Tryz.prog 9 #[] w1 fun e w' => e = .returned (.bool true) ∧ Below w.heap.size w w') :
    Calls Tryz.prog 8 #[.int .u64 u, .int .i64 (k : Int), .int .i32 e0] w fun e w' => e = .returned (.bool true) ∧ Below w.heap.size w w' := by
  go_enter Tryz.func8, Tryz.ntmps8
  go_wp2_with fail
  refine c1.mono ?_
  rintro e w1 ⟨rfl, hb1⟩
  go_wp2_with fail
  refine (i1 _ hb1).mono ?_
  rintro e w2 ⟨rfl, hb2⟩
  go_wp2_with fail
  refine (r1 _ hb2).mono ?_
  rintro e w3 ⟨rfl, hb3⟩
  go_wp2_with fail
  have hb4 : Below w.heap.size w w3.drew := hb3.drew
  have hw1 : IntKind.i64.wrap (e0 + (L : Int)) = e0 + (L : Int) := by rw [IntKind.wrap_i64]; omega
  have hw2 : IntKind.i64.wrap (e0 + (L : Int) - (k : Int)) = e0 + (L : Int) - (k : Int) := by rw [IntKind.wrap_i64]; omega
  clear c1 i1 r1
  go_region_with (first | (go_at_call 22; refine (i2 _ hb4).mono ?_; rintro e w4 ⟨rfl, hb5⟩) | (go_at_call 14; refine (r2 _ hb5).mono ?_; rintro e w5 ⟨rfl, hb6⟩))
  all_goals (go_wp2_with fail; refine (i3 _ hb6).mono ?_; rintro e w6 ⟨rfl, hb7⟩; go_wp2_with fail; refine (r3 _ hb7).mono ?_; rintro e w7 ⟨rfl, hb8⟩; go_wp2_with fail; refine (al _ hb8).mono ?_; rintro e w8 ⟨rfl, hb9⟩; go_wp2; go_ret; exact ⟨rfl, hb9⟩)

set_option maxHeartbeats 4000000 in
theorem points_neg (u at0 e0 A : Int) (L l1 l2 l3 : Nat) (X Y Z I1 I2 I3 : ByteArray) (w : World) (hX : X.size = L) (hL : L ≤ 1000) (he0 : -2147483648 ≤ e0) (he1 : e0 ≤ 2147483647) (hat : at0 < 0)
    (hY : X.extract 0 L = Y) (hZ : X.extract L L = Z) (zY : Y.size = L) (zZ : Z.size = 0) (z1 : I1.size = l1) (z2 : I2.size = l2) (z3 : I3.size = l3) (q1 : l1 ≤ 1000) (q2 : l2 ≤ 1000) (q3 : l3 ≤ 1000)
    (c1 : Calls Tryz.prog 21 #[.int .u64 u, .int .i64 10] w fun e w' => e = .returned (.string X) ∧ Below w.heap.size w w')
    (i1 : ∀ w1, Below w.heap.size w w1 → Calls Tryz.prog 22 #[.int .i64 e0] w1 fun e w' => e = .returned (.string I1) ∧ Below w.heap.size w w')
    (r1 : ∀ w1, Below w.heap.size w w1 → Calls Tryz.prog 14 #[.string (X ++ ByteArray.mk #[101] ++ I1)] w1 fun e w' => e = .returned (.int .u64 A) ∧ Below w.heap.size w w')
    (i2 : ∀ w1, Below w.heap.size w w1 → Calls Tryz.prog 22 #[.int .i64 e0] w1 fun e w' => e = .returned (.string I2) ∧ Below w.heap.size w w')
    (r2 : ∀ w1, Below w.heap.size w w1 → Calls Tryz.prog 14 #[.string (Y ++ ByteArray.mk #[46] ++ ByteArray.mk #[69] ++ I2)] w1 fun e w' => e = .returned (.int .u64 A) ∧ Below w.heap.size w w')
    (i3 : ∀ w1, Below w.heap.size w w1 → Calls Tryz.prog 22 #[.int .i64 (e0 - 3)] w1 fun e w' => e = .returned (.string I3) ∧ Below w.heap.size w w')
    (r3 : ∀ w1, Below w.heap.size w w1 → Calls Tryz.prog 14 #[.string (ByteArray.mk #[48, 48, 48] ++ X ++ ByteArray.mk #[48, 48, 48, 101] ++ I3)] w1 fun e w' => e = .returned (.int .u64 A) ∧ Below w.heap.size w w')
    (al : ∀ w1, Below w.heap.size w w1 → Calls Tryz.prog 9 #[] w1 fun e w' => e = .returned (.bool true) ∧ Below w.heap.size w w') :
    Calls Tryz.prog 8 #[.int .u64 u, .int .i64 at0, .int .i32 e0] w fun e w' => e = .returned (.bool true) ∧ Below w.heap.size w w' := by
  go_enter Tryz.func8, Tryz.ntmps8
  go_wp2_with fail
  refine c1.mono ?_
  rintro e w1 ⟨rfl, hb1⟩
  go_wp2_with fail
  refine (i1 _ hb1).mono ?_
  rintro e w2 ⟨rfl, hb2⟩
  go_wp2_with fail
  refine (r1 _ hb2).mono ?_
  rintro e w3 ⟨rfl, hb3⟩
  go_wp2_with fail
  have hb4 : Below w.heap.size w w3.drew := hb3.drew
  have hw1 : IntKind.i64.wrap (e0 + (L : Int)) = e0 + (L : Int) := by rw [IntKind.wrap_i64]; omega
  have hw2 : IntKind.i64.wrap e0 = e0 := by rw [IntKind.wrap_i64]; omega
  clear c1 i1 r1
  go_region_with (first | (go_at_call 22; refine (i2 _ hb4).mono ?_; rintro e w4 ⟨rfl, hb5⟩) | (go_at_call 14; refine (r2 _ hb5).mono ?_; rintro e w5 ⟨rfl, hb6⟩))
  all_goals (go_wp2_with fail; refine (i3 _ hb6).mono ?_; rintro e w6 ⟨rfl, hb7⟩; go_wp2_with fail; refine (r3 _ hb7).mono ?_; rintro e w7 ⟨rfl, hb8⟩; go_wp2_with fail; refine (al _ hb8).mono ?_; rintro e w8 ⟨rfl, hb9⟩; go_wp2; go_ret; exact ⟨rfl, hb9⟩)

set_option maxHeartbeats 4000000 in
theorem points_big (u at0 e0 A : Int) (L l1 l2 l3 : Nat) (X Y Z I1 I2 I3 : ByteArray) (w : World) (hX : X.size = L) (hL : L ≤ 1000) (he0 : -2147483648 ≤ e0) (he1 : e0 ≤ 2147483647) (hat : (L : Int) < at0)
    (hY : X.extract 0 L = Y) (hZ : X.extract L L = Z) (zY : Y.size = L) (zZ : Z.size = 0) (z1 : I1.size = l1) (z2 : I2.size = l2) (z3 : I3.size = l3) (q1 : l1 ≤ 1000) (q2 : l2 ≤ 1000) (q3 : l3 ≤ 1000)
    (c1 : Calls Tryz.prog 21 #[.int .u64 u, .int .i64 10] w fun e w' => e = .returned (.string X) ∧ Below w.heap.size w w')
    (i1 : ∀ w1, Below w.heap.size w w1 → Calls Tryz.prog 22 #[.int .i64 e0] w1 fun e w' => e = .returned (.string I1) ∧ Below w.heap.size w w')
    (r1 : ∀ w1, Below w.heap.size w w1 → Calls Tryz.prog 14 #[.string (X ++ ByteArray.mk #[101] ++ I1)] w1 fun e w' => e = .returned (.int .u64 A) ∧ Below w.heap.size w w')
    (i2 : ∀ w1, Below w.heap.size w w1 → Calls Tryz.prog 22 #[.int .i64 e0] w1 fun e w' => e = .returned (.string I2) ∧ Below w.heap.size w w')
    (r2 : ∀ w1, Below w.heap.size w w1 → Calls Tryz.prog 14 #[.string (Y ++ ByteArray.mk #[46] ++ ByteArray.mk #[69] ++ I2)] w1 fun e w' => e = .returned (.int .u64 A) ∧ Below w.heap.size w w')
    (i3 : ∀ w1, Below w.heap.size w w1 → Calls Tryz.prog 22 #[.int .i64 (e0 - 3)] w1 fun e w' => e = .returned (.string I3) ∧ Below w.heap.size w w')
    (r3 : ∀ w1, Below w.heap.size w w1 → Calls Tryz.prog 14 #[.string (ByteArray.mk #[48, 48, 48] ++ X ++ ByteArray.mk #[48, 48, 48, 101] ++ I3)] w1 fun e w' => e = .returned (.int .u64 A) ∧ Below w.heap.size w w')
    (al : ∀ w1, Below w.heap.size w w1 → Calls Tryz.prog 9 #[] w1 fun e w' => e = .returned (.bool true) ∧ Below w.heap.size w w') :
    Calls Tryz.prog 8 #[.int .u64 u, .int .i64 at0, .int .i32 e0] w fun e w' => e = .returned (.bool true) ∧ Below w.heap.size w w' := by
  go_enter Tryz.func8, Tryz.ntmps8
  go_wp2_with fail
  refine c1.mono ?_
  rintro e w1 ⟨rfl, hb1⟩
  go_wp2_with fail
  refine (i1 _ hb1).mono ?_
  rintro e w2 ⟨rfl, hb2⟩
  go_wp2_with fail
  refine (r1 _ hb2).mono ?_
  rintro e w3 ⟨rfl, hb3⟩
  go_wp2_with fail
  have hb4 : Below w.heap.size w w3.drew := hb3.drew
  have hw1 : IntKind.i64.wrap (e0 + (L : Int)) = e0 + (L : Int) := by rw [IntKind.wrap_i64]; omega
  have hw2 : IntKind.i64.wrap e0 = e0 := by rw [IntKind.wrap_i64]; omega
  clear c1 i1 r1
  go_region_with (first | (go_at_call 22; refine (i2 _ hb4).mono ?_; rintro e w4 ⟨rfl, hb5⟩) | (go_at_call 14; refine (r2 _ hb5).mono ?_; rintro e w5 ⟨rfl, hb6⟩))
  all_goals (go_wp2_with fail; refine (i3 _ hb6).mono ?_; rintro e w6 ⟨rfl, hb7⟩; go_wp2_with fail; refine (r3 _ hb7).mono ?_; rintro e w7 ⟨rfl, hb8⟩; go_wp2_with fail; refine (al _ hb8).mono ?_; rintro e w8 ⟨rfl, hb9⟩; go_wp2; go_ret; exact ⟨rfl, hb9⟩)

end Go.Proofs.YtpejebohekcfoaaGreatDoor
/- NumtextPoints: all of it. -/
namespace Go.Proofs.YtpejebohekcfoaaGreatDoor
open Go.RowKit
set_option linter.unusedVariables false

theorem nd_le : ∀ (k u : Nat), u < 10 ^ (k + 1) → Lib.nDigits u ≤ k + 1 := by
  intro k
  induction k with
  | zero => intro u h; rw [Lib.nDigits_small (by simpa using h)]; omega
  | succ k ih =>
    intro u h
    by_cases c : u < 10
    · rw [Lib.nDigits_small c]; omega
    · rw [Lib.nDigits_big c]
      have := ih (u / 10) (by rw [Nat.pow_succ] at h; omega)
      omega

theorem dd_len (u : Nat) (h : u < 18446744073709551616) : (Lib.decDigits u).length ≤ 20 := by
  rw [Lib.decDigits_length]
  exact nd_le 19 u (Nat.lt_of_lt_of_le h (by decide))

theorem itoa_len (e : Int) (h : e.natAbs < 18446744073709551616) : (Lib.itoa e).length ≤ 21 := by
  unfold Lib.itoa
  split
  · have := dd_len e.natAbs h
    simp; omega
  · have := dd_len e.toNat (by omega)
    omega

theorem after {w : World} {f : Nat} {args : Array Value} {Q : Ending → Prop} (h : ∀ w1, Calls Tryz.prog f args w1 fun e w' => Q e ∧ Below w1.heap.size w1 w') :
    ∀ w1, Below w.heap.size w w1 → Calls Tryz.prog f args w1 fun e w' => Q e ∧ Below w.heap.size w w' := by
  intro w1 hb
  refine (h w1).mono ?_
  rintro e w' ⟨hq, b⟩
  exact ⟨hq, hb.trans (b.mono hb.size)⟩

theorem itoa_after {w : World} (ht : Pow10 w) (n : Int) (h0 : -9223372036854775808 ≤ n) (h1 : n ≤ 9223372036854775807) :
    ∀ w1, Below w.heap.size w w1 → Calls Tryz.prog 22 #[.int .i64 n] w1 fun e w' => e = .returned (.string (bs (Lib.itoa n))) ∧ Below w.heap.size w w' := by
  intro w1 hb
  refine (itoa_c n h0 h1 w1 (pow10_below ht hb)).mono ?_
  rintro e w' ⟨rfl, b⟩
  exact ⟨rfl, hb.trans (b.mono hb.size)⟩

theorem read_is (X : ByteArray) (l : List UInt8) (A : Int) (hX : X.data.toList = l) (hl : l.length ≤ 1000000) (hA : readI l = A) (w : World) :
    ∀ w1, Below w.heap.size w w1 → Calls Tryz.prog 14 #[.string X] w1 fun e w' => e = .returned (.int .u64 A) ∧ Below w.heap.size w w' := by
  have hs : X.size ≤ 1000000 := by rw [← hX] at hl; simpa using hl
  refine after (Q := fun e => e = .returned (.int .u64 A)) (fun w1 => ?_)
  have := read_ba X w1 hs
  rw [hX, hA] at this
  exact this

theorem ext_list (l : List UInt8) (a b : Nat) : ((bs l).extract a b).data.toList = (l.drop a).take (b - a) := by
  unfold bs
  simp [ByteArray.data_extract]

theorem points_walk (u : Nat) (at0 e0 : Int) (w : World) (hu : u < 18446744073709551616) (he0 : -2147483648 ≤ e0) (he1 : e0 ≤ 2147483647) (ht : Pow10 w) :
    Calls Tryz.prog 8 #[.int .u64 u, .int .i64 at0, .int .i32 e0] w fun e w' => e = .returned (.bool true) ∧ Below w.heap.size w w' := by
  have hL := dd_len u hu
  have zX : (bs (Lib.decDigits u)).size = (Lib.decDigits u).length := bs_size _
  have lX : (bs (Lib.decDigits u)).data.toList = Lib.decDigits u := by simp [bs]
  have l1 := itoa_len e0 (by omega)
  have l3 := itoa_len (e0 - 3) (by omega)
  have al := after (w := w) (Q := fun e => e = .returned (.bool true)) (fun w1 => alive_any w1)
  have i1 := itoa_after ht e0 (by omega) (by omega)
  have i3 := itoa_after ht (e0 - 3) (by omega) (by omega)
  have bl : ∀ l : List UInt8, (bs l).data.toList = l := fun l => by simp [bs]
  have r1 := read_is (bs (Lib.decDigits u) ++ ByteArray.mk #[101] ++ bs (Lib.itoa e0)) (Lib.decDigits u ++ 101 :: Lib.itoa e0) _ (by rw [ba_list, ba_list, bl, bl]; simp) (by simp; omega) rfl w
  have hk : ∀ k, k ≤ (Lib.decDigits u).length → _ := fun k hk => points_plain u k e0 (by omega) hk (by omega)
  have r3 := read_is (ByteArray.mk #[48, 48, 48] ++ bs (Lib.decDigits u) ++ ByteArray.mk #[48, 48, 48, 101] ++ bs (Lib.itoa (e0 - 3))) (([48, 48, 48] ++ Lib.decDigits u ++ [48, 48, 48]) ++ 101 :: Lib.itoa (e0 - 3)) _ (by rw [ba_list, ba_list, ba_list, bl, bl]; simp) (by simp; omega) (hk 0 (by omega)).2 w
  have c1 := formatUint_any u hu w ht
  by_cases a0 : at0 < 0
  · have e : e0 + ((Lib.decDigits u).length : Int) - ((Lib.decDigits u).length : Nat) = e0 := by omega
    have p := (hk (Lib.decDigits u).length (Nat.le_refl _)).1
    rw [e, List.take_length, List.drop_length, List.nil_append] at p
    have r2 := read_is ((bs (Lib.decDigits u)).extract 0 (Lib.decDigits u).length ++ ByteArray.mk #[46] ++ ByteArray.mk #[69] ++ bs (Lib.itoa e0)) (Lib.decDigits u ++ 46 :: 69 :: Lib.itoa e0) _ (by rw [ba_list, ba_list, ba_list, bl, ext_list]; simp) (by simp; omega) p w
    exact points_neg u at0 e0 _ (Lib.decDigits u).length _ _ _ _ _ _ _ _ _ w zX (by omega) he0 he1 a0 rfl rfl (by simp [zX]) (by simp) rfl rfl rfl (by rw [bs_size]; omega) (by rw [bs_size]; omega) (by rw [bs_size]; omega) c1 i1 r1 i1 r2 i3 r3 al
  · by_cases a1 : ((Lib.decDigits u).length : Int) < at0
    · have e : e0 + ((Lib.decDigits u).length : Int) - ((Lib.decDigits u).length : Nat) = e0 := by omega
      have p := (hk (Lib.decDigits u).length (Nat.le_refl _)).1
      rw [e, List.take_length, List.drop_length, List.nil_append] at p
      have r2 := read_is ((bs (Lib.decDigits u)).extract 0 (Lib.decDigits u).length ++ ByteArray.mk #[46] ++ ByteArray.mk #[69] ++ bs (Lib.itoa e0)) (Lib.decDigits u ++ 46 :: 69 :: Lib.itoa e0) _ (by rw [ba_list, ba_list, ba_list, bl, ext_list]; simp) (by simp; omega) p w
      exact points_big u at0 e0 _ (Lib.decDigits u).length _ _ _ _ _ _ _ _ _ w zX (by omega) he0 he1 a1 rfl rfl (by simp [zX]) (by simp) rfl rfl rfl (by rw [bs_size]; omega) (by rw [bs_size]; omega) (by rw [bs_size]; omega) c1 i1 r1 i1 r2 i3 r3 al
    · obtain ⟨k, rfl⟩ : ∃ k : Nat, at0 = k := ⟨at0.toNat, by omega⟩
      have kl : k ≤ (Lib.decDigits u).length := by omega
      have i2 := itoa_after ht (e0 + ((Lib.decDigits u).length : Int) - (k : Int)) (by omega) (by omega)
      have l2 := itoa_len (e0 + ((Lib.decDigits u).length : Int) - (k : Int)) (by omega)
      have r2 := read_is ((bs (Lib.decDigits u)).extract 0 k ++ ByteArray.mk #[46] ++ (bs (Lib.decDigits u)).extract k (Lib.decDigits u).length ++ ByteArray.mk #[69] ++ bs (Lib.itoa (e0 + ((Lib.decDigits u).length : Int) - (k : Int)))) ((Lib.decDigits u).take k ++ 46 :: ((Lib.decDigits u).drop k ++ 69 :: Lib.itoa (e0 + ((Lib.decDigits u).length : Int) - (k : Int)))) _
        (by rw [ba_list, ba_list, ba_list, ba_list, bl, ext_list, ext_list, List.take_of_length_le (l := (Lib.decDigits u).drop k) (by simp)]; simp) (by simp; omega) (hk k kl).1 w
      exact points_in u k e0 _ k (Lib.decDigits u).length _ _ _ _ _ _ _ _ _ w zX (by omega) kl he0 he1 rfl rfl (by simp [zX]; omega) (by simp [zX]) rfl rfl rfl (by rw [bs_size]; omega) (by rw [bs_size]; omega) (by rw [bs_size]; omega) c1 i1 r1 i2 r2 i3 r3 al

end Go.Proofs.YtpejebohekcfoaaGreatDoor
/- The walks of layout: all of it. -/
namespace Go.Proofs.YtpejebohekcfoaaGreatDoor
open Go.RowKit
set_option linter.unusedVariables false

set_option maxHeartbeats 2000000 in
theorem layout_big (ds : List UInt8) (p : Int) (L n : Nat) (w : World) (hL : ds.length = L) (hp : 0 < p) (hp1 : p ≤ 21) (hpc : (L : Int) ≤ p) (hn : p - (L : Int) = n)
    (hmf : ∀ (fn : Fn) (first cap : Array Value) (w : World), (Instr.makeFunc fn first cap).run Tryz.prog w = .ok (.func fn first cap) w) :
    Calls Tryz.prog 30 #[.string (bs ds), .int .i64 p] w fun e w' => e = .returned (.string (bs (ds ++ List.replicate n 48))) ∧ Below w.heap.size w w' := by
  have S0 := lt_start w
  have zX : (bs ds).size = L := by rw [bs_size]; exact hL
  go_enter Tryz.func30, Tryz.ntmps30
  go_wp2_with fail
  refine (lt_put ds S0.out (by simp; omega)).mono ?_
  rintro e w1 ⟨rfl, H1⟩
  clear S0
  go_wp2_with fail
  refine (lt_noughts n (by omega) (by simp; omega) H1.out).mono ?_
  rintro e w2 ⟨rfl, H2⟩
  clear H1
  go_wp2_with fail
  refine (lt_str H2.out).mono ?_
  rintro e w4 ⟨rfl, hb4⟩
  go_wp2
  go_ret
  exact ⟨rfl, hb4⟩

theorem ext_bs (l : List UInt8) (a b : Nat) : (bs l).extract a b = bs ((l.drop a).take (b - a)) := by
  have h := ext_list l a b
  apply ByteArray.ext
  apply Array.ext'
  rw [h]
  simp [bs]

set_option maxHeartbeats 4000000 in
theorem layout_mid (ds : List UInt8) (k L : Nat) (Y Z V : ByteArray) (w : World) (hL : ds.length = L) (hL1 : L ≤ 10000) (hp : 0 < k) (hp1 : k ≤ 21) (hpc : k < L)
    (hY : (bs ds).extract 0 k = Y) (hZ : (bs ds).extract k L = Z) (zY : Y.size = k) (zZ : Z.size = L - k)
    (pt : ∀ w1 : World, Hid (Lt w w1 w.heap.size w.heap.size (w.heap.size + 1) []) → Calls Tryz.prog 57 #[.string (Y ++ ByteArray.mk #[46] ++ Z), .pointer (some ⟨w.heap.size, 0, none⟩)] w1 fun e w' => e = .returned (.tuple #[]) ∧ Hid (Lt w w' w.heap.size w.heap.size (w.heap.size + 1) (ds.take k ++ 46 :: ds.drop k)))
    (hmf : ∀ (fn : Fn) (first cap : Array Value) (w : World), (Instr.makeFunc fn first cap).run Tryz.prog w = .ok (.func fn first cap) w) :
    Calls Tryz.prog 30 #[.string (bs ds), .int .i64 (k : Int)] w fun e w' => e = .returned (.string (bs (ds.take k ++ 46 :: ds.drop k))) ∧ Below w.heap.size w w' := by
  have S0 := lt_start w
  have zX : (bs ds).size = L := by rw [bs_size]; exact hL
  generalize hX : bs ds = X at *
  go_enter Tryz.func30, Tryz.ntmps30
  go_wp2_with fail
  have S1 : Hid (Lt w ((w.alloc (.cells #[.pointer none, .slice none 0 0] 73)).alloc (.cells #[.func (Fn.func 57) #[] #[.pointer (some ⟨w.heap.size, 0, none⟩)]] 74)).drew w.heap.size w.heap.size (w.heap.size + 1) []) := ⟨S0.out.bd, S0.out.put, S0.out.below.drew, S0.out.lt⟩
  have pt' := pt _ S1
  have d0 := lt_cell S1
  clear pt S0 S1
  go_region_with (first | (go_at_call 57; refine pt'.mono ?_; rintro e w1 ⟨rfl, H1⟩))
  all_goals (go_wp2_with fail; refine (lt_str H1.out).mono ?_; rintro e w4 ⟨rfl, hb4⟩; go_wp2; go_ret; exact ⟨rfl, hb4⟩)

end Go.Proofs.YtpejebohekcfoaaGreatDoor
/- The walks of layout with an exponent. -/
namespace Go.Proofs.YtpejebohekcfoaaGreatDoor
open Go.RowKit
set_option linter.unusedVariables false

theorem Lt.drewH {w0 wr : World} {B bt bp : Nat} {l : List UInt8} (h : Hid (Lt w0 wr B bt bp l)) : Hid (Lt w0 wr.drew B bt bp l) := ⟨h.out.bd, h.out.put, h.out.below.drew, h.out.lt⟩

/-- an exponent's text -/
def expL (n : Int) : List UInt8 := if n < 0 then 101 :: Lib.itoa n else 101 :: 43 :: Lib.itoa n

theorem exponent_any (n : Int) (w : World) (h0 : -100000 ≤ n) (h1 : n ≤ 100000) (ht : Pow10 w) :
    Calls Tryz.prog 60 #[.int .i64 n] w fun e w' => e = .returned (.string (bs (expL n))) ∧ Below w.heap.size w w' := by
  have c := itoa_c n (by omega) (by omega) w ht
  have l := itoa_len n (by omega)
  have z : (bs (Lib.itoa n)).size = (Lib.itoa n).length := bs_size _
  clear ht
  unfold expL
  by_cases hn : n < 0
  · rw [if_pos hn, show bs (101 :: Lib.itoa n) = bs [101] ++ bs (Lib.itoa n) from by rw [bs_app]; rfl]
    generalize (Lib.itoa n).length = m at *
    generalize bs (Lib.itoa n) = X at *
    go_enter Tryz.func60, Tryz.ntmps60
    go_wp2_with (go_at_call 22; refine c.mono ?_; rintro e w1 ⟨rfl, hb⟩)
    go_ret
    exact ⟨rfl, hb⟩
  · rw [if_neg hn, show bs (101 :: 43 :: Lib.itoa n) = bs [101, 43] ++ bs (Lib.itoa n) from by rw [bs_app]; rfl]
    generalize (Lib.itoa n).length = m at *
    generalize bs (Lib.itoa n) = X at *
    go_enter Tryz.func60, Tryz.ntmps60
    go_wp2_with (go_at_call 22; refine c.mono ?_; rintro e w1 ⟨rfl, hb⟩)
    go_ret
    exact ⟨rfl, hb⟩

set_option maxHeartbeats 4000000 in
theorem layout_e1_hi (ds : List UInt8) (p : Int) (L : Nat) (Y Z E : ByteArray) (E0 T1 T2 : List UInt8) (hT1 : T1.length ≤ 20000) (hT2 : T2.length ≤ 20000) (w : World) (hL : ds.length = L) (hL1 : L ≤ 10000) (hc : L = 1) (hp : 21 < p) (hp0 : -100000 ≤ p) (hp1 : p ≤ 100000)
    (hY : (bs ds).extract 0 1 = Y) (hZ : (bs ds).extract 1 L = Z) (zY : Y.size = 1) (zZ : Z.size = L - 1)
    (q1 : ∀ w1 : World, Hid (Lt w w1 w.heap.size w.heap.size (w.heap.size + 1) []) → Calls Tryz.prog 57 #[.string Y, .pointer (some ⟨w.heap.size, 0, none⟩)] w1 fun e w' => e = .returned (.tuple #[]) ∧ Hid (Lt w w' w.heap.size w.heap.size (w.heap.size + 1) T1))
    (q2 : ∀ w1 : World, Hid (Lt w w1 w.heap.size w.heap.size (w.heap.size + 1) T1) → Calls Tryz.prog 57 #[.string (ByteArray.mk #[46] ++ Z), .pointer (some ⟨w.heap.size, 0, none⟩)] w1 fun e w' => e = .returned (.tuple #[]) ∧ Hid (Lt w w' w.heap.size w.heap.size (w.heap.size + 1) T2))
    (ex : ∀ (w1 : World) (l : List UInt8), Hid (Lt w w1 w.heap.size w.heap.size (w.heap.size + 1) l) → Calls Tryz.prog 60 #[.int .i64 (p - 1)] w1 fun e w' => e = .returned (.string E) ∧ w'.cell? ⟨w.heap.size + 1, 0, none⟩ = some (.func (Fn.func 57) #[] #[.pointer (some ⟨w.heap.size, 0, none⟩)]) ∧ Hid (Lt w w' w.heap.size w.heap.size (w.heap.size + 1) l))
    (q3 : ∀ (w1 : World) (l : List UInt8), Hid (Lt w w1 w.heap.size w.heap.size (w.heap.size + 1) l) → l.length ≤ 20000 → Calls Tryz.prog 57 #[.string E, .pointer (some ⟨w.heap.size, 0, none⟩)] w1 fun e w' => e = .returned (.tuple #[]) ∧ Hid (Lt w w' w.heap.size w.heap.size (w.heap.size + 1) (l ++ E0)))
    (hmf : ∀ (fn : Fn) (first cap : Array Value) (w : World), (Instr.makeFunc fn first cap).run Tryz.prog w = .ok (.func fn first cap) w) :
    Calls Tryz.prog 30 #[.string (bs ds), .int .i64 p] w fun e w' => e = .returned (.string (bs (T1 ++ E0))) ∧ Below w.heap.size w w' := by
  have S0 := lt_start w
  have zX : (bs ds).size = L := by rw [bs_size]; exact hL
  have hw : IntKind.i64.wrap (p - 1) = p - 1 := by rw [IntKind.wrap_i64]; omega
  generalize hX : bs ds = X at *
  go_enter Tryz.func30, Tryz.ntmps30
  go_wp2_with fail
  have S1 := Lt.drewH S0
  have d0 := lt_cell S1
  have q1' := q1 _ S1
  clear S0 S1
  go_region_with (first | (go_at_call 57; refine q1'.mono ?_; rintro e w1 ⟨rfl, H1⟩))
  all_goals (clear q1' d0)
  all_goals (go_wp2_with fail)
  all_goals (have S2 := Lt.drewH H1; have d1 := lt_cell S2; have ex' := ex _ _ S2)
  all_goals (clear S2)
  all_goals (go_region_with (first | (go_at_call 60; refine ex'.mono ?_; rintro e w2 ⟨rfl, d2, H2⟩) | (go_at_call 57; refine (q3 _ _ H2 (by assumption)).mono ?_; rintro e w3 ⟨rfl, H3⟩)))
  all_goals (go_wp2_with fail; refine (lt_str H3.out).mono ?_; rintro e w4 ⟨rfl, hb4⟩; go_wp2; go_ret; exact ⟨rfl, hb4⟩)

set_option maxHeartbeats 4000000 in
theorem layout_en_hi (ds : List UInt8) (p : Int) (L : Nat) (Y Z E : ByteArray) (E0 T1 T2 : List UInt8) (hT1 : T1.length ≤ 20000) (hT2 : T2.length ≤ 20000) (w : World) (hL : ds.length = L) (hL1 : L ≤ 10000) (hc : 1 < L) (hp : 21 < p) (hp0 : -100000 ≤ p) (hp1 : p ≤ 100000)
    (hY : (bs ds).extract 0 1 = Y) (hZ : (bs ds).extract 1 L = Z) (zY : Y.size = 1) (zZ : Z.size = L - 1)
    (q1 : ∀ w1 : World, Hid (Lt w w1 w.heap.size w.heap.size (w.heap.size + 1) []) → Calls Tryz.prog 57 #[.string Y, .pointer (some ⟨w.heap.size, 0, none⟩)] w1 fun e w' => e = .returned (.tuple #[]) ∧ Hid (Lt w w' w.heap.size w.heap.size (w.heap.size + 1) T1))
    (q2 : ∀ w1 : World, Hid (Lt w w1 w.heap.size w.heap.size (w.heap.size + 1) T1) → Calls Tryz.prog 57 #[.string (ByteArray.mk #[46] ++ Z), .pointer (some ⟨w.heap.size, 0, none⟩)] w1 fun e w' => e = .returned (.tuple #[]) ∧ Hid (Lt w w' w.heap.size w.heap.size (w.heap.size + 1) T2))
    (ex : ∀ (w1 : World) (l : List UInt8), Hid (Lt w w1 w.heap.size w.heap.size (w.heap.size + 1) l) → Calls Tryz.prog 60 #[.int .i64 (p - 1)] w1 fun e w' => e = .returned (.string E) ∧ w'.cell? ⟨w.heap.size + 1, 0, none⟩ = some (.func (Fn.func 57) #[] #[.pointer (some ⟨w.heap.size, 0, none⟩)]) ∧ Hid (Lt w w' w.heap.size w.heap.size (w.heap.size + 1) l))
    (q3 : ∀ (w1 : World) (l : List UInt8), Hid (Lt w w1 w.heap.size w.heap.size (w.heap.size + 1) l) → l.length ≤ 20000 → Calls Tryz.prog 57 #[.string E, .pointer (some ⟨w.heap.size, 0, none⟩)] w1 fun e w' => e = .returned (.tuple #[]) ∧ Hid (Lt w w' w.heap.size w.heap.size (w.heap.size + 1) (l ++ E0)))
    (hmf : ∀ (fn : Fn) (first cap : Array Value) (w : World), (Instr.makeFunc fn first cap).run Tryz.prog w = .ok (.func fn first cap) w) :
    Calls Tryz.prog 30 #[.string (bs ds), .int .i64 p] w fun e w' => e = .returned (.string (bs (T2 ++ E0))) ∧ Below w.heap.size w w' := by
  have S0 := lt_start w
  have zX : (bs ds).size = L := by rw [bs_size]; exact hL
  have hw : IntKind.i64.wrap (p - 1) = p - 1 := by rw [IntKind.wrap_i64]; omega
  generalize hX : bs ds = X at *
  go_enter Tryz.func30, Tryz.ntmps30
  go_wp2_with fail
  have S1 := Lt.drewH S0
  have d0 := lt_cell S1
  have q1' := q1 _ S1
  clear S0 S1
  go_region_with (first | (go_at_call 57; refine q1'.mono ?_; rintro e w1 ⟨rfl, H1⟩))
  all_goals (clear q1' d0)
  all_goals (go_wp2_with fail)
  all_goals (have S2 := Lt.drewH H1; have d1 := lt_cell S2; have q2' := q2 _ S2)
  all_goals (clear S2)
  all_goals (go_region_with (first | (go_at_call 57; refine q2'.mono ?_; rintro e w5 ⟨rfl, H5⟩)))
  all_goals (clear q2' d1)
  all_goals (go_wp2_with fail)
  all_goals (have S2 := Lt.drewH H5; have d1 := lt_cell S2; have ex' := ex _ _ S2)
  all_goals (clear S2)
  all_goals (go_region_with (first | (go_at_call 60; refine ex'.mono ?_; rintro e w2 ⟨rfl, d2, H2⟩) | (go_at_call 57; refine (q3 _ _ H2 (by assumption)).mono ?_; rintro e w3 ⟨rfl, H3⟩)))
  all_goals (go_wp2_with fail; refine (lt_str H3.out).mono ?_; rintro e w4 ⟨rfl, hb4⟩; go_wp2; go_ret; exact ⟨rfl, hb4⟩)

set_option maxHeartbeats 4000000 in
theorem layout_e1_lo (ds : List UInt8) (p : Int) (L : Nat) (Y Z E : ByteArray) (E0 T1 T2 : List UInt8) (hT1 : T1.length ≤ 20000) (hT2 : T2.length ≤ 20000) (w : World) (hL : ds.length = L) (hL1 : L ≤ 10000) (hc : L = 1) (hp : p < -5) (hp0 : -100000 ≤ p) (hp1 : p ≤ 100000)
    (hY : (bs ds).extract 0 1 = Y) (hZ : (bs ds).extract 1 L = Z) (zY : Y.size = 1) (zZ : Z.size = L - 1)
    (q1 : ∀ w1 : World, Hid (Lt w w1 w.heap.size w.heap.size (w.heap.size + 1) []) → Calls Tryz.prog 57 #[.string Y, .pointer (some ⟨w.heap.size, 0, none⟩)] w1 fun e w' => e = .returned (.tuple #[]) ∧ Hid (Lt w w' w.heap.size w.heap.size (w.heap.size + 1) T1))
    (q2 : ∀ w1 : World, Hid (Lt w w1 w.heap.size w.heap.size (w.heap.size + 1) T1) → Calls Tryz.prog 57 #[.string (ByteArray.mk #[46] ++ Z), .pointer (some ⟨w.heap.size, 0, none⟩)] w1 fun e w' => e = .returned (.tuple #[]) ∧ Hid (Lt w w' w.heap.size w.heap.size (w.heap.size + 1) T2))
    (ex : ∀ (w1 : World) (l : List UInt8), Hid (Lt w w1 w.heap.size w.heap.size (w.heap.size + 1) l) → Calls Tryz.prog 60 #[.int .i64 (p - 1)] w1 fun e w' => e = .returned (.string E) ∧ w'.cell? ⟨w.heap.size + 1, 0, none⟩ = some (.func (Fn.func 57) #[] #[.pointer (some ⟨w.heap.size, 0, none⟩)]) ∧ Hid (Lt w w' w.heap.size w.heap.size (w.heap.size + 1) l))
    (q3 : ∀ (w1 : World) (l : List UInt8), Hid (Lt w w1 w.heap.size w.heap.size (w.heap.size + 1) l) → l.length ≤ 20000 → Calls Tryz.prog 57 #[.string E, .pointer (some ⟨w.heap.size, 0, none⟩)] w1 fun e w' => e = .returned (.tuple #[]) ∧ Hid (Lt w w' w.heap.size w.heap.size (w.heap.size + 1) (l ++ E0)))
    (hmf : ∀ (fn : Fn) (first cap : Array Value) (w : World), (Instr.makeFunc fn first cap).run Tryz.prog w = .ok (.func fn first cap) w) :
    Calls Tryz.prog 30 #[.string (bs ds), .int .i64 p] w fun e w' => e = .returned (.string (bs (T1 ++ E0))) ∧ Below w.heap.size w w' := by
  have S0 := lt_start w
  have zX : (bs ds).size = L := by rw [bs_size]; exact hL
  have hw : IntKind.i64.wrap (p - 1) = p - 1 := by rw [IntKind.wrap_i64]; omega
  generalize hX : bs ds = X at *
  go_enter Tryz.func30, Tryz.ntmps30
  go_wp2_with fail
  have S1 := Lt.drewH S0
  have d0 := lt_cell S1
  have q1' := q1 _ S1
  clear S0 S1
  go_region_with (first | (go_at_call 57; refine q1'.mono ?_; rintro e w1 ⟨rfl, H1⟩))
  all_goals (clear q1' d0)
  all_goals (go_wp2_with fail)
  all_goals (have S2 := Lt.drewH H1; have d1 := lt_cell S2; have ex' := ex _ _ S2)
  all_goals (clear S2)
  all_goals (go_region_with (first | (go_at_call 60; refine ex'.mono ?_; rintro e w2 ⟨rfl, d2, H2⟩) | (go_at_call 57; refine (q3 _ _ H2 (by assumption)).mono ?_; rintro e w3 ⟨rfl, H3⟩)))
  all_goals (go_wp2_with fail; refine (lt_str H3.out).mono ?_; rintro e w4 ⟨rfl, hb4⟩; go_wp2; go_ret; exact ⟨rfl, hb4⟩)

set_option maxHeartbeats 4000000 in
theorem layout_en_lo (ds : List UInt8) (p : Int) (L : Nat) (Y Z E : ByteArray) (E0 T1 T2 : List UInt8) (hT1 : T1.length ≤ 20000) (hT2 : T2.length ≤ 20000) (w : World) (hL : ds.length = L) (hL1 : L ≤ 10000) (hc : 1 < L) (hp : p < -5) (hp0 : -100000 ≤ p) (hp1 : p ≤ 100000)
    (hY : (bs ds).extract 0 1 = Y) (hZ : (bs ds).extract 1 L = Z) (zY : Y.size = 1) (zZ : Z.size = L - 1)
    (q1 : ∀ w1 : World, Hid (Lt w w1 w.heap.size w.heap.size (w.heap.size + 1) []) → Calls Tryz.prog 57 #[.string Y, .pointer (some ⟨w.heap.size, 0, none⟩)] w1 fun e w' => e = .returned (.tuple #[]) ∧ Hid (Lt w w' w.heap.size w.heap.size (w.heap.size + 1) T1))
    (q2 : ∀ w1 : World, Hid (Lt w w1 w.heap.size w.heap.size (w.heap.size + 1) T1) → Calls Tryz.prog 57 #[.string (ByteArray.mk #[46] ++ Z), .pointer (some ⟨w.heap.size, 0, none⟩)] w1 fun e w' => e = .returned (.tuple #[]) ∧ Hid (Lt w w' w.heap.size w.heap.size (w.heap.size + 1) T2))
    (ex : ∀ (w1 : World) (l : List UInt8), Hid (Lt w w1 w.heap.size w.heap.size (w.heap.size + 1) l) → Calls Tryz.prog 60 #[.int .i64 (p - 1)] w1 fun e w' => e = .returned (.string E) ∧ w'.cell? ⟨w.heap.size + 1, 0, none⟩ = some (.func (Fn.func 57) #[] #[.pointer (some ⟨w.heap.size, 0, none⟩)]) ∧ Hid (Lt w w' w.heap.size w.heap.size (w.heap.size + 1) l))
    (q3 : ∀ (w1 : World) (l : List UInt8), Hid (Lt w w1 w.heap.size w.heap.size (w.heap.size + 1) l) → l.length ≤ 20000 → Calls Tryz.prog 57 #[.string E, .pointer (some ⟨w.heap.size, 0, none⟩)] w1 fun e w' => e = .returned (.tuple #[]) ∧ Hid (Lt w w' w.heap.size w.heap.size (w.heap.size + 1) (l ++ E0)))
    (hmf : ∀ (fn : Fn) (first cap : Array Value) (w : World), (Instr.makeFunc fn first cap).run Tryz.prog w = .ok (.func fn first cap) w) :
    Calls Tryz.prog 30 #[.string (bs ds), .int .i64 p] w fun e w' => e = .returned (.string (bs (T2 ++ E0))) ∧ Below w.heap.size w w' := by
  have S0 := lt_start w
  have zX : (bs ds).size = L := by rw [bs_size]; exact hL
  have hw : IntKind.i64.wrap (p - 1) = p - 1 := by rw [IntKind.wrap_i64]; omega
  generalize hX : bs ds = X at *
  go_enter Tryz.func30, Tryz.ntmps30
  go_wp2_with fail
  have S1 := Lt.drewH S0
  have d0 := lt_cell S1
  have q1' := q1 _ S1
  clear S0 S1
  go_region_with (first | (go_at_call 57; refine q1'.mono ?_; rintro e w1 ⟨rfl, H1⟩))
  all_goals (clear q1' d0)
  all_goals (go_wp2_with fail)
  all_goals (have S2 := Lt.drewH H1; have d1 := lt_cell S2; have q2' := q2 _ S2)
  all_goals (clear S2)
  all_goals (go_region_with (first | (go_at_call 57; refine q2'.mono ?_; rintro e w5 ⟨rfl, H5⟩)))
  all_goals (clear q2' d1)
  all_goals (go_wp2_with fail)
  all_goals (have S2 := Lt.drewH H5; have d1 := lt_cell S2; have ex' := ex _ _ S2)
  all_goals (clear S2)
  all_goals (go_region_with (first | (go_at_call 60; refine ex'.mono ?_; rintro e w2 ⟨rfl, d2, H2⟩) | (go_at_call 57; refine (q3 _ _ H2 (by assumption)).mono ?_; rintro e w3 ⟨rfl, H3⟩)))
  all_goals (go_wp2_with fail; refine (lt_str H3.out).mono ?_; rintro e w4 ⟨rfl, hb4⟩; go_wp2; go_ret; exact ⟨rfl, hb4⟩)

end Go.Proofs.YtpejebohekcfoaaGreatDoor
/- The contract of layout. -/
namespace Go.Proofs.YtpejebohekcfoaaGreatDoor
open Go.RowKit
set_option linter.unusedVariables false

/-- digits with their point, as a text -/
def layI (ds : List UInt8) (p : Int) : List UInt8 :=
  if 21 < p ∨ p < -5 then (if ds.length = 1 then ds.take 1 else ds.take 1 ++ 46 :: ds.drop 1) ++ expL (p - 1)
  else if p ≤ 0 then [48, 46] ++ List.replicate (-p).toNat 48 ++ ds
  else if p < ds.length then ds.take p.toNat ++ 46 :: ds.drop p.toNat
  else ds ++ List.replicate (p - ds.length).toNat 48

theorem grown_below {w w' : World} (h : Below w.heap.size w w') : w.grownBy w' none := ⟨h.os, h.tape, h.output, h.size, fun k hk _ => h.block k hk⟩

theorem IsB_grown0 {w w' : World} {B bt : Nat} {bs : List Value} (h : Lib.IsBuilder 73 5 B bt bs w) (g : w.grownBy w' none) : Lib.IsBuilder 73 5 B bt bs w' := by
  rcases h with h | h
  · exact Or.inl (BuilderAt_others h g)
  · exact Or.inr (BuilderAt_others h g)

theorem Lt.keep {w0 wr w' : World} {B bt bp : Nat} {l : List UInt8} (h : Lt w0 wr B bt bp l) (hb : Below wr.heap.size wr w') : Lt w0 w' B bt bp l := by
  have g := grown_below hb
  refine ⟨IsB_grown0 h.bd g, (g.block bp (Array.getElem?_eq_some_iff.1 h.put).1 (by simp)).trans h.put, h.below.trans (hb.mono h.lt), Nat.le_trans h.lt hb.size⟩

theorem layout_any (ds : List UInt8) (p : Int) (w : World) (ht : Pow10 w) (hne : ds ≠ []) (hl : ds.length ≤ 10000) (hp0 : -50000 ≤ p) (hp1 : p ≤ 50000) :
    Calls Tryz.prog 30 #[.string (bs ds), .int .i64 p] w fun e w' => e = .returned (.string (bs (layI ds p))) ∧ Below w.heap.size w w' := by
  have hmf : ∀ (fn : Fn) (first cap : Array Value) (w : World), (Instr.makeFunc fn first cap).run Tryz.prog w = .ok (.func fn first cap) w := fun _ _ _ _ => rfl
  have L0 : 0 < ds.length := List.length_pos_iff.2 hne
  unfold layI
  by_cases c : 21 < p ∨ p < -5
  · rw [if_pos c]
    have eY : (bs ds).extract 0 1 = bs (ds.take 1) := by rw [ext_bs]; simp
    have eZ : (bs ds).extract 1 ds.length = bs (ds.drop 1) := by rw [ext_bs, List.take_of_length_le (by simp)]
    have q1 : ∀ w1 : World, Hid (Lt w w1 w.heap.size w.heap.size (w.heap.size + 1) []) → Calls Tryz.prog 57 #[.string (bs (ds.take 1)), .pointer (some ⟨w.heap.size, 0, none⟩)] w1 fun e w' => e = .returned (.tuple #[]) ∧ Hid (Lt w w' w.heap.size w.heap.size (w.heap.size + 1) (ds.take 1)) := by
      intro w1 h
      exact lt_put (ds.take 1) h.out (by simp; omega)
    have q2 : ∀ w1 : World, Hid (Lt w w1 w.heap.size w.heap.size (w.heap.size + 1) (ds.take 1)) → Calls Tryz.prog 57 #[.string (ByteArray.mk #[46] ++ bs (ds.drop 1)), .pointer (some ⟨w.heap.size, 0, none⟩)] w1 fun e w' => e = .returned (.tuple #[]) ∧ Hid (Lt w w' w.heap.size w.heap.size (w.heap.size + 1) (ds.take 1 ++ 46 :: ds.drop 1)) := by
      intro w1 h
      rw [show ByteArray.mk #[46] ++ bs (ds.drop 1) = bs (46 :: ds.drop 1) from by rw [show ByteArray.mk #[46] = bs [46] from rfl, bs_app]; rfl]
      exact lt_put (46 :: ds.drop 1) h.out (by simp; omega)
    have ex : ∀ (w1 : World) (l : List UInt8), Hid (Lt w w1 w.heap.size w.heap.size (w.heap.size + 1) l) → Calls Tryz.prog 60 #[.int .i64 (p - 1)] w1 fun e w' => e = .returned (.string (bs (expL (p - 1)))) ∧ w'.cell? ⟨w.heap.size + 1, 0, none⟩ = some (.func (Fn.func 57) #[] #[.pointer (some ⟨w.heap.size, 0, none⟩)]) ∧ Hid (Lt w w' w.heap.size w.heap.size (w.heap.size + 1) l) := by
      intro w1 l h
      refine (exponent_any (p - 1) w1 (by omega) (by omega) (pow10_below ht h.out.below)).mono ?_
      rintro e w' ⟨rfl, hb⟩
      have k : Hid (Lt w w' w.heap.size w.heap.size (w.heap.size + 1) l) := h.out.keep hb
      exact ⟨rfl, lt_cell k, k⟩
    have le : (expL (p - 1)).length ≤ 100 := by
      have := itoa_len (p - 1) (by omega)
      unfold expL
      split <;> simp <;> omega
    have q3 : ∀ (w1 : World) (l : List UInt8), Hid (Lt w w1 w.heap.size w.heap.size (w.heap.size + 1) l) → l.length ≤ 20000 → Calls Tryz.prog 57 #[.string (bs (expL (p - 1))), .pointer (some ⟨w.heap.size, 0, none⟩)] w1 fun e w' => e = .returned (.tuple #[]) ∧ Hid (Lt w w' w.heap.size w.heap.size (w.heap.size + 1) (l ++ expL (p - 1))) := by
      intro w1 l h hl
      exact lt_put (expL (p - 1)) h.out (by omega)
    have zY : (bs (ds.take 1)).size = 1 := by rw [bs_size]; simp; omega
    have zZ : (bs (ds.drop 1)).size = ds.length - 1 := by rw [bs_size]; simp
    rcases Nat.lt_or_ge 1 ds.length with h1 | h1
    · rw [if_neg (by omega)]
      rcases c with c | c
      · exact layout_en_hi ds p ds.length _ _ _ _ (ds.take 1) (ds.take 1 ++ 46 :: ds.drop 1) (by simp; omega) (by simp; omega) w rfl hl h1 c (by omega) (by omega) eY eZ zY zZ q1 q2 ex q3 hmf
      · exact layout_en_lo ds p ds.length _ _ _ _ (ds.take 1) (ds.take 1 ++ 46 :: ds.drop 1) (by simp; omega) (by simp; omega) w rfl hl h1 c (by omega) (by omega) eY eZ zY zZ q1 q2 ex q3 hmf
    · rw [if_pos (by omega)]
      rcases c with c | c
      · exact layout_e1_hi ds p ds.length _ _ _ _ (ds.take 1) (ds.take 1 ++ 46 :: ds.drop 1) (by simp; omega) (by simp; omega) w rfl hl (by omega) c (by omega) (by omega) eY eZ zY zZ q1 q2 ex q3 hmf
      · exact layout_e1_lo ds p ds.length _ _ _ _ (ds.take 1) (ds.take 1 ++ 46 :: ds.drop 1) (by simp; omega) (by simp; omega) w rfl hl (by omega) c (by omega) (by omega) eY eZ zY zZ q1 q2 ex q3 hmf
  · rw [if_neg c]
    by_cases c1 : p ≤ 0
    · rw [if_pos c1]
      exact layout_neg ds p (-p).toNat w c1 (by omega) (by omega) (by omega) hmf
    · rw [if_neg c1]
      by_cases c2 : p < ds.length
      · rw [if_pos c2]
        obtain ⟨k, rfl⟩ : ∃ k : Nat, p = k := ⟨p.toNat, by omega⟩
        rw [show ((k : Int)).toNat = k from by omega]
        have zY : (bs ((ds.drop 0).take (k - 0))).size = k := by rw [bs_size]; simp; omega
        have zZ : (bs ((ds.drop k).take (ds.length - k))).size = ds.length - k := by rw [bs_size]; simp
        have pt : ∀ w1 : World, Hid (Lt w w1 w.heap.size w.heap.size (w.heap.size + 1) []) → Calls Tryz.prog 57 #[.string (bs ((ds.drop 0).take (k - 0)) ++ ByteArray.mk #[46] ++ bs ((ds.drop k).take (ds.length - k))), .pointer (some ⟨w.heap.size, 0, none⟩)] w1 fun e w' => e = .returned (.tuple #[]) ∧ Hid (Lt w w' w.heap.size w.heap.size (w.heap.size + 1) (ds.take k ++ 46 :: ds.drop k)) := by
          intro w1 h
          have e : bs ((ds.drop 0).take (k - 0)) ++ ByteArray.mk #[46] ++ bs ((ds.drop k).take (ds.length - k)) = bs (ds.take k ++ 46 :: ds.drop k) := by
            rw [show ByteArray.mk #[46] = bs [46] from rfl, bs_app, bs_app, List.take_of_length_le (l := ds.drop k) (by simp)]
            simp
          rw [e]
          have := lt_put (ds.take k ++ 46 :: ds.drop k) h.out (by simp; omega)
          rw [List.nil_append] at this
          exact this
        exact layout_mid ds k ds.length _ _ ByteArray.empty w rfl hl (by omega) (by omega) (by omega) (ext_bs ds 0 k) (ext_bs ds k ds.length) zY zZ pt hmf
      · rw [if_neg c2]
        exact layout_big ds p ds.length _ w rfl (by omega) (by omega) (by omega) (by omega) hmf

end Go.Proofs.YtpejebohekcfoaaGreatDoor
/- How many digits there are at most. -/
namespace Go.Proofs.YtpejebohekcfoaaGreatDoor
open Go.RowKit
set_option linter.unusedVariables false

theorem digsF_len (T : Nat) (cl : Bool) : ∀ (j f V L U : Nat), T < U * 10 ^ (j + 1) → (digsF f V L U T cl).length ≤ j + 1 := by
  intro j
  induction j with
  | zero =>
    intro f V L U h
    cases f with
    | zero => rw [digsF]; simp
    | succ f =>
      rw [digsF]
      have up : inN T (V * 10 % T + U * 10) cl = true := by
        unfold inN
        rw [decide_eq_true (by rw [Nat.zero_add, Nat.pow_one] at h; omega)]
        rfl
      rw [if_pos (by rw [up]; simp)]
      simp
  | succ j ih =>
    intro f V L U h
    cases f with
    | zero => rw [digsF]; simp
    | succ f =>
      rw [digsF]
      split
      · simp
      · rw [List.length_cons]
        have := ih f (V * 10 % T) (L * 10) (U * 10) (by rw [← ten_next]; exact h)
        omega

theorem shD_len (a : Nat) (h0 : 0 < a) (h1 : a < 9218868437227405312) : (shD a).length ≤ 3000 := by
  obtain ⟨K, hK0, hK1⟩ : ∃ K : Nat, 1100 ≤ K ∧ K ≤ 1100 := ⟨1100, by omega, by omega⟩
  obtain ⟨t1, u1, l1⟩ := sh1_bd a K h0 h1 hK0
  have p : 2 ^ (K + 1700) ≤ 10 ^ (K + 1700) := Nat.pow_le_pow_left (by decide) _
  have q : 10 ^ (K + 1700) ≤ shU1 a * 10 ^ (K + 1700) := Nat.le_mul_of_pos_left _ u1
  have := digsF_len (shT1 a) (shC a) (K + 1699) (shT1 a + 1) (shV1 a) (shL1 a) (shU1 a) (by rw [show K + 1699 + 1 = K + 1700 from by omega]; omega)
  unfold shD
  omega

theorem digsF_ne (f V L U T : Nat) (cl : Bool) : digsF (f + 1) V L U T cl ≠ [] := by
  rw [digsF]
  split <;> simp

theorem shD_ne (a : Nat) : shD a ≠ [] := digsF_ne _ _ _ _ _ _

theorem txt_length (ds : List Nat) : (txt ds).length = ds.length := by unfold txt; simp

end Go.Proofs.YtpejebohekcfoaaGreatDoor
/- The walk of Print: all of it. -/
namespace Go.Proofs.YtpejebohekcfoaaGreatDoor
open Go.RowKit
set_option linter.unusedVariables false

theorem formatInt_any (n : Int) (h0 : -9223372036854775808 ≤ n) (h1 : n ≤ 9223372036854775807) (w : World) (ht : Pow10 w) :
    Calls Tryz.prog 24 #[.int .i64 n, .int .i64 10] w fun e w' => e = .returned (.string (bs (Lib.itoa n))) ∧ Below w.heap.size w w' := by
  have c : Calls Tryz.prog 55 #[.int .i64 n, .int .i64 10] w fun e w' => e = .returned (.string (bs (Lib.itoa n))) ∧ Below w.heap.size w w' := by
    refine (Tryz.internal_strconv_FormatInt_10 n h0 h1 w ht).mono ?_
    rintro e w' ⟨rfl, k, os, rfl⟩
    exact ⟨rfl, Lib.below_grow _ w (Nat.le_refl _) k os⟩
  clear ht
  go_enter Tryz.func24, Tryz.ntmps24
  go_wp2_with (go_at_call 55; refine c.mono ?_; rintro e w' ⟨rfl, hb⟩)
  go_ret
  exact ⟨rfl, hb⟩

theorem print_whole (A n : Int) (S : ByteArray) (w : World)
    (cw : ∀ w1, Below w.heap.size w w1 → Calls Tryz.prog 23 #[.int .u64 A] w1 fun e w' => e = .returned (.tuple #[.int .i64 n, .bool true]) ∧ Below w.heap.size w w')
    (cf : ∀ w1, Below w.heap.size w w1 → Calls Tryz.prog 24 #[.int .i64 n, .int .i64 10] w1 fun e w' => e = .returned (.string S) ∧ Below w.heap.size w w') :
    Calls Tryz.prog 10 #[.int .u64 A] w fun e w' => e = .returned (.string S) ∧ Below w.heap.size w w' := by
  go_enter Tryz.func10, Tryz.ntmps10
  go_wp2_with fail
  refine (cw _ (Below.refl _ _)).mono ?_
  rintro e w1 ⟨rfl, hb1⟩
  go_wp2_with fail
  refine (cf _ hb1).mono ?_
  rintro e w2 ⟨rfl, hb2⟩
  go_wp2
  go_ret
  exact ⟨rfl, hb2⟩

theorem print_nan (A n : Int) (w : World)
    (cw : ∀ w1, Below w.heap.size w w1 → Calls Tryz.prog 23 #[.int .u64 A] w1 fun e w' => e = .returned (.tuple #[.int .i64 n, .bool false]) ∧ Below w.heap.size w w')
    (cn : ∀ w1, Below w.heap.size w w1 → Calls Tryz.prog 25 #[.int .u64 A] w1 fun e w' => e = .returned (.bool true) ∧ Below w.heap.size w w') :
    Calls Tryz.prog 10 #[.int .u64 A] w fun e w' => e = .returned (.string (bs [78, 97, 78])) ∧ Below w.heap.size w w' := by
  go_enter Tryz.func10, Tryz.ntmps10
  go_wp2_with fail
  refine (cw _ (Below.refl _ _)).mono ?_
  rintro e w1 ⟨rfl, hb1⟩
  go_wp2_with fail
  refine (cn _ hb1).mono ?_
  rintro e w2 ⟨rfl, hb2⟩
  go_wp2
  go_ret
  exact ⟨rfl, hb2⟩

theorem print_neg (A n M : Int) (S : ByteArray) (m : Nat) (w : World) (zS : S.size = m) (hm : m ≤ 1000000)
    (cw : ∀ w1, Below w.heap.size w w1 → Calls Tryz.prog 23 #[.int .u64 A] w1 fun e w' => e = .returned (.tuple #[.int .i64 n, .bool false]) ∧ Below w.heap.size w w')
    (cn : ∀ w1, Below w.heap.size w w1 → Calls Tryz.prog 25 #[.int .u64 A] w1 fun e w' => e = .returned (.bool false) ∧ Below w.heap.size w w')
    (cl : ∀ w1, Below w.heap.size w w1 → Calls Tryz.prog 26 #[.int .u64 A, .int .u64 0] w1 fun e w' => e = .returned (.bool true) ∧ Below w.heap.size w w')
    (cg : ∀ w1, Below w.heap.size w w1 → Calls Tryz.prog 27 #[.int .u64 A] w1 fun e w' => e = .returned (.int .u64 M) ∧ Below w.heap.size w w')
    (cp : ∀ w1, Below w.heap.size w w1 → Calls Tryz.prog 10 #[.int .u64 M] w1 fun e w' => e = .returned (.string S) ∧ Below w.heap.size w w') :
    Calls Tryz.prog 10 #[.int .u64 A] w fun e w' => e = .returned (.string (bs [45] ++ S)) ∧ Below w.heap.size w w' := by
  go_enter Tryz.func10, Tryz.ntmps10
  go_wp2_with fail
  refine (cw _ (Below.refl _ _)).mono ?_
  rintro e w1 ⟨rfl, hb1⟩
  go_wp2_with fail
  refine (cn _ hb1).mono ?_
  rintro e w2 ⟨rfl, hb2⟩
  go_wp2_with fail
  refine (cl _ hb2).mono ?_
  rintro e w3 ⟨rfl, hb3⟩
  go_wp2_with fail
  refine (cg _ hb3).mono ?_
  rintro e w4 ⟨rfl, hb4⟩
  go_wp2_with fail
  refine (cp _ hb4).mono ?_
  rintro e w5 ⟨rfl, hb5⟩
  go_wp2
  go_ret
  exact ⟨rfl, hb5⟩

theorem print_inf (A n : Int) (w : World)
    (cw : ∀ w1, Below w.heap.size w w1 → Calls Tryz.prog 23 #[.int .u64 A] w1 fun e w' => e = .returned (.tuple #[.int .i64 n, .bool false]) ∧ Below w.heap.size w w')
    (cn : ∀ w1, Below w.heap.size w w1 → Calls Tryz.prog 25 #[.int .u64 A] w1 fun e w' => e = .returned (.bool false) ∧ Below w.heap.size w w')
    (cl : ∀ w1, Below w.heap.size w w1 → Calls Tryz.prog 26 #[.int .u64 A, .int .u64 0] w1 fun e w' => e = .returned (.bool false) ∧ Below w.heap.size w w')
    (ci : ∀ w1, Below w.heap.size w w1 → Calls Tryz.prog 28 #[.int .u64 A] w1 fun e w' => e = .returned (.bool true) ∧ Below w.heap.size w w') :
    Calls Tryz.prog 10 #[.int .u64 A] w fun e w' => e = .returned (.string (bs [73, 110, 102, 105, 110, 105, 116, 121])) ∧ Below w.heap.size w w' := by
  go_enter Tryz.func10, Tryz.ntmps10
  go_wp2_with fail
  refine (cw _ (Below.refl _ _)).mono ?_
  rintro e w1 ⟨rfl, hb1⟩
  go_wp2_with fail
  refine (cn _ hb1).mono ?_
  rintro e w2 ⟨rfl, hb2⟩
  go_wp2_with fail
  refine (cl _ hb2).mono ?_
  rintro e w3 ⟨rfl, hb3⟩
  go_wp2_with fail
  refine (ci _ hb3).mono ?_
  rintro e w4 ⟨rfl, hb4⟩
  go_wp2
  go_ret
  exact ⟨rfl, hb4⟩

theorem print_zero (A n : Int) (w : World)
    (cw : ∀ w1, Below w.heap.size w w1 → Calls Tryz.prog 23 #[.int .u64 A] w1 fun e w' => e = .returned (.tuple #[.int .i64 n, .bool false]) ∧ Below w.heap.size w w')
    (cn : ∀ w1, Below w.heap.size w w1 → Calls Tryz.prog 25 #[.int .u64 A] w1 fun e w' => e = .returned (.bool false) ∧ Below w.heap.size w w')
    (cl : ∀ w1, Below w.heap.size w w1 → Calls Tryz.prog 26 #[.int .u64 A, .int .u64 0] w1 fun e w' => e = .returned (.bool false) ∧ Below w.heap.size w w')
    (ci : ∀ w1, Below w.heap.size w w1 → Calls Tryz.prog 28 #[.int .u64 A] w1 fun e w' => e = .returned (.bool false) ∧ Below w.heap.size w w')
    (ce : ∀ w1, Below w.heap.size w w1 → Calls Tryz.prog 29 #[.int .u64 A, .int .u64 0] w1 fun e w' => e = .returned (.bool true) ∧ Below w.heap.size w w') :
    Calls Tryz.prog 10 #[.int .u64 A] w fun e w' => e = .returned (.string (bs [48])) ∧ Below w.heap.size w w' := by
  go_enter Tryz.func10, Tryz.ntmps10
  go_wp2_with fail
  refine (cw _ (Below.refl _ _)).mono ?_
  rintro e w1 ⟨rfl, hb1⟩
  go_wp2_with fail
  refine (cn _ hb1).mono ?_
  rintro e w2 ⟨rfl, hb2⟩
  go_wp2_with fail
  refine (cl _ hb2).mono ?_
  rintro e w3 ⟨rfl, hb3⟩
  go_wp2_with fail
  refine (ci _ hb3).mono ?_
  rintro e w4 ⟨rfl, hb4⟩
  go_wp2_with fail
  refine (ce _ hb4).mono ?_
  rintro e w5 ⟨rfl, hb5⟩
  go_wp2
  go_ret
  exact ⟨rfl, hb5⟩

theorem print_rest (A n P : Int) (S X : ByteArray) (w : World)
    (cw : ∀ w1, Below w.heap.size w w1 → Calls Tryz.prog 23 #[.int .u64 A] w1 fun e w' => e = .returned (.tuple #[.int .i64 n, .bool false]) ∧ Below w.heap.size w w')
    (cn : ∀ w1, Below w.heap.size w w1 → Calls Tryz.prog 25 #[.int .u64 A] w1 fun e w' => e = .returned (.bool false) ∧ Below w.heap.size w w')
    (cl : ∀ w1, Below w.heap.size w w1 → Calls Tryz.prog 26 #[.int .u64 A, .int .u64 0] w1 fun e w' => e = .returned (.bool false) ∧ Below w.heap.size w w')
    (ci : ∀ w1, Below w.heap.size w w1 → Calls Tryz.prog 28 #[.int .u64 A] w1 fun e w' => e = .returned (.bool false) ∧ Below w.heap.size w w')
    (ce : ∀ w1, Below w.heap.size w w1 → Calls Tryz.prog 29 #[.int .u64 A, .int .u64 0] w1 fun e w' => e = .returned (.bool false) ∧ Below w.heap.size w w')
    (cs : ∀ w1, Below w.heap.size w w1 → Calls Tryz.prog 31 #[.int .u64 A] w1 fun e w' => e = .returned (.tuple #[.string S, .int .i64 P]) ∧ Below w.heap.size w w')
    (cy : ∀ w1, Below w.heap.size w w1 → Calls Tryz.prog 30 #[.string S, .int .i64 P] w1 fun e w' => e = .returned (.string X) ∧ Below w.heap.size w w') :
    Calls Tryz.prog 10 #[.int .u64 A] w fun e w' => e = .returned (.string X) ∧ Below w.heap.size w w' := by
  go_enter Tryz.func10, Tryz.ntmps10
  go_wp2_with fail
  refine (cw _ (Below.refl _ _)).mono ?_
  rintro e w1 ⟨rfl, hb1⟩
  go_wp2_with fail
  refine (cn _ hb1).mono ?_
  rintro e w2 ⟨rfl, hb2⟩
  go_wp2_with fail
  refine (cl _ hb2).mono ?_
  rintro e w3 ⟨rfl, hb3⟩
  go_wp2_with fail
  refine (ci _ hb3).mono ?_
  rintro e w4 ⟨rfl, hb4⟩
  go_wp2_with fail
  refine (ce _ hb4).mono ?_
  rintro e w5 ⟨rfl, hb5⟩
  go_wp2_with fail
  refine (cs _ hb5).mono ?_
  rintro e w6 ⟨rfl, hb6⟩
  go_wp2_with fail
  refine (cy _ hb6).mono ?_
  rintro e w7 ⟨rfl, hb7⟩
  go_wp2
  go_ret
  exact ⟨rfl, hb7⟩

end Go.Proofs.YtpejebohekcfoaaGreatDoor
/- The contract of Print. -/
namespace Go.Proofs.YtpejebohekcfoaaGreatDoor
open Go.RowKit
set_option linter.unusedVariables false

/-- the text of a number that is not below 0 -/
def printQ (a : Int) : List UInt8 :=
  if (wholeI a).2 = true then Lib.itoa (wholeI a).1
  else if kindI a = 3 then [78, 97, 78]
  else if kindI a = 2 then [73, 110, 102, 105, 110, 105, 116, 121]
  else if equalI a 0 = true then [48]
  else layI (txt (shD a.toNat)) (shP a.toNat)

/-- the text of a number -/
def printI (a : Int) : List UInt8 := if (wholeI a).2 = false ∧ lessI a 0 = true then 45 :: printQ (negI a) else printQ a

theorem whole_bd (a : Int) (h0 : 0 ≤ a) (h1 : a < 18446744073709551616) : -9223372036854775808 ≤ (wholeI a).1 ∧ (wholeI a).1 ≤ 9223372036854775807 := by
  unfold wholeI
  split
  · exact ⟨by decide, by decide⟩
  · split
    · exact ⟨by decide, by decide⟩
    · rename_i h2 h3
      have k : kindI a = 1 := by
        rcases Decidable.em (kindI a = 1) with h | h
        · exact h
        · exact absurd (Or.inl h) h3
      have e : expI a ≤ 0 := by
        rcases Int.lt_or_le 0 (expI a) with h | h
        · exact absurd (Or.inr (Or.inl h)) h3
        · exact h
      obtain ⟨_, f, _⟩ := read_fin a h0 h1 k
      have p := f.pos
      have q := f.lt
      have s := size_small (manI a) (expI a) (by omega) (by omega) e
      have t := size_bd (manI a) (expI a) (by omega) (by omega)
      dsimp only
      split <;> omega

theorem shJ_le (a : Nat) (h0 : 0 < a) (h1 : a < 9218868437227405312) : shJ a ≤ 3000 := by
  obtain ⟨K, hK0, hK1⟩ : ∃ K : Nat, 1100 ≤ K ∧ K ≤ 1100 := ⟨1100, by omega, by omega⟩
  obtain ⟨q1, q2, q3, q4, q5, q6, q7⟩ := sh_bd a K h0 h1 hK0
  have g := shG_bd a h0 h1
  have v := up_lt (tens_lt (j := (-shG a).toNat) q1) (show K + 4 * (-shG a).toNat ≤ K + 1600 by omega)
  have u := up_lt (tens_lt (j := (-shG a).toNat) q3) (show K + 4 * (-shG a).toNat ≤ K + 1600 by omega)
  change shV1 a < _ at v
  change shU1 a < _ at u
  rcases Nat.eq_zero_or_pos (shJ a) with c | c
  · omega
  · have h2 := in_le ((sh_stop a h0 h1).2 (shJ a - 1) (by omega))
    have P : 2 ^ (K + 1601) = 2 ^ (K + 1600) * 2 := by rw [show K + 1601 = (K + 1600) + 1 from by omega, Nat.pow_succ]
    have := pow_bound (K := K + 1601) (T := shT0 a) (Nat.mul_pos q6 (Nat.pow_pos (by decide))) h2 (by omega)
    omega

theorem shP_bd (a : Nat) (h0 : 0 < a) (h1 : a < 9218868437227405312) : -4000 ≤ shP a ∧ shP a ≤ 4000 := by
  have g := shG_bd a h0 h1
  have j := shJ_le a h0 h1
  unfold shP
  omega

theorem between {w : World} {f : Nat} {args : Array Value} {Q : Ending → Prop} (h : ∀ w1, Calls Tryz.prog f args w1 fun e w' => Q e ∧ Below w1.heap.size w1 w') :
    ∀ w1, Below w.heap.size w w1 → Calls Tryz.prog f args w1 fun e w' => Q e ∧ Below w.heap.size w w' := after h

theorem printQ_any (a : Int) (h0 : 0 ≤ a) (h1 : a < 18446744073709551616) (hn : (wholeI a).2 = true ∨ lessI a 0 = false) (w : World) (ht : Pow10 w) :
    Calls Tryz.prog 10 #[.int .u64 a] w fun e w' => e = .returned (.string (bs (printQ a))) ∧ Below w.heap.size w w' := by
  have cw : ∀ w1, Below w.heap.size w w1 → Calls Tryz.prog 23 #[.int .u64 a] w1 fun e w' => e = .returned (.tuple #[.int .i64 (wholeI a).1, .bool (wholeI a).2]) ∧ Below w.heap.size w w' := after (Q := fun e => e = .returned (.tuple #[.int .i64 (wholeI a).1, .bool (wholeI a).2])) (fun w1 => whole_any a w1 h0 h1)
  have cn : ∀ w1, Below w.heap.size w w1 → Calls Tryz.prog 25 #[.int .u64 a] w1 fun e w' => e = .returned (.bool (kindI a == 3)) ∧ Below w.heap.size w w' := after (Q := fun e => e = .returned (.bool (kindI a == 3))) (fun w1 => isNaN_any a w1 h0 h1)
  have cl : ∀ w1, Below w.heap.size w w1 → Calls Tryz.prog 26 #[.int .u64 a, .int .u64 0] w1 fun e w' => e = .returned (.bool (lessI a 0)) ∧ Below w.heap.size w w' := after (Q := fun e => e = .returned (.bool (lessI a 0))) (fun w1 => less_any a 0 w1 h0 h1 (by omega) (by omega))
  have ci : ∀ w1, Below w.heap.size w w1 → Calls Tryz.prog 28 #[.int .u64 a] w1 fun e w' => e = .returned (.bool (kindI a == 2)) ∧ Below w.heap.size w w' := after (Q := fun e => e = .returned (.bool (kindI a == 2))) (fun w1 => isInf_any a w1 h0 h1)
  have ce : ∀ w1, Below w.heap.size w w1 → Calls Tryz.prog 29 #[.int .u64 a, .int .u64 0] w1 fun e w' => e = .returned (.bool (equalI a 0)) ∧ Below w.heap.size w w' := after (Q := fun e => e = .returned (.bool (equalI a 0))) (fun w1 => equal_any a 0 w1 h0 h1 (by omega) (by omega))
  obtain ⟨b0, b1⟩ := whole_bd a h0 h1
  unfold printQ
  cases hw : (wholeI a).2 with
  | true =>
    rw [if_pos rfl]
    rw [hw] at cw
    refine print_whole a _ _ w cw (fun w1 hb => ?_)
    refine (formatInt_any _ b0 b1 w1 (pow10_below ht hb)).mono ?_
    rintro e w' ⟨rfl, b⟩
    exact ⟨rfl, hb.trans (b.mono hb.size)⟩
  | false =>
    rw [hw] at cw
    have hn := hn.resolve_left (by rw [hw]; decide)
    rw [hn] at cl
    rw [if_neg (by decide)]
    by_cases k3 : kindI a = 3
    · rw [if_pos k3]
      rw [k3] at cn
      exact print_nan a _ w cw cn
    · rw [if_neg k3]
      have e3 : (kindI a == 3) = false := beq_eq_false_iff_ne.2 k3
      rw [e3] at cn
      by_cases k2 : kindI a = 2
      · rw [if_pos k2]
        rw [k2] at ci
        exact print_inf a _ w cw cn cl ci
      · rw [if_neg k2]
        have e2 : (kindI a == 2) = false := beq_eq_false_iff_ne.2 k2
        rw [e2] at ci
        cases hz : equalI a 0 with
        | true =>
          rw [hz] at ce
          rw [if_pos rfl]
          exact print_zero a _ w cw cn cl ci ce
        | false =>
          rw [hz] at ce
          rw [if_neg (by decide)]
          have kf := kind_fld a h0 h1
          have kc := kind_cases a
          have z3 : (kindI 0 == 3) = false := by decide +kernel
          have z0 : rankI 0 = 0 := by decide +kernel
          unfold lessI at hn
          unfold equalI at hz
          rw [e3, z3, z0] at hn hz
          simp at hn hz
          have r := kf.1.1 (by omega)
          have ap : 0 < a ∧ a < 9218868437227405312 := by
            unfold rankI at r hn hz
            split at r <;> split at hn <;> split at hz <;> omega
          obtain ⟨m, rfl⟩ : ∃ m : Nat, a = m := ⟨a.toNat, by omega⟩
          rw [show ((m : Int)).toNat = m from by omega]
          have sb := shP_bd m (by omega) (by omega)
          have sl := shD_len m (by omega) (by omega)
          refine print_rest _ _ _ _ _ w cw cn cl ci ce (after (Q := fun e => e = .returned (.tuple #[.string (bs (txt (shD m))), .int .i64 (shP m)])) (fun w1 => short_any m w1 (by omega) (by omega))) (fun w1 hb => ?_)
          refine (layout_any (txt (shD m)) (shP m) w1 (pow10_below ht hb) ?_ (by rw [txt_length]; omega) (by omega) (by omega)).mono ?_
          · have := shD_ne m
            unfold txt
            simpa using this
          · rintro e w' ⟨rfl, b⟩
            exact ⟨rfl, hb.trans (b.mono hb.size)⟩

theorem layI_len (ds : List UInt8) (p : Int) (hp0 : -4000 ≤ p) (hp1 : p ≤ 4000) : (layI ds p).length ≤ 2 * ds.length + 10000 := by
  have e : (expL (p - 1)).length ≤ 100 := by
    have := itoa_len (p - 1) (by omega)
    unfold expL
    split <;> simp <;> omega
  unfold layI
  split
  · split <;> simp <;> omega
  · split
    · simp; omega
    · split <;> simp <;> omega

theorem printQ_len (a : Int) (h0 : 0 ≤ a) (h1 : a < 18446744073709551616) (hn : lessI a 0 = false) : (printQ a).length ≤ 100000 := by
  obtain ⟨b0, b1⟩ := whole_bd a h0 h1
  unfold printQ
  split
  · have := itoa_len (wholeI a).1 (by omega)
    omega
  · split
    · simp
    · rename_i k3
      split
      · simp
      · rename_i k2
        split
        · simp
        · rename_i hz
          have e3 : (kindI a == 3) = false := beq_eq_false_iff_ne.2 k3
          have kf := kind_fld a h0 h1
          have kc := kind_cases a
          have z3 : (kindI 0 == 3) = false := by decide +kernel
          have z0 : rankI 0 = 0 := by decide +kernel
          unfold lessI at hn
          unfold equalI at hz
          rw [e3, z3, z0] at hn hz
          simp at hn hz
          have r := kf.1.1 (by omega)
          have ap : 0 < a ∧ a < 9218868437227405312 := by
            unfold rankI at r hn hz
            split at r <;> split at hn <;> split at hz <;> omega
          have sb := shP_bd a.toNat (by omega) (by omega)
          have sl := shD_len a.toNat (by omega) (by omega)
          have := layI_len (txt (shD a.toNat)) (shP a.toNat) (by omega) (by omega)
          rw [txt_length] at this
          omega

theorem neg_less (a : Int) (h0 : 0 ≤ a) (h1 : a < 18446744073709551616) (h : lessI a 0 = true) : lessI (negI a) 0 = false ∧ 0 ≤ negI a ∧ negI a < 18446744073709551616 := by
  have z0 : rankI 0 = 0 := by decide +kernel
  unfold lessI at h
  simp only [Bool.and_eq_true, Bool.not_eq_true', decide_eq_true_eq] at h
  have k3 : kindI a ≠ 3 := beq_eq_false_iff_ne.1 h.1.1
  have r := h.2
  rw [z0] at r
  have hn : negI a = a - 9223372036854775808 ∧ 9223372036854775808 ≤ a := by
    unfold negI
    rw [if_neg k3]
    unfold rankI at r
    split at r <;> omega
  refine ⟨?_, by omega, by omega⟩
  unfold lessI
  rw [z0]
  have : ¬ rankI (negI a) < 0 := by
    rw [hn.1]
    unfold rankI
    split <;> omega
  rw [decide_eq_false this]
  simp

theorem print_any (a : Int) (h0 : 0 ≤ a) (h1 : a < 18446744073709551616) (w : World) (ht : Pow10 w) :
    Calls Tryz.prog 10 #[.int .u64 a] w fun e w' => e = .returned (.string (bs (printI a))) ∧ Below w.heap.size w w' := by
  unfold printI
  by_cases c : (wholeI a).2 = false ∧ lessI a 0 = true
  · rw [if_pos c]
    obtain ⟨cw0, cl0⟩ := c
    obtain ⟨n1, n2, n3⟩ := neg_less a h0 h1 cl0
    have k3 : (kindI a == 3) = false := by
      unfold lessI at cl0
      simp only [Bool.and_eq_true, Bool.not_eq_true', decide_eq_true_eq] at cl0
      exact cl0.1.1
    have cw : ∀ w1, Below w.heap.size w w1 → Calls Tryz.prog 23 #[.int .u64 a] w1 fun e w' => e = .returned (.tuple #[.int .i64 (wholeI a).1, .bool (wholeI a).2]) ∧ Below w.heap.size w w' := after (Q := fun e => e = .returned (.tuple #[.int .i64 (wholeI a).1, .bool (wholeI a).2])) (fun w1 => whole_any a w1 h0 h1)
    have cn : ∀ w1, Below w.heap.size w w1 → Calls Tryz.prog 25 #[.int .u64 a] w1 fun e w' => e = .returned (.bool (kindI a == 3)) ∧ Below w.heap.size w w' := after (Q := fun e => e = .returned (.bool (kindI a == 3))) (fun w1 => isNaN_any a w1 h0 h1)
    have cl : ∀ w1, Below w.heap.size w w1 → Calls Tryz.prog 26 #[.int .u64 a, .int .u64 0] w1 fun e w' => e = .returned (.bool (lessI a 0)) ∧ Below w.heap.size w w' := after (Q := fun e => e = .returned (.bool (lessI a 0))) (fun w1 => less_any a 0 w1 h0 h1 (by omega) (by omega))
    have cg : ∀ w1, Below w.heap.size w w1 → Calls Tryz.prog 27 #[.int .u64 a] w1 fun e w' => e = .returned (.int .u64 (negI a)) ∧ Below w.heap.size w w' := after (Q := fun e => e = .returned (.int .u64 (negI a))) (fun w1 => neg_any a w1 h0 h1)
    rw [cw0] at cw
    rw [k3] at cn
    rw [cl0] at cl
    have ll := printQ_len (negI a) n2 n3 n1
    have := print_neg a _ (negI a) (bs (printQ (negI a))) (printQ (negI a)).length w (bs_size _) (by omega) cw cn cl cg (fun w1 hb => by
      refine (printQ_any (negI a) n2 n3 (Or.inr n1) w1 (pow10_below ht hb)).mono ?_
      rintro e w' ⟨rfl, b⟩
      exact ⟨rfl, hb.trans (b.mono hb.size)⟩)
    rw [bs_app] at this
    exact this
  · rw [if_neg c]
    refine printQ_any a h0 h1 ?_ w ht
    cases hw : (wholeI a).2 with
    | true => exact Or.inl rfl
    | false =>
      cases hl : lessI a 0 with
      | true => exact absurd ⟨hw, hl⟩ c
      | false => exact Or.inr rfl

end Go.Proofs.YtpejebohekcfoaaGreatDoor
/- Plain: what lies between the mids is read as the number between them. -/
namespace Go.Proofs.YtpejebohekcfoaaGreatDoor
set_option linter.unusedVariables false

theorem stq_lt (A M t Z : Nat) (hM : 0 < M) : stq A M t < 2 * Z ↔ A * 2 ^ t < Z * M := by
  unfold stq
  rw [← Nat.div_lt_iff_lt_mul hM]
  split <;> omega

theorem stq_eq (A M t Z : Nat) (hM : 0 < M) : stq A M t = 2 * Z ↔ A * 2 ^ t = Z * M := by
  unfold stq
  have d := Nat.div_add_mod (A * 2 ^ t) M
  generalize A * 2 ^ t = X at *
  constructor
  · intro h
    split at h
    · rename_i h0
      have e : X / M = Z := by omega
      rw [e, h0, Nat.mul_comm] at d
      omega
    · omega
  · intro h
    have h1 : X / M = Z := by rw [h]; exact Nat.mul_div_cancel _ hM
    have h2 : X % M = 0 := by rw [h]; exact Nat.mul_mod_left _ _
    rw [h1, h2]
    simp

theorem pow_mul_lt {a b c : Nat} : a * 2 ^ c < b * 2 ^ c ↔ a < b := Nat.mul_lt_mul_right (Nat.two_pow_pos c)

/-- from a number up to the middle -/
theorem near_up (r A M u : Nat) (hu : u = 1074) (hr : r < 9218868437227405312) (hA : 0 < A) (hM : 0 < M) (h0 : valN r * M ≤ A * 2 ^ u) (h1 : 2 * (A * 2 ^ u) < (valN r + valN (r + 1)) * M ∨ (2 * (A * 2 ^ u) = (valN r + valN (r + 1)) * M ∧ r % 2 = 0)) :
    nearQ A M = r := by
  obtain ⟨c, hc⟩ : ∃ c, c = M.log2 + 60 := ⟨_, rfl⟩
  have vl := valN_lt (Nat.lt_succ_self r)
  rw [nearQ_fine A M (u + (c + 1)) hA hM (by omega)]
  unfold rungQ
  have et : A * 2 ^ (u + (c + 1)) = A * 2 ^ u * 2 ^ (c + 1) := by rw [Nat.pow_add, Nat.mul_assoc]
  have k0 : valN r * 2 ^ (c + 1 + 1) ≤ stq A M (u + (c + 1)) := by
    have := (not_congr (stq_lt A M (u + (c + 1)) (valN r * 2 ^ (c + 1)) hM)).2 (by
      rw [et, Nat.mul_right_comm (valN r)]
      exact Nat.not_lt.2 (Nat.mul_le_mul_right _ h0))
    rw [Nat.pow_succ 2 (c + 1)]
    have e : valN r * (2 ^ (c + 1) * 2) = 2 * (valN r * 2 ^ (c + 1)) := by rw [Nat.mul_comm (2 ^ (c + 1)) 2, Nat.mul_left_comm]
    omega
  have k1 : stq A M (u + (c + 1)) < valN (r + 1) * 2 ^ (c + 1 + 1) := by
    have hl : A * 2 ^ u < valN (r + 1) * M := by
      have e : (valN r + valN (r + 1)) * M = valN r * M + valN (r + 1) * M := Nat.add_mul _ _ _
      have g : valN r * M < valN (r + 1) * M := Nat.mul_lt_mul_of_pos_right vl hM
      omega
    have := (stq_lt A M (u + (c + 1)) (valN (r + 1) * 2 ^ (c + 1)) hM).2 (by
      rw [et, Nat.mul_right_comm (valN (r + 1))]
      exact pow_mul_lt.2 hl)
    have e : valN (r + 1) * (2 ^ (c + 1) * 2) = 2 * (valN (r + 1) * 2 ^ (c + 1)) := by rw [Nat.mul_comm (2 ^ (c + 1)) 2, Nat.mul_left_comm]
    rw [Nat.pow_succ 2 (c + 1)]
    omega
  have g : goesUp r (stq A M (u + (c + 1))) (c + 1) = 0 := by
    unfold goesUp
    have e2 : (valN r + valN (r + 1)) * 2 ^ (c + 1) = 2 * ((valN r + valN (r + 1)) * 2 ^ c) := by rw [Nat.pow_succ, Nat.mul_comm (2 ^ c) 2, Nat.mul_left_comm]
    have ew : A * 2 ^ (u + (c + 1)) = 2 * (A * 2 ^ u) * 2 ^ c := by rw [et, Nat.pow_succ, Nat.mul_comm (2 ^ c) 2, ← Nat.mul_assoc, Nat.mul_comm (A * 2 ^ u) 2]
    rw [e2, if_neg]
    rintro (h | ⟨h, ho⟩)
    · have h3 : ¬ stq A M (u + (c + 1)) < 2 * ((valN r + valN (r + 1)) * 2 ^ c) := by omega
      have h4 : stq A M (u + (c + 1)) ≠ 2 * ((valN r + valN (r + 1)) * 2 ^ c) := by omega
      rw [stq_lt A M _ _ hM, ew, Nat.mul_right_comm (valN r + valN (r + 1)), pow_mul_lt] at h3
      rw [Ne, stq_eq A M _ _ hM, ew, Nat.mul_right_comm (valN r + valN (r + 1))] at h4
      rcases h1 with h1 | ⟨h1, _⟩
      · exact h3 h1
      · exact h4 (by rw [h1])
    · have h4 : stq A M (u + (c + 1)) = 2 * ((valN r + valN (r + 1)) * 2 ^ c) := h.symm
      rw [stq_eq A M _ _ hM, ew, Nat.mul_right_comm (valN r + valN (r + 1))] at h4
      have h5 := Nat.eq_of_mul_eq_mul_right (Nat.two_pow_pos c) h4
      rcases h1 with h1 | ⟨_, h1⟩
      · omega
      · omega
  have := rung_between r (stq A M (u + (c + 1))) (c + 1) hr k0 k1
  rw [g] at this
  have e : -((u + (c + 1) : Nat) : Int) - 1 = -(1075 + ((c + 1 : Nat) : Int)) := by omega
  rw [e]
  exact this

/-- from the middle up to a number -/
theorem near_dn (s A M u : Nat) (hu : u = 1074) (hr : s + 1 < 9218868437227405312) (hA : 0 < A) (hM : 0 < M) (h0 : A * 2 ^ u ≤ valN (s + 1) * M) (h1 : (valN s + valN (s + 1)) * M < 2 * (A * 2 ^ u) ∨ ((valN s + valN (s + 1)) * M = 2 * (A * 2 ^ u) ∧ s % 2 = 1)) :
    nearQ A M = s + 1 := by
  have vl := valN_lt (Nat.lt_succ_self s)
  have vl2 := valN_lt (Nat.lt_succ_self (s + 1))
  rcases Nat.lt_or_ge (A * 2 ^ u) (valN (s + 1) * M) with hl | hl
  · obtain ⟨c, hc⟩ : ∃ c, c = M.log2 + 60 := ⟨_, rfl⟩
    rw [nearQ_fine A M (u + (c + 1)) hA hM (by omega)]
    unfold rungQ
    have et : A * 2 ^ (u + (c + 1)) = A * 2 ^ u * 2 ^ (c + 1) := by rw [Nat.pow_add, Nat.mul_assoc]
    have eM : (valN s + valN (s + 1)) * M = valN s * M + valN (s + 1) * M := Nat.add_mul _ _ _
    have gM : valN s * M < valN (s + 1) * M := Nat.mul_lt_mul_of_pos_right vl hM
    have k0 : valN s * 2 ^ (c + 1 + 1) ≤ stq A M (u + (c + 1)) := by
      have := (not_congr (stq_lt A M (u + (c + 1)) (valN s * 2 ^ (c + 1)) hM)).2 (by
        rw [et, Nat.mul_right_comm (valN s)]
        exact Nat.not_lt.2 (Nat.mul_le_mul_right _ (by omega)))
      rw [Nat.pow_succ 2 (c + 1)]
      have e : valN s * (2 ^ (c + 1) * 2) = 2 * (valN s * 2 ^ (c + 1)) := by rw [Nat.mul_comm (2 ^ (c + 1)) 2, Nat.mul_left_comm]
      omega
    have k1 : stq A M (u + (c + 1)) < valN (s + 1) * 2 ^ (c + 1 + 1) := by
      have := (stq_lt A M (u + (c + 1)) (valN (s + 1) * 2 ^ (c + 1)) hM).2 (by
        rw [et, Nat.mul_right_comm (valN (s + 1))]
        exact pow_mul_lt.2 hl)
      have e : valN (s + 1) * (2 ^ (c + 1) * 2) = 2 * (valN (s + 1) * 2 ^ (c + 1)) := by rw [Nat.mul_comm (2 ^ (c + 1)) 2, Nat.mul_left_comm]
      rw [Nat.pow_succ 2 (c + 1)]
      omega
    have g : goesUp s (stq A M (u + (c + 1))) (c + 1) = 1 := by
      unfold goesUp
      have e2 : (valN s + valN (s + 1)) * 2 ^ (c + 1) = 2 * ((valN s + valN (s + 1)) * 2 ^ c) := by rw [Nat.pow_succ, Nat.mul_comm (2 ^ c) 2, Nat.mul_left_comm]
      have ew : A * 2 ^ (u + (c + 1)) = 2 * (A * 2 ^ u) * 2 ^ c := by rw [et, Nat.pow_succ, Nat.mul_comm (2 ^ c) 2, ← Nat.mul_assoc, Nat.mul_comm (A * 2 ^ u) 2]
      rw [e2, if_pos]
      rcases h1 with h1 | ⟨h1, ho⟩
      · refine Or.inl ?_
        have h3 : ¬ stq A M (u + (c + 1)) < 2 * ((valN s + valN (s + 1)) * 2 ^ c) := by
          rw [stq_lt A M _ _ hM, ew, Nat.mul_right_comm (valN s + valN (s + 1)), pow_mul_lt]
          omega
        have h4 : stq A M (u + (c + 1)) ≠ 2 * ((valN s + valN (s + 1)) * 2 ^ c) := by
          rw [Ne, stq_eq A M _ _ hM, ew, Nat.mul_right_comm (valN s + valN (s + 1))]
          intro h
          have := Nat.eq_of_mul_eq_mul_right (Nat.two_pow_pos c) h
          omega
        omega
      · refine Or.inr ⟨?_, ho⟩
        refine ((stq_eq A M _ _ hM).2 ?_).symm
        rw [ew, Nat.mul_right_comm (valN s + valN (s + 1)), h1]
    have := rung_between s (stq A M (u + (c + 1))) (c + 1) (by omega) k0 k1
    rw [g] at this
    rw [← this]
    congr 1
    omega
  · refine near_up (s + 1) A M u hu hr hA hM hl ?_
    refine Or.inl ?_
    have eM : (valN (s + 1) + valN (s + 1 + 1)) * M = valN (s + 1) * M + valN (s + 1 + 1) * M := Nat.add_mul _ _ _
    have gM : valN (s + 1) * M < valN (s + 1 + 1) * M := Nat.mul_lt_mul_of_pos_right vl2 hM
    omega

end Go.Proofs.YtpejebohekcfoaaGreatDoor
/- Plain, for Short: what lies outside of the mids is read as another number. -/
namespace Go.Proofs.YtpejebohekcfoaaGreatDoor

set_option linter.unusedVariables false

theorem stq_mono {A B M t : Nat} (hM : 0 < M) (h : A ≤ B) : stq A M t ≤ stq B M t := by
  have hp : A * 2 ^ t ≤ B * 2 ^ t := Nat.mul_le_mul_right _ h
  have d := Nat.div_le_div_right (c := M) hp
  have da := Nat.div_add_mod (A * 2 ^ t) M
  have db := Nat.div_add_mod (B * 2 ^ t) M
  unfold stq
  generalize A * 2 ^ t = X at *
  generalize B * 2 ^ t = Y at *
  rcases Nat.lt_or_ge (X / M) (Y / M) with c | c
  · split <;> split <;> omega
  · have e : X / M = Y / M := by omega
    rw [e] at da ⊢
    split <;> split <;> omega

theorem near_mono_same {A B M : Nat} (hM : 0 < M) (h : A ≤ B) : nearQ A M ≤ nearQ B M := by
  unfold nearQ rungQ
  exact rung_mono _ (stq_mono hM h)

theorem near_mono {A B M N : Nat} (hM : 0 < M) (hN : 0 < N) (h : A * N ≤ B * M) : nearQ A M ≤ nearQ B N := by
  rw [← nearQ_scale A M N hM hN, ← nearQ_scale B N M hN hM, Nat.mul_comm N M]
  exact near_mono_same (Nat.mul_pos hM hN) h

/-- from the middle up to the number above it, also where that is infinite -/
theorem near_dn2 (s A M u : Nat) (hu : u = 1074) (hr : s < 9218868437227405312) (hA : 0 < A) (hM : 0 < M) (hl : A * 2 ^ u < valN (s + 1) * M) (h1 : (valN s + valN (s + 1)) * M < 2 * (A * 2 ^ u) ∨ ((valN s + valN (s + 1)) * M = 2 * (A * 2 ^ u) ∧ s % 2 = 1)) :
    nearQ A M = s + 1 := by
  have vl := valN_lt (Nat.lt_succ_self s)
  obtain ⟨c, hc⟩ : ∃ c, c = M.log2 + 60 := ⟨_, rfl⟩
  rw [nearQ_fine A M (u + (c + 1)) hA hM (by omega)]
  unfold rungQ
  have et : A * 2 ^ (u + (c + 1)) = A * 2 ^ u * 2 ^ (c + 1) := by rw [Nat.pow_add, Nat.mul_assoc]
  have eM : (valN s + valN (s + 1)) * M = valN s * M + valN (s + 1) * M := Nat.add_mul _ _ _
  have gM : valN s * M < valN (s + 1) * M := Nat.mul_lt_mul_of_pos_right vl hM
  have k0 : valN s * 2 ^ (c + 1 + 1) ≤ stq A M (u + (c + 1)) := by
    have := (not_congr (stq_lt A M (u + (c + 1)) (valN s * 2 ^ (c + 1)) hM)).2 (by
      rw [et, Nat.mul_right_comm (valN s)]
      exact Nat.not_lt.2 (Nat.mul_le_mul_right _ (by omega)))
    rw [Nat.pow_succ 2 (c + 1)]
    have e : valN s * (2 ^ (c + 1) * 2) = 2 * (valN s * 2 ^ (c + 1)) := by rw [Nat.mul_comm (2 ^ (c + 1)) 2, Nat.mul_left_comm]
    omega
  have k1 : stq A M (u + (c + 1)) < valN (s + 1) * 2 ^ (c + 1 + 1) := by
    have := (stq_lt A M (u + (c + 1)) (valN (s + 1) * 2 ^ (c + 1)) hM).2 (by
      rw [et, Nat.mul_right_comm (valN (s + 1))]
      exact pow_mul_lt.2 hl)
    have e : valN (s + 1) * (2 ^ (c + 1) * 2) = 2 * (valN (s + 1) * 2 ^ (c + 1)) := by rw [Nat.mul_comm (2 ^ (c + 1)) 2, Nat.mul_left_comm]
    rw [Nat.pow_succ 2 (c + 1)]
    omega
  have g : goesUp s (stq A M (u + (c + 1))) (c + 1) = 1 := by
    unfold goesUp
    have e2 : (valN s + valN (s + 1)) * 2 ^ (c + 1) = 2 * ((valN s + valN (s + 1)) * 2 ^ c) := by rw [Nat.pow_succ, Nat.mul_comm (2 ^ c) 2, Nat.mul_left_comm]
    have ew : A * 2 ^ (u + (c + 1)) = 2 * (A * 2 ^ u) * 2 ^ c := by rw [et, Nat.pow_succ, Nat.mul_comm (2 ^ c) 2, ← Nat.mul_assoc, Nat.mul_comm (A * 2 ^ u) 2]
    rw [e2, if_pos]
    rcases h1 with h1 | ⟨h1, ho⟩
    · refine Or.inl ?_
      have h3 : ¬ stq A M (u + (c + 1)) < 2 * ((valN s + valN (s + 1)) * 2 ^ c) := by
        rw [stq_lt A M _ _ hM, ew, Nat.mul_right_comm (valN s + valN (s + 1)), pow_mul_lt]
        omega
      have h4 : stq A M (u + (c + 1)) ≠ 2 * ((valN s + valN (s + 1)) * 2 ^ c) := by
        rw [Ne, stq_eq A M _ _ hM, ew, Nat.mul_right_comm (valN s + valN (s + 1))]
        intro h
        have := Nat.eq_of_mul_eq_mul_right (Nat.two_pow_pos c) h
        omega
      omega
    · refine Or.inr ⟨?_, ho⟩
      refine ((stq_eq A M _ _ hM).2 ?_).symm
      rw [ew, Nat.mul_right_comm (valN s + valN (s + 1)), h1]
  have := rung_between s (stq A M (u + (c + 1))) (c + 1) (by omega) k0 k1
  rw [g] at this
  rw [← this]
  congr 1
  omega

/-- above the upper middle: another number -/
theorem near_over (a A M u : Nat) (hu : u = 1074) (hr : a < 9218868437227405312) (hA : 0 < A) (hM : 0 < M)
    (h1 : (valN a + valN (a + 1)) * M < 2 * (A * 2 ^ u) ∨ ((valN a + valN (a + 1)) * M = 2 * (A * 2 ^ u) ∧ a % 2 = 1)) : nearQ A M ≠ a := by
  have vl : valN a < valN (a + 1) := valN_lt (Nat.lt_succ_self a)
  rcases Nat.lt_or_ge (A * 2 ^ u) (valN (a + 1) * M) with hl | hl
  · rw [near_dn2 a A M u hu hr hA hM hl h1]; omega
  · have p := Nat.two_pow_pos u
    have w := near_dn2 a (valN a + 3 * valN (a + 1)) (4 * 2 ^ u) u hu hr (by omega) (by omega)
      (by
        rw [show valN (a + 1) * (4 * 2 ^ u) = 4 * valN (a + 1) * 2 ^ u from by rw [Nat.mul_comm 4 (2 ^ u), ← Nat.mul_assoc, Nat.mul_comm _ 4, Nat.mul_assoc]]
        exact Nat.mul_lt_mul_of_pos_right (by omega) p)
      (Or.inl (by
        rw [show (valN a + valN (a + 1)) * (4 * 2 ^ u) = 4 * (valN a + valN (a + 1)) * 2 ^ u from by rw [← Nat.mul_assoc, Nat.mul_comm _ 4], ← Nat.mul_assoc]
        exact Nat.mul_lt_mul_of_pos_right (by omega) p))
    have m := near_mono (A := valN a + 3 * valN (a + 1)) (B := A) (M := 4 * 2 ^ u) (N := M) (by omega) hM (by
      have g : (valN a + 3 * valN (a + 1)) * M ≤ 4 * valN (a + 1) * M := Nat.mul_le_mul_right _ (by omega)
      have e1 : 4 * valN (a + 1) * M = 4 * (valN (a + 1) * M) := Nat.mul_assoc _ _ _
      have e2 : A * (4 * 2 ^ u) = 4 * (A * 2 ^ u) := Nat.mul_left_comm _ _ _
      omega)
    omega

/-- below the lower middle: another number -/
theorem near_under (s A M u : Nat) (hu : u = 1074) (hr : s + 1 < 9218868437227405312) (hM : 0 < M)
    (h1 : 2 * (A * 2 ^ u) < (valN s + valN (s + 1)) * M ∨ (2 * (A * 2 ^ u) = (valN s + valN (s + 1)) * M ∧ s % 2 = 0)) : nearQ A M ≠ s + 1 := by
  rcases Nat.eq_zero_or_pos A with z | hA
  · subst z; rw [nearQ_zero]; omega
  rcases Nat.lt_or_ge (A * 2 ^ u) (valN s * M) with hl | hl
  · have p := Nat.two_pow_pos u
    have vp : 0 < valN s := by
      refine Nat.pos_of_ne_zero fun e => ?_
      rw [e, Nat.zero_mul] at hl; omega
    have vl : valN s < valN (s + 1) := valN_lt (Nat.lt_succ_self s)
    have w := near_up s (valN s) (2 ^ u) u hu (by omega) vp p (Nat.le_refl _) (Or.inl (by
      rw [← Nat.mul_assoc]
      exact Nat.mul_lt_mul_of_pos_right (by omega) p))
    have m := near_mono (A := A) (B := valN s) (M := M) (N := 2 ^ u) hM p (by omega)
    omega
  · rw [near_up s A M u hu (by omega) hA hM hl h1]; omega

end Go.Proofs.YtpejebohekcfoaaGreatDoor
/- What near10 seeks, plain. -/
namespace Go.Proofs.YtpejebohekcfoaaGreatDoor.V32
set_option linter.unusedVariables false

theorem cmp_scale {r : Int} {X Y c : Nat} (h : CmpIs r X Y) (hc : 0 < c) : CmpIs r (X * c) (Y * c) := by
  obtain ⟨h1, h2⟩ := h
  refine ⟨h1.trans ?_, h2.trans ?_⟩
  · exact (Nat.mul_lt_mul_right hc).symm
  · exact ⟨fun e => by rw [e], fun e => Nat.eq_of_mul_eq_mul_right hc e⟩

/-- against, over one unit -/
theorem cmp_unit {r : Int} {O U m pl u : Nat} {e : Int} (he : e = (pl : Int) - (u : Int)) (h : CmpIs r (O * 2 ^ (max (-e) 0).toNat) (U * 2 ^ (max e 0).toNat * m)) :
    CmpIs r (O * 2 ^ u) (m * 2 ^ pl * U) := by
  rcases Nat.le_total pl u with c | c
  · have s := cmp_scale h (Nat.two_pow_pos pl)
    rw [show (max (-e) 0).toNat = u - pl from by omega, show (max e 0).toNat = 0 from by omega, Nat.pow_zero, Nat.mul_one, Nat.mul_assoc, ← Nat.pow_add, show u - pl + pl = u from by omega] at s
    rw [show m * 2 ^ pl * U = U * m * 2 ^ pl from by rw [Nat.mul_comm (m * 2 ^ pl) U, Nat.mul_assoc]]
    exact s
  · have s := cmp_scale h (Nat.two_pow_pos u)
    rw [show (max (-e) 0).toNat = 0 from by omega, show (max e 0).toNat = pl - u from by omega, Nat.pow_zero, Nat.mul_one] at s
    have e2 : U * 2 ^ (pl - u) * m * 2 ^ u = m * 2 ^ pl * U := by
      rw [show (2 : Nat) ^ pl = 2 ^ (pl - u) * 2 ^ u from by rw [← Nat.pow_add]; congr 1; omega]
      simp only [Nat.mul_comm, Nat.mul_left_comm]
    rw [e2] at s
    exact s

/-- the search: a lies below, or at it; a and 2^s above -/
structure Seek (O' U a s : Nat) : Prop where
  lt : a < 9218868437227405312
  le : valN a * U ≤ O'
  up : 9218868437227405312 ≤ a + 2 ^ s ∨ O' < valN (a + 2 ^ s) * U

theorem seek_yes {O' U a s : Nat} (h : Seek O' U a (s + 1)) (h1 : a + 2 ^ s < 9218868437227405312) (h2 : valN (a + 2 ^ s) * U ≤ O') : Seek O' U (a + 2 ^ s) s := by
  refine ⟨h1, h2, ?_⟩
  have := h.up
  rw [Nat.pow_succ, Nat.mul_two, ← Nat.add_assoc] at this
  exact this

theorem seek_no {O' U a s : Nat} (h : Seek O' U a (s + 1)) (h1 : 9218868437227405312 ≤ a + 2 ^ s ∨ O' < valN (a + 2 ^ s) * U) : Seek O' U a s := ⟨h.lt, h.le, h1⟩

theorem near_le (A M : Nat) : nearQ A M ≤ 9218868437227405312 := by
  unfold nearQ rungQ
  exact rung_le _ _

theorem near_top (a O U u : Nat) (hu : u = 1074) (ha : a + 1 = 9218868437227405312) (hU : 0 < U) (h : valN (a + 1) * U ≤ O * 2 ^ u) : nearQ O U = a + 1 := by
  have p := Nat.two_pow_pos u
  have vl : valN a < valN (a + 1) := valN_lt (Nat.lt_succ_self a)
  have w := near_dn2 a (valN a + 3 * valN (a + 1)) (4 * 2 ^ u) u hu (by omega) (by omega) (by omega)
    (by
      rw [show valN (a + 1) * (4 * 2 ^ u) = 4 * valN (a + 1) * 2 ^ u from by rw [Nat.mul_comm 4 (2 ^ u), ← Nat.mul_assoc, Nat.mul_comm _ 4, Nat.mul_assoc]]
      exact Nat.mul_lt_mul_of_pos_right (by omega) p)
    (Or.inl (by
      rw [show (valN a + valN (a + 1)) * (4 * 2 ^ u) = 4 * (valN a + valN (a + 1)) * 2 ^ u from by rw [← Nat.mul_assoc, Nat.mul_comm _ 4], ← Nat.mul_assoc]
      exact Nat.mul_lt_mul_of_pos_right (by omega) p))
  have m := near_mono (A := valN a + 3 * valN (a + 1)) (B := O) (M := 4 * 2 ^ u) (N := U) (by omega) hU (by
    have g : (valN a + 3 * valN (a + 1)) * U ≤ 4 * valN (a + 1) * U := Nat.mul_le_mul_right _ (by omega)
    have e : O * (4 * 2 ^ u) = 4 * (O * 2 ^ u) := by rw [Nat.mul_left_comm]
    rw [Nat.mul_assoc] at g
    omega)
  have l := near_le O U
  omega

theorem seek_end (O U a u : Nat) (r : Int) (hu : u = 1074) (h : Seek (O * 2 ^ u) U a 0) (hO : 0 < O) (hU : 0 < U) (hr : CmpIs r (O * 2 ^ (u + 1)) ((2 * manR a + 1) * 2 ^ plaR a * U)) :
    nearQ O U = if 0 < r ∨ (r = 0 ∧ a % 2 = 1) then a + 1 else a := by
  have ey : (2 * manR a + 1) * 2 ^ plaR a = valN a + valN (a + 1) := by
    rw [valN_next, valN_parts a, ← Nat.add_mul]
    congr 1
    omega
  have ex : O * 2 ^ (u + 1) = 2 * (O * 2 ^ u) := by rw [Nat.pow_succ, ← Nat.mul_assoc, Nat.mul_comm]
  rw [ey, ex] at hr
  obtain ⟨h1, h2⟩ := hr
  have hl := h.lt
  have hle := h.le
  have hup := h.up
  rw [Nat.pow_zero] at hup
  split
  · rename_i c
    have mid : (valN a + valN (a + 1)) * U < 2 * (O * 2 ^ u) ∨ ((valN a + valN (a + 1)) * U = 2 * (O * 2 ^ u) ∧ a % 2 = 1) := by
      rcases c with c | ⟨c, d⟩
      · left
        have n1 : ¬ 2 * (O * 2 ^ u) < (valN a + valN (a + 1)) * U := fun hh => by have := h1.2 hh; omega
        have n2 : ¬ 2 * (O * 2 ^ u) = (valN a + valN (a + 1)) * U := fun hh => by have := h2.2 hh; omega
        omega
      · right
        exact ⟨(h2.1 c).symm, d⟩
    rcases Nat.lt_or_ge (O * 2 ^ u) (valN (a + 1) * U) with g | g
    · exact near_dn2 a O U u hu hl hO hU g mid
    · refine near_top a O U u hu ?_ hU g
      rcases hup with k | k <;> omega
  · rename_i c
    refine near_up a O U u hu hl hO hU hle ?_
    rcases Int.lt_trichotomy r 0 with k | k | k
    · exact Or.inl (h1.1 k)
    · refine Or.inr ⟨h2.1 k, ?_⟩
      have : ¬ (a % 2 = 1) := fun d => c (Or.inr ⟨k, d⟩)
      omega
    · exact absurd (Or.inl k) c

end Go.Proofs.YtpejebohekcfoaaGreatDoor.V32
/- Plain: the digits lie within the interval. -/
namespace Go.Proofs.YtpejebohekcfoaaGreatDoor
open Go.RowKit
set_option linter.unusedVariables false

/-- digits as a number -/
def dnum (ds : List Nat) : Nat := ds.foldl (fun n d => 10 * n + d) 0

theorem dnum_from (ds : List Nat) : ∀ n, ds.foldl (fun n d => 10 * n + d) n = n * 10 ^ ds.length + dnum ds := by
  induction ds with
  | nil => intro n; simp [dnum]
  | cons d ds ih =>
    intro n
    unfold dnum
    rw [List.foldl_cons, List.foldl_cons, ih, ih (10 * 0 + d), List.length_cons, Nat.pow_succ, Nat.add_mul, Nat.mul_zero, Nat.zero_add]
    have : 10 * n * 10 ^ ds.length = n * (10 ^ ds.length * 10) := by rw [Nat.mul_comm 10 n, Nat.mul_assoc, Nat.mul_comm 10]
    omega

theorem dnum_cons (d : Nat) (ds : List Nat) : dnum (d :: ds) = d * 10 ^ ds.length + dnum ds := by
  show List.foldl _ _ _ = _
  rw [List.foldl_cons, dnum_from]
  simp

/-- one bound: below, or at it where it is closed -/
def Under (x y : Nat) (cl : Bool) : Prop := x < y ∨ (x = y ∧ cl = true)

theorem under_of {V L : Nat} {cl : Bool} (h : inN V L cl = true) : Under V L cl := by
  unfold inN at h
  simp only [Bool.or_eq_true, Bool.and_eq_true, decide_eq_true_eq] at h
  exact h

theorem under_lin {x y x' y' : Nat} {cl : Bool} (h : Under x y cl) (h1 : x < y → x' < y') (h2 : x = y → x' = y') : Under x' y' cl := by
  rcases h with h | ⟨h, c⟩
  · exact Or.inl (h1 h)
  · exact Or.inr ⟨h2 h, c⟩

theorem digs_in (T : Nat) (cl : Bool) (hT : 0 < T) : ∀ (f V L U : Nat), T < U + f → V + U ≤ T → 0 < U →
    Under (V * 10 ^ (digsF f V L U T cl).length) (dnum (digsF f V L U T cl) * T + L * 10 ^ (digsF f V L U T cl).length) cl ∧
    Under (dnum (digsF f V L U T cl) * T) (V * 10 ^ (digsF f V L U T cl).length + U * 10 ^ (digsF f V L U T cl).length) cl := by
  intro f
  induction f with
  | zero => intro V L U h1 h2 h3; omega
  | succ f ih =>
    intro V L U h1 h2 h3
    have dm := Nat.div_add_mod (V * 10) T
    have ml := Nat.mod_lt (V * 10) hT
    rw [Nat.mul_comm T] at dm
    rw [digsF]
    generalize V * 10 / T = d at *
    generalize hX : V * 10 % T = X at *
    cases hd : inN X (L * 10) cl with
    | true =>
      rw [if_pos (by simp)]
      have ud := under_of hd
      cases hc : (inN T (X + U * 10) cl && upN X T d) with
      | true =>
        have uu := under_of (by simp only [Bool.and_eq_true] at hc; exact hc.1 : inN T (X + U * 10) cl = true)
        rw [if_pos (by simp)]
        rw [List.length_singleton, Nat.pow_one, show dnum [d + 1] = d + 1 from by simp [dnum], Nat.add_mul, Nat.one_mul]
        exact ⟨Or.inl (by omega), under_lin uu (by omega) (by omega)⟩
      | false =>
        rw [if_neg (by simp)]
        rw [List.length_singleton, Nat.pow_one, show dnum [d] = d from by simp [dnum]]
        exact ⟨under_lin ud (by omega) (by omega), Or.inl (by omega)⟩
    | false =>
      cases hu : inN T (X + U * 10) cl with
      | true =>
        have uu := under_of hu
        rw [if_pos (by simp), if_pos (by simp)]
        rw [List.length_singleton, Nat.pow_one, show dnum [d + 1] = d + 1 from by simp [dnum], Nat.add_mul, Nat.one_mul]
        exact ⟨Or.inl (by omega), under_lin uu (by omega) (by omega)⟩
      | false =>
        rw [if_neg (by simp)]
        have nu := not_in hu
        obtain ⟨i1, i2⟩ := ih X (L * 10) (U * 10) (by omega) nu (by omega)
        rw [List.length_cons, dnum_cons]
        generalize dnum (digsF f X (L * 10) (U * 10) T cl) = n at *
        generalize (digsF f X (L * 10) (U * 10) T cl).length = k at *
        have e1 : V * 10 ^ (k + 1) = d * 10 ^ k * T + X * 10 ^ k := by
          rw [ten_next, ← dm, Nat.add_mul, Nat.mul_right_comm]
        have e2 : L * 10 ^ (k + 1) = L * 10 * 10 ^ k := ten_next L k
        have e3 : U * 10 ^ (k + 1) = U * 10 * 10 ^ k := ten_next U k
        have e4 : (d * 10 ^ k + n) * T = d * 10 ^ k * T + n * T := Nat.add_mul _ _ _
        rw [e1, e2, e3, e4]
        exact ⟨under_lin i1 (by omega) (by omega), under_lin i2 (by omega) (by omega)⟩

end Go.Proofs.YtpejebohekcfoaaGreatDoor
/- Plain: the digits are read as the number. -/
namespace Go.Proofs.YtpejebohekcfoaaGreatDoor
open Go.RowKit
set_option linter.unusedVariables false

theorem cross_lt {x y F G F' G' : Nat} (hG : 0 < G) (hG' : 0 < G') (e : F * G' = G * F') (h : x * F < y * G) : x * F' < y * G' := by
  have h1 : x * F * G' < y * G * G' := Nat.mul_lt_mul_of_pos_right h hG'
  have e1 : x * F * G' = x * F' * G := by rw [Nat.mul_assoc, e, Nat.mul_comm G F', ← Nat.mul_assoc]
  have e2 : y * G * G' = y * G' * G := Nat.mul_right_comm _ _ _
  rw [e1, e2] at h1
  exact Nat.lt_of_mul_lt_mul_right h1

theorem cross_gt {x y F G F' G' : Nat} (hG : 0 < G) (hG' : 0 < G') (e : F * G' = G * F') (h : y * G < x * F) : y * G' < x * F' := by
  have h1 : y * G * G' < x * F * G' := Nat.mul_lt_mul_of_pos_right h hG'
  have e1 : x * F * G' = x * F' * G := by rw [Nat.mul_assoc, e, Nat.mul_comm G F', ← Nat.mul_assoc]
  have e2 : y * G * G' = y * G' * G := Nat.mul_right_comm _ _ _
  rw [e1, e2] at h1
  exact Nat.lt_of_mul_lt_mul_right h1

theorem cross_eq {x y F G F' G' : Nat} (hG : 0 < G) (e : F * G' = G * F') (h : x * F = y * G) : x * F' = y * G' := by
  have e1 : x * F * G' = x * F' * G := by rw [Nat.mul_assoc, e, Nat.mul_comm G F', ← Nat.mul_assoc]
  have e2 : y * G * G' = y * G' * G := Nat.mul_right_comm _ _ _
  rw [h, e2] at e1
  exact (Nat.eq_of_mul_eq_mul_right hG e1).symm

theorem arM_man (a : Nat) : arM a = manR a := by
  unfold arM manR
  by_cases h : a < 4503599627370496
  · rw [if_pos (Nat.div_eq_of_lt h), if_pos h]
  · rw [if_neg (by omega), if_neg h]; omega

theorem arX_pla (a : Nat) : (arX a + 1074).toNat = plaR a := by
  unfold arX plaR
  split <;> omega

theorem val_up (a : Nat) : 2 * (valN a + valN (a + 1)) = (4 * arM a + 2) * 2 ^ plaR a := by
  rw [valN_next, valN_parts, ← arM_man, ← Nat.add_mul, ← Nat.mul_assoc]
  congr 1
  omega

theorem val_dn (s : Nat) : 2 * (valN s + valN (s + 1)) + arB (s + 1) * 2 ^ plaR (s + 1) = 4 * arM (s + 1) * 2 ^ plaR (s + 1) := by
  rw [valN_next, valN_parts s, ← Nat.add_mul, arM_man]
  unfold arB
  by_cases c : (s + 1) % 4503599627370496 = 0 ∧ 1 < (s + 1) / 4503599627370496
  · rw [if_pos c]
    have m1 : manR (s + 1) = 4503599627370496 := by unfold manR; rw [if_neg (by omega)]; omega
    have m2 : manR s = 9007199254740991 := by unfold manR; rw [if_neg (by omega)]; omega
    have p1 : plaR (s + 1) = plaR s + 1 := by unfold plaR; omega
    rw [m1, m2, p1, Nat.pow_succ]
    omega
  · rw [if_neg c]
    have pm : plaR (s + 1) = plaR s ∧ manR (s + 1) = manR s + 1 := by
      unfold plaR manR
      by_cases h : s + 1 < 4503599627370496
      · rw [if_pos h, if_pos (by omega)]; omega
      · rw [if_neg h]
        by_cases h2 : s < 4503599627370496
        · rw [if_pos h2]; omega
        · rw [if_neg h2]; omega
    rw [pm.1, pm.2, ← Nat.mul_assoc, ← Nat.add_mul]
    congr 1
    omega

end Go.Proofs.YtpejebohekcfoaaGreatDoor
/- Plain: the digits are read as the number: the main step. -/
namespace Go.Proofs.YtpejebohekcfoaaGreatDoor
open Go.RowKit
set_option linter.unusedVariables false

theorem near_digits (a : Nat) (h0 : 0 < a) (h1 : a < 9218868437227405312) (hN : 0 < dnum (shD a)) :
    nearQ (dnum (shD a) * 10 ^ (shP a - (shD a).length).toNat) (10 ^ ((shD a).length - shP a).toNat) = a := by
  obtain ⟨K, hK0, hK1⟩ : ∃ K : Nat, 1100 ≤ K ∧ K ≤ 1100 := ⟨1100, by omega, by omega⟩
  obtain ⟨q1, q2, q3, q4, q5, q6, q7⟩ := sh_bd a K h0 h1 hK0
  obtain ⟨t1, u1, l1⟩ := sh1_bd a K h0 h1 hK0
  have st := (sh_stop a h0 h1).1
  have T1p : 0 < shT1 a := Nat.mul_pos (Nat.mul_pos q6 (Nat.pow_pos (by decide))) (Nat.pow_pos (by decide))
  obtain ⟨lo, hi⟩ := digs_in (shT1 a) (shC a) T1p (shT1 a + 1) (shV1 a) (shL1 a) (shU1 a) (by omega) (not_in st) u1
  change Under (shV1 a * 10 ^ (shD a).length) (dnum (shD a) * shT1 a + shL1 a * 10 ^ (shD a).length) (shC a) at lo
  change Under (dnum (shD a) * shT1 a) (shV1 a * 10 ^ (shD a).length + shU1 a * 10 ^ (shD a).length) (shC a) at hi
  have xb := arX_bd a h1
  have bb := arB_bd a
  have mb := arM_bd a h0
  obtain ⟨u, hu⟩ : ∃ u : Nat, u = 1074 := ⟨_, rfl⟩
  obtain ⟨n, hn⟩ : ∃ n, dnum (shD a) = n := ⟨_, rfl⟩
  obtain ⟨k, hk⟩ : ∃ k, (shD a).length = k := ⟨_, rfl⟩
  rw [hn] at hN lo hi ⊢
  rw [hk] at lo hi ⊢
  -- both measures
  obtain ⟨F, hF⟩ : ∃ F, F = 2 ^ (-arX a).toNat * 10 ^ ((shG a).toNat + shJ a) := ⟨_, rfl⟩
  obtain ⟨G, hG⟩ : ∃ G, G = 2 ^ (arX a).toNat * 10 ^ ((-shG a).toNat + k) := ⟨_, rfl⟩
  obtain ⟨F', hF'⟩ : ∃ F', F' = 2 ^ u * 10 ^ (shP a - k).toNat := ⟨_, rfl⟩
  obtain ⟨G', hG'⟩ : ∃ G', G' = 2 ^ plaR a * 10 ^ ((k : Int) - shP a).toNat := ⟨_, rfl⟩
  have pG : 0 < G := by rw [hG]; exact Nat.mul_pos (Nat.two_pow_pos _) (Nat.pow_pos (by decide))
  have pG' : 0 < G' := by rw [hG']; exact Nat.mul_pos (Nat.two_pow_pos _) (Nat.pow_pos (by decide))
  have px := arX_pla a
  have e : F * G' = G * F' := by
    rw [hF, hG, hF', hG', Nat.mul_mul_mul_comm, Nat.mul_mul_mul_comm (2 ^ (arX a).toNat), ← Nat.pow_add, ← Nat.pow_add, ← Nat.pow_add, ← Nat.pow_add]
    congr 2
    · omega
    · unfold shP; omega
  have eT : n * shT1 a = 4 * n * F := by
    unfold shT1 shT0 shT
    rw [hF, Nat.pow_add]
    simp only [Nat.mul_assoc, Nat.mul_left_comm]
  have eV : shV1 a * 10 ^ k = 4 * arM a * G := by
    unfold shV1 shV
    rw [hG, Nat.pow_add]
    simp only [Nat.mul_assoc]
  have eL : shL1 a * 10 ^ k = arB a * G := by
    unfold shL1 shL
    rw [hG, Nat.pow_add]
    simp only [Nat.mul_assoc]
  have eU : shU1 a * 10 ^ k = 2 * G := by
    unfold shU1 shU
    rw [hG, Nat.pow_add]
    simp only [Nat.mul_assoc]
  rw [eT, eV, eL] at lo
  rw [eT, eV, eU, ← Nat.add_mul] at hi
  have sl : 4 * arM a * G = (4 * arM a - arB a) * G + arB a * G := by rw [← Nat.add_mul]; congr 1; omega
  have lo' : Under ((4 * arM a - arB a) * G) (4 * n * F) (shC a) := under_lin lo (by omega) (by omega)
  have up' : Under (4 * n * F') ((4 * arM a + 2) * G') (shC a) := by
    rcases hi with h | ⟨h, c⟩
    · exact Or.inl (cross_lt pG pG' e h)
    · exact Or.inr ⟨cross_eq pG e h, c⟩
  have dn' : Under ((4 * arM a - arB a) * G') (4 * n * F') (shC a) := by
    rcases lo' with h | ⟨h, c⟩
    · exact Or.inl (cross_gt pG pG' e h)
    · exact Or.inr ⟨(cross_eq pG e h.symm).symm, c⟩
  have par : shC a = true → a % 2 = 0 := by
    intro h
    unfold shC at h
    rw [decide_eq_true_eq, arM_man, manR_odd] at h
    exact h
  have eA : n * 10 ^ (shP a - k).toNat * 2 ^ u = n * F' := by rw [hF', Nat.mul_assoc, Nat.mul_comm (10 ^ _) (2 ^ u)]
  obtain ⟨W, hW⟩ : ∃ W, 10 ^ ((k : Int) - shP a).toNat = W := ⟨_, rfl⟩
  have pW : 0 < W := by rw [← hW]; exact Nat.pow_pos (by decide)
  have eG : ∀ y, y * G' = y * 2 ^ plaR a * W := by intro y; rw [hG', hW, Nat.mul_assoc]
  rw [hW]
  have nA : 0 < n * 10 ^ (shP a - k).toNat := Nat.mul_pos hN (Nat.pow_pos (by decide))
  have va : 4 * arM a * G' = 4 * (valN a * W) := by rw [eG, valN_parts, ← arM_man, Nat.mul_assoc 4 (arM a), Nat.mul_assoc 4]
  rcases Nat.le_total (valN a * W) (n * F') with c | c
  · refine near_up a _ W u hu h1 nA pW (by rw [eA]; exact c) ?_
    rw [eA]
    have vu : 2 * ((valN a + valN (a + 1)) * W) = (4 * arM a + 2) * G' := by rw [eG, ← val_up, ← Nat.mul_assoc]
    have q : 4 * n * F' = 4 * (n * F') := Nat.mul_assoc _ _ _
    rcases up' with h | ⟨h, cc⟩
    · left; omega
    · right; exact ⟨by omega, par cc⟩
  · obtain ⟨s, rfl⟩ : ∃ s, a = s + 1 := ⟨a - 1, by omega⟩
    refine near_dn s _ W u hu h1 nA pW (by rw [eA]; exact c) ?_
    rw [eA]
    have vd := val_dn s
    have vu : 2 * ((valN s + valN (s + 1)) * W) = (4 * arM (s + 1) - arB (s + 1)) * G' := by
      rw [eG, ← Nat.mul_assoc]
      congr 1
      rw [Nat.sub_mul]
      omega
    have q : 4 * n * F' = 4 * (n * F') := Nat.mul_assoc _ _ _
    rcases dn' with h | ⟨h, cc⟩
    · left; omega
    · right; have := par cc; exact ⟨by omega, by omega⟩

end Go.Proofs.YtpejebohekcfoaaGreatDoor
/- Plain: how many digits, and where the point lies. -/
namespace Go.Proofs.YtpejebohekcfoaaGreatDoor
open Go.RowKit
set_option linter.unusedVariables false

theorem logs : ((List.range 1300).all fun n => decide (10 ^ (n * 78913 / 262144) ≤ 2 ^ n) && decide (2 ^ n ≤ 10 ^ ((n * 78913 + 262143) / 262144))) = true := by decide +kernel

theorem log_le (n : Nat) (h : n < 1300) : 10 ^ (n * 78913 / 262144) ≤ 2 ^ n ∧ 2 ^ n ≤ 10 ^ ((n * 78913 + 262143) / 262144) := by
  have := List.all_eq_true.1 logs n (List.mem_range.2 h)
  simp only [Bool.and_eq_true, decide_eq_true_eq] at this
  exact this

theorem bitl_ge (n : Nat) (h : 0 < n) : 0 < bitl n ∧ 2 ^ (bitl n - 1) ≤ n ∧ n < 2 ^ bitl n := by
  unfold bitl
  rw [if_neg (by omega)]
  exact ⟨by omega, by rw [Nat.add_sub_cancel]; exact Nat.log2_self_le (by omega), Nat.lt_log2_self⟩

/-- the whole is first too small -/
theorem guess_low (a : Nat) (h0 : 0 < a) (h1 : a < 9218868437227405312) : shT0 a ≤ shV1 a := by
  obtain ⟨q1, q2, q3, q4, q5, q6, q7⟩ := sh_bd a 1100 h0 h1 (by omega)
  have hb := sh_bits a h0 h1
  have V0 : 0 < shV a := by
    unfold shV
    exact Nat.mul_pos (by have := arM_bd a h0; omega) (Nat.two_pow_pos _)
  obtain ⟨v1, v2, v3⟩ := bitl_ge (shV a) V0
  obtain ⟨t1, t2, t3⟩ := bitl_ge (shT a) q6
  unfold shT0 shV1
  have hG : shG a = ((bitl (shV a) : Int) - (bitl (shT a) : Int) - 1) * 78913 / 262144 := rfl
  generalize shG a = G at *
  generalize bitl (shV a) = b at *
  generalize bitl (shT a) = c at *
  by_cases g : c + 1 ≤ b
  · obtain ⟨n, hn⟩ : ∃ n, b = c + 1 + n := ⟨b - (c + 1), by omega⟩
    have l := (log_le n (by omega)).1
    have eg : G.toNat = n * 78913 / 262144 := by omega
    have en : (-G).toNat = 0 := by omega
    rw [eg, en, Nat.pow_zero, Nat.mul_one]
    have s1 : shT a * 10 ^ (n * 78913 / 262144) ≤ 2 ^ c * 2 ^ n := Nat.mul_le_mul (Nat.le_of_lt t3) l
    rw [← Nat.pow_add] at s1
    have s2 : 2 ^ (c + n) = 2 ^ (b - 1) := by congr 1; omega
    omega
  · obtain ⟨n, hn⟩ : ∃ n, c + 1 = b + n := ⟨c + 1 - b, by omega⟩
    have l := (log_le n (by omega)).2
    have eg : (-G).toNat = (n * 78913 + 262143) / 262144 := by omega
    have en : G.toNat = 0 := by omega
    rw [eg, en, Nat.pow_zero, Nat.mul_one]
    have s1 : 2 ^ (b - 1) * 2 ^ n ≤ shV a * 10 ^ ((n * 78913 + 262143) / 262144) := Nat.mul_le_mul v2 l
    rw [← Nat.pow_add] at s1
    have s2 : 2 ^ (b - 1 + n) = 2 ^ c := by congr 1; omega
    omega

theorem shU1_V (a : Nat) : shV1 a = 2 * arM a * shU1 a := by
  unfold shV1 shU1 shV shU
  rw [show 4 * arM a = 2 * arM a * 2 from by omega]
  simp only [Nat.mul_assoc]

/-- the whole is no more than ten times too great -/
theorem whole_near (a : Nat) (h0 : 0 < a) (h1 : a < 9218868437227405312) : 0 < shJ a ∧ shT1 a ≤ 10 * (shV1 a + shU1 a) := by
  have g := guess_low a h0 h1
  obtain ⟨t1, u1, l1⟩ := sh1_bd a 1100 h0 h1 (by omega)
  obtain ⟨st, al⟩ := sh_stop a h0 h1
  have n := not_in st
  have j : 0 < shJ a := by
    refine Nat.pos_of_ne_zero fun e => ?_
    unfold shT1 at n
    rw [e, Nat.pow_zero, Nat.mul_one] at n
    omega
  refine ⟨j, ?_⟩
  have h2 := in_le (al (shJ a - 1) (by omega))
  obtain ⟨i, hi⟩ : ∃ i, shJ a = i + 1 := ⟨shJ a - 1, by omega⟩
  unfold shT1
  rw [hi] at h2 ⊢
  rw [Nat.add_sub_cancel] at h2
  rw [Nat.pow_succ, ← Nat.mul_assoc]
  omega

theorem shD_18 (a : Nat) (h0 : 0 < a) (h1 : a < 9218868437227405312) : (shD a).length ≤ 18 := by
  obtain ⟨j, w⟩ := whole_near a h0 h1
  obtain ⟨t1, u1, l1⟩ := sh1_bd a 1100 h0 h1 (by omega)
  have m := arM_bd a h0
  rw [shU1_V] at w
  refine digsF_len (shT1 a) (shC a) 17 _ _ _ _ ?_
  have e : 10 * (2 * arM a * shU1 a + shU1 a) = (20 * arM a + 10) * shU1 a := by
    rw [Nat.mul_add, ← Nat.mul_assoc, ← Nat.mul_assoc, Nat.add_mul]
  rw [e] at w
  have s : (20 * arM a + 10) * shU1 a < 10 ^ (17 + 1) * shU1 a := Nat.mul_lt_mul_of_pos_right (by omega) u1
  rw [Nat.mul_comm (10 ^ (17 + 1))] at s
  omega

theorem dnum_pos (a : Nat) (h0 : 0 < a) (h1 : a < 9218868437227405312) : 0 < dnum (shD a) := by
  obtain ⟨q1, q2, q3, q4, q5, q6, q7⟩ := sh_bd a 1100 h0 h1 (by omega)
  obtain ⟨t1, u1, l1⟩ := sh1_bd a 1100 h0 h1 (by omega)
  have m := arM_bd a h0
  have st := (sh_stop a h0 h1).1
  have T1p : 0 < shT1 a := Nat.mul_pos (Nat.mul_pos q6 (Nat.pow_pos (by decide))) (Nat.pow_pos (by decide))
  obtain ⟨lo, hi⟩ := digs_in (shT1 a) (shC a) T1p (shT1 a + 1) (shV1 a) (shL1 a) (shU1 a) (by omega) (not_in st) u1
  change Under (shV1 a * 10 ^ (shD a).length) (dnum (shD a) * shT1 a + shL1 a * 10 ^ (shD a).length) (shC a) at lo
  refine Nat.pos_of_ne_zero fun e => ?_
  rw [e, Nat.zero_mul, Nat.zero_add] at lo
  have p : 0 < 10 ^ (shD a).length := Nat.pow_pos (by decide)
  have v : shL1 a < shV1 a := by
    rw [shU1_V]
    have s : 2 * shU1 a ≤ 2 * arM a * shU1 a := Nat.mul_le_mul_right _ (by omega)
    omega
  have := Nat.mul_lt_mul_of_pos_right v p
  rcases lo with h | ⟨h, _⟩ <;> omega

end Go.Proofs.YtpejebohekcfoaaGreatDoor
/- Plain: where the point lies; what the digits' texts are read as. -/
namespace Go.Proofs.YtpejebohekcfoaaGreatDoor
open Go.RowKit
set_option linter.unusedVariables false

theorem big_lo : (2 : Nat) ^ 1077 < 10 ^ 331 := by decide +kernel
theorem big_hi : (2 : Nat) ^ 1026 < 10 ^ 310 := by decide +kernel

theorem shP_range (a : Nat) (h0 : 0 < a) (h1 : a < 9218868437227405312) : -330 ≤ shP a ∧ shP a ≤ 310 := by
  obtain ⟨j, w⟩ := whole_near a h0 h1
  obtain ⟨q1, q2, q3, q4, q5, q6, q7⟩ := sh_bd a 1100 h0 h1 (by omega)
  have n := not_in (sh_stop a h0 h1).1
  have m := arM_bd a h0
  have x := arX_bd a h1
  have bl := big_lo
  have bh := big_hi
  have hP : shP a = shG a + (shJ a : Int) := rfl
  have V0 : 0 < shV a := by
    unfold shV
    exact Nat.mul_pos (by omega) (Nat.two_pow_pos _)
  obtain ⟨t, htt⟩ : ∃ t : Nat, t = 331 := ⟨_, rfl⟩
  obtain ⟨z, hz⟩ : ∃ z : Nat, z = 1077 := ⟨_, rfl⟩
  rw [← htt, ← hz] at bl
  obtain ⟨y, hy⟩ : ∃ y : Nat, y = 310 := ⟨_, rfl⟩
  obtain ⟨v, hv⟩ : ∃ v : Nat, v = 1026 := ⟨_, rfl⟩
  rw [← hy, ← hv] at bh
  constructor
  · refine Classical.byContradiction fun c => ?_
    obtain ⟨d, hd⟩ : ∃ d : Nat, (-shG a).toNat = (shG a).toNat + shJ a + (t + d) := ⟨(-shG a).toNat - ((shG a).toNat + shJ a + t), by omega⟩
    have e1 : shV1 a = shV a * 10 ^ (t + d) * 10 ^ ((shG a).toNat + shJ a) := by
      unfold shV1
      rw [hd, Nat.pow_add 10 ((shG a).toNat + shJ a), Nat.mul_assoc, Nat.mul_comm (10 ^ (t + d))]
    have e2 : shT1 a = shT a * 10 ^ ((shG a).toNat + shJ a) := by unfold shT1 shT0; rw [Nat.pow_add, Nat.mul_assoc]
    have h : shV a * 10 ^ (t + d) ≤ shT a := by
      refine Nat.le_of_mul_le_mul_right ?_ (Nat.pow_pos (n := (shG a).toNat + shJ a) (by decide : 0 < 10))
      rw [← e1, ← e2]; omega
    have h3 : 10 ^ t ≤ 10 ^ (t + d) := Nat.pow_le_pow_right (by decide) (by omega)
    have h4 : 10 ^ (t + d) ≤ shV a * 10 ^ (t + d) := Nat.le_mul_of_pos_left _ V0
    have h5 : shT a < 2 ^ z := two_lt (c := 3) (by decide) (by omega)
    generalize (10 : Nat) ^ t = A at *
    generalize (2 : Nat) ^ z = B at *
    omega
  · refine Classical.byContradiction fun c => ?_
    obtain ⟨d, hd⟩ : ∃ d : Nat, (shG a).toNat + shJ a = (-shG a).toNat + (1 + (y + d)) := ⟨(shG a).toNat + shJ a - ((-shG a).toNat + 311), by omega⟩
    have e2 : shT1 a = 10 * (shT a * 10 ^ (y + d)) * 10 ^ (-shG a).toNat := by
      unfold shT1 shT0
      rw [Nat.mul_assoc, ← Nat.pow_add, hd, Nat.pow_add 10 (-shG a).toNat, Nat.pow_add 10 1, Nat.pow_one]
      simp only [Nat.mul_assoc, Nat.mul_left_comm, Nat.mul_comm]
    have e1 : 10 * (shV1 a + shU1 a) = 10 * (shV a + shU a) * 10 ^ (-shG a).toNat := by unfold shV1 shU1; rw [← Nat.add_mul, Nat.mul_assoc]
    rw [e1, e2] at w
    have h := Nat.le_of_mul_le_mul_right w (Nat.pow_pos (by decide))
    have h3 : 10 ^ y ≤ 10 ^ (y + d) := Nat.pow_le_pow_right (by decide) (by omega)
    have h4 : 10 ^ (y + d) ≤ shT a * 10 ^ (y + d) := Nat.le_mul_of_pos_left _ q6
    have h5 : shV a + shU a < 2 ^ v := by
      have e : shV a + shU a = (4 * arM a + 2) * 2 ^ (arX a).toNat := by unfold shV shU; rw [← Nat.add_mul]
      rw [e]
      exact two_lt (c := 55) (by omega) (by omega)
    generalize (10 : Nat) ^ y = A at *
    generalize (2 : Nat) ^ v = B at *
    omega

theorem decN_txt (ds : List Nat) (h : ∀ d ∈ ds, d ≤ 200) : decN (txt ds) = dnum ds := by
  have key : ∀ (ds : List Nat) (n : Nat), (∀ d ∈ ds, d ≤ 200) → (txt ds).foldl (fun n c => 10 * n + (c.toNat - 48)) n = ds.foldl (fun n d => 10 * n + d) n := by
    intro ds
    induction ds with
    | nil => intro n _; rfl
    | cons d ds ih =>
      intro n h
      show List.foldl _ _ (dB d :: txt ds) = _
      rw [List.foldl_cons, List.foldl_cons, dB_nat d (h d (by simp)), ih _ (fun x hx => h x (by simp [hx]))]
      congr 1
      omega
  exact key ds 0 h

theorem digs_le9 (T : Nat) (cl : Bool) (hT : 0 < T) : ∀ (f V L U : Nat), inN T (V + U) cl = false → 0 < U → ∀ d ∈ digsF f V L U T cl, d ≤ 9 := by
  intro f
  induction f with
  | zero => intro V L U h hU d hd; rw [digsF] at hd; simp at hd
  | succ f ih =>
    intro V L U h hU
    have n := not_in h
    have dm := Nat.div_add_mod (V * 10) T
    have ml := Nat.mod_lt (V * 10) hT
    rw [Nat.mul_comm T] at dm
    have d9 : V * 10 / T ≤ 9 := by
      rcases Nat.lt_or_ge (V * 10 / T) 10 with c | c
      · omega
      · have := Nat.mul_le_mul_right T c
        omega
    have nine : inN T (V * 10 % T + U * 10) cl = true → V * 10 / T ≤ 8 := by
      intro hu
      rcases Nat.lt_or_ge (V * 10 / T) 9 with c | c
      · omega
      · exfalso
        have := Nat.mul_le_mul_right T c
        rcases under_of hu with g | ⟨g, gc⟩
        · omega
        · unfold inN at h
          rw [gc] at h
          simp at h
          omega
    rw [digsF]
    generalize V * 10 / T = q at *
    generalize V * 10 % T = X at *
    split
    · intro d hd
      rw [List.mem_singleton] at hd
      subst hd
      split
      · rename_i h1 h2
        have hu : inN T (X + U * 10) cl = true := by
          cases hx : inN T (X + U * 10) cl with
          | true => rfl
          | false => rw [hx] at h1 h2; simp at h1 h2; rw [h1] at h2; cases h2
        have := nine hu
        omega
      · omega
    · rename_i h1
      simp only [Bool.or_eq_true, not_or, Bool.not_eq_true] at h1
      intro d hd
      rcases List.mem_cons.1 hd with rfl | hd
      · exact d9
      · exact ih X (L * 10) (U * 10) h1.2 (by omega) d hd

theorem shD_le9 (a : Nat) (h0 : 0 < a) (h1 : a < 9218868437227405312) : ∀ d ∈ shD a, d ≤ 9 := by
  obtain ⟨q1, q2, q3, q4, q5, q6, q7⟩ := sh_bd a 1100 h0 h1 (by omega)
  obtain ⟨t1, u1, l1⟩ := sh1_bd a 1100 h0 h1 (by omega)
  have T1p : 0 < shT1 a := Nat.mul_pos (Nat.mul_pos q6 (Nat.pow_pos (by decide))) (Nat.pow_pos (by decide))
  exact digs_le9 (shT1 a) (shC a) T1p _ _ _ _ (sh_stop a h0 h1).1 u1

theorem shD_head (a : Nat) (h0 : 0 < a) (h1 : a < 9218868437227405312) : ∃ d r, shD a = d :: r ∧ 0 < d := by
  obtain ⟨j, w⟩ := whole_near a h0 h1
  have dp := dnum_pos a h0 h1
  obtain ⟨q1, q2, q3, q4, q5, q6, q7⟩ := sh_bd a 1100 h0 h1 (by omega)
  obtain ⟨t1, u1, l1⟩ := sh1_bd a 1100 h0 h1 (by omega)
  have T1p : 0 < shT1 a := Nat.mul_pos (Nat.mul_pos q6 (Nat.pow_pos (by decide))) (Nat.pow_pos (by decide))
  obtain ⟨st, al⟩ := sh_stop a h0 h1
  have iv := under_of (al (shJ a - 1) (by omega))
  have e10 : shT1 a = 10 * (shT0 a * 10 ^ (shJ a - 1)) := by
    obtain ⟨i, hi⟩ : ∃ i, shJ a = i + 1 := ⟨shJ a - 1, by omega⟩
    unfold shT1
    rw [hi, Nat.add_sub_cancel, Nat.pow_succ, Nat.mul_left_comm 10, Nat.mul_comm 10 (10 ^ i)]
  have sd : shD a = digsF (shT1 a + 1) (shV1 a) (shL1 a) (shU1 a) (shT1 a) (shC a) := rfl
  rw [digsF] at sd
  have dm := Nat.div_add_mod (shV1 a * 10) (shT1 a)
  have up : shV1 a * 10 / shT1 a = 0 → inN (shT1 a) (shV1 a * 10 % shT1 a + shU1 a * 10) (shC a) = true := by
    intro hq
    rw [hq, Nat.mul_zero, Nat.zero_add] at dm
    rw [dm]
    unfold inN
    rcases iv with g | ⟨g, gc⟩
    · rw [decide_eq_true (by omega)]; rfl
    · rw [gc, decide_eq_true (by omega : shT1 a = _)]; simp
  generalize shV1 a * 10 / shT1 a = q at *
  generalize shV1 a * 10 % shT1 a = X at *
  rcases Nat.eq_zero_or_pos q with hq | hq
  · rw [up hq] at sd
    rw [if_pos (by simp)] at sd
    rw [sd] at dp ⊢
    exact ⟨_, [], rfl, by simpa [dnum] using dp⟩
  · split at sd
    · rw [sd]
      refine ⟨_, [], rfl, ?_⟩
      split <;> omega
    · rw [sd]
      exact ⟨q, _, rfl, hq⟩

end Go.Proofs.YtpejebohekcfoaaGreatDoor
/- Plain: what Print writes of a number that is not whole is read as that number. -/
namespace Go.Proofs.YtpejebohekcfoaaGreatDoor
open Go.RowKit
set_option linter.unusedVariables false

/-- what may stand in a number's text -/
def okD (z : UInt8) : Bool := okC z || z == 43

theorem okC_okD (z : UInt8) (h : okC z = true) : okD z = true := by unfold okD; rw [h]; rfl
theorem dig_okD (z : UInt8) (h : isDig z = true) : okD z = true := okC_okD z (dig_okC z h)
theorem okD_not (z x : UInt8) (h : okD z = true) (hx : okD x = false) : z ≠ x := by
  rintro rfl; rw [h] at hx; cases hx

theorem cutX_noneD (l : List UInt8) (h : ∀ z ∈ l, okD z = true) : (cutX l).2 = false ∧ Lib.hasPrefix l [48, 120] = false := by
  have k : ∀ d, okD d = false → Lib.hasPrefix l [48, d] = false := by
    intro d hd
    unfold Lib.hasPrefix
    cases l with
    | nil => rfl
    | cons a l =>
      cases l with
      | nil => simp [List.isPrefixOf]
      | cons b l =>
        have := okD_not b d (h b (by simp)) hd
        simp only [List.isPrefixOf]
        rw [beq_eq_false_iff_ne.2 (Ne.symm this)]
        simp
  refine ⟨?_, k 120 (by decide)⟩
  unfold cutX
  rw [if_neg (by rw [k 120 (by decide)]; simp)]
  exact k 88 (by decide)

theorem nbD (z : UInt8) (hz : okD z = true) : blankS.contains z = false := by
  have h9 := okD_not z 9 hz (by decide)
  have h10 := okD_not z 10 hz (by decide)
  have h32 := okD_not z 32 hz (by decide)
  unfold blankS
  simp [h9, h10, h32]

/-- a text without blanks at its end -/
theorem trimR_ok (l : List UInt8) (h : ∀ z ∈ l, okD z = true) : Lib.trimRightS l blankS = l := by
  rcases List.eq_nil_or_concat l with rfl | ⟨m, y, rfl⟩
  · rfl
  · rw [List.concat_eq_append] at *
    have := trimR_app m [] blankS y (nbD y (h y (by simp)))
    rw [this]
    rfl

theorem read_ok (x : UInt8) (m : List UInt8) (hx : isDig x = true) (h : ∀ z ∈ x :: m, okD z = true) : readI (x :: m) = (unsI (x :: m) : Nat) := by
  have t : Lib.trimS (x :: m) blankS = x :: m := by
    rw [trimS_cons x _ blankS (nbD x (h x (by simp))), trimR_ok m (fun z hz => h z (by simp [hz]))]
  unfold readI
  rw [t]
  unfold coreI
  have n43 := dig_not x hx 43 (by decide)
  have n45 := dig_not x hx 45 (by decide)
  rw [if_neg (by simp), if_neg (by rw [(cutX_noneD _ h).1]; simp), if_neg (by simp [n43]), if_neg (by simp [n45])]

/-- digits, a point and digits, and what stands behind them -/
theorem uns_any (W F R : List UInt8) (dot : Bool) (e : Int) (hW : ∀ z ∈ W, isDig z = true) (hF : ∀ z ∈ F, isDig z = true) (hn : W ≠ []) (hd : dot = false → F = [])
    (hR : R = [] ∧ e = 0 ∨ (R ≠ [] ∧ (R.head? = some 101 ∨ R.head? = some 69) ∧ expP R = (e, true))) :
    unsI (W ++ ((if dot = true then 46 :: F else []) ++ R)) = valD (sigD (W ++ F)) (sigP W (W ++ F) e) ∧
    scanOk (W ++ ((if dot = true then 46 :: F else []) ++ R)) = true ∧ sW (W ++ ((if dot = true then 46 :: F else []) ++ R)) = W ∧ sF (W ++ ((if dot = true then 46 :: F else []) ++ R)) = F ∧ sDot (W ++ ((if dot = true then 46 :: F else []) ++ R)) = dot ∧ scanX (W ++ ((if dot = true then 46 :: F else []) ++ R)) = e := by
  have dr : ∀ (A B : List UInt8), (∀ z ∈ A, isDig z = true) → (B = [] ∨ ∃ c r, B = c :: r ∧ isDig c = false) → digs (A ++ B) = A ∧ rst (A ++ B) = B := by
    intro A B hA hB
    rcases hB with rfl | ⟨c, r, rfl, hc⟩
    · rw [List.append_nil]
      exact ⟨tw_all A hA, dw_all A hA⟩
    · exact digs_app A c r hA hc
  have rR : R = [] ∨ ∃ c r, R = c :: r ∧ isDig c = false ∧ c ≠ 46 := by
    rcases hR with ⟨h, _⟩ | ⟨h, hh, _⟩
    · exact Or.inl h
    · cases R with
      | nil => exact absurd rfl h
      | cons c r =>
        refine Or.inr ⟨c, r, rfl, ?_⟩
        simp at hh
        rcases hh with rfl | rfl <;> decide
  have rR' : R = [] ∨ ∃ c r, R = c :: r ∧ isDig c = false := by
    rcases rR with h | ⟨c, r, h1, h2, _⟩
    · exact Or.inl h
    · exact Or.inr ⟨c, r, h1, h2⟩
  have parts : ∀ l, l = W ++ ((if dot = true then 46 :: F else []) ++ R) → sW l = W ∧ sF l = F ∧ sR l = R ∧ sDot l = dot := by
    intro l hl
    subst hl
    cases dot with
    | true =>
      obtain ⟨d1, d2⟩ := dr W (46 :: (F ++ R)) hW (Or.inr ⟨46, _, rfl, by decide⟩)
      obtain ⟨d3, d4⟩ := dr F R hF rR'
      rw [if_pos rfl, List.cons_append]
      unfold sW sF sR sDot
      rw [d1, d2]
      simp [d3, d4]
    | false =>
      have f0 := hd rfl
      subst f0
      obtain ⟨d1, d2⟩ := dr W R hW rR'
      rw [if_neg (by decide), List.nil_append]
      unfold sW sF sR sDot
      rw [d1, d2]
      have h46 : R.head? ≠ some 46 := by
        rcases rR with rfl | ⟨c, r, rfl, _, hc⟩
        · simp
        · simp [hc]
      simp [h46]
  obtain ⟨p1, p2, p3, p4⟩ := parts _ rfl
  have so : scanOk (W ++ ((if dot = true then 46 :: F else []) ++ R)) = true := by
    unfold scanOk
    rw [p1, p2, p3, if_neg (by simp [hn])]
    rcases hR with ⟨h, _⟩ | ⟨h, _, hx⟩
    · rw [if_pos h]
    · rw [if_neg h, hx]
  have sx : scanX (W ++ ((if dot = true then 46 :: F else []) ++ R)) = e := by
    unfold scanX
    rw [p3]
    rcases hR with ⟨h, he⟩ | ⟨h, _, hx⟩
    · rw [if_pos h, he]
    · rw [if_neg h, hx]
  refine ⟨?_, so, p1, p2, p4, sx⟩
  unfold unsI
  rw [if_neg, if_pos so, p1, p2, sx]
  cases W with
  | nil => exact absurd rfl hn
  | cons a W =>
    have := hW a (by simp)
    rw [List.cons_append]
    exact not_inf a _ (dig_not a this 73 (by decide))

end Go.Proofs.YtpejebohekcfoaaGreatDoor
/- Plain: digits with their point, as Print lays them, are read as their value. -/
namespace Go.Proofs.YtpejebohekcfoaaGreatDoor
open Go.RowKit
set_option linter.unusedVariables false

theorem expP_plus (e : Int) (h0 : 0 ≤ e) (he : e.natAbs ≤ 1099511627776) : expP (101 :: 43 :: Lib.itoa e) = (e, true) := by
  have i : Lib.itoa e = Lib.decDigits e.toNat := by unfold Lib.itoa; rw [if_neg (by omega)]
  have hd := dd_dig e.toNat
  have k1 : digs (Lib.decDigits e.toNat) = Lib.decDigits e.toNat := tw_all _ hd
  have k2 : rst (Lib.decDigits e.toNat) = [] := dw_all _ hd
  have k3 : clampF 0 (Lib.decDigits e.toNat) = e.toNat := by
    have := clamp_eq (Lib.decDigits e.toNat) 0 (by have := dd_val e.toNat; unfold decN at this; rw [this]; omega)
    rw [this]; exact dd_val e.toNat
  unfold expP
  rw [if_pos (by simp), List.tail_cons, i]
  have u1 : unsign (43 :: Lib.decDigits e.toNat) = Lib.decDigits e.toNat := by unfold unsign; simp
  have s : signOf (43 :: Lib.decDigits e.toNat) = 1 := by unfold signOf; simp
  rw [u1, k1, k2, k3, s, if_neg (by simp [dd_ne])]
  congr 1
  omega

theorem expL_read (n : Int) (h : n.natAbs ≤ 100000) : expP (expL n) = (n, true) ∧ expL n ≠ [] ∧ (expL n).head? = some 101 ∧ ∀ z ∈ expL n, okD z = true := by
  unfold expL
  split
  · refine ⟨expP_itoa 101 (Or.inl rfl) n (by omega), by simp, by simp, ?_⟩
    intro z hz
    rcases List.mem_cons.1 hz with rfl | hz
    · decide
    · exact okC_okD z (itoa_ok n z hz)
  · refine ⟨expP_plus n (by omega) (by omega), by simp, by simp, ?_⟩
    intro z hz
    rcases List.mem_cons.1 hz with rfl | hz
    · decide
    · rcases List.mem_cons.1 hz with rfl | hz
      · decide
      · exact okC_okD z (itoa_ok n z hz)

/-- both readings of a text of digits, a point and digits, and what stands behind them -/
theorem both_read (W F R : List UInt8) (dot : Bool) (e : Int) (hW : ∀ z ∈ W, isDig z = true) (hF : ∀ z ∈ F, isDig z = true) (hn : W ≠ []) (hd : dot = false → F = [])
    (hR : R = [] ∧ e = 0 ∨ (R ≠ [] ∧ (R.head? = some 101 ∨ R.head? = some 69) ∧ expP R = (e, true))) (hRo : ∀ z ∈ R, okD z = true) (hl : litB W F dot = true) :
    readI (W ++ ((if dot = true then 46 :: F else []) ++ R)) = (valD (sigD (W ++ F)) (sigP W (W ++ F) e) : Nat) ∧
    litI (W ++ ((if dot = true then 46 :: F else []) ++ R)) = (((valD (sigD (W ++ F)) (sigP W (W ++ F) e) : Nat) : Int), true) := by
  obtain ⟨u1, u2, u3, u4, u5, u6⟩ := uns_any W F R dot e hW hF hn hd hR
  have ok : ∀ z ∈ W ++ ((if dot = true then 46 :: F else []) ++ R), okD z = true := by
    refine mem3 (fun z hz => dig_okD z (hW z hz)) (mem3 ?_ hRo)
    intro z hz
    split at hz
    · rcases List.mem_cons.1 hz with rfl | hz
      · decide
      · exact dig_okD z (hF z hz)
    · simp at hz
  constructor
  · rw [← u1]
    cases W with
    | nil => exact absurd rfl hn
    | cons x W =>
      rw [List.cons_append] at ok ⊢
      exact read_ok x _ (hW x (by simp)) ok
  · unfold litI
    rw [if_neg (by rw [(cutX_noneD _ ok).2]; simp), u3, u4, u5, u6, if_pos ⟨u2, hl⟩]

theorem valD_zeros (D : List UInt8) (p : Int) (n : Nat) (hD : D ≠ []) : valD (D ++ List.replicate n 48) p = valD D p := by
  unfold valD
  have e : decN (D ++ List.replicate n 48) = decN D * 10 ^ n := by
    induction n with
    | zero => simp
    | succ n ih =>
      rw [List.replicate_succ', ← List.append_assoc, decN_snoc, ih, Nat.pow_succ, Nat.mul_assoc]
      have : (48 : UInt8).toNat - 48 = 0 := by decide
      omega
  have l : ((D ++ List.replicate n 48).length : Int) = D.length + n := by simp
  rw [e, l]
  by_cases c1 : p < -330
  · rw [if_pos (Or.inr c1), if_pos (Or.inr c1)]
  · have n1 : ¬ (D ++ List.replicate n 48 = [] ∨ p < -330) := by
      rintro (h | h)
      · exact hD (List.append_eq_nil_iff.1 h).1
      · exact c1 h
    have n2 : ¬ (D = [] ∨ p < -330) := by
      rintro (h | h)
      · exact hD h
      · exact c1 h
    rw [if_neg n1, if_neg n2]
    by_cases c2 : 310 < p
    · rw [if_pos c2, if_pos c2]
    · rw [if_neg c2, if_neg c2]
      refine nearQ_cross _ _ _ _ (Nat.pow_pos (by decide)) (Nat.pow_pos (by decide)) ?_
      rw [Nat.mul_assoc, Nat.mul_assoc, Nat.mul_assoc, ← Nat.pow_add, ← Nat.pow_add, ← Nat.pow_add]
      congr 2
      omega

theorem nodz_top (x : UInt8) (r : List UInt8) (hx : x ≠ 48) : nodz (x :: r) = x :: r := by
  unfold nodz Lib.trimLeftB
  rw [List.dropWhile_cons, if_neg (by simp [hx])]

theorem nodz_zeros (n : Nat) (l : List UInt8) : nodz (List.replicate n 48 ++ l) = nodz l := by
  unfold nodz Lib.trimLeftB
  rw [dw_app (List.replicate n 48) l (by intro c hc; rw [(List.mem_replicate.1 hc).2]; rfl)]

theorem lay_read (x : UInt8) (r : List UInt8) (P : Int) (hD : ∀ z ∈ x :: r, isDig z = true) (hx : x ≠ 48) (hl : (x :: r).length ≤ 100) (p0 : -50000 ≤ P) (p1 : P ≤ 50000) :
    readI (layI (x :: r) P) = (valD (x :: r) P : Nat) ∧ litI (layI (x :: r) P) = (((valD (x :: r) P : Nat) : Int), true) := by
  have hx1 := hD x (by simp)
  have hr : ∀ z ∈ r, isDig z = true := fun z hz => hD z (by simp [hz])
  have sD : sigD (x :: r) = x :: r := by rw [sigD_small _ (by omega), nodz_top x r hx]
  unfold layI
  by_cases c : 21 < P ∨ P < -5
  · rw [if_pos c]
    obtain ⟨e1, e2, e3, e4⟩ := expL_read (P - 1) (by omega)
    by_cases l1 : (x :: r).length = 1
    · rw [if_pos l1]
      have r0 : r = [] := by cases r with | nil => rfl | cons y r => simp at l1
      subst r0
      have b := both_read [x] [] (expL (P - 1)) false (P - 1) hD (by simp) (by simp) (fun _ => rfl) (Or.inr ⟨e2, Or.inl e3, e1⟩) e4 (by unfold litB; simp)
      have sp : sigP [x] ([x] ++ []) (P - 1) = P := by unfold sigP; rw [List.append_nil, nodz_top x [] hx]; simp; omega
      rw [sp, List.append_nil, sD] at b
      exact b
    · rw [if_neg l1]
      have rn : r ≠ [] := by rintro rfl; simp at l1
      have b := both_read [x] r (expL (P - 1)) true (P - 1) (by intro z hz; rw [List.mem_singleton] at hz; subst hz; exact hx1) hr (by simp) (by simp) (Or.inr ⟨e2, Or.inl e3, e1⟩) e4 (by unfold litB; simp [rn])
      have sp : sigP [x] ([x] ++ r) (P - 1) = P := by
        unfold sigP
        rw [List.singleton_append, nodz_top x r hx]
        simp; omega
      have sd2 : sigD ([x] ++ r) = x :: r := sD
      rw [sp, sd2, if_pos rfl] at b
      rw [List.append_assoc]
      exact b
  · rw [if_neg c]
    by_cases c1 : P ≤ 0
    · rw [if_pos c1]
      have b := both_read [48] (List.replicate (-P).toNat 48 ++ (x :: r)) [] true 0 (by intro z hz; rw [List.mem_singleton] at hz; subst hz; decide)
        (mem3 (fun z hz => by rw [(List.mem_replicate.1 hz).2]; decide) hD) (by simp) (by simp) (Or.inl ⟨rfl, rfl⟩) (by simp) (by unfold litB; simp)
      have nz : nodz ([48] ++ (List.replicate (-P).toNat 48 ++ (x :: r))) = x :: r := by
        rw [show [48] ++ (List.replicate (-P).toNat 48 ++ (x :: r)) = List.replicate ((-P).toNat + 1) 48 ++ (x :: r) from by rw [List.replicate_succ]; rfl, nodz_zeros, nodz_top x r hx]
      have sd : sigD ([48] ++ (List.replicate (-P).toNat 48 ++ (x :: r))) = x :: r := by rw [sigD_small _ (by simp at hl ⊢; omega), nz]
      have sp : sigP [48] ([48] ++ (List.replicate (-P).toNat 48 ++ (x :: r))) 0 = P := by
        unfold sigP
        rw [nz]
        simp; omega
      rw [sp, sd, if_pos rfl, List.append_nil] at b
      exact b
    · rw [if_neg c1]
      by_cases c2 : P < ((x :: r).length : Nat)
      · rw [if_pos c2]
        obtain ⟨k, rfl⟩ : ∃ k : Nat, P = k := ⟨P.toNat, by omega⟩
        rw [show ((k : Int)).toNat = k from by omega]
        have tl : ((x :: r).take k).length = k := by rw [List.length_take]; omega
        have dl : 0 < ((x :: r).drop k).length := by rw [List.length_drop]; omega
        have hd : ((x :: r).take k).head? = some x := by
          obtain ⟨j, rfl⟩ : ∃ j, k = j + 1 := ⟨k - 1, by omega⟩
          rfl
        have b := both_read ((x :: r).take k) ((x :: r).drop k) [] true 0 (fun z hz => hD z (List.mem_of_mem_take hz)) (fun z hz => hD z (List.mem_of_mem_drop hz))
          (by intro e; rw [e] at tl; simp at tl; omega) (by simp) (Or.inl ⟨rfl, rfl⟩) (by simp) (by
            unfold litB
            rw [if_neg (by intro e; rw [e] at tl; simp at tl; omega), if_neg (by rintro ⟨_, e⟩; rw [e] at dl; simp at dl), hd]
            simp [hx])
        have sp : sigP ((x :: r).take k) ((x :: r).take k ++ (x :: r).drop k) 0 = k := by
          unfold sigP
          rw [List.take_append_drop, nodz_top x r hx, tl]
          omega
        rw [sp, List.take_append_drop, sD, if_pos rfl, List.append_nil] at b
        exact b
      · rw [if_neg c2]
        have b := both_read ((x :: r) ++ List.replicate (P - ((x :: r).length : Nat)).toNat 48) [] [] false 0 (mem3 hD (fun z hz => by rw [(List.mem_replicate.1 hz).2]; decide)) (by simp) (by simp) (fun _ => rfl) (Or.inl ⟨rfl, rfl⟩) (by simp) (by
            unfold litB
            rw [if_neg (by simp), if_neg (by simp)]
            simp [hx])
        have nz : nodz ((x :: r) ++ List.replicate (P - ((x :: r).length : Nat)).toNat 48) = (x :: r) ++ List.replicate (P - ((x :: r).length : Nat)).toNat 48 := by rw [List.cons_append]; exact nodz_top x _ hx
        have ln : ((x :: r) ++ List.replicate (P - ((x :: r).length : Nat)).toNat 48).length = P.toNat := by rw [List.length_append, List.length_replicate]; omega
        have sd : sigD ((x :: r) ++ List.replicate (P - ((x :: r).length : Nat)).toNat 48) = (x :: r) ++ List.replicate (P - ((x :: r).length : Nat)).toNat 48 := by rw [sigD_small _ (by rw [ln]; omega), nz]
        have sp : sigP ((x :: r) ++ List.replicate (P - ((x :: r).length : Nat)).toNat 48) ((x :: r) ++ List.replicate (P - ((x :: r).length : Nat)).toNat 48) 0 = P := by
          unfold sigP
          rw [nz, ln]
          omega
        rw [if_neg (by decide), List.append_nil, List.append_nil, sp, sd, valD_zeros (x :: r) P _ (by simp)] at b
        exact b

end Go.Proofs.YtpejebohekcfoaaGreatDoor
/- The walk of near10. -/
namespace Go.Proofs.YtpejebohekcfoaaGreatDoor.V32
open Go.RowKit
set_option linter.unusedVariables false

structure Led (A D : List UInt8) : Prop where
  nz : nodz D = nodz A
  len : D.length ≤ A.length
  sub : ∀ z ∈ D, isDig z = true

def Ld (w wr : World) (A : List UInt8) (dv : Value) : Prop := ∃ D, dv = .string (bs D) ∧ Led A D ∧ w.grownBy wr none

theorem led_next (A D : List UInt8) (h : Led A (48 :: D)) : Led A D := by
  obtain ⟨a, c, d⟩ := h
  simp at c
  refine ⟨?_, by omega, fun z hz => d z (by simp [hz])⟩
  rw [← a]
  have := nodz_zeros 1 D
  rw [← this]; rfl

theorem led_end (A D : List UInt8) (h : Led A D) (hd : ∀ x r, D = x :: r → x ≠ 48) : D = nodz A := by
  rw [← h.nz]
  cases D with
  | nil => rfl
  | cons x r => exact (nodz_top x r (hd x r rfl)).symm

theorem bs_at (l : List UInt8) (k : Nat) (h : k < (bs l).size) : l[k]? = some ((bs l)[k]) := by
  have := at_k (bs l) k h
  rw [← ByteArray.toList_eq, bs_toList] at this
  exact this

theorem p1110 : 10 ^ 801 * 10 ^ 310 < 4294967296 ^ 200 := by decide +kernel
theorem p1130 : 10 ^ 1140 < 4294967296 ^ 200 := by decide +kernel
theorem p800 : 10 ^ 801 ≤ 4294967296 ^ 200 := by decide +kernel

theorem big_dig (l : List UInt8) (hd : ∀ z ∈ l, isDig z = true) (hl : l.length ≤ 801) (n : Nat) (hn : n ≤ 310) : decN l * 10 ^ n < 4294967296 ^ 200 := by
  have b := decN_lt l hd
  exact Nat.lt_of_le_of_lt (Nat.mul_le_mul (Nat.le_trans (Nat.le_of_lt b) (Nat.pow_le_pow_right (by decide) hl)) (Nat.pow_le_pow_right (by decide) hn)) p1110

theorem big_ten (n : Nat) (hn : n ≤ 1140) : 1 * 10 ^ n < 4294967296 ^ 200 := by
  rw [Nat.one_mul]
  exact Nat.lt_of_le_of_lt (Nat.pow_le_pow_right (by decide) hn) p1130

theorem big_len (l : List UInt8) (hd : ∀ z ∈ l, isDig z = true) (hl : l.length ≤ 801) : (wds (decN l)).length ≤ 200 := by
  have b := decN_lt l hd
  exact wds_length_lt (Nat.lt_of_lt_of_le b (Nat.le_trans (Nat.pow_le_pow_right (by decide) hl) p800))

theorem p1280 : 2 ^ 1280 ≤ 4294967296 ^ 40 := by decide +kernel

theorem up_bound {N K : Nat} (h : N < 4294967296 ^ K) (n : Nat) (hn : n ≤ 1280) : N * 2 ^ n < 4294967296 ^ (K + 40) := by
  rw [Nat.pow_add]
  have q : 2 ^ n ≤ 4294967296 ^ 40 := Nat.le_trans (Nat.pow_le_pow_right (by decide) hn) p1280
  exact Nat.lt_of_le_of_lt (Nat.mul_le_mul_left _ q) (Nat.mul_lt_mul_of_pos_right h (Nat.pow_pos (by decide)))

theorem valN_zero : valN 0 = 0 := by unfold valN; rw [if_pos (by decide)]

theorem field_man (m e : Int) (b n : Bool) (w : World) : (Instr.field 92 (.agg #[.int .u64 m, .int .i64 e, .bool b, .bool n]) 0).run Tryz.prog w = .ok (.int .u64 m) w := by kernel_rfl
theorem field_exp (m e : Int) (b n : Bool) (w : World) : (Instr.field 92 (.agg #[.int .u64 m, .int .i64 e, .bool b, .bool n]) 1).run Tryz.prog w = .ok (.int .i64 e) w := by kernel_rfl
theorem field_even (m e : Int) (b n : Bool) (w : World) : (Instr.field 92 (.agg #[.int .u64 m, .int .i64 e, .bool b, .bool n]) 2).run Tryz.prog w = .ok (.bool b) w := by kernel_rfl

theorem ext_one (r : List UInt8) (x : UInt8) : (bs (x :: r)).extract 1 (r.length + 1) = bs r := by
  apply ByteArray.ext
  unfold bs
  simp

set_option maxHeartbeats 4000000 in
set_option maxRecDepth 100000 in
theorem near10_nil (A : List UInt8) (p : Int) (w : World) (hA : ∀ z ∈ A, isDig z = true) (hl : A.length ≤ 1000000) (p0 : -2199023255554 ≤ p) (p1 : p ≤ 2199023255554) (hn : nodz A = []) :
    Calls Tryz.prog 91 #[.string (bs A), .int .i64 p] w fun e w' => e = .returned (.int .u64 0) ∧ w.grownBy w' none := by
  have H0 : Hid (Ld w w A (.string (bs A))) := ⟨A, rfl, ⟨rfl, Nat.le_refl _, hA⟩, grown_refl w⟩
  clear hA
  go_enter Tryz.func91, Tryz.ntmps91
  go_wp2_with fail
  go_loopw [0] (fun dv wr => Ld w wr A dv) (fun dv _ => match dv with | .string X => X.size | _ => 0)
  case atStart => exact H0.out
  case round =>
    clear H0
    obtain ⟨D, rfl, hD, hg⟩ := hrel
    have dl := hD.len
    cases D with
    | nil =>
      have hDe := led_end _ _ hD (by intro x r h; cases h)
      have e0 : (bs []).size = 0 := rfl
      have e1 : (bs []).toList.isEmpty = true := by rw [bs_toList]; rfl
      clear hD hDe dl
      obtain ⟨X, hX⟩ : ∃ X, X = bs [] := ⟨_, rfl⟩
      rw [← hX] at e0 e1 ⊢
      clear hX
      go_wp2_with fail
      go_ret
      exact ⟨rfl, by first | exact hg | exact grown_drew hg | exact grown_drew (grown_drew hg)⟩
    | cons x r =>
      obtain ⟨X, hX⟩ : ∃ X, X = bs (x :: r) := ⟨_, rfl⟩
      have xs : X.size = r.length + 1 := by rw [hX, bs_size]; rfl
      have xp : 0 < X.size := by omega
      have x0 : X[0] = x := by subst hX; rfl
      have HX : Hid (X = bs (x :: r)) := hX
      rw [← hX]
      clear hX
      have rl : r.length ≤ 1000000 := by simp at dl; omega
      by_cases h48 : x = 48
      · subst h48
        have HN : Hid (Ld w wr A (.string (X.extract 1 (r.length + 1)))) := ⟨r, by rw [HX.out, ext_one], led_next _ _ hD, hg⟩
        have x48 : X[0].toNat = 48 := by rw [x0]; rfl
        clear hD dl x0 hg
        go_wp2_with fail
        obtain ⟨D', q3, q5, q6⟩ := HN.out
        refine ⟨⟨D', q3, q5, by first | exact q6 | exact grown_drew q6 | exact grown_drew (grown_drew q6)⟩, ?_⟩
        show (X.extract 1 (r.length + 1)).size < X.size
        rw [ByteArray.size_extract]; omega
      · have hDe := led_end _ _ hD (by intro y t h; cases h; exact h48)
        have n48 : ¬ X[0].toNat = 48 := by rw [x0]; intro h; exact h48 (UInt8.toNat_inj.1 h)
        rw [hn] at hDe
        exact absurd hDe (by simp)

set_option maxHeartbeats 4000000 in
set_option maxRecDepth 100000 in
theorem near10_low (A : List UInt8) (p : Int) (w : World) (hA : ∀ z ∈ A, isDig z = true) (hl : A.length ≤ 1000000) (p0 : -2199023255554 ≤ p) (p1 : p ≤ 2199023255554) (hne : nodz A ≠ []) (hL : (nodz A).length ≤ 800) (hp : ((nodz A).length : Int) + p < -330) :
    Calls Tryz.prog 91 #[.string (bs A), .int .i64 p] w fun e w' => e = .returned (.int .u64 0) ∧ w.grownBy w' none := by
  have H0 : Hid (Ld w w A (.string (bs A))) := ⟨A, rfl, ⟨rfl, Nat.le_refl _, hA⟩, grown_refl w⟩
  clear hA
  go_enter Tryz.func91, Tryz.ntmps91
  go_wp2_with fail
  go_loopw [0] (fun dv wr => Ld w wr A dv) (fun dv _ => match dv with | .string X => X.size | _ => 0)
  case atStart => exact H0.out
  case round =>
    clear H0
    obtain ⟨D, rfl, hD, hg⟩ := hrel
    have dl := hD.len
    cases D with
    | nil =>
      have hDe := led_end _ _ hD (by intro x r h; cases h)
      exact absurd hDe.symm hne
    | cons x r =>
      obtain ⟨X, hX⟩ : ∃ X, X = bs (x :: r) := ⟨_, rfl⟩
      have xs : X.size = r.length + 1 := by rw [hX, bs_size]; rfl
      have xp : 0 < X.size := by omega
      have x0 : X[0] = x := by subst hX; rfl
      have HX : Hid (X = bs (x :: r)) := hX
      rw [← hX]
      clear hX
      have rl : r.length ≤ 1000000 := by simp at dl; omega
      by_cases h48 : x = 48
      · subst h48
        have HN : Hid (Ld w wr A (.string (X.extract 1 (r.length + 1)))) := ⟨r, by rw [HX.out, ext_one], led_next _ _ hD, hg⟩
        have x48 : X[0].toNat = 48 := by rw [x0]; rfl
        clear hD dl x0 hg
        go_wp2_with fail
        obtain ⟨D', q3, q5, q6⟩ := HN.out
        refine ⟨⟨D', q3, q5, by first | exact q6 | exact grown_drew q6 | exact grown_drew (grown_drew q6)⟩, ?_⟩
        show (X.extract 1 (r.length + 1)).size < X.size
        rw [ByteArray.size_extract]; omega
      · have hDe := led_end _ _ hD (by intro y t h; cases h; exact h48)
        have n48 : ¬ X[0].toNat = 48 := by rw [x0]; intro h; exact h48 (UInt8.toNat_inj.1 h)
        have L1 : ((r.length : Int) + 1) + p < -330 := by rw [← hDe] at hp; simp at hp; exact hp
        have L2 : r.length + 1 ≤ 800 := by rw [← hDe] at hL; simp at hL; omega
        have e1 : X.toList.isEmpty = false := by rw [HX.out, bs_toList]; rfl
        clear hD hDe dl hL hp hne x0
        go_wp2_with fail
        go_ret
        exact ⟨rfl, by first | exact hg | exact grown_drew hg | exact grown_drew (grown_drew hg)⟩

set_option maxHeartbeats 4000000 in
set_option maxRecDepth 100000 in
theorem near10_high (A : List UInt8) (p : Int) (w : World) (hA : ∀ z ∈ A, isDig z = true) (hl : A.length ≤ 1000000) (p0 : -2199023255554 ≤ p) (p1 : p ≤ 2199023255554) (hne : nodz A ≠ []) (hL : (nodz A).length ≤ 800) (hp : 310 < ((nodz A).length : Int) + p) :
    Calls Tryz.prog 91 #[.string (bs A), .int .i64 p] w fun e w' => e = .returned (.int .u64 9218868437227405312) ∧ w.grownBy w' none := by
  have H0 : Hid (Ld w w A (.string (bs A))) := ⟨A, rfl, ⟨rfl, Nat.le_refl _, hA⟩, grown_refl w⟩
  clear hA
  go_enter Tryz.func91, Tryz.ntmps91
  go_wp2_with fail
  go_loopw [0] (fun dv wr => Ld w wr A dv) (fun dv _ => match dv with | .string X => X.size | _ => 0)
  case atStart => exact H0.out
  case round =>
    clear H0
    obtain ⟨D, rfl, hD, hg⟩ := hrel
    have dl := hD.len
    cases D with
    | nil =>
      have hDe := led_end _ _ hD (by intro x r h; cases h)
      exact absurd hDe.symm hne
    | cons x r =>
      obtain ⟨X, hX⟩ : ∃ X, X = bs (x :: r) := ⟨_, rfl⟩
      have xs : X.size = r.length + 1 := by rw [hX, bs_size]; rfl
      have xp : 0 < X.size := by omega
      have x0 : X[0] = x := by subst hX; rfl
      have HX : Hid (X = bs (x :: r)) := hX
      rw [← hX]
      clear hX
      have rl : r.length ≤ 1000000 := by simp at dl; omega
      by_cases h48 : x = 48
      · subst h48
        have HN : Hid (Ld w wr A (.string (X.extract 1 (r.length + 1)))) := ⟨r, by rw [HX.out, ext_one], led_next _ _ hD, hg⟩
        have x48 : X[0].toNat = 48 := by rw [x0]; rfl
        clear hD dl x0 hg
        go_wp2_with fail
        obtain ⟨D', q3, q5, q6⟩ := HN.out
        refine ⟨⟨D', q3, q5, by first | exact q6 | exact grown_drew q6 | exact grown_drew (grown_drew q6)⟩, ?_⟩
        show (X.extract 1 (r.length + 1)).size < X.size
        rw [ByteArray.size_extract]; omega
      · have hDe := led_end _ _ hD (by intro y t h; cases h; exact h48)
        have n48 : ¬ X[0].toNat = 48 := by rw [x0]; intro h; exact h48 (UInt8.toNat_inj.1 h)
        have L1 : 310 < ((r.length : Int) + 1) + p := by rw [← hDe] at hp; simp at hp; exact hp
        have L2 : r.length + 1 ≤ 800 := by rw [← hDe] at hL; simp at hL; omega
        have e1 : X.toList.isEmpty = false := by rw [HX.out, bs_toList]; rfl
        clear hD hDe dl hL hp hne x0
        go_wp2_with fail
        go_ret
        exact ⟨rfl, by first | exact hg | exact grown_drew hg | exact grown_drew (grown_drew hg)⟩

set_option maxHeartbeats 4000000 in
set_option maxRecDepth 100000 in
theorem near10_main (A : List UInt8) (p : Int) (w : World) (hA : ∀ z ∈ A, isDig z = true) (hl : A.length ≤ 1000000) (p0 : -2199023255554 ≤ p) (p1 : p ≤ 2199023255554) (hne : nodz A ≠ []) (hL : (nodz A).length ≤ 800) (hp : ((nodz A).length : Int) + p ≤ 310) (hp2 : -330 ≤ ((nodz A).length : Int) + p) :
    Calls Tryz.prog 91 #[.string (bs A), .int .i64 p] w fun e w' => e = .returned (.int .u64 (valD (nodz A) (((nodz A).length : Int) + p) : Nat)) ∧ w.grownBy w' none := by
  have H0 : Hid (Ld w w A (.string (bs A))) := ⟨A, rfl, ⟨rfl, Nat.le_refl _, hA⟩, grown_refl w⟩
  clear hA
  go_enter Tryz.func91, Tryz.ntmps91
  go_wp2_with fail
  go_loopw [0] (fun dv wr => Ld w wr A dv) (fun dv _ => match dv with | .string X => X.size | _ => 0)
  case atStart => exact H0.out
  case round =>
    clear H0
    obtain ⟨D, rfl, hD, hg⟩ := hrel
    have dl := hD.len
    cases D with
    | nil =>
      have hDe := led_end _ _ hD (by intro x r h; cases h)
      exact absurd hDe.symm hne
    | cons x r =>
      obtain ⟨X, hX⟩ : ∃ X, X = bs (x :: r) := ⟨_, rfl⟩
      have xs : X.size = r.length + 1 := by rw [hX, bs_size]; rfl
      have xp : 0 < X.size := by omega
      have x0 : X[0] = x := by subst hX; rfl
      have HX : Hid (X = bs (x :: r)) := hX
      rw [← hX]
      clear hX
      have rl : r.length ≤ 1000000 := by simp at dl; omega
      by_cases h48 : x = 48
      · subst h48
        have HN : Hid (Ld w wr A (.string (X.extract 1 (r.length + 1)))) := ⟨r, by rw [HX.out, ext_one], led_next _ _ hD, hg⟩
        have x48 : X[0].toNat = 48 := by rw [x0]; rfl
        clear hD dl x0 hg
        go_wp2_with fail
        obtain ⟨D', q3, q5, q6⟩ := HN.out
        refine ⟨⟨D', q3, q5, by first | exact q6 | exact grown_drew q6 | exact grown_drew (grown_drew q6)⟩, ?_⟩
        show (X.extract 1 (r.length + 1)).size < X.size
        rw [ByteArray.size_extract]; omega
      · have hDe := led_end _ _ hD (by intro y t h; cases h; exact h48)
        have n48 : ¬ X[0].toNat = 48 := by rw [x0]; intro h; exact h48 (UInt8.toNat_inj.1 h)
        have L1 : ((r.length : Int) + 1) + p ≤ 310 := by rw [← hDe] at hp; simp at hp; exact hp
        have L3 : -330 ≤ ((r.length : Int) + 1) + p := by rw [← hDe] at hp2; simp at hp2; exact hp2
        have L2 : r.length + 1 ≤ 800 := by rw [← hDe] at hL; simp at hL; omega
        have e1 : X.toList.isEmpty = false := by rw [HX.out, bs_toList]; rfl
        have HDE : Hid (x :: r = nodz A) := hDe
        have HDG : Hid (∀ z ∈ x :: r, isDig z = true) := hD.sub
        have HXZ : Hid (x ≠ 48) := h48
        have HAT : Hid (∀ k (h : k < X.size), (x :: r)[k]? = some X[k]) := by
          have := HX.out
          subst this
          exact fun k h => bs_at _ k h
        have HGW : Hid (w.grownBy wr none) := hg
        have nb48 : (((X[0].toNat : Nat) : Int) == 48) = false := by simp; omega
        clear hD hDe dl hL hp hp2 hne x0 h48 hg n48
        go_wp2_with fail
        have N0 : N32 (wr.alloc (.cells #[] 139)) (.slice (some ⟨wr.heap.size, 0, none⟩) 0 0) 0 := by
          refine ⟨wr.heap.size, ?_, by show wr.heap.size < (wr.heap.push _).size; simp⟩
          rw [wds_zero]
          exact ⟨0, rfl, rfl, .inr ⟨wr.heap.size, 0, #[], rfl, Nat.le_refl _, by show (wr.heap.push _)[wr.heap.size]? = _; simp, Nat.le_refl _, by decide, rfl, rfl⟩⟩
        have HG1 : Hid (w.grownBy (wr.alloc (.cells #[] 139)) none) := grown_tr HGW.out (grown_alloc _ _)
        have HN0 : Hid (N32 (wr.alloc (.cells #[] 139)) (.slice (some ⟨wr.heap.size, 0, none⟩) 0 0) 0) := N0
        clear N0
        generalize wr.alloc (.cells #[] 139) = wa at *
        go_loopw [7, 8] (fun nv iv w2 => ∃ k : Nat, k ≤ r.length + 1 ∧ iv = .int .i64 k ∧ N32 w2 nv (decN ((x :: r).take k)) ∧ w.grownBy w2 none) (fun _ iv _ => r.length + 1 - (intOf iv).toNat)
        case atStart => exact ⟨0, by omega, rfl, HN0.out, HG1.out⟩
        case round =>
          clear HN0 HG1
          obtain ⟨k, hk, rfl, hN, hg⟩ := hrel
          have HLEN : Hid (∀ j, (wds (decN ((x :: r).take j))).length ≤ 200) := by
            intro j
            exact big_len _ (fun z hz => HDG.out z (List.mem_of_mem_take hz)) (by rw [List.length_take]; simp; omega)
          rcases Nat.lt_or_ge k (r.length + 1) with hlt | hge
          · have hks : k < X.size := by omega
            have ak := HAT.out k hks
            have dz := HDG.out _ (List.mem_of_getElem? ak)
            have dz' : 48 ≤ (X[k]).toNat ∧ (X[k]).toNat ≤ 57 := by unfold isDig at dz; simpa using dz
            have cc := times_any _ _ _ 10 ((X[k]).toNat - 48) hN (by decide) (by omega) (by have := HLEN.out k; omega)
            have e2 : decN ((x :: r).take k) * 10 + ((X[k]).toNat - 48) = decN ((x :: r).take (k + 1)) := by
              rw [List.take_add_one, ak]
              exact (decN_snoc _ _).symm
            rw [e2] at cc
            have HG : Hid (w.grownBy _ none) := hg
            obtain ⟨z0, z1⟩ := dz'
            generalize hzz : (X[k]).toNat = z at *
            have ez : ((z - 48 : Nat) : Int) = (z : Int) - 48 := by omega
            rw [ez] at cc
            have HE : Hid (((k + 1 : Nat) : Int) = (k : Int) + 1) := by show _ = _; omega
            clear hN hg ak dz e2 ez HLEN
            go_wp2_with fail
            refine cc.mono ?_
            rintro e w3 ⟨v', rfl, h1, h2⟩
            have HH1 : Hid (N32 w3 v' (decN ((x :: r).take (k + 1)))) := h1
            have HH2 : Hid (w.grownBy w3 none) := grown_tr HG.out h2
            clear h1 h2
            go_wp2_with fail
            refine ⟨⟨k + 1, by omega, by rw [HE.out], HH1.out, HH2.out⟩, ?_⟩
            first | (simp [intOf]; done) | (simp [intOf]; omega)
          · have hkk : k = r.length + 1 := by omega
            subst hkk
            rw [List.take_of_length_le (by simp)] at hN
            have HG : Hid (w.grownBy _ none) := hg
            obtain ⟨K, hK⟩ : ∃ K : Nat, K = 200 := ⟨_, rfl⟩
            have K1 : K ≤ 1000 := by omega
            have HK1 : Hid (∀ n : Nat, n ≤ 310 → decN (x :: r) * 10 ^ n < 4294967296 ^ K) := by
              intro n hn
              rw [hK]
              exact big_dig _ HDG.out (by simp; omega) n hn
            have HK2 : Hid (∀ n : Nat, n ≤ 1140 → 1 * 10 ^ n < 4294967296 ^ K) := by
              intro n hn
              rw [hK]
              exact big_ten n hn
            have HKK : Hid (K = 200) := hK
            clear hK
            have HDP : Hid (0 < decN (x :: r)) := by
              have := decN_ge (x :: r) x r rfl (HDG.out x (by simp)) HXZ.out
              have q : 0 < 10 ^ ((x :: r).length - 1) := Nat.pow_pos (by decide)
              show 0 < decN (x :: r)
              omega
            clear hg HLEN
            have c1 := tens_any _ _ _ (max p 0).toNat K hN (by omega) (HK1.out (max p 0).toNat (by omega)) (by omega)
            have q1 : (((max p 0).toNat : Nat) : Int) = max p 0 := by omega
            rw [q1] at c1
            clear q1 hN
            go_wp2_with fail
            refine c1.mono ?_
            rintro e wb ⟨vo, rfl, hO, g1⟩
            have c2 := nat_any wb 1 (by omega) (by omega)
            go_wp2_with fail
            refine c2.mono ?_
            rintro e wc ⟨v1, rfl, hu1, g2⟩
            have c3 := tens_any wc v1 1 (max (-p) 0).toNat K hu1 (by omega) (HK2.out (max (-p) 0).toNat (by omega)) (by omega)
            have q1 : (((max (-p) 0).toNat : Nat) : Int) = max (-p) 0 := by omega
            rw [q1] at c3
            clear q1 hu1
            go_wp2_with fail
            refine c3.mono ?_
            rintro e wd ⟨vu, rfl, hU, g3⟩
            have hO := (hO.keep g2).keep g3
            have hG := grown_tr HG.out (grown_tr g1 (grown_tr g2 g3))
            clear g1 g2 g3
            rw [Nat.one_mul] at hU
            have HOP : Hid (0 < decN (x :: r) * 10 ^ (max p 0).toNat) := Nat.mul_pos HDP.out (Nat.pow_pos (by decide))
            have HUP : Hid (0 < 10 ^ (max (-p) 0).toNat) := Nat.pow_pos (by decide)
            have HOB : Hid (∀ n : Nat, n ≤ 1280 → decN (x :: r) * 10 ^ (max p 0).toNat * 2 ^ n < 4294967296 ^ (K + 40)) := fun n hn => up_bound (HK1.out _ (by omega)) n hn
            have HUB : Hid (∀ n : Nat, n ≤ 1280 → 10 ^ (max (-p) 0).toNat * 2 ^ n < 4294967296 ^ (K + 40)) := fun n hn => up_bound (by have := HK2.out (max (-p) 0).toNat (by omega); rw [Nat.one_mul] at this; exact this) n hn
            have HVAL : Hid (valD (nodz A) (((nodz A).length : Int) + p) = nearQ (decN (x :: r) * 10 ^ (max p 0).toNat) (10 ^ (max (-p) 0).toNat)) := by
              show _ = _
              rw [← HDE.out]
              unfold valD
              have hl1 : (((x :: r).length : Nat) : Int) = (r.length : Int) + 1 := by simp
              rw [if_neg (fun h => h.elim (fun h => absurd h (by simp)) (fun h => by omega)), if_neg (by omega)]
              rw [show (((x :: r).length : Nat) + p - ((x :: r).length : Nat)).toNat = (max p 0).toNat from by omega, show ((((x :: r).length : Nat) : Int) - (((x :: r).length : Nat) + p)).toNat = (max (-p) 0).toNat from by omega]
            generalize decN (x :: r) * 10 ^ (max p 0).toNat = O at *
            generalize 10 ^ (max (-p) 0).toNat = U at *
            have HOO : Hid (N32 wd vo O) := hO
            have HUU : Hid (N32 wd vu U) := hU
            have HGG : Hid (w.grownBy wd none) := hG
            obtain ⟨u, hu⟩ : ∃ u : Nat, u = 1074 := ⟨_, rfl⟩
            have HU1 : Hid (u = 1074) := hu
            have HS0 : Hid (Seek (O * 2 ^ u) U 0 63) := ⟨by decide, by rw [valN_zero, Nat.zero_mul]; exact Nat.zero_le _, Or.inl (by decide)⟩
            clear hO hU hG hu
            go_wp2_with fail
            go_loopw [11, 12] (fun av bv w2 => ∃ a s : Nat, av = .int .u64 (a : Int) ∧ bv = .int .u64 ((2 ^ s / 2 : Nat) : Int) ∧ s ≤ 63 ∧ Seek (O * 2 ^ u) U a s ∧ wd.grownBy w2 none) (fun _ bv _ => (intOf bv).toNat)
            case atStart => exact ⟨0, 63, rfl, by rfl, by omega, HS0.out, grown_refl _⟩
            case round =>
              clear HS0
              obtain ⟨a, s, rfl, rfl, hs, hk, hg⟩ := hrel
              have al := hk.lt
              have fm : ∀ (m e : Int) (b n : Bool) (w : World), (Instr.field 92 (.agg #[.int .u64 m, .int .i64 e, .bool b, .bool n]) 0).run Tryz.prog w = .ok (.int .u64 m) w := field_man
              have fe : ∀ (m e : Int) (b n : Bool) (w : World), (Instr.field 92 (.agg #[.int .u64 m, .int .i64 e, .bool b, .bool n]) 1).run Tryz.prog w = .ok (.int .i64 e) w := field_exp
              have fv : ∀ (m e : Int) (b n : Bool) (w : World), (Instr.field 92 (.agg #[.int .u64 m, .int .i64 e, .bool b, .bool n]) 2).run Tryz.prog w = .ok (.bool b) w := field_even
              cases s with
              | zero =>
                have HSK : Hid (Seek (O * 2 ^ u) U a 0) := hk
                have pt := parts_any a al
                have pb : plaR a ≤ 2100 := by unfold plaR; omega
                have ml : manR a < 9007199254740992 := by unfold manR; split <;> omega
                have em : ((2 * manR a + 1 : Nat) : Int) = 2 * ((manR a : Nat) : Int) + 1 := by omega
                have ag := fun wq (h1 : N32 wq vo O) (h2 : N32 wq vu U) => against_any wq vo vu O U (2 * ((manR a : Nat) : Int) + 1) ((plaR a : Int) - 1074 - 1) (K + 40) h1 h2 (by omega) (by omega) (by omega) (by omega) (by omega) (HOB.out _ (by omega)) (HUB.out _ (by omega))
                have HEND : Hid (∀ rr : Int, CmpIs rr (O * 2 ^ (max (-((plaR a : Int) - 1074 - 1)) 0).toNat) (U * 2 ^ (max ((plaR a : Int) - 1074 - 1) 0).toNat * (2 * ((manR a : Nat) : Int) + 1).toNat) → nearQ O U = if 0 < rr ∨ (rr = 0 ∧ a % 2 = 1) then a + 1 else a) := by
                  intro rr h
                  refine seek_end O U a u rr HU1.out HSK.out HOP.out HUP.out (cmp_unit (u := u + 1) (e := (plaR a : Int) - 1074 - 1) (by have := HU1.out; omega) ?_)
                  rw [show (2 * ((manR a : Nat) : Int) + 1).toNat = 2 * manR a + 1 from by omega] at h
                  exact h
                have HGL : Hid (wd.grownBy wr none) := hg
                have q0 : ((2 ^ 0 / 2 : Nat) : Int) = 0 := rfl
                rw [q0]
                obtain ⟨ai, hai⟩ : ∃ ai : Int, (a : Int) = ai := ⟨_, rfl⟩
                have a0 : 0 ≤ ai := by omega
                have a1 : ai < 9218868437227405312 := by omega
                have m0 : 0 ≤ ((manR a : Nat) : Int) := by omega
                have m1 : ((manR a : Nat) : Int) < 9007199254740992 := by omega
                have x0 : -1074 ≤ (plaR a : Int) - 1074 := by omega
                have x1 : (plaR a : Int) - 1074 ≤ 1100 := by omega
                have HAI : Hid ((a : Int) = ai) := hai
                rw [hai] at pt ⊢
                have HPAR : Hid ((a % 2 == 0) = false ↔ a % 2 = 1) := by show _ ↔ _; simp
                clear hk hg hs al ml em pb hai q0
                generalize ((manR a : Nat) : Int) = mm at *
                generalize ((plaR a : Int) - 1074) = ee at *
                generalize hev : (a % 2 == 0) = ev at *
                have HEV : Hid ((a % 2 == 0) = ev) := hev
                clear hev
                go_wp2_with fail
                refine (pt _).mono ?_
                rintro e w3 ⟨⟨n1, rfl⟩, g3⟩
                have HX4 : Hid ((w3.alloc (.cells #[.int .u64 mm, .int .i64 ee, .bool ev, .bool n1] 92)).cell? ⟨w3.heap.size, 2, none⟩ = some (.bool ev)) := by
                  show _ = _
                  have hb : (w3.alloc (.cells #[.int .u64 mm, .int .i64 ee, .bool ev, .bool n1] 92)).heap[w3.heap.size]? = some (.cells #[.int .u64 mm, .int .i64 ee, .bool ev, .bool n1] 92 (0, 0)) := by
                    show (w3.heap.push _)[w3.heap.size]? = _
                    simp
                  simp only [World.cell?, hb]
                  rfl
                have gq := grown_tr (grown_tr HGL.out g3) (grown_alloc w3 (.cells #[.int .u64 mm, .int .i64 ee, .bool ev, .bool n1] 92))
                have cg := ag (w3.alloc (.cells #[.int .u64 mm, .int .i64 ee, .bool ev, .bool n1] 92)) (HOO.out.keep gq) (HUU.out.keep gq)
                clear g3
                go_wp2_with fail
                refine cg.mono ?_
                rintro e w5 ⟨rr, rfl, hr, g5⟩
                have EN := HEND.out rr hr
                have c5 : w5.cell? ⟨w3.heap.size, 2, none⟩ = some (.bool ev) := g5.cell HX4.out (by simp)
                have HG5 : Hid (w.grownBy w5 none) := grown_tr HGG.out (grown_tr gq g5)
                have HRES : Hid (valD (nodz A) (((nodz A).length : Int) + p) = if 0 < rr ∨ (rr = 0 ∧ a % 2 = 1) then a + 1 else a) := HVAL.out.trans EN
                clear EN hr g5 gq cg ag pt
                rcases Int.lt_trichotomy rr 0 with k | k | k
                · have FV : Hid (((valD (nodz A) (((nodz A).length : Int) + p) : Nat) : Int) = ai) := by
                    show _ = _
                    rw [HRES.out, if_neg (by omega), HAI.out]
                  go_wp2_with fail
                  go_ret
                  exact ⟨by rw [FV.out]; rfl, HG5.out⟩
                · subst k
                  cases ev with
                  | true =>
                    have FV : Hid (((valD (nodz A) (((nodz A).length : Int) + p) : Nat) : Int) = ai) := by
                      have hp := HEV.out
                      simp at hp
                      show _ = _
                      rw [HRES.out, if_neg (by omega), HAI.out]
                    go_wp2_with fail
                    go_ret
                    exact ⟨by rw [FV.out]; rfl, HG5.out⟩
                  | false =>
                    have FV : Hid (((valD (nodz A) (((nodz A).length : Int) + p) : Nat) : Int) = ai + 1) := by
                      have hp := HEV.out
                      simp at hp
                      have := HAI.out
                      show _ = _
                      rw [HRES.out, if_pos (by omega)]
                      omega
                    go_wp2_with fail
                    go_ret
                    exact ⟨by rw [FV.out]; rfl, HG5.out⟩
                · have FV : Hid (((valD (nodz A) (((nodz A).length : Int) + p) : Nat) : Int) = ai + 1) := by
                    have := HAI.out
                    show _ = _
                    rw [HRES.out, if_pos (by omega)]
                    omega
                  go_wp2_with fail
                  go_ret
                  exact ⟨by rw [FV.out]; rfl, HG5.out⟩
              | succ s =>
                have eb : 2 ^ (s + 1) / 2 = 2 ^ s := by rw [Nat.pow_succ]; omega
                have sb : 2 ^ s ≤ 4611686018427387904 := Nat.le_trans (Nat.pow_le_pow_right (by decide) (show s ≤ 62 by omega)) (by decide)
                have sp : 0 < 2 ^ s := Nat.two_pow_pos s
                rw [eb]
                have HY : Hid (a + 2 ^ s < 9218868437227405312 → valN (a + 2 ^ s) * U ≤ O * 2 ^ u → Seek (O * 2 ^ u) U (a + 2 ^ s) s) := fun h1 h2 => seek_yes hk h1 h2
                have HNO : Hid ((9218868437227405312 ≤ a + 2 ^ s ∨ O * 2 ^ u < valN (a + 2 ^ s) * U) → Seek (O * 2 ^ u) U a s) := fun h1 => seek_no hk h1
                generalize hB : 2 ^ s = B at *
                have HB : Hid (2 ^ s = B) := hB
                clear hB eb hk
                obtain ⟨bi, hbi⟩ : ∃ bi : Int, (B : Int) = bi := ⟨_, rfl⟩
                obtain ⟨ai, hai⟩ : ∃ ai : Int, (a : Int) = ai := ⟨_, rfl⟩
                have b0 : 0 < bi := by omega
                have b1 : bi ≤ 4611686018427387904 := by omega
                have a0 : 0 ≤ ai := by omega
                have a1 : ai < 9218868437227405312 := by omega
                have HHF : Hid (((B / 2 : Nat) : Int) = bi / 2) := by show _ = _; omega
                have HAI : Hid ((a : Int) = ai ∧ (B : Int) = bi) := ⟨hai, hbi⟩
                rcases Nat.lt_or_ge (a + B) 9218868437227405312 with hlt | hge
                · have pt := parts_any (a + B) hlt
                  have t1 : ai + bi < 9218868437227405312 := by omega
                  have es : ((a + B : Nat) : Int) = ai + bi := by omega
                  rw [es] at pt
                  have pb : plaR (a + B) ≤ 2100 := by unfold plaR; omega
                  have ml : manR (a + B) < 18446744073709551616 := by unfold manR; split <;> omega
                  have ag := fun wq (h1 : N32 wq vo O) (h2 : N32 wq vu U) => against_any wq vo vu O U (manR (a + B) : Nat) ((plaR (a + B) : Int) - 1074) (K + 40) h1 h2 (by omega) (by omega) (by omega) (by omega) (by omega) (HOB.out _ (by omega)) (HUB.out _ (by omega))
                  have HCM : Hid (∀ rr : Int, CmpIs rr (O * 2 ^ (max (-((plaR (a + B) : Int) - 1074)) 0).toNat) (U * 2 ^ (max ((plaR (a + B) : Int) - 1074) 0).toNat * ((manR (a + B) : Nat) : Int).toNat) → CmpIs rr (O * 2 ^ u) (valN (a + B) * U)) := by
                    intro rr h
                    rw [valN_parts]
                    exact cmp_unit (by rw [HU1.out]) (by rw [show (((manR (a + B) : Nat) : Int)).toNat = manR (a + B) from by omega] at h; exact h)
                  have HGL : Hid (wd.grownBy wr none) := hg
                  rw [hai, hbi]
                  have hs2 : s ≤ 62 := by omega
                  clear al sb sp hs hlt hai hbi es hg
                  generalize ((manR (a + B) : Nat) : Int) = mm at *
                  generalize ((plaR (a + B) : Int) - 1074) = ee at *
                  go_wp2_with fail
                  refine (pt _).mono ?_
                  rintro e w3 ⟨⟨n1, rfl⟩, g3⟩
                  go_wp2_with fail
                  refine (pt _).mono ?_
                  rintro e w4 ⟨⟨n2, rfl⟩, g4⟩
                  have gq := grown_tr HGL.out (grown_tr g3 g4)
                  have cg := ag w4 (HOO.out.keep gq) (HUU.out.keep gq)
                  clear g3 g4
                  go_wp2_with fail
                  refine cg.mono ?_
                  rintro e w5 ⟨rr, rfl, hr, g5⟩
                  have CM := HCM.out rr hr
                  have HG5 : Hid (wd.grownBy w5 none) := grown_tr gq g5
                  have LT : a + B < 9218868437227405312 := by have := HAI.out; omega
                  rcases Int.lt_or_le rr 0 with rn | rn
                  · have NX : Seek (O * 2 ^ u) U a s := HNO.out (Or.inr (CM.1.1 rn))
                    have HNX : Hid (Seek (O * 2 ^ u) U a s) := NX
                    clear NX CM hr g5 gq pt ag cg LT
                    go_wp2_with fail
                    refine ⟨⟨a, s, by rw [HAI.out.1], by rw [HB.out, HHF.out], by omega, HNX.out, HG5.out⟩, ?_⟩
                    simp [intOf]; omega
                  · have NX : Seek (O * 2 ^ u) U (a + B) s := HY.out LT (by
                      have n1 : ¬ O * 2 ^ u < valN (a + B) * U := fun h => by have := CM.1.2 h; omega
                      omega)
                    have HNX : Hid (Seek (O * 2 ^ u) U (a + B) s) := NX
                    have HSS : Hid (((a + B : Nat) : Int) = ai + bi) := by show _ = _; have := HAI.out; omega
                    clear NX CM hr g5 gq pt ag cg LT
                    go_wp2_with fail
                    refine ⟨⟨a + B, s, by rw [HSS.out], by rw [HB.out, HHF.out], by omega, HNX.out, HG5.out⟩, ?_⟩
                    simp [intOf]; omega
                · have HNX : Hid (Seek (O * 2 ^ u) U a s) := HNO.out (Or.inl hge)
                  have t1 : ¬ ai + bi < 9218868437227405312 := by omega
                  have HGL : Hid (wd.grownBy wr none) := hg
                  rw [hai, hbi]
                  have hs2 : s ≤ 62 := by omega
                  clear al sb sp hs hge hai hbi hg fm fe fv
                  go_wp2_with fail
                  refine ⟨⟨a, s, by rw [HAI.out.1], by rw [HB.out, HHF.out], by omega, HNX.out, HGL.out⟩, ?_⟩
                  simp [intOf]; omega

end Go.Proofs.YtpejebohekcfoaaGreatDoor.V32
namespace Go.Proofs.YtpejebohekcfoaaGreatDoor.V32
open Go.RowKit
set_option linter.unusedVariables false

theorem ext_take (l : List UInt8) (n : Nat) : (bs l).extract 0 n = bs (l.take n) := by
  apply ByteArray.ext
  unfold bs
  simp

set_option maxHeartbeats 4000000 in
set_option maxRecDepth 100000 in
theorem near10_long0 (A : List UInt8) (p : Int) (w : World) (hA : ∀ z ∈ A, isDig z = true) (hl : A.length ≤ 1000000) (p0 : -2199023255554 ≤ p) (p1 : p ≤ 2199023255554) (hne : nodz A ≠ []) (hL : 800 < (nodz A).length) (hlost : ((nodz A).drop 800).any (fun c => c != 48) = false) (hp : ((nodz A).length : Int) + p ≤ 310) (hp2 : -330 ≤ ((nodz A).length : Int) + p) :
    Calls Tryz.prog 91 #[.string (bs A), .int .i64 p] w fun e w' => e = .returned (.int .u64 (valD ((nodz A).take 800) (((nodz A).length : Int) + p) : Nat)) ∧ w.grownBy w' none := by
  have H0 : Hid (Ld w w A (.string (bs A))) := ⟨A, rfl, ⟨rfl, Nat.le_refl _, hA⟩, grown_refl w⟩
  clear hA
  go_enter Tryz.func91, Tryz.ntmps91
  go_wp2_with fail
  go_loopw [0] (fun dv wr => Ld w wr A dv) (fun dv _ => match dv with | .string X => X.size | _ => 0)
  case atStart => exact H0.out
  case round =>
    clear H0
    obtain ⟨D, rfl, hD, hg⟩ := hrel
    have dl := hD.len
    cases D with
    | nil =>
      have hDe := led_end _ _ hD (by intro x r h; cases h)
      exact absurd hDe.symm hne
    | cons x r =>
      obtain ⟨X, hX⟩ : ∃ X, X = bs (x :: r) := ⟨_, rfl⟩
      have xs : X.size = r.length + 1 := by rw [hX, bs_size]; rfl
      have xp : 0 < X.size := by omega
      have x0 : X[0] = x := by subst hX; rfl
      have HX : Hid (X = bs (x :: r)) := hX
      rw [← hX]
      clear hX
      have rl : r.length ≤ 1000000 := by simp at dl; omega
      by_cases h48 : x = 48
      · subst h48
        have HN : Hid (Ld w wr A (.string (X.extract 1 (r.length + 1)))) := ⟨r, by rw [HX.out, ext_one], led_next _ _ hD, hg⟩
        have x48 : X[0].toNat = 48 := by rw [x0]; rfl
        clear hD dl x0 hg
        go_wp2_with fail
        obtain ⟨D', q3, q5, q6⟩ := HN.out
        refine ⟨⟨D', q3, q5, by first | exact q6 | exact grown_drew q6 | exact grown_drew (grown_drew q6)⟩, ?_⟩
        show (X.extract 1 (r.length + 1)).size < X.size
        rw [ByteArray.size_extract]; omega
      · have hDe := led_end _ _ hD (by intro y t h; cases h; exact h48)
        have n48 : ¬ X[0].toNat = 48 := by rw [x0]; intro h; exact h48 (UInt8.toNat_inj.1 h)
        have L0 : 800 < r.length + 1 := by rw [← hDe] at hL; simp at hL; omega
        have PP0 : -330 ≤ ((r.length : Int) + 1) + p := by rw [← hDe] at hp2; simp at hp2; exact hp2
        have PP1 : ((r.length : Int) + 1) + p ≤ 310 := by rw [← hDe] at hp; simp at hp; exact hp
        have HLOST : Hid (((x :: r).drop 800).any (fun c => c != 48) = false) := by show _ = _; rw [hDe]; exact hlost
        have HDE : Hid (x :: r = nodz A) := hDe
        have HDG0 : Hid (∀ z ∈ x :: r, isDig z = true) := hD.sub
        have HXZ : Hid (x ≠ 48) := h48
        have HAT0 : Hid (∀ k (h : k < X.size), (x :: r)[k]? = some X[k]) := by
          have := HX.out
          subst this
          exact fun k h => bs_at _ k h
        have HGW : Hid (w.grownBy wr none) := hg
        have nb48 : (((X[0].toNat : Nat) : Int) == 48) = false := by simp; omega
        have nb800 : decide (800 < ((r.length : Int) + 1)) = true := decide_eq_true (by omega)
        clear hD hDe dl hL hp hp2 hne x0 h48 hg n48 hlost
        go_wp2_with fail
        go_loopw [5, 6] (fun lv iv w2 => ∃ k : Nat, 800 ≤ k ∧ k ≤ r.length + 1 ∧ iv = .int .i64 k ∧ lv = .bool ((((x :: r).take k).drop 800).any (fun c => c != 48)) ∧ w.grownBy w2 none) (fun _ iv _ => r.length + 1 - (intOf iv).toNat)
        case atStart => exact ⟨800, Nat.le_refl _, by omega, rfl, by rw [List.drop_of_length_le (by simp; omega)]; rfl, HGW.out⟩
        case round =>
          clear HGW
          obtain ⟨k, hk0, hk, rfl, rfl, hg⟩ := hrel
          rcases Nat.lt_or_ge k (r.length + 1) with hlt | hge
          · have hks : k < X.size := by omega
            have ak := HAT0.out k hks
            have e2 : (((x :: r).take (k + 1)).drop 800).any (fun c => c != 48) = ((((x :: r).take k).drop 800).any (fun c => c != 48) || (X[k] != 48)) := by
              rw [List.take_add_one, ak]
              show (((x :: r).take k ++ [X[k]]).drop 800).any _ = _
              rw [List.drop_append_of_le_length (by rw [List.length_take]; simp; omega), List.any_append]
              simp
            have HE : Hid (((k + 1 : Nat) : Int) = (k : Int) + 1) := by show _ = _; omega
            have HE2 : Hid ((((x :: r).take (k + 1)).drop 800).any (fun c => c != 48) = ((((x :: r).take k).drop 800).any (fun c => c != 48) || (X[k] != 48))) := e2
            have HG : Hid (w.grownBy _ none) := hg
            generalize hbb : (((x :: r).take k).drop 800).any (fun c => c != 48) = bb at *
            have bx : ((((X[k]).toNat : Nat) : Int) != 48) = (X[k] != 48) := by
              rw [Bool.eq_iff_iff]
              simp only [bne_iff_ne, ne_eq]
              constructor
              · intro h1 h2; rw [h2] at h1; exact h1 rfl
              · intro h1 h2; exact h1 (UInt8.toNat_inj.1 (by show _ = 48; omega))
            clear e2 ak hg hbb
            cases bb with
            | true =>
              clear bx
              go_wp2_with fail
              refine ⟨⟨k + 1, by omega, by omega, by rw [HE.out], by rw [HE2.out]; rfl, by first | exact HG.out | exact grown_drew HG.out⟩, ?_⟩
              first | (simp [intOf]; done) | (simp [intOf]; omega)
            | false =>
              go_wp2_with fail
              all_goals (refine ⟨⟨k + 1, by omega, by omega, by rw [HE.out], by rw [HE2.out]; first | rfl | simp_all, by first | exact HG.out | exact grown_drew HG.out⟩, ?_⟩; first | (simp [intOf]; done) | (simp [intOf]; omega))
          · have hkk : k = r.length + 1 := by omega
            subst hkk
            rw [List.take_of_length_le (by simp), HLOST.out, show ((r.length + 1 : Nat) : Int) = (r.length : Int) + 1 from by omega]
            have HGW : Hid (w.grownBy _ none) := hg
            clear hg hk hk0 hge HLOST
            obtain ⟨r2, hr2⟩ : ∃ r2, r2 = r.take 799 := ⟨_, rfl⟩
            obtain ⟨X2, hX2⟩ : ∃ X2, X2 = X.extract 0 800 := ⟨_, rfl⟩
            obtain ⟨p2, hp2⟩ : ∃ p2 : Int, p + ((r.length : Int) + 1) - 800 = p2 := ⟨_, rfl⟩
            have rz : r2.length + 1 = 800 := by rw [hr2]; simp; omega
            have HX2 : Hid (X2 = bs (x :: r2)) := by
              show X2 = _
              rw [hX2, HX.out, ext_take, hr2]
              rfl
            have xs2 : X2.size = r2.length + 1 := by rw [HX2.out, bs_size]; rfl
            have XZ : (X.extract 0 800).size = 800 := by rw [ByteArray.size_extract]; omega
            have L1 : ((r2.length : Int) + 1) + p2 ≤ 310 := by omega
            have L3 : -330 ≤ ((r2.length : Int) + 1) + p2 := by omega
            have L2 : r2.length + 1 ≤ 801 := by omega
            have e1 : X2.toList.isEmpty = false := by rw [HX2.out, bs_toList]; rfl
            have HDG : Hid (∀ z ∈ x :: r2, isDig z = true) := by
              intro z hz
              rw [hr2] at hz
              exact HDG0.out z (by rcases List.mem_cons.1 hz with h | h; (rw [h]; simp); exact List.mem_cons_of_mem _ (List.mem_of_mem_take h))
            have HAT : Hid (∀ k (h : k < X2.size), (x :: r2)[k]? = some X2[k]) := by
              have := HX2.out
              subst this
              exact fun k h => bs_at _ k h
            have HFIN : Hid (valD ((nodz A).take 800) (((nodz A).length : Int) + p) = valD (x :: r2) (((x :: r2).length : Int) + p2)) := by
              show _ = _
              rw [← HDE.out, hr2]
              have hl2 : ((x :: r).length : Int) + p = (((x :: r.take 799).length : Nat) : Int) + p2 := by simp; omega
              rw [hl2]
              rfl
            have hX2' : X.extract 0 800 = X2 := hX2.symm
            clear HDE
            clear hX2 hr2
            go_wp2_with fail
            have N0 : N32 (wr.alloc (.cells #[] 139)) (.slice (some ⟨wr.heap.size, 0, none⟩) 0 0) 0 := by
              refine ⟨wr.heap.size, ?_, by show wr.heap.size < (wr.heap.push _).size; simp⟩
              rw [wds_zero]
              exact ⟨0, rfl, rfl, .inr ⟨wr.heap.size, 0, #[], rfl, Nat.le_refl _, by show (wr.heap.push _)[wr.heap.size]? = _; simp, Nat.le_refl _, by decide, rfl, rfl⟩⟩
            have HG1 : Hid (w.grownBy (wr.alloc (.cells #[] 139)) none) := grown_tr HGW.out (grown_alloc _ _)
            have HN0 : Hid (N32 (wr.alloc (.cells #[] 139)) (.slice (some ⟨wr.heap.size, 0, none⟩) 0 0) 0) := N0
            clear N0
            generalize wr.alloc (.cells #[] 139) = wa at *
            go_loopw [7, 8] (fun nv iv w2 => ∃ k : Nat, k ≤ r2.length + 1 ∧ iv = .int .i64 k ∧ N32 w2 nv (decN ((x :: r2).take k)) ∧ w.grownBy w2 none) (fun _ iv _ => r2.length + 1 - (intOf iv).toNat)
            case atStart => exact ⟨0, by omega, rfl, HN0.out, HG1.out⟩
            case round =>
              clear HN0 HG1
              obtain ⟨k, hk, rfl, hN, hg⟩ := hrel
              have HLEN : Hid (∀ j, (wds (decN ((x :: r2).take j))).length ≤ 200) := by
                intro j
                exact big_len _ (fun z hz => HDG.out z (List.mem_of_mem_take hz)) (by rw [List.length_take]; simp; omega)
              rcases Nat.lt_or_ge k (r2.length + 1) with hlt | hge
              · have hks : k < X2.size := by omega
                have ak := HAT.out k hks
                have dz := HDG.out _ (List.mem_of_getElem? ak)
                have dz' : 48 ≤ (X2[k]).toNat ∧ (X2[k]).toNat ≤ 57 := by unfold isDig at dz; simpa using dz
                have cc := times_any _ _ _ 10 ((X2[k]).toNat - 48) hN (by decide) (by omega) (by have := HLEN.out k; omega)
                have e2 : decN ((x :: r2).take k) * 10 + ((X2[k]).toNat - 48) = decN ((x :: r2).take (k + 1)) := by
                  rw [List.take_add_one, ak]
                  exact (decN_snoc _ _).symm
                rw [e2] at cc
                have HG : Hid (w.grownBy _ none) := hg
                obtain ⟨z0, z1⟩ := dz'
                generalize hzz : (X2[k]).toNat = z at *
                have ez : ((z - 48 : Nat) : Int) = (z : Int) - 48 := by omega
                rw [ez] at cc
                have HE : Hid (((k + 1 : Nat) : Int) = (k : Int) + 1) := by show _ = _; omega
                clear hN hg ak dz e2 ez HLEN
                go_wp2_with fail
                refine cc.mono ?_
                rintro e w3 ⟨v', rfl, h1, h2⟩
                have HH1 : Hid (N32 w3 v' (decN ((x :: r2).take (k + 1)))) := h1
                have HH2 : Hid (w.grownBy w3 none) := grown_tr HG.out h2
                clear h1 h2
                go_wp2_with fail
                refine ⟨⟨k + 1, by omega, by rw [HE.out], HH1.out, HH2.out⟩, ?_⟩
                first | (simp [intOf]; done) | (simp [intOf]; omega)
              · have hkk : k = r2.length + 1 := by omega
                subst hkk
                rw [List.take_of_length_le (by simp)] at hN
                have HG : Hid (w.grownBy _ none) := hg
                obtain ⟨K, hK⟩ : ∃ K : Nat, K = 200 := ⟨_, rfl⟩
                have K1 : K ≤ 1000 := by omega
                have HK1 : Hid (∀ n : Nat, n ≤ 310 → decN (x :: r2) * 10 ^ n < 4294967296 ^ K) := by
                  intro n hn
                  rw [hK]
                  exact big_dig _ HDG.out (by simp; omega) n hn
                have HK2 : Hid (∀ n : Nat, n ≤ 1140 → 1 * 10 ^ n < 4294967296 ^ K) := by
                  intro n hn
                  rw [hK]
                  exact big_ten n hn
                have HKK : Hid (K = 200) := hK
                clear hK
                have HDP : Hid (0 < decN (x :: r2)) := by
                  have := decN_ge (x :: r2) x r2 rfl (HDG.out x (by simp)) HXZ.out
                  have q : 0 < 10 ^ ((x :: r2).length - 1) := Nat.pow_pos (by decide)
                  show 0 < decN (x :: r2)
                  omega
                clear hg HLEN
                have c1 := tens_any _ _ _ (max p2 0).toNat K hN (by omega) (HK1.out (max p2 0).toNat (by omega)) (by omega)
                have q1 : (((max p2 0).toNat : Nat) : Int) = max p2 0 := by omega
                rw [q1] at c1
                clear q1 hN
                go_wp2_with fail
                refine c1.mono ?_
                rintro e wb ⟨vo, rfl, hO, g1⟩
                have c2 := nat_any wb 1 (by omega) (by omega)
                go_wp2_with fail
                refine c2.mono ?_
                rintro e wc ⟨v1, rfl, hu1, g2⟩
                have c3 := tens_any wc v1 1 (max (-p2) 0).toNat K hu1 (by omega) (HK2.out (max (-p2) 0).toNat (by omega)) (by omega)
                have q1 : (((max (-p2) 0).toNat : Nat) : Int) = max (-p2) 0 := by omega
                rw [q1] at c3
                clear q1 hu1
                go_wp2_with fail
                refine c3.mono ?_
                rintro e wd ⟨vu, rfl, hU, g3⟩
                have hO := (hO.keep g2).keep g3
                have hG := grown_tr HG.out (grown_tr g1 (grown_tr g2 g3))
                clear g1 g2 g3
                rw [Nat.one_mul] at hU
                have HOP : Hid (0 < decN (x :: r2) * 10 ^ (max p2 0).toNat) := Nat.mul_pos HDP.out (Nat.pow_pos (by decide))
                have HUP : Hid (0 < 10 ^ (max (-p2) 0).toNat) := Nat.pow_pos (by decide)
                have HOB : Hid (∀ n : Nat, n ≤ 1280 → decN (x :: r2) * 10 ^ (max p2 0).toNat * 2 ^ n < 4294967296 ^ (K + 40)) := fun n hn => up_bound (HK1.out _ (by omega)) n hn
                have HUB : Hid (∀ n : Nat, n ≤ 1280 → 10 ^ (max (-p2) 0).toNat * 2 ^ n < 4294967296 ^ (K + 40)) := fun n hn => up_bound (by have := HK2.out (max (-p2) 0).toNat (by omega); rw [Nat.one_mul] at this; exact this) n hn
                have HVAL : Hid (valD ((nodz A).take 800) (((nodz A).length : Int) + p) = nearQ (decN (x :: r2) * 10 ^ (max p2 0).toNat) (10 ^ (max (-p2) 0).toNat)) := by
                  show _ = _
                  rw [HFIN.out]
                  unfold valD
                  have hl1 : (((x :: r2).length : Nat) : Int) = (r2.length : Int) + 1 := by simp
                  rw [if_neg (fun h => h.elim (fun h => absurd h (by simp)) (fun h => by omega)), if_neg (by omega)]
                  rw [show (((x :: r2).length : Nat) + p2 - ((x :: r2).length : Nat)).toNat = (max p2 0).toNat from by omega, show ((((x :: r2).length : Nat) : Int) - (((x :: r2).length : Nat) + p2)).toNat = (max (-p2) 0).toNat from by omega]
                generalize decN (x :: r2) * 10 ^ (max p2 0).toNat = O at *
                generalize 10 ^ (max (-p2) 0).toNat = U at *
                have HOO : Hid (N32 wd vo O) := hO
                have HUU : Hid (N32 wd vu U) := hU
                have HGG : Hid (w.grownBy wd none) := hG
                obtain ⟨u, hu⟩ : ∃ u : Nat, u = 1074 := ⟨_, rfl⟩
                have HU1 : Hid (u = 1074) := hu
                have HS0 : Hid (Seek (O * 2 ^ u) U 0 63) := ⟨by decide, by rw [valN_zero, Nat.zero_mul]; exact Nat.zero_le _, Or.inl (by decide)⟩
                clear hO hU hG hu
                go_wp2_with fail
                go_loopw [11, 12] (fun av bv w2 => ∃ a s : Nat, av = .int .u64 (a : Int) ∧ bv = .int .u64 ((2 ^ s / 2 : Nat) : Int) ∧ s ≤ 63 ∧ Seek (O * 2 ^ u) U a s ∧ wd.grownBy w2 none) (fun _ bv _ => (intOf bv).toNat)
                case atStart => exact ⟨0, 63, rfl, by rfl, by omega, HS0.out, grown_refl _⟩
                case round =>
                  clear HS0
                  obtain ⟨a, s, rfl, rfl, hs, hk, hg⟩ := hrel
                  have al := hk.lt
                  have fm : ∀ (m e : Int) (b n : Bool) (w : World), (Instr.field 92 (.agg #[.int .u64 m, .int .i64 e, .bool b, .bool n]) 0).run Tryz.prog w = .ok (.int .u64 m) w := field_man
                  have fe : ∀ (m e : Int) (b n : Bool) (w : World), (Instr.field 92 (.agg #[.int .u64 m, .int .i64 e, .bool b, .bool n]) 1).run Tryz.prog w = .ok (.int .i64 e) w := field_exp
                  have fv : ∀ (m e : Int) (b n : Bool) (w : World), (Instr.field 92 (.agg #[.int .u64 m, .int .i64 e, .bool b, .bool n]) 2).run Tryz.prog w = .ok (.bool b) w := field_even
                  cases s with
                  | zero =>
                    have HSK : Hid (Seek (O * 2 ^ u) U a 0) := hk
                    have pt := parts_any a al
                    have pb : plaR a ≤ 2100 := by unfold plaR; omega
                    have ml : manR a < 9007199254740992 := by unfold manR; split <;> omega
                    have em : ((2 * manR a + 1 : Nat) : Int) = 2 * ((manR a : Nat) : Int) + 1 := by omega
                    have ag := fun wq (h1 : N32 wq vo O) (h2 : N32 wq vu U) => against_any wq vo vu O U (2 * ((manR a : Nat) : Int) + 1) ((plaR a : Int) - 1074 - 1) (K + 40) h1 h2 (by omega) (by omega) (by omega) (by omega) (by omega) (HOB.out _ (by omega)) (HUB.out _ (by omega))
                    have HEND : Hid (∀ rr : Int, CmpIs rr (O * 2 ^ (max (-((plaR a : Int) - 1074 - 1)) 0).toNat) (U * 2 ^ (max ((plaR a : Int) - 1074 - 1) 0).toNat * (2 * ((manR a : Nat) : Int) + 1).toNat) → nearQ O U = if 0 < rr ∨ (rr = 0 ∧ a % 2 = 1) then a + 1 else a) := by
                      intro rr h
                      refine seek_end O U a u rr HU1.out HSK.out HOP.out HUP.out (cmp_unit (u := u + 1) (e := (plaR a : Int) - 1074 - 1) (by have := HU1.out; omega) ?_)
                      rw [show (2 * ((manR a : Nat) : Int) + 1).toNat = 2 * manR a + 1 from by omega] at h
                      exact h
                    have HGL : Hid (wd.grownBy wr none) := hg
                    have q0 : ((2 ^ 0 / 2 : Nat) : Int) = 0 := rfl
                    rw [q0]
                    obtain ⟨ai, hai⟩ : ∃ ai : Int, (a : Int) = ai := ⟨_, rfl⟩
                    have a0 : 0 ≤ ai := by omega
                    have a1 : ai < 9218868437227405312 := by omega
                    have m0 : 0 ≤ ((manR a : Nat) : Int) := by omega
                    have m1 : ((manR a : Nat) : Int) < 9007199254740992 := by omega
                    have x0 : -1074 ≤ (plaR a : Int) - 1074 := by omega
                    have x1 : (plaR a : Int) - 1074 ≤ 1100 := by omega
                    have HAI : Hid ((a : Int) = ai) := hai
                    rw [hai] at pt ⊢
                    have HPAR : Hid ((a % 2 == 0) = false ↔ a % 2 = 1) := by show _ ↔ _; simp
                    clear hk hg hs al ml em pb hai q0
                    generalize ((manR a : Nat) : Int) = mm at *
                    generalize ((plaR a : Int) - 1074) = ee at *
                    generalize hev : (a % 2 == 0) = ev at *
                    have HEV : Hid ((a % 2 == 0) = ev) := hev
                    clear hev
                    go_wp2_with fail
                    refine (pt _).mono ?_
                    rintro e w3 ⟨⟨n1, rfl⟩, g3⟩
                    have HX4 : Hid ((w3.alloc (.cells #[.int .u64 mm, .int .i64 ee, .bool ev, .bool n1] 92)).cell? ⟨w3.heap.size, 2, none⟩ = some (.bool ev)) := by
                      show _ = _
                      have hb : (w3.alloc (.cells #[.int .u64 mm, .int .i64 ee, .bool ev, .bool n1] 92)).heap[w3.heap.size]? = some (.cells #[.int .u64 mm, .int .i64 ee, .bool ev, .bool n1] 92 (0, 0)) := by
                        show (w3.heap.push _)[w3.heap.size]? = _
                        simp
                      simp only [World.cell?, hb]
                      rfl
                    have gq := grown_tr (grown_tr HGL.out g3) (grown_alloc w3 (.cells #[.int .u64 mm, .int .i64 ee, .bool ev, .bool n1] 92))
                    have cg := ag (w3.alloc (.cells #[.int .u64 mm, .int .i64 ee, .bool ev, .bool n1] 92)) (HOO.out.keep gq) (HUU.out.keep gq)
                    clear g3
                    go_wp2_with fail
                    refine cg.mono ?_
                    rintro e w5 ⟨rr, rfl, hr, g5⟩
                    have EN := HEND.out rr hr
                    have c5 : w5.cell? ⟨w3.heap.size, 2, none⟩ = some (.bool ev) := g5.cell HX4.out (by simp)
                    have HG5 : Hid (w.grownBy w5 none) := grown_tr HGG.out (grown_tr gq g5)
                    have HRES : Hid (valD ((nodz A).take 800) (((nodz A).length : Int) + p) = if 0 < rr ∨ (rr = 0 ∧ a % 2 = 1) then a + 1 else a) := HVAL.out.trans EN
                    clear EN hr g5 gq cg ag pt
                    rcases Int.lt_trichotomy rr 0 with k | k | k
                    · have FV : Hid (((valD ((nodz A).take 800) (((nodz A).length : Int) + p) : Nat) : Int) = ai) := by
                        show _ = _
                        rw [HRES.out, if_neg (by omega), HAI.out]
                      go_wp2_with fail
                      go_ret
                      exact ⟨by rw [FV.out]; rfl, HG5.out⟩
                    · subst k
                      cases ev with
                      | true =>
                        have FV : Hid (((valD ((nodz A).take 800) (((nodz A).length : Int) + p) : Nat) : Int) = ai) := by
                          have hp := HEV.out
                          simp at hp
                          show _ = _
                          rw [HRES.out, if_neg (by omega), HAI.out]
                        go_wp2_with fail
                        go_ret
                        exact ⟨by rw [FV.out]; rfl, HG5.out⟩
                      | false =>
                        have FV : Hid (((valD ((nodz A).take 800) (((nodz A).length : Int) + p) : Nat) : Int) = ai + 1) := by
                          have hp := HEV.out
                          simp at hp
                          have := HAI.out
                          show _ = _
                          rw [HRES.out, if_pos (by omega)]
                          omega
                        go_wp2_with fail
                        go_ret
                        exact ⟨by rw [FV.out]; rfl, HG5.out⟩
                    · have FV : Hid (((valD ((nodz A).take 800) (((nodz A).length : Int) + p) : Nat) : Int) = ai + 1) := by
                        have := HAI.out
                        show _ = _
                        rw [HRES.out, if_pos (by omega)]
                        omega
                      go_wp2_with fail
                      go_ret
                      exact ⟨by rw [FV.out]; rfl, HG5.out⟩
                  | succ s =>
                    have eb : 2 ^ (s + 1) / 2 = 2 ^ s := by rw [Nat.pow_succ]; omega
                    have sb : 2 ^ s ≤ 4611686018427387904 := Nat.le_trans (Nat.pow_le_pow_right (by decide) (show s ≤ 62 by omega)) (by decide)
                    have sp : 0 < 2 ^ s := Nat.two_pow_pos s
                    rw [eb]
                    have HY : Hid (a + 2 ^ s < 9218868437227405312 → valN (a + 2 ^ s) * U ≤ O * 2 ^ u → Seek (O * 2 ^ u) U (a + 2 ^ s) s) := fun h1 h2 => seek_yes hk h1 h2
                    have HNO : Hid ((9218868437227405312 ≤ a + 2 ^ s ∨ O * 2 ^ u < valN (a + 2 ^ s) * U) → Seek (O * 2 ^ u) U a s) := fun h1 => seek_no hk h1
                    generalize hB : 2 ^ s = B at *
                    have HB : Hid (2 ^ s = B) := hB
                    clear hB eb hk
                    obtain ⟨bi, hbi⟩ : ∃ bi : Int, (B : Int) = bi := ⟨_, rfl⟩
                    obtain ⟨ai, hai⟩ : ∃ ai : Int, (a : Int) = ai := ⟨_, rfl⟩
                    have b0 : 0 < bi := by omega
                    have b1 : bi ≤ 4611686018427387904 := by omega
                    have a0 : 0 ≤ ai := by omega
                    have a1 : ai < 9218868437227405312 := by omega
                    have HHF : Hid (((B / 2 : Nat) : Int) = bi / 2) := by show _ = _; omega
                    have HAI : Hid ((a : Int) = ai ∧ (B : Int) = bi) := ⟨hai, hbi⟩
                    rcases Nat.lt_or_ge (a + B) 9218868437227405312 with hlt | hge
                    · have pt := parts_any (a + B) hlt
                      have t1 : ai + bi < 9218868437227405312 := by omega
                      have es : ((a + B : Nat) : Int) = ai + bi := by omega
                      rw [es] at pt
                      have pb : plaR (a + B) ≤ 2100 := by unfold plaR; omega
                      have ml : manR (a + B) < 18446744073709551616 := by unfold manR; split <;> omega
                      have ag := fun wq (h1 : N32 wq vo O) (h2 : N32 wq vu U) => against_any wq vo vu O U (manR (a + B) : Nat) ((plaR (a + B) : Int) - 1074) (K + 40) h1 h2 (by omega) (by omega) (by omega) (by omega) (by omega) (HOB.out _ (by omega)) (HUB.out _ (by omega))
                      have HCM : Hid (∀ rr : Int, CmpIs rr (O * 2 ^ (max (-((plaR (a + B) : Int) - 1074)) 0).toNat) (U * 2 ^ (max ((plaR (a + B) : Int) - 1074) 0).toNat * ((manR (a + B) : Nat) : Int).toNat) → CmpIs rr (O * 2 ^ u) (valN (a + B) * U)) := by
                        intro rr h
                        rw [valN_parts]
                        exact cmp_unit (by rw [HU1.out]) (by rw [show (((manR (a + B) : Nat) : Int)).toNat = manR (a + B) from by omega] at h; exact h)
                      have HGL : Hid (wd.grownBy wr none) := hg
                      rw [hai, hbi]
                      have hs2 : s ≤ 62 := by omega
                      clear al sb sp hs hlt hai hbi es hg
                      generalize ((manR (a + B) : Nat) : Int) = mm at *
                      generalize ((plaR (a + B) : Int) - 1074) = ee at *
                      go_wp2_with fail
                      refine (pt _).mono ?_
                      rintro e w3 ⟨⟨n1, rfl⟩, g3⟩
                      go_wp2_with fail
                      refine (pt _).mono ?_
                      rintro e w4 ⟨⟨n2, rfl⟩, g4⟩
                      have gq := grown_tr HGL.out (grown_tr g3 g4)
                      have cg := ag w4 (HOO.out.keep gq) (HUU.out.keep gq)
                      clear g3 g4
                      go_wp2_with fail
                      refine cg.mono ?_
                      rintro e w5 ⟨rr, rfl, hr, g5⟩
                      have CM := HCM.out rr hr
                      have HG5 : Hid (wd.grownBy w5 none) := grown_tr gq g5
                      have LT : a + B < 9218868437227405312 := by have := HAI.out; omega
                      rcases Int.lt_or_le rr 0 with rn | rn
                      · have NX : Seek (O * 2 ^ u) U a s := HNO.out (Or.inr (CM.1.1 rn))
                        have HNX : Hid (Seek (O * 2 ^ u) U a s) := NX
                        clear NX CM hr g5 gq pt ag cg LT
                        go_wp2_with fail
                        refine ⟨⟨a, s, by rw [HAI.out.1], by rw [HB.out, HHF.out], by omega, HNX.out, HG5.out⟩, ?_⟩
                        simp [intOf]; omega
                      · have NX : Seek (O * 2 ^ u) U (a + B) s := HY.out LT (by
                          have n1 : ¬ O * 2 ^ u < valN (a + B) * U := fun h => by have := CM.1.2 h; omega
                          omega)
                        have HNX : Hid (Seek (O * 2 ^ u) U (a + B) s) := NX
                        have HSS : Hid (((a + B : Nat) : Int) = ai + bi) := by show _ = _; have := HAI.out; omega
                        clear NX CM hr g5 gq pt ag cg LT
                        go_wp2_with fail
                        refine ⟨⟨a + B, s, by rw [HSS.out], by rw [HB.out, HHF.out], by omega, HNX.out, HG5.out⟩, ?_⟩
                        simp [intOf]; omega
                    · have HNX : Hid (Seek (O * 2 ^ u) U a s) := HNO.out (Or.inl hge)
                      have t1 : ¬ ai + bi < 9218868437227405312 := by omega
                      have HGL : Hid (wd.grownBy wr none) := hg
                      rw [hai, hbi]
                      have hs2 : s ≤ 62 := by omega
                      clear al sb sp hs hge hai hbi hg fm fe fv
                      go_wp2_with fail
                      refine ⟨⟨a, s, by rw [HAI.out.1], by rw [HB.out, HHF.out], by omega, HNX.out, HGL.out⟩, ?_⟩
                      simp [intOf]; omega

end Go.Proofs.YtpejebohekcfoaaGreatDoor.V32
