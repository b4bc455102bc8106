/- The program's grammar: partsOf. -/
import Derived.Test.YtihmdcdifakepabXD
namespace Go.Proofs.Ytihmdcdifakepab.Sc
open Go.RowKit
set_option linter.unusedVariables false

theorem repeat_one (a : UInt8) (n : Nat) : Lib.repeatL [a] n = List.replicate n a := by
  induction n with
  | zero => rfl
  | succ n ih => simp [Lib.repeatL, List.replicate_succ] at *; first | exact ih | simp_all

theorem rep_any (a : UInt8) (n : Nat) (hn : n ≤ 1000000) (w : World) : Calls Try.prog 22 #[.string ⟨#[a]⟩, .int .i64 n] w fun e w' => e = .returned (.string (bs (List.replicate n a))) ∧ Below w.heap.size w w' := by
  have := Try.strings_Repeat ⟨#[a]⟩ n w (by omega) (by show 1 * n ≤ _; omega)
  refine this.mono ?_
  rintro e w' ⟨rfl, h⟩
  refine ⟨?_, h⟩
  have e1 : (⟨#[a]⟩ : ByteArray).data.toList = [a] := rfl
  rw [e1, repeat_one]
  rfl

set_option maxRecDepth 100000 in
theorem parts_11 (n : Nat) (w : World) : Calls Try.prog 14 #[.int .i64 11, .int .i64 n] w fun e w' => e = .returned (.string (bs [101, 101])) ∧ Below w.heap.size w w' := by
  go_enter Try.func14, Try.ntmps14
  go_wp2_with fail
  go_ret
  exact ⟨rfl, Below.refl _ _⟩

set_option maxRecDepth 100000 in
theorem parts_13 (n : Nat) (w : World) : Calls Try.prog 14 #[.int .i64 13, .int .i64 n] w fun e w' => e = .returned (.string (bs [101, 101])) ∧ Below w.heap.size w w' := by
  go_enter Try.func14, Try.ntmps14
  go_wp2_with fail
  go_ret
  exact ⟨rfl, Below.refl _ _⟩

set_option maxRecDepth 100000 in
theorem parts_18 (n : Nat) (w : World) : Calls Try.prog 14 #[.int .i64 18, .int .i64 n] w fun e w' => e = .returned (.string (bs [101, 101])) ∧ Below w.heap.size w w' := by
  go_enter Try.func14, Try.ntmps14
  go_wp2_with fail
  go_ret
  exact ⟨rfl, Below.refl _ _⟩

set_option maxRecDepth 100000 in
theorem parts_19 (n : Nat) (w : World) : Calls Try.prog 14 #[.int .i64 19, .int .i64 n] w fun e w' => e = .returned (.string (bs [101, 101])) ∧ Below w.heap.size w w' := by
  go_enter Try.func14, Try.ntmps14
  go_wp2_with fail
  go_ret
  exact ⟨rfl, Below.refl _ _⟩

set_option maxRecDepth 100000 in
theorem parts_21 (n : Nat) (w : World) : Calls Try.prog 14 #[.int .i64 21, .int .i64 n] w fun e w' => e = .returned (.string (bs [103, 101])) ∧ Below w.heap.size w w' := by
  go_enter Try.func14, Try.ntmps14
  go_wp2_with fail
  go_ret
  exact ⟨rfl, Below.refl _ _⟩

set_option maxRecDepth 100000 in
theorem parts_17 (n : Nat) (w : World) : Calls Try.prog 14 #[.int .i64 17, .int .i64 n] w fun e w' => e = .returned (.string (bs [103])) ∧ Below w.heap.size w w' := by
  go_enter Try.func14, Try.ntmps14
  go_wp2_with fail
  go_ret
  exact ⟨rfl, Below.refl _ _⟩

set_option maxRecDepth 100000 in
theorem parts_20 (n : Nat) (w : World) : Calls Try.prog 14 #[.int .i64 20, .int .i64 n] w fun e w' => e = .returned (.string (bs [101, 101, 101])) ∧ Below w.heap.size w w' := by
  go_enter Try.func14, Try.ntmps14
  go_wp2_with fail
  go_ret
  exact ⟨rfl, Below.refl _ _⟩

set_option maxRecDepth 100000 in
theorem parts_16 (n : Nat) (w : World) : Calls Try.prog 14 #[.int .i64 16, .int .i64 n] w fun e w' => e = .returned (.string (bs [101])) ∧ Below w.heap.size w w' := by
  go_enter Try.func14, Try.ntmps14
  go_wp2_with fail
  go_ret
  exact ⟨rfl, Below.refl _ _⟩

set_option maxRecDepth 100000 in
theorem parts_32 (n : Nat) (w : World) : Calls Try.prog 14 #[.int .i64 32, .int .i64 n] w fun e w' => e = .returned (.string (bs [101])) ∧ Below w.heap.size w w' := by
  go_enter Try.func14, Try.ntmps14
  go_wp2_with fail
  go_ret
  exact ⟨rfl, Below.refl _ _⟩

set_option maxRecDepth 100000 in
theorem parts_42 (n : Nat) (w : World) : Calls Try.prog 14 #[.int .i64 42, .int .i64 n] w fun e w' => e = .returned (.string (bs [101])) ∧ Below w.heap.size w w' := by
  go_enter Try.func14, Try.ntmps14
  go_wp2_with fail
  go_ret
  exact ⟨rfl, Below.refl _ _⟩

set_option maxRecDepth 100000 in
theorem parts_46 (n : Nat) (w : World) : Calls Try.prog 14 #[.int .i64 46, .int .i64 n] w fun e w' => e = .returned (.string (bs [101])) ∧ Below w.heap.size w w' := by
  go_enter Try.func14, Try.ntmps14
  go_wp2_with fail
  go_ret
  exact ⟨rfl, Below.refl _ _⟩

set_option maxRecDepth 100000 in
theorem parts_22 (n : Nat) (w : World) : Calls Try.prog 14 #[.int .i64 22, .int .i64 n] w fun e w' => e = .returned (.string (bs [69])) ∧ Below w.heap.size w w' := by
  go_enter Try.func14, Try.ntmps14
  go_wp2_with fail
  go_ret
  exact ⟨rfl, Below.refl _ _⟩

set_option maxRecDepth 100000 in
theorem parts_31 (n : Nat) (w : World) : Calls Try.prog 14 #[.int .i64 31, .int .i64 n] w fun e w' => e = .returned (.string (bs [69])) ∧ Below w.heap.size w w' := by
  go_enter Try.func14, Try.ntmps14
  go_wp2_with fail
  go_ret
  exact ⟨rfl, Below.refl _ _⟩

set_option maxRecDepth 100000 in
theorem parts_34 (n : Nat) (w : World) : Calls Try.prog 14 #[.int .i64 34, .int .i64 n] w fun e w' => e = .returned (.string (bs [69])) ∧ Below w.heap.size w w' := by
  go_enter Try.func14, Try.ntmps14
  go_wp2_with fail
  go_ret
  exact ⟨rfl, Below.refl _ _⟩

set_option maxRecDepth 100000 in
theorem parts_35 (n : Nat) (w : World) : Calls Try.prog 14 #[.int .i64 35, .int .i64 n] w fun e w' => e = .returned (.string (bs [101, 115, 83])) ∧ Below w.heap.size w w' := by
  go_enter Try.func14, Try.ntmps14
  go_wp2_with fail
  go_ret
  exact ⟨rfl, Below.refl _ _⟩

set_option maxRecDepth 100000 in
theorem parts_36 (n : Nat) (w : World) : Calls Try.prog 14 #[.int .i64 36, .int .i64 n] w fun e w' => e = .returned (.string (bs [101, 115])) ∧ Below w.heap.size w w' := by
  go_enter Try.func14, Try.ntmps14
  go_wp2_with fail
  go_ret
  exact ⟨rfl, Below.refl _ _⟩

set_option maxRecDepth 100000 in
theorem parts_38 (n : Nat) (w : World) : Calls Try.prog 14 #[.int .i64 38, .int .i64 n] w fun e w' => e = .returned (.string (bs [101, 115])) ∧ Below w.heap.size w w' := by
  go_enter Try.func14, Try.ntmps14
  go_wp2_with fail
  go_ret
  exact ⟨rfl, Below.refl _ _⟩

set_option maxRecDepth 100000 in
theorem parts_37 (n : Nat) (w : World) : Calls Try.prog 14 #[.int .i64 37, .int .i64 n] w fun e w' => e = .returned (.string (bs [69, 69, 69, 115])) ∧ Below w.heap.size w w' := by
  go_enter Try.func14, Try.ntmps14
  go_wp2_with fail
  go_ret
  exact ⟨rfl, Below.refl _ _⟩

set_option maxRecDepth 100000 in
theorem parts_41 (n : Nat) (w : World) : Calls Try.prog 14 #[.int .i64 41, .int .i64 n] w fun e w' => e = .returned (.string (bs [115])) ∧ Below w.heap.size w w' := by
  go_enter Try.func14, Try.ntmps14
  go_wp2_with fail
  go_ret
  exact ⟨rfl, Below.refl _ _⟩

set_option maxRecDepth 100000 in
theorem parts_43 (n : Nat) (w : World) : Calls Try.prog 14 #[.int .i64 43, .int .i64 n] w fun e w' => e = .returned (.string (bs [98, 66, 66])) ∧ Below w.heap.size w w' := by
  go_enter Try.func14, Try.ntmps14
  go_wp2_with fail
  go_ret
  exact ⟨rfl, Below.refl _ _⟩

set_option maxRecDepth 100000 in
theorem parts_9 (n : Nat) (hn : n ≤ 1000000) (w : World) : Calls Try.prog 14 #[.int .i64 9, .int .i64 n] w fun e w' => e = .returned (.string (bs (List.replicate n 101))) ∧ Below w.heap.size w w' := by
  have hc := rep_any 101 n hn w
  obtain ⟨S, hS⟩ : ∃ S, S = bs (List.replicate n 101) := ⟨_, rfl⟩
  rw [← hS] at hc ⊢
  clear hS
  go_enter Try.func14, Try.ntmps14
  go_wp2_with fail
  refine hc.mono ?_
  rintro e w1 ⟨rfl, hb⟩
  have HB : Hid (Below w.heap.size w w1) := hb
  clear hb hc
  go_wp2_with fail
  go_ret
  exact ⟨rfl, HB.out⟩

set_option maxRecDepth 100000 in
theorem parts_10 (n : Nat) (hn : n ≤ 1000000) (w : World) : Calls Try.prog 14 #[.int .i64 10, .int .i64 n] w fun e w' => e = .returned (.string (bs (List.replicate n 112))) ∧ Below w.heap.size w w' := by
  have hc := rep_any 112 n hn w
  obtain ⟨S, hS⟩ : ∃ S, S = bs (List.replicate n 112) := ⟨_, rfl⟩
  rw [← hS] at hc ⊢
  clear hS
  go_enter Try.func14, Try.ntmps14
  go_wp2_with fail
  refine hc.mono ?_
  rintro e w1 ⟨rfl, hb⟩
  have HB : Hid (Below w.heap.size w w1) := hb
  clear hb hc
  go_wp2_with fail
  go_ret
  exact ⟨rfl, HB.out⟩

set_option maxRecDepth 100000 in
theorem parts_44 (n : Nat) (hn : n ≤ 1000000) (w : World) : Calls Try.prog 14 #[.int .i64 44, .int .i64 n] w fun e w' => e = .returned (.string (bs (List.replicate n 105))) ∧ Below w.heap.size w w' := by
  have hc := rep_any 105 n hn w
  obtain ⟨S, hS⟩ : ∃ S, S = bs (List.replicate n 105) := ⟨_, rfl⟩
  rw [← hS] at hc ⊢
  clear hS
  go_enter Try.func14, Try.ntmps14
  go_wp2_with fail
  refine hc.mono ?_
  rintro e w1 ⟨rfl, hb⟩
  have HB : Hid (Below w.heap.size w w1) := hb
  clear hb hc
  go_wp2_with fail
  go_ret
  exact ⟨rfl, HB.out⟩

set_option maxRecDepth 100000 in
theorem parts_47 (n : Nat) (hn : n ≤ 1000000) (w : World) : Calls Try.prog 14 #[.int .i64 47, .int .i64 n] w fun e w' => e = .returned (.string (bs (List.replicate n 105))) ∧ Below w.heap.size w w' := by
  have hc := rep_any 105 n hn w
  obtain ⟨S, hS⟩ : ∃ S, S = bs (List.replicate n 105) := ⟨_, rfl⟩
  rw [← hS] at hc ⊢
  clear hS
  go_enter Try.func14, Try.ntmps14
  go_wp2_with fail
  refine hc.mono ?_
  rintro e w1 ⟨rfl, hb⟩
  have HB : Hid (Below w.heap.size w w1) := hb
  clear hb hc
  go_wp2_with fail
  go_ret
  exact ⟨rfl, HB.out⟩

set_option maxRecDepth 100000 in
theorem parts_14 (n : Nat) (hn : n ≤ 1000000) (w : World) : Calls Try.prog 14 #[.int .i64 14, .int .i64 n] w fun e w' => e = .returned (.string (bs (List.replicate (max n 1) 101))) ∧ Below w.heap.size w w' := by
  rcases Nat.eq_zero_or_pos n with c | c
  · subst c
    have hc := rep_any 101 1 (by omega) w
    obtain ⟨S, hS⟩ : ∃ S, S = bs (List.replicate 1 101) := ⟨_, rfl⟩
    rw [← hS] at hc
    have e1 : bs (List.replicate (max 0 1) 101) = S := by rw [hS]; rfl
    rw [e1]
    clear hS e1
    go_enter Try.func14, Try.ntmps14
    go_wp2_with fail
    refine hc.mono ?_
    rintro e w1 ⟨rfl, hb⟩
    have HB : Hid (Below w.heap.size w w1) := hb
    clear hb hc
    go_wp2_with fail
    go_ret
    exact ⟨rfl, HB.out⟩
  · have hc := rep_any 101 n hn w
    obtain ⟨S, hS⟩ : ∃ S, S = bs (List.replicate n 101) := ⟨_, rfl⟩
    rw [← hS] at hc
    have e1 : bs (List.replicate (max n 1) 101) = S := by rw [hS, Nat.max_eq_left c]
    rw [e1]
    clear hS e1
    have hm : max (n : Int) 1 = n := by omega
    have c1 : ¬ (n : Int) < 1 := by omega
    go_enter Try.func14, Try.ntmps14
    go_wp2_with fail
    refine hc.mono ?_
    rintro e w1 ⟨rfl, hb⟩
    have HB : Hid (Below w.heap.size w w1) := hb
    clear hb hc
    go_wp2_with fail
    go_ret
    exact ⟨rfl, HB.out⟩

set_option maxRecDepth 100000 in
theorem parts_15 (n : Nat) (hn : n ≤ 1000000) (w : World) : Calls Try.prog 14 #[.int .i64 15, .int .i64 n] w fun e w' => e = .returned (.string (bs (List.replicate (max n 1) 101))) ∧ Below w.heap.size w w' := by
  rcases Nat.eq_zero_or_pos n with c | c
  · subst c
    have hc := rep_any 101 1 (by omega) w
    obtain ⟨S, hS⟩ : ∃ S, S = bs (List.replicate 1 101) := ⟨_, rfl⟩
    rw [← hS] at hc
    have e1 : bs (List.replicate (max 0 1) 101) = S := by rw [hS]; rfl
    rw [e1]
    clear hS e1
    go_enter Try.func14, Try.ntmps14
    go_wp2_with fail
    refine hc.mono ?_
    rintro e w1 ⟨rfl, hb⟩
    have HB : Hid (Below w.heap.size w w1) := hb
    clear hb hc
    go_wp2_with fail
    go_ret
    exact ⟨rfl, HB.out⟩
  · have hc := rep_any 101 n hn w
    obtain ⟨S, hS⟩ : ∃ S, S = bs (List.replicate n 101) := ⟨_, rfl⟩
    rw [← hS] at hc
    have e1 : bs (List.replicate (max n 1) 101) = S := by rw [hS, Nat.max_eq_left c]
    rw [e1]
    clear hS e1
    have hm : max (n : Int) 1 = n := by omega
    have c1 : ¬ (n : Int) < 1 := by omega
    go_enter Try.func14, Try.ntmps14
    go_wp2_with fail
    refine hc.mono ?_
    rintro e w1 ⟨rfl, hb⟩
    have HB : Hid (Below w.heap.size w w1) := hb
    clear hb hc
    go_wp2_with fail
    go_ret
    exact ⟨rfl, HB.out⟩

set_option maxRecDepth 100000 in
theorem parts_12 (n : Nat) (hn : n ≤ 1000000) (w : World) : Calls Try.prog 14 #[.int .i64 12, .int .i64 n] w fun e w' => e = .returned (.string (bs (List.replicate (n - 1) 110 ++ [98]))) ∧ Below w.heap.size w w' := by
  have hc := rep_any 110 (n - 1) (by omega) w
  obtain ⟨S, hS⟩ : ∃ S, S = bs (List.replicate (n - 1) 110) := ⟨_, rfl⟩
  obtain ⟨T, hT⟩ : ∃ T, T = bs (List.replicate (n - 1) 110 ++ [98]) := ⟨_, rfl⟩
  have hsum : S ++ ⟨#[98]⟩ = T := by
    rw [hS, hT]
    apply bytes_eq
    rw [bs_toList, Lib.toList_data]
    simp [bs]
  have hsz : S.size = n - 1 := by rw [hS, Lib.size_eq]; simp [bs]
  have hsz1 : S.size + 1 ≤ 1000001 := by omega
  rw [← hS] at hc
  rw [← hT]
  clear hS hT
  have hsb : (⟨#[98]⟩ : ByteArray).size = 1 := rfl
  rcases Nat.eq_zero_or_pos n with c | c
  · subst c
    go_enter Try.func14, Try.ntmps14
    go_wp2_with fail
    refine hc.mono ?_
    rintro e w1 ⟨rfl, hb⟩
    have HB : Hid (Below w.heap.size w w1) := hb
    clear hb hc
    go_wp2_with fail
    go_ret
    exact ⟨rfl, HB.out⟩
  · rw [show ((n - 1 : Nat) : Int) = (n : Int) - 1 by omega] at hc
    have hm : max ((n : Int) - 1) 0 = (n : Int) - 1 := by omega
    have c1 : ¬ (n : Int) - 1 < 0 := by omega
    go_enter Try.func14, Try.ntmps14
    go_wp2_with fail
    refine hc.mono ?_
    rintro e w1 ⟨rfl, hb⟩
    have HB : Hid (Below w.heap.size w w1) := hb
    clear hb hc
    go_wp2_with fail
    go_ret
    exact ⟨rfl, HB.out⟩

set_option maxRecDepth 100000 in
theorem parts_33 (n : Nat) (hn : n ≤ 1000000) (w : World) : Calls Try.prog 14 #[.int .i64 33, .int .i64 n] w fun e w' => e = .returned (.string (bs (List.replicate (n - 1) 110 ++ [98]))) ∧ Below w.heap.size w w' := by
  have hc := rep_any 110 (n - 1) (by omega) w
  obtain ⟨S, hS⟩ : ∃ S, S = bs (List.replicate (n - 1) 110) := ⟨_, rfl⟩
  obtain ⟨T, hT⟩ : ∃ T, T = bs (List.replicate (n - 1) 110 ++ [98]) := ⟨_, rfl⟩
  have hsum : S ++ ⟨#[98]⟩ = T := by
    rw [hS, hT]
    apply bytes_eq
    rw [bs_toList, Lib.toList_data]
    simp [bs]
  have hsz : S.size = n - 1 := by rw [hS, Lib.size_eq]; simp [bs]
  have hsz1 : S.size + 1 ≤ 1000001 := by omega
  rw [← hS] at hc
  rw [← hT]
  clear hS hT
  have hsb : (⟨#[98]⟩ : ByteArray).size = 1 := rfl
  rcases Nat.eq_zero_or_pos n with c | c
  · subst c
    go_enter Try.func14, Try.ntmps14
    go_wp2_with fail
    refine hc.mono ?_
    rintro e w1 ⟨rfl, hb⟩
    have HB : Hid (Below w.heap.size w w1) := hb
    clear hb hc
    go_wp2_with fail
    go_ret
    exact ⟨rfl, HB.out⟩
  · rw [show ((n - 1 : Nat) : Int) = (n : Int) - 1 by omega] at hc
    have hm : max ((n : Int) - 1) 0 = (n : Int) - 1 := by omega
    have c1 : ¬ (n : Int) - 1 < 0 := by omega
    go_enter Try.func14, Try.ntmps14
    go_wp2_with fail
    refine hc.mono ?_
    rintro e w1 ⟨rfl, hb⟩
    have HB : Hid (Below w.heap.size w w1) := hb
    clear hb hc
    go_wp2_with fail
    go_ret
    exact ⟨rfl, HB.out⟩

set_option maxRecDepth 100000 in
theorem parts_no (kind : Int) (n : Nat) (w : World) (n9 : (kind == 9) = false) (n10 : (kind == 10) = false) (n11 : (kind == 11) = false) (n12 : (kind == 12) = false) (n13 : (kind == 13) = false) (n14 : (kind == 14) = false) (n15 : (kind == 15) = false) (n16 : (kind == 16) = false) (n17 : (kind == 17) = false) (n18 : (kind == 18) = false) (n19 : (kind == 19) = false) (n20 : (kind == 20) = false) (n21 : (kind == 21) = false) (n22 : (kind == 22) = false) (n31 : (kind == 31) = false) (n32 : (kind == 32) = false) (n33 : (kind == 33) = false) (n34 : (kind == 34) = false) (n35 : (kind == 35) = false) (n36 : (kind == 36) = false) (n37 : (kind == 37) = false) (n38 : (kind == 38) = false) (n41 : (kind == 41) = false) (n42 : (kind == 42) = false) (n43 : (kind == 43) = false) (n44 : (kind == 44) = false) (n46 : (kind == 46) = false) (n47 : (kind == 47) = false) : Calls Try.prog 14 #[.int .i64 kind, .int .i64 n] w fun e w' => e = .returned (.string (bs [])) ∧ Below w.heap.size w w' := by
  go_enter Try.func14, Try.ntmps14
  go_wp2_with fail
  go_ret
  exact ⟨rfl, Below.refl _ _⟩

theorem parts_any (kind : Int) (n : Nat) (hn : n ≤ 1000000) (w : World) : Calls Try.prog 14 #[.int .i64 kind, .int .i64 n] w fun e w' => e = .returned (.string (bs (partsI kind n))) ∧ Below w.heap.size w w' := by
  by_cases h9 : kind = 9
  · subst h9
    have e : partsI 9 n = List.replicate n 101 := by unfold partsI; simp
    rw [e]
    exact parts_9 n hn w
  by_cases h10 : kind = 10
  · subst h10
    have e : partsI 10 n = List.replicate n 112 := by unfold partsI; simp
    rw [e]
    exact parts_10 n hn w
  by_cases h11 : kind = 11
  · subst h11
    have e : partsI 11 n = [101, 101] := by unfold partsI; simp
    rw [e]
    exact parts_11 n w
  by_cases h12 : kind = 12
  · subst h12
    have e : partsI 12 n = List.replicate (n - 1) 110 ++ [98] := by unfold partsI; simp
    rw [e]
    exact parts_12 n hn w
  by_cases h13 : kind = 13
  · subst h13
    have e : partsI 13 n = [101, 101] := by unfold partsI; simp
    rw [e]
    exact parts_13 n w
  by_cases h14 : kind = 14
  · subst h14
    have e : partsI 14 n = List.replicate (max n 1) 101 := by unfold partsI; simp
    rw [e]
    exact parts_14 n hn w
  by_cases h15 : kind = 15
  · subst h15
    have e : partsI 15 n = List.replicate (max n 1) 101 := by unfold partsI; simp
    rw [e]
    exact parts_15 n hn w
  by_cases h16 : kind = 16
  · subst h16
    have e : partsI 16 n = [101] := by unfold partsI; simp
    rw [e]
    exact parts_16 n w
  by_cases h17 : kind = 17
  · subst h17
    have e : partsI 17 n = [103] := by unfold partsI; simp
    rw [e]
    exact parts_17 n w
  by_cases h18 : kind = 18
  · subst h18
    have e : partsI 18 n = [101, 101] := by unfold partsI; simp
    rw [e]
    exact parts_18 n w
  by_cases h19 : kind = 19
  · subst h19
    have e : partsI 19 n = [101, 101] := by unfold partsI; simp
    rw [e]
    exact parts_19 n w
  by_cases h20 : kind = 20
  · subst h20
    have e : partsI 20 n = [101, 101, 101] := by unfold partsI; simp
    rw [e]
    exact parts_20 n w
  by_cases h21 : kind = 21
  · subst h21
    have e : partsI 21 n = [103, 101] := by unfold partsI; simp
    rw [e]
    exact parts_21 n w
  by_cases h22 : kind = 22
  · subst h22
    have e : partsI 22 n = [69] := by unfold partsI; simp
    rw [e]
    exact parts_22 n w
  by_cases h31 : kind = 31
  · subst h31
    have e : partsI 31 n = [69] := by unfold partsI; simp
    rw [e]
    exact parts_31 n w
  by_cases h32 : kind = 32
  · subst h32
    have e : partsI 32 n = [101] := by unfold partsI; simp
    rw [e]
    exact parts_32 n w
  by_cases h33 : kind = 33
  · subst h33
    have e : partsI 33 n = List.replicate (n - 1) 110 ++ [98] := by unfold partsI; simp
    rw [e]
    exact parts_33 n hn w
  by_cases h34 : kind = 34
  · subst h34
    have e : partsI 34 n = [69] := by unfold partsI; simp
    rw [e]
    exact parts_34 n w
  by_cases h35 : kind = 35
  · subst h35
    have e : partsI 35 n = [101, 115, 83] := by unfold partsI; simp
    rw [e]
    exact parts_35 n w
  by_cases h36 : kind = 36
  · subst h36
    have e : partsI 36 n = [101, 115] := by unfold partsI; simp
    rw [e]
    exact parts_36 n w
  by_cases h37 : kind = 37
  · subst h37
    have e : partsI 37 n = [69, 69, 69, 115] := by unfold partsI; simp
    rw [e]
    exact parts_37 n w
  by_cases h38 : kind = 38
  · subst h38
    have e : partsI 38 n = [101, 115] := by unfold partsI; simp
    rw [e]
    exact parts_38 n w
  by_cases h41 : kind = 41
  · subst h41
    have e : partsI 41 n = [115] := by unfold partsI; simp
    rw [e]
    exact parts_41 n w
  by_cases h42 : kind = 42
  · subst h42
    have e : partsI 42 n = [101] := by unfold partsI; simp
    rw [e]
    exact parts_42 n w
  by_cases h43 : kind = 43
  · subst h43
    have e : partsI 43 n = [98, 66, 66] := by unfold partsI; simp
    rw [e]
    exact parts_43 n w
  by_cases h44 : kind = 44
  · subst h44
    have e : partsI 44 n = List.replicate n 105 := by unfold partsI; simp
    rw [e]
    exact parts_44 n hn w
  by_cases h46 : kind = 46
  · subst h46
    have e : partsI 46 n = [101] := by unfold partsI; simp
    rw [e]
    exact parts_46 n w
  by_cases h47 : kind = 47
  · subst h47
    have e : partsI 47 n = List.replicate n 105 := by unfold partsI; simp
    rw [e]
    exact parts_47 n hn w
  have e : partsI kind n = [] := by
    unfold partsI
    repeat rw [if_neg (by omega)]
  rw [e]
  exact parts_no kind n w (by simpa using h9) (by simpa using h10) (by simpa using h11) (by simpa using h12) (by simpa using h13) (by simpa using h14) (by simpa using h15) (by simpa using h16) (by simpa using h17) (by simpa using h18) (by simpa using h19) (by simpa using h20) (by simpa using h21) (by simpa using h22) (by simpa using h31) (by simpa using h32) (by simpa using h33) (by simpa using h34) (by simpa using h35) (by simpa using h36) (by simpa using h37) (by simpa using h38) (by simpa using h41) (by simpa using h42) (by simpa using h43) (by simpa using h44) (by simpa using h46) (by simpa using h47)
end Go.Proofs.Ytihmdcdifakepab.Sc
