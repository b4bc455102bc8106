/- Package lex: quoted, token. -/
import Derived.Test.YtaikkmehmiiffaaGreatDoorZ14
namespace Go.Proofs.YtaikkmehmiiffaaGreatDoor.Lx
open Go.RowKit
set_option linter.unusedVariables false

theorem quo_open (s T1 T2 : ByteArray) (w : World) 
    (c1 : ∀ w : World, Calls Tryz.prog 51 #[.string s] w fun e w' => e = .returned (.tuple #[.string T1, .bool false]) ∧ Below w.heap.size w w')
     :
    Calls Tryz.prog 30 #[.string s] w fun e w' => e = .returned (tokR (zt, 0, 55)) ∧ Below w.heap.size w w' := by
  have B0 := (Below.refl w.heap.size w).alloc (Nat.le_refl _) (.cells #[.int .i64 0, .int .i64 0, .string ⟨#[]⟩, .int .u64 0] 31)
  have R0 := row4_new w 31 (.int .i64 0) (.int .i64 0) (.string ⟨#[]⟩) (.int .u64 0)
  go_enter Tryz.func30, Tryz.ntmps30
  go_wp2_with fail
  refine (c1 _).mono ?_
  rintro e w1 ⟨rfl, hb1⟩
  have R1 := R0.keep hb1
  have B1 := B0.trans (hb1.mono B0.size)
  have HR := R1.set (.int .i64 0) (.int .i64 0) (.string ⟨#[]⟩) (.int .u64 0)
  have HB : Hid (Below w.heap.size w w1) := B1
  have k0 := R1.c0
  have k1 := R1.c1
  have k2 := R1.c2
  have k3 := R1.c3
  have f0 := R1.f 0
  have f1 := R1.f 1
  have f2 := R1.f 2
  have f3 := R1.f 3
  clear R0 B0 R1 B1 hb1
  go_wp2
  (try simp only [Exit.inBlock, Exit.then])
  refine bodyPost_ret (results_tok rfl _ _ w.heap.size 31 _ (0, 0) _ rfl HR.row Tryz.underlying31 rfl (by kernel_rfl)) rfl ?_
  exact ⟨rfl, set4_below HB.out (Nat.le_refl _) _ _ _ _⟩

theorem quo_bad (s T1 T2 : ByteArray) (w : World) 
    (c1 : ∀ w : World, Calls Tryz.prog 51 #[.string s] w fun e w' => e = .returned (.tuple #[.string T1, .bool true]) ∧ Below w.heap.size w w')
    (c2 : ∀ w1, Below w.heap.size w w1 → Calls Tryz.prog 52 #[.string T1] w1 fun e w' => e = .returned (.tuple #[.string T2, .bool false]) ∧ Below w1.heap.size w1 w') :
    Calls Tryz.prog 30 #[.string s] w fun e w' => e = .returned (tokR (zt, 0, 55)) ∧ Below w.heap.size w w' := by
  have B0 := (Below.refl w.heap.size w).alloc (Nat.le_refl _) (.cells #[.int .i64 0, .int .i64 0, .string ⟨#[]⟩, .int .u64 0] 31)
  have R0 := row4_new w 31 (.int .i64 0) (.int .i64 0) (.string ⟨#[]⟩) (.int .u64 0)
  go_enter Tryz.func30, Tryz.ntmps30
  go_wp2_with fail
  refine (c1 _).mono ?_
  rintro e w1 ⟨rfl, hb1⟩
  have R1 := R0.keep hb1
  have B1 := B0.trans (hb1.mono B0.size)
  go_wp2_with fail
  refine (c2 _ B1).mono ?_
  rintro e w2 ⟨rfl, hb2⟩
  have R2 := R1.keep hb2
  have B2 := B1.trans (hb2.mono B1.size)
  have HR := R2.set (.int .i64 0) (.int .i64 0) (.string ⟨#[]⟩) (.int .u64 0)
  have HB : Hid (Below w.heap.size w w2) := B2
  have k0 := R2.c0
  have k1 := R2.c1
  have k2 := R2.c2
  have k3 := R2.c3
  have f0 := R2.f 0
  have f1 := R2.f 1
  have f2 := R2.f 2
  have f3 := R2.f 3
  clear R0 B0 R1 B1 hb1 R2 B2 hb2
  go_wp2
  (try simp only [Exit.inBlock, Exit.then])
  refine bodyPost_ret (results_tok rfl _ _ w.heap.size 31 _ (0, 0) _ rfl HR.row Tryz.underlying31 rfl (by kernel_rfl)) rfl ?_
  exact ⟨rfl, set4_below HB.out (Nat.le_refl _) _ _ _ _⟩

theorem quo_big (s T1 T2 : ByteArray) (w : World) (hT : 4096 < T2.size)
    (c1 : ∀ w : World, Calls Tryz.prog 51 #[.string s] w fun e w' => e = .returned (.tuple #[.string T1, .bool true]) ∧ Below w.heap.size w w')
    (c2 : ∀ w1, Below w.heap.size w w1 → Calls Tryz.prog 52 #[.string T1] w1 fun e w' => e = .returned (.tuple #[.string T2, .bool true]) ∧ Below w1.heap.size w1 w') :
    Calls Tryz.prog 30 #[.string s] w fun e w' => e = .returned (tokR (zt, 0, 56)) ∧ Below w.heap.size w w' := by
  have B0 := (Below.refl w.heap.size w).alloc (Nat.le_refl _) (.cells #[.int .i64 0, .int .i64 0, .string ⟨#[]⟩, .int .u64 0] 31)
  have R0 := row4_new w 31 (.int .i64 0) (.int .i64 0) (.string ⟨#[]⟩) (.int .u64 0)
  go_enter Tryz.func30, Tryz.ntmps30
  go_wp2_with fail
  refine (c1 _).mono ?_
  rintro e w1 ⟨rfl, hb1⟩
  have R1 := R0.keep hb1
  have B1 := B0.trans (hb1.mono B0.size)
  go_wp2_with fail
  refine (c2 _ B1).mono ?_
  rintro e w2 ⟨rfl, hb2⟩
  have R2 := R1.keep hb2
  have B2 := B1.trans (hb2.mono B1.size)
  have HR := R2.set (.int .i64 0) (.int .i64 0) (.string ⟨#[]⟩) (.int .u64 0)
  have HB : Hid (Below w.heap.size w w2) := B2
  have k0 := R2.c0
  have k1 := R2.c1
  have k2 := R2.c2
  have k3 := R2.c3
  have f0 := R2.f 0
  have f1 := R2.f 1
  have f2 := R2.f 2
  have f3 := R2.f 3
  clear R0 B0 R1 B1 hb1 R2 B2 hb2
  go_wp2
  (try simp only [Exit.inBlock, Exit.then])
  refine bodyPost_ret (results_tok rfl _ _ w.heap.size 31 _ (0, 0) _ rfl HR.row Tryz.underlying31 rfl (by kernel_rfl)) rfl ?_
  exact ⟨rfl, set4_below HB.out (Nat.le_refl _) _ _ _ _⟩

theorem quo_ok (s T1 T2 : ByteArray) (w : World) (hT : T2.size ≤ 4096) (hT1 : T1.size ≤ 1000000)
    (c1 : ∀ w : World, Calls Tryz.prog 51 #[.string s] w fun e w' => e = .returned (.tuple #[.string T1, .bool true]) ∧ Below w.heap.size w w')
    (c2 : ∀ w1, Below w.heap.size w w1 → Calls Tryz.prog 52 #[.string T1] w1 fun e w' => e = .returned (.tuple #[.string T2, .bool true]) ∧ Below w1.heap.size w1 w') :
    Calls Tryz.prog 30 #[.string s] w fun e w' => e = .returned (.tuple #[.agg #[.int .i64 4, .int .i64 0, .string T2, .int .u64 0], .int .i64 ((T1.size : Int) + 2), .int .i64 0]) ∧ Below w.heap.size w w' := by
  have B0 := (Below.refl w.heap.size w).alloc (Nat.le_refl _) (.cells #[.int .i64 0, .int .i64 0, .string ⟨#[]⟩, .int .u64 0] 31)
  have R0 := row4_new w 31 (.int .i64 0) (.int .i64 0) (.string ⟨#[]⟩) (.int .u64 0)
  go_enter Tryz.func30, Tryz.ntmps30
  go_wp2_with fail
  refine (c1 _).mono ?_
  rintro e w1 ⟨rfl, hb1⟩
  have R1 := R0.keep hb1
  have B1 := B0.trans (hb1.mono B0.size)
  go_wp2_with fail
  refine (c2 _ B1).mono ?_
  rintro e w2 ⟨rfl, hb2⟩
  have R2 := R1.keep hb2
  have B2 := B1.trans (hb2.mono B1.size)
  have HR := R2.set (.int .i64 4) (.int .i64 0) (.string T2) (.int .u64 0)
  have HB : Hid (Below w.heap.size w w2) := B2
  have k0 := R2.c0
  have k1 := R2.c1
  have k2 := R2.c2
  have k3 := R2.c3
  have f0 := R2.f 0
  have f1 := R2.f 1
  have f2 := R2.f 2
  have f3 := R2.f 3
  clear R0 B0 R1 B1 hb1 R2 B2 hb2
  go_wp2
  (try simp only [Exit.inBlock, Exit.then])
  refine bodyPost_ret (results_tok rfl _ _ w.heap.size 31 _ (0, 0) _ rfl HR.row Tryz.underlying31 rfl (by kernel_rfl)) rfl ?_
  exact ⟨rfl, set4_below HB.out (Nat.le_refl _) _ _ _ _⟩

theorem tok_num (s T : ByteArray) (k p v n e0 : Int) (w : World)
    (c1 : Says 25 s 26 1)
    (c3 : ∀ w1, Below w.heap.size w w1 → Calls Tryz.prog 27 #[.string s] w1 fun e w' => e = .returned (.tuple #[.agg #[.int .i64 k, .int .i64 p, .string T, .int .u64 v], .int .i64 n, .int .i64 e0]) ∧ Below w1.heap.size w1 w') :
    Calls Tryz.prog 18 #[.string s] w fun e w' => e = .returned (.tuple #[.agg #[.int .i64 k, .int .i64 p, .string T, .int .u64 v], .int .i64 n, .int .i64 e0]) ∧ Below w.heap.size w w' := by
  unfold Says at *
  have B0 := (Below.refl w.heap.size w).alloc (Nat.le_refl _) (.cells #[.int .i64 0, .int .i64 0, .string ⟨#[]⟩, .int .u64 0] 31)
  have R0 := row4_new w 31 (.int .i64 0) (.int .i64 0) (.string ⟨#[]⟩) (.int .u64 0)
  go_enter Tryz.func18, Tryz.ntmps18
  go_wp2_with fail
  refine (c1 _).mono ?_
  rintro e w1 ⟨rfl, hb1⟩
  have R1 := R0.keep hb1
  have B1 := B0.trans (hb1.mono B0.size)
  go_wp2_with fail
  refine (c3 _ B1).mono ?_
  rintro e w2 ⟨rfl, hb2⟩
  have R2 := R1.keep hb2
  have B2 := B1.trans (hb2.mono B1.size)
  have HR := R2.set (.int .i64 k) (.int .i64 p) (.string T) (.int .u64 v)
  have HB : Hid (Below w.heap.size w w2) := B2
  have k0 := R2.c0
  have k1 := R2.c1
  have k2 := R2.c2
  have k3 := R2.c3
  have f0 := R2.f 0
  have f1 := R2.f 1
  have f2 := R2.f 2
  have f3 := R2.f 3
  clear R0 B0 R1 B1 hb1 R2 B2 hb2
  go_wp2
  (try simp only [Exit.inBlock, Exit.then])
  refine bodyPost_ret (results_tok rfl _ _ w.heap.size 31 _ (0, 0) _ rfl HR.row Tryz.underlying31 rfl (by kernel_rfl)) rfl ?_
  exact ⟨rfl, set4_below HB.out (Nat.le_refl _) _ _ _ _⟩

theorem tok_name (s T : ByteArray) (k p v n e0 : Int) (w : World)
    (c1 : Says 25 s 26 0)
    (c2 : Says 25 s 28 1)
    (c3 : ∀ w1, Below w.heap.size w w1 → Calls Tryz.prog 29 #[.string s] w1 fun e w' => e = .returned (.tuple #[.agg #[.int .i64 k, .int .i64 p, .string T, .int .u64 v], .int .i64 n, .int .i64 e0]) ∧ Below w1.heap.size w1 w') :
    Calls Tryz.prog 18 #[.string s] w fun e w' => e = .returned (.tuple #[.agg #[.int .i64 k, .int .i64 p, .string T, .int .u64 v], .int .i64 n, .int .i64 e0]) ∧ Below w.heap.size w w' := by
  unfold Says at *
  have B0 := (Below.refl w.heap.size w).alloc (Nat.le_refl _) (.cells #[.int .i64 0, .int .i64 0, .string ⟨#[]⟩, .int .u64 0] 31)
  have R0 := row4_new w 31 (.int .i64 0) (.int .i64 0) (.string ⟨#[]⟩) (.int .u64 0)
  go_enter Tryz.func18, Tryz.ntmps18
  go_wp2_with fail
  refine (c1 _).mono ?_
  rintro e w1 ⟨rfl, hb1⟩
  have R1 := R0.keep hb1
  have B1 := B0.trans (hb1.mono B0.size)
  go_wp2_with fail
  refine (c2 _).mono ?_
  rintro e w2 ⟨rfl, hb2⟩
  have R2 := R1.keep hb2
  have B2 := B1.trans (hb2.mono B1.size)
  go_wp2_with fail
  refine (c3 _ B2).mono ?_
  rintro e w3 ⟨rfl, hb3⟩
  have R3 := R2.keep hb3
  have B3 := B2.trans (hb3.mono B2.size)
  have HR := R3.set (.int .i64 k) (.int .i64 p) (.string T) (.int .u64 v)
  have HB : Hid (Below w.heap.size w w3) := B3
  have k0 := R3.c0
  have k1 := R3.c1
  have k2 := R3.c2
  have k3 := R3.c3
  have f0 := R3.f 0
  have f1 := R3.f 1
  have f2 := R3.f 2
  have f3 := R3.f 3
  clear R0 B0 R1 B1 hb1 R2 B2 hb2 R3 B3 hb3
  go_wp2
  (try simp only [Exit.inBlock, Exit.then])
  refine bodyPost_ret (results_tok rfl _ _ w.heap.size 31 _ (0, 0) _ rfl HR.row Tryz.underlying31 rfl (by kernel_rfl)) rfl ?_
  exact ⟨rfl, set4_below HB.out (Nat.le_refl _) _ _ _ _⟩

theorem tok_quo (s T : ByteArray) (k p v n e0 : Int) (w : World) (hz : 0 < s.size) (hs : s.size ≤ 1000000) (hc : (((s[0]'hz).toNat : Int) == 39) = true ∨ ((((s[0]'hz).toNat : Int) == 39) = false ∧ (((s[0]'hz).toNat : Int) == 34) = true))
    (c1 : Says 25 s 26 0)
    (c2 : Says 25 s 28 0)
    (c3 : ∀ w1, Below w.heap.size w w1 → Calls Tryz.prog 30 #[.string s] w1 fun e w' => e = .returned (.tuple #[.agg #[.int .i64 k, .int .i64 p, .string T, .int .u64 v], .int .i64 n, .int .i64 e0]) ∧ Below w1.heap.size w1 w') :
    Calls Tryz.prog 18 #[.string s] w fun e w' => e = .returned (.tuple #[.agg #[.int .i64 k, .int .i64 p, .string T, .int .u64 v], .int .i64 n, .int .i64 e0]) ∧ Below w.heap.size w w' := by
  unfold Says at *
  rcases hc with hc | ⟨hc, hc2⟩
  · have B0 := (Below.refl w.heap.size w).alloc (Nat.le_refl _) (.cells #[.int .i64 0, .int .i64 0, .string ⟨#[]⟩, .int .u64 0] 31)
    have R0 := row4_new w 31 (.int .i64 0) (.int .i64 0) (.string ⟨#[]⟩) (.int .u64 0)
    go_enter Tryz.func18, Tryz.ntmps18
    go_wp2_with fail
    refine (c1 _).mono ?_
    rintro e w1 ⟨rfl, hb1⟩
    have R1 := R0.keep hb1
    have B1 := B0.trans (hb1.mono B0.size)
    go_wp2_with fail
    refine (c2 _).mono ?_
    rintro e w2 ⟨rfl, hb2⟩
    have R2 := R1.keep hb2
    have B2 := B1.trans (hb2.mono B1.size)
    go_wp2_with fail
    refine (c3 _ B2).mono ?_
    rintro e w3 ⟨rfl, hb3⟩
    have R3 := R2.keep hb3
    have B3 := B2.trans (hb3.mono B2.size)
    have HR := R3.set (.int .i64 k) (.int .i64 p) (.string T) (.int .u64 v)
    have HB : Hid (Below w.heap.size w w3) := B3
    have k0 := R3.c0
    have k1 := R3.c1
    have k2 := R3.c2
    have k3 := R3.c3
    have f0 := R3.f 0
    have f1 := R3.f 1
    have f2 := R3.f 2
    have f3 := R3.f 3
    clear R0 B0 R1 B1 hb1 R2 B2 hb2 R3 B3 hb3
    go_wp2
    (try simp only [Exit.inBlock, Exit.then])
    refine bodyPost_ret (results_tok rfl _ _ w.heap.size 31 _ (0, 0) _ rfl HR.row Tryz.underlying31 rfl (by kernel_rfl)) rfl ?_
    exact ⟨rfl, set4_below HB.out (Nat.le_refl _) _ _ _ _⟩
  · have B0 := (Below.refl w.heap.size w).alloc (Nat.le_refl _) (.cells #[.int .i64 0, .int .i64 0, .string ⟨#[]⟩, .int .u64 0] 31)
    have R0 := row4_new w 31 (.int .i64 0) (.int .i64 0) (.string ⟨#[]⟩) (.int .u64 0)
    go_enter Tryz.func18, Tryz.ntmps18
    go_wp2_with fail
    refine (c1 _).mono ?_
    rintro e w1 ⟨rfl, hb1⟩
    have R1 := R0.keep hb1
    have B1 := B0.trans (hb1.mono B0.size)
    go_wp2_with fail
    refine (c2 _).mono ?_
    rintro e w2 ⟨rfl, hb2⟩
    have R2 := R1.keep hb2
    have B2 := B1.trans (hb2.mono B1.size)
    go_wp2_with fail
    refine (c3 _ B2).mono ?_
    rintro e w3 ⟨rfl, hb3⟩
    have R3 := R2.keep hb3
    have B3 := B2.trans (hb3.mono B2.size)
    have HR := R3.set (.int .i64 k) (.int .i64 p) (.string T) (.int .u64 v)
    have HB : Hid (Below w.heap.size w w3) := B3
    have k0 := R3.c0
    have k1 := R3.c1
    have k2 := R3.c2
    have k3 := R3.c3
    have f0 := R3.f 0
    have f1 := R3.f 1
    have f2 := R3.f 2
    have f3 := R3.f 3
    clear R0 B0 R1 B1 hb1 R2 B2 hb2 R3 B3 hb3
    go_wp2
    (try simp only [Exit.inBlock, Exit.then])
    refine bodyPost_ret (results_tok rfl _ _ w.heap.size 31 _ (0, 0) _ rfl HR.row Tryz.underlying31 rfl (by kernel_rfl)) rfl ?_
    exact ⟨rfl, set4_below HB.out (Nat.le_refl _) _ _ _ _⟩

theorem tok_sign (s T : ByteArray) (k p v n e0 : Int) (w : World) (hz : 0 < s.size) (hs : s.size ≤ 1000000) (hc1 : (((s[0]'hz).toNat : Int) == 39) = false) (hc2 : (((s[0]'hz).toNat : Int) == 34) = false)
    (c1 : Says 25 s 26 0)
    (c2 : Says 25 s 28 0)
    (c3 : ∀ w1, Below w.heap.size w w1 → Calls Tryz.prog 31 #[.string s] w1 fun e w' => e = .returned (.tuple #[.agg #[.int .i64 k, .int .i64 p, .string T, .int .u64 v], .int .i64 n, .int .i64 e0]) ∧ Below w1.heap.size w1 w') :
    Calls Tryz.prog 18 #[.string s] w fun e w' => e = .returned (.tuple #[.agg #[.int .i64 k, .int .i64 p, .string T, .int .u64 v], .int .i64 n, .int .i64 e0]) ∧ Below w.heap.size w w' := by
  unfold Says at *
  have B0 := (Below.refl w.heap.size w).alloc (Nat.le_refl _) (.cells #[.int .i64 0, .int .i64 0, .string ⟨#[]⟩, .int .u64 0] 31)
  have R0 := row4_new w 31 (.int .i64 0) (.int .i64 0) (.string ⟨#[]⟩) (.int .u64 0)
  go_enter Tryz.func18, Tryz.ntmps18
  go_wp2_with fail
  refine (c1 _).mono ?_
  rintro e w1 ⟨rfl, hb1⟩
  have R1 := R0.keep hb1
  have B1 := B0.trans (hb1.mono B0.size)
  go_wp2_with fail
  refine (c2 _).mono ?_
  rintro e w2 ⟨rfl, hb2⟩
  have R2 := R1.keep hb2
  have B2 := B1.trans (hb2.mono B1.size)
  go_wp2_with fail
  refine (c3 _ B2).mono ?_
  rintro e w3 ⟨rfl, hb3⟩
  have R3 := R2.keep hb3
  have B3 := B2.trans (hb3.mono B2.size)
  have HR := R3.set (.int .i64 k) (.int .i64 p) (.string T) (.int .u64 v)
  have HB : Hid (Below w.heap.size w w3) := B3
  have k0 := R3.c0
  have k1 := R3.c1
  have k2 := R3.c2
  have k3 := R3.c3
  have f0 := R3.f 0
  have f1 := R3.f 1
  have f2 := R3.f 2
  have f3 := R3.f 3
  clear R0 B0 R1 B1 hb1 R2 B2 hb2 R3 B3 hb3
  go_wp2
  (try simp only [Exit.inBlock, Exit.then])
  refine bodyPost_ret (results_tok rfl _ _ w.heap.size 31 _ (0, 0) _ rfl HR.row Tryz.underlying31 rfl (by kernel_rfl)) rfl ?_
  exact ⟨rfl, set4_below HB.out (Nat.le_refl _) _ _ _ _⟩

theorem quoted_any (c : UInt8) (l : List UInt8) (w : World) (hl : l.length ≤ 800000) (ha : asc (c :: l)) (hE : ErrAt w) :
    Calls Tryz.prog 30 #[.string (bs (c :: l))] w fun e w' => e = .returned (tokR (quoI (c :: l))) ∧ Below w.heap.size w w' := by
  have al : asc l := fun d hd => ha d (by simp [hd])
  have c1 := fun w => within_any c l w (by omega) al
  have bl : (bodyI c.toNat l).1.length ≤ l.length := by
    unfold bodyI
    simp only [List.length_take]
    omega
  have ba : asc (bodyI c.toNat l).1 := by unfold bodyI; exact asc_take al _
  have c2 := fun w1 (h : Below w.heap.size w w1) => said_any (bodyI c.toNat l).1 w1 (by omega) ba (hE.below h)
  unfold quoI
  simp only
  cases e1 : (bodyI c.toNat l).2 with
  | false =>
    rw [e1] at c1
    rw [if_neg (by simp)]
    exact quo_open _ _ ⟨#[]⟩ w c1
  | true =>
    rw [e1] at c1
    cases e2 : (saidI (bodyI c.toNat l).1).2 with
    | false =>
      rw [e2] at c2
      rw [if_neg (by simp)]
      exact quo_bad _ _ _ w c1 c2
    | true =>
      rw [e2] at c2
      rw [if_pos ⟨rfl, rfl⟩]
      by_cases h : 4096 < (saidI (bodyI c.toNat l).1).1.length
      · rw [if_pos h]
        exact quo_big _ _ (bs (saidI (bodyI c.toNat l).1).1) w h c1 c2
      · rw [if_neg h]
        have := quo_ok _ _ _ w (by rw [bs_size]; omega) (by rw [bs_size]; omega) c1 c2
        refine this.mono ?_
        rintro e w' ⟨rfl, hb⟩
        exact ⟨rfl, hb⟩

theorem token_any (lit : List UInt8 → Nat × Bool) (hlit : LitC lit) (l : List UInt8) (w : World) (h0 : l ≠ []) (hl : l.length ≤ 800000) (ha : asc l) (hE : ErrAt w) (hS : SignsAt w) :
    Calls Tryz.prog 18 #[.string (bs l)] w fun e w' => e = .returned (tokR (tokI lit l)) ∧ Below w.heap.size w w' := by
  have d := says_one pDig 26 pure_dig l (by omega) ha
  have s := says_one pSmall 28 pure_small l (by omega) ha
  have d1 := oneP_le1 pDig l
  have s1 := oneP_le1 pSmall l
  unfold tokI
  by_cases q1 : 0 < oneP pDig l
  · rw [if_pos q1]
    exact tok_num _ _ _ _ _ _ _ w (says_eq d (by omega)) (fun w1 h => number_any lit hlit l w1 (by omega) ha)
  · rw [if_neg q1]
    by_cases q2 : 0 < oneP pSmall l
    · rw [if_pos q2]
      exact tok_name _ _ _ _ _ _ _ w (says_eq d (by omega)) (says_eq s (by omega)) (fun w1 h => name_any l w1 (by omega) ha)
    · rw [if_neg q2]
      match l, h0 with
      | c :: r, _ =>
        have hz : 0 < (bs (c :: r)).size := by rw [bs_size]; simp
        have hs : (bs (c :: r)).size ≤ 1000000 := by rw [bs_size]; omega
        have u8 : ∀ n : Nat, n < 256 → (c = UInt8.ofNat n ↔ c.toNat = n) := fun n hn => nat_u8 c n hn
        have k4 : c = 39 ↔ c.toNat = 39 := u8 39 (by omega)
        have k5 : c = 34 ↔ c.toNat = 34 := u8 34 (by omega)
        have g : (bs (c :: r))[0]'hz = c := rfl
        by_cases q3 : (c :: r).head? = some 39 ∨ (c :: r).head? = some 34
        · rw [if_pos q3]
          simp only [List.head?_cons, Option.some.injEq] at q3
          refine tok_quo _ _ _ _ _ _ _ w hz hs ?_ (says_eq d (by omega)) (says_eq s (by omega)) (fun w1 h => quoted_any c r w1 (by simp only [List.length_cons] at hl; omega) ha (hE.below h))
          rw [g]
          rcases q3 with q3 | q3
          · left
            rw [k4.1 q3]
            rfl
          · right
            rw [k5.1 q3]
            exact ⟨rfl, rfl⟩
        · rw [if_neg q3]
          simp only [List.head?_cons, Option.some.injEq] at q3
          refine tok_sign _ _ _ _ _ _ _ w hz hs ?_ ?_ (says_eq d (by omega)) (says_eq s (by omega)) (fun w1 h => sign_any (c :: r) w1 (by omega) (hS.below h))
          · rw [g]
            have : c.toNat ≠ 39 := fun k => q3 (Or.inl (k4.2 k))
            simp
            omega
          · rw [g]
            have : c.toNat ≠ 34 := fun k => q3 (Or.inr (k5.2 k))
            simp
            omega

end Go.Proofs.YtaikkmehmiiffaaGreatDoor.Lx
