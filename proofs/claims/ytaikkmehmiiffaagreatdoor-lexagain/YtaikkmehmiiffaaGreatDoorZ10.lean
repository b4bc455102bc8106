/- Package lex: number. -/
import Derived.Test.YtaikkmehmiiffaaGreatDoorZ9
namespace Go.Proofs.YtaikkmehmiiffaaGreatDoor.Lx
open Go.RowKit
set_option linter.unusedVariables false

/-- what numtext.Literal says of a text -/
def LitC (lit : List UInt8 → Nat × Bool) : Prop := ∀ (l : List UInt8) (w : World), l.length ≤ 900000 → Calls Tryz.prog 49 #[.string (bs l)] w fun e w' => e = .returned (.tuple #[.int .u64 ((lit l).1 : Int), .bool (lit l).2]) ∧ Below w.heap.size w w'

theorem num_no (s t1 t2 : ByteArray) (n v : Nat) (w : World) (hs : s.size ≤ 1000000) (hn : (n : Int) ≤ s.size) (e1 : s.extract 0 n = t1) (e2 : s.extract n s.size = t2)
    (c1 : ∀ w : World, Calls Tryz.prog 48 #[.string s] w fun e w' => e = .returned (.int .i64 (n : Int)) ∧ Below w.heap.size w w')
    (c2 : ∀ w : World, Calls Tryz.prog 49 #[.string t1] w fun e w' => e = .returned (.tuple #[.int .u64 (v : Int), .bool false]) ∧ Below w.heap.size w w')
     :
    Calls Tryz.prog 27 #[.string s] w fun e w' => e = .returned (tokR (zt, 0, 54)) ∧ Below w.heap.size w w' := by
  have B0 := (Below.refl w.heap.size w).alloc (Nat.le_refl _) (.cells #[.int .i64 0, .int .i64 0, .string ⟨#[]⟩, .int .u64 0] 31)
  have R0 := row4_new w 31 (.int .i64 0) (.int .i64 0) (.string ⟨#[]⟩) (.int .u64 0)
  go_enter Tryz.func27, Tryz.ntmps27
  go_wp2_with fail
  refine (c1 _).mono ?_
  rintro e w1 ⟨rfl, hb1⟩
  have R1 := R0.keep hb1
  have B1 := B0.trans (hb1.mono B0.size)
  go_wp2_with fail
  refine (c2 _).mono ?_
  rintro e w2 ⟨rfl, hb2⟩
  have R2 := R1.keep hb2
  have B2 := B1.trans (hb2.mono B1.size)
  have HR := R2.set (.int .i64 0) (.int .i64 0) (.string ⟨#[]⟩) (.int .u64 0)
  have HB : Hid (Below w.heap.size w w2) := B2
  have k0 := R2.c0
  have k1 := R2.c1
  have k2 := R2.c2
  have k3 := R2.c3
  have f0 := R2.f 0
  have f1 := R2.f 1
  have f2 := R2.f 2
  have f3 := R2.f 3
  clear R0 B0 R1 B1 R2 B2 hb1 hb2
  go_wp2
  (try simp only [Exit.inBlock, Exit.then])
  refine bodyPost_ret (results_tok rfl _ _ w.heap.size 31 _ (0, 0) _ rfl HR.row Tryz.underlying31 rfl (by kernel_rfl)) rfl ?_
  exact ⟨rfl, set4_below HB.out (Nat.le_refl _) _ _ _ _⟩

theorem num_behind (s t1 t2 : ByteArray) (n v : Nat) (w : World) (hs : s.size ≤ 1000000) (hn : (n : Int) ≤ s.size) (e1 : s.extract 0 n = t1) (e2 : s.extract n s.size = t2)
    (c1 : ∀ w : World, Calls Tryz.prog 48 #[.string s] w fun e w' => e = .returned (.int .i64 (n : Int)) ∧ Below w.heap.size w w')
    (c2 : ∀ w : World, Calls Tryz.prog 49 #[.string t1] w fun e w' => e = .returned (.tuple #[.int .u64 (v : Int), .bool true]) ∧ Below w.heap.size w w')
    (c3 : Says 25 t2 28 1) :
    Calls Tryz.prog 27 #[.string s] w fun e w' => e = .returned (tokR (zt, 0, 54)) ∧ Below w.heap.size w w' := by
  unfold Says at c3
  have B0 := (Below.refl w.heap.size w).alloc (Nat.le_refl _) (.cells #[.int .i64 0, .int .i64 0, .string ⟨#[]⟩, .int .u64 0] 31)
  have R0 := row4_new w 31 (.int .i64 0) (.int .i64 0) (.string ⟨#[]⟩) (.int .u64 0)
  go_enter Tryz.func27, Tryz.ntmps27
  go_wp2_with fail
  refine (c1 _).mono ?_
  rintro e w1 ⟨rfl, hb1⟩
  have R1 := R0.keep hb1
  have B1 := B0.trans (hb1.mono B0.size)
  go_wp2_with fail
  refine (c2 _).mono ?_
  rintro e w2 ⟨rfl, hb2⟩
  have R2 := R1.keep hb2
  have B2 := B1.trans (hb2.mono B1.size)
  go_wp2_with fail
  refine (c3 _).mono ?_
  rintro e w3 ⟨rfl, hb3⟩
  have R3 := R2.keep hb3
  have B3 := B2.trans (hb3.mono B2.size)
  have HR := R3.set (.int .i64 0) (.int .i64 0) (.string ⟨#[]⟩) (.int .u64 0)
  have HB : Hid (Below w.heap.size w w3) := B3
  have k0 := R3.c0
  have k1 := R3.c1
  have k2 := R3.c2
  have k3 := R3.c3
  have f0 := R3.f 0
  have f1 := R3.f 1
  have f2 := R3.f 2
  have f3 := R3.f 3
  clear R0 B0 R1 B1 R2 B2 hb1 hb2 R3 B3 hb3
  go_wp2
  (try simp only [Exit.inBlock, Exit.then])
  refine bodyPost_ret (results_tok rfl _ _ w.heap.size 31 _ (0, 0) _ rfl HR.row Tryz.underlying31 rfl (by kernel_rfl)) rfl ?_
  exact ⟨rfl, set4_below HB.out (Nat.le_refl _) _ _ _ _⟩

theorem num_yes (s t1 t2 : ByteArray) (n v : Nat) (w : World) (hs : s.size ≤ 1000000) (hn : (n : Int) ≤ s.size) (e1 : s.extract 0 n = t1) (e2 : s.extract n s.size = t2)
    (c1 : ∀ w : World, Calls Tryz.prog 48 #[.string s] w fun e w' => e = .returned (.int .i64 (n : Int)) ∧ Below w.heap.size w w')
    (c2 : ∀ w : World, Calls Tryz.prog 49 #[.string t1] w fun e w' => e = .returned (.tuple #[.int .u64 (v : Int), .bool true]) ∧ Below w.heap.size w w')
    (c3 : Says 25 t2 28 0) :
    Calls Tryz.prog 27 #[.string s] w fun e w' => e = .returned (.tuple #[.agg #[.int .i64 3, .int .i64 0, .string ⟨#[]⟩, .int .u64 v], .int .i64 n, .int .i64 0]) ∧ Below w.heap.size w w' := by
  unfold Says at c3
  have B0 := (Below.refl w.heap.size w).alloc (Nat.le_refl _) (.cells #[.int .i64 0, .int .i64 0, .string ⟨#[]⟩, .int .u64 0] 31)
  have R0 := row4_new w 31 (.int .i64 0) (.int .i64 0) (.string ⟨#[]⟩) (.int .u64 0)
  go_enter Tryz.func27, Tryz.ntmps27
  go_wp2_with fail
  refine (c1 _).mono ?_
  rintro e w1 ⟨rfl, hb1⟩
  have R1 := R0.keep hb1
  have B1 := B0.trans (hb1.mono B0.size)
  go_wp2_with fail
  refine (c2 _).mono ?_
  rintro e w2 ⟨rfl, hb2⟩
  have R2 := R1.keep hb2
  have B2 := B1.trans (hb2.mono B1.size)
  go_wp2_with fail
  refine (c3 _).mono ?_
  rintro e w3 ⟨rfl, hb3⟩
  have R3 := R2.keep hb3
  have B3 := B2.trans (hb3.mono B2.size)
  have HR := R3.set (.int .i64 3) (.int .i64 0) (.string ⟨#[]⟩) (.int .u64 v)
  have HB : Hid (Below w.heap.size w w3) := B3
  have k0 := R3.c0
  have k1 := R3.c1
  have k2 := R3.c2
  have k3 := R3.c3
  have f0 := R3.f 0
  have f1 := R3.f 1
  have f2 := R3.f 2
  have f3 := R3.f 3
  clear R0 B0 R1 B1 R2 B2 hb1 hb2 R3 B3 hb3
  go_wp2
  (try simp only [Exit.inBlock, Exit.then])
  refine bodyPost_ret (results_tok rfl _ _ w.heap.size 31 _ (0, 0) _ rfl HR.row Tryz.underlying31 rfl (by kernel_rfl)) rfl ?_
  exact ⟨rfl, set4_below HB.out (Nat.le_refl _) _ _ _ _⟩

theorem number_any (lit : List UInt8 → Nat × Bool) (hlit : LitC lit) (l : List UInt8) (w : World) (hl : l.length ≤ 900000) (ha : asc l) :
    Calls Tryz.prog 27 #[.string (bs l)] w fun e w' => e = .returned (tokR (numI lit l)) ∧ Below w.heap.size w w' := by
  have c1 := fun w => len_any l w hl ha
  have le := numLen_le l
  have c2 := fun w => hlit (l.take (numLen l)) w (by rw [List.length_take]; omega)
  have c3 := says_one pSmall 28 pure_small (l.drop (numLen l)) (by rw [List.length_drop]; omega) (asc_drop ha _)
  have hs : (bs l).size ≤ 1000000 := by rw [bs_size]; omega
  have hn : ((numLen l : Nat) : Int) ≤ (bs l).size := by rw [bs_size]; omega
  have o1 := oneP_le1 pSmall (l.drop (numLen l))
  unfold numI
  cases ok : (lit (l.take (numLen l))).2 with
  | false =>
    rw [ok] at c2
    rw [if_neg (by simp)]
    exact num_no (bs l) _ _ _ _ w hs hn (bs_take l _) (bs_drop l _) c1 c2
  | true =>
    rw [ok] at c2
    by_cases z : oneP pSmall (l.drop (numLen l)) = 0
    · rw [z] at c3
      rw [if_pos ⟨rfl, z⟩]
      exact num_yes (bs l) _ _ _ _ w hs hn (bs_take l _) (bs_drop l _) c1 c2 c3
    · rw [show oneP pSmall (l.drop (numLen l)) = 1 from by omega] at c3
      rw [if_neg (fun k => z k.2)]
      exact num_behind (bs l) _ _ _ _ w hs hn (bs_take l _) (bs_drop l _) c1 c2 c3

end Go.Proofs.YtaikkmehmiiffaaGreatDoor.Lx
