/- Package lex: isKept, name. -/
import Derived.Test.YtaikkmehmiiffaaGreatDoorZ6
namespace Go.Proofs.YtaikkmehmiiffaaGreatDoor.Lx
open Go.RowKit
set_option linter.unusedVariables false

theorem kept_any (s : ByteArray) (w : World) :
    Calls Tryz.prog 50 #[.string s] w fun e w' => e = .returned (.bool (keptI s.toList)) ∧ w' = w := by
  obtain ⟨K, hK⟩ : ∃ K, K = keptI s.toList := ⟨_, rfl⟩
  have HK : Hid (K = keptI s.toList) := hK
  rw [← hK]
  clear hK
  go_enter Tryz.func50, Tryz.ntmps50
  go_wp2
  all_goals first
    | (exfalso; simp_all; done)
    | (go_ret; refine ⟨?_, rfl⟩; rw [HK.out]; clear HK; refine ret_b ?_; unfold keptI keptL; simp_all)

/-- a token's value -/
def tokV (t : Tok) : Value := .agg #[.int .i64 (t.kind : Int), .int .i64 (t.pl : Int), .string (bs t.text), .int .u64 (t.num : Int)]

/-- what a token's taker answers -/
def tokR (r : Tok × Nat × Nat) : Value := .tuple #[tokV r.1, .int .i64 (r.2.1 : Int), .int .i64 (r.2.2 : Int)]

/-- a block of four cells, and what a callee leaves of it -/
structure Row4 (w1 : World) (g : Nat) (t : TypeId) (o0 o1 o2 o3 : Value) : Prop where
  row : w1.heap[g]? = some (.cells #[o0, o1, o2, o3] t (0, 0))

theorem Row4.c0 {w1 : World} {g : Nat} {t : TypeId} {o0 o1 o2 o3 : Value} (h : Row4 w1 g t o0 o1 o2 o3) : w1.cell? ⟨g, 0, none⟩ = some o0 := by rw [cell_of_row w1 g 0 _ t (0, 0) h.row]; rfl
theorem Row4.c1 {w1 : World} {g : Nat} {t : TypeId} {o0 o1 o2 o3 : Value} (h : Row4 w1 g t o0 o1 o2 o3) : w1.cell? ⟨g, 1, none⟩ = some o1 := by rw [cell_of_row w1 g 1 _ t (0, 0) h.row]; rfl
theorem Row4.c2 {w1 : World} {g : Nat} {t : TypeId} {o0 o1 o2 o3 : Value} (h : Row4 w1 g t o0 o1 o2 o3) : w1.cell? ⟨g, 2, none⟩ = some o2 := by rw [cell_of_row w1 g 2 _ t (0, 0) h.row]; rfl
theorem Row4.c3 {w1 : World} {g : Nat} {t : TypeId} {o0 o1 o2 o3 : Value} (h : Row4 w1 g t o0 o1 o2 o3) : w1.cell? ⟨g, 3, none⟩ = some o3 := by rw [cell_of_row w1 g 3 _ t (0, 0) h.row]; rfl
theorem Row4.f {w1 : World} {g : Nat} {t : TypeId} {o0 o1 o2 o3 : Value} (h : Row4 w1 g t o0 o1 o2 o3) (j : Nat) : w1.frozen? ⟨g, j, none⟩ = false := frozen_of_row w1 g j _ t h.row

theorem row4_new (w : World) (t : TypeId) (o0 o1 o2 o3 : Value) : Row4 (w.alloc (.cells #[o0, o1, o2, o3] t)) w.heap.size t o0 o1 o2 o3 := ⟨heap_alloc_new w _⟩

theorem Row4.keep {w1 w2 : World} {g : Nat} {t : TypeId} {o0 o1 o2 o3 : Value} (h : Row4 w1 g t o0 o1 o2 o3) (hb : Below w1.heap.size w1 w2) : Row4 w2 g t o0 o1 o2 o3 := by
  refine ⟨?_⟩
  rw [hb.block g (by
    rcases Nat.lt_or_ge g w1.heap.size with k | k
    · exact k
    · have := h.row
      rw [Array.getElem?_eq_none k] at this
      exact absurd this (by simp))]
  exact h.row

theorem Row4.set {w1 : World} {g : Nat} {t : TypeId} {o0 o1 o2 o3 : Value} (h : Row4 w1 g t o0 o1 o2 o3) (v0 v1 v2 v3 : Value) :
    Row4 ((((w1.setCell ⟨g, 0, none⟩ v0).setCell ⟨g, 1, none⟩ v1).setCell ⟨g, 2, none⟩ v2).setCell ⟨g, 3, none⟩ v3) g t v0 v1 v2 v3 :=
  ⟨heap_setCell_same _ _ 3 _ _ _ (heap_setCell_same _ _ 2 _ _ _ (heap_setCell_same _ _ 1 _ _ _ (heap_setCell_same _ _ 0 _ _ _ h.row)))⟩

theorem results_tok {P : Program} {fn : Func} {p a b : Tmp} {ty : TypeId} (h : fn.results = #[.cell p ty, .tmp a, .tmp b]) (tmps : Array Value) (w : World) (g : Nat) (t : TypeId) (cs : Array Value) (fr : Nat × Nat) (d : TypeDesc)
    (hp : tmps.getD p undef = .pointer (some ⟨g, 0, none⟩)) (hg : w.heap[g]? = some (.cells cs t fr))
    (hu : P.underlying ty = some d) (hd : (match d with | .struct _ | .array _ _ => true | _ => false) = true) (hi : (P.info? ty).map (·.size) = some cs.size) :
    (results fn tmps).run P w = .ok (.tuple #[.agg cs, tmps.getD a undef, tmps.getD b undef]) w := by
  have hp' : tmps[p]?.getD undef = .pointer (some ⟨g, 0, none⟩) := by simpa using hp
  simp [results, h, hp', asAddr, run_loadVar_row w g t ty cs fr d hg hu hd hi]

theorem set4_below {B : Nat} {a w1 : World} {g : Nat} (h : Below B a w1) (hg : B ≤ g) (v0 v1 v2 v3 : Value) :
    Below B a ((((w1.setCell ⟨g, 0, none⟩ v0).setCell ⟨g, 1, none⟩ v1).setCell ⟨g, 2, none⟩ v2).setCell ⟨g, 3, none⟩ v3) :=
  (((h.setCell (p := ⟨g, 0, none⟩) hg v0).setCell (p := ⟨g, 1, none⟩) hg v1).setCell (p := ⟨g, 2, none⟩) hg v2).setCell (p := ⟨g, 3, none⟩) hg v3

theorem name_long (s : ByteArray) (n : Nat) (w : World) (hn : 32 < n)
    (c1 : ∀ w : World, Calls Tryz.prog 15 #[.string s, .func (Fn.func 28) #[] #[]] w fun e w' => e = .returned (.int .i64 (n : Int)) ∧ Below w.heap.size w w') :
    Calls Tryz.prog 29 #[.string s] w fun e w' => e = .returned (tokR (zt, 0, 53)) ∧ Below w.heap.size w w' := by
  have B0 := (Below.refl w.heap.size w).alloc (Nat.le_refl _) (.cells #[.int .i64 0, .int .i64 0, .string ⟨#[]⟩, .int .u64 0] 31)
  have R0 := row4_new w 31 (.int .i64 0) (.int .i64 0) (.string ⟨#[]⟩) (.int .u64 0)
  go_enter Tryz.func29, Tryz.ntmps29
  go_wp2_with fail
  refine (c1 _).mono ?_
  rintro e w1 ⟨rfl, hb1⟩
  have R1 := R0.keep hb1
  have B1 := B0.trans (hb1.mono B0.size)
  have HR := R1.set (.int .i64 0) (.int .i64 0) (.string ⟨#[]⟩) (.int .u64 0)
  have HB : Hid (Below w.heap.size w w1) := B1
  have k0 := R1.c0
  have k1 := R1.c1
  have k2 := R1.c2
  have k3 := R1.c3
  have f0 := R1.f 0
  have f1 := R1.f 1
  have f2 := R1.f 2
  have f3 := R1.f 3
  clear R0 B0 R1 B1 hb1
  go_wp2
  (try simp only [Exit.inBlock, Exit.then])
  refine bodyPost_ret (results_tok rfl _ _ w.heap.size 31 _ (0, 0) _ rfl HR.row Tryz.underlying31 rfl (by kernel_rfl)) rfl ?_
  exact ⟨rfl, set4_below HB.out (Nat.le_refl _) _ _ _ _⟩
  

theorem name_word (s t : ByteArray) (n : Nat) (w : World) (hn : n ≤ 32) (hs : (n : Int) ≤ s.size) (hs2 : s.size ≤ 1000000) (ht : s.extract 0 n = t)
    (c1 : ∀ w : World, Calls Tryz.prog 15 #[.string s, .func (Fn.func 28) #[] #[]] w fun e w' => e = .returned (.int .i64 (n : Int)) ∧ Below w.heap.size w w')
    (c2 : ∀ w : World, Calls Tryz.prog 50 #[.string t] w fun e w' => e = .returned (.bool true) ∧ w' = w) :
    Calls Tryz.prog 29 #[.string s] w fun e w' => e = .returned (.tuple #[.agg #[.int .i64 2, .int .i64 0, .string t, .int .u64 0], .int .i64 n, .int .i64 0]) ∧ Below w.heap.size w w' := by
  have B0 := (Below.refl w.heap.size w).alloc (Nat.le_refl _) (.cells #[.int .i64 0, .int .i64 0, .string ⟨#[]⟩, .int .u64 0] 31)
  have R0 := row4_new w 31 (.int .i64 0) (.int .i64 0) (.string ⟨#[]⟩) (.int .u64 0)
  go_enter Tryz.func29, Tryz.ntmps29
  go_wp2_with fail
  refine (c1 _).mono ?_
  rintro e w1 ⟨rfl, hb1⟩
  have R1 := R0.keep hb1
  have B1 := B0.trans (hb1.mono B0.size)
  go_wp2_with fail
  refine (c2 _).mono ?_
  rintro e w2 ⟨rfl, rfl⟩
  have HR := R1.set (.int .i64 2) (.int .i64 0) (.string t) (.int .u64 0)
  have HB : Hid (Below w.heap.size w w2) := B1
  have k0 := R1.c0
  have k1 := R1.c1
  have k2 := R1.c2
  have k3 := R1.c3
  have f0 := R1.f 0
  have f1 := R1.f 1
  have f2 := R1.f 2
  have f3 := R1.f 3
  clear R0 B0 R1 B1 hb1
  go_wp2
  (try simp only [Exit.inBlock, Exit.then])
  refine bodyPost_ret (results_tok rfl _ _ w.heap.size 31 _ (0, 0) _ rfl HR.row Tryz.underlying31 rfl (by kernel_rfl)) rfl ?_
  exact ⟨rfl, set4_below HB.out (Nat.le_refl _) _ _ _ _⟩
  

theorem name_name (s t : ByteArray) (n : Nat) (w : World) (hn : n ≤ 32) (hs : (n : Int) ≤ s.size) (hs2 : s.size ≤ 1000000) (ht : s.extract 0 n = t)
    (c1 : ∀ w : World, Calls Tryz.prog 15 #[.string s, .func (Fn.func 28) #[] #[]] w fun e w' => e = .returned (.int .i64 (n : Int)) ∧ Below w.heap.size w w')
    (c2 : ∀ w : World, Calls Tryz.prog 50 #[.string t] w fun e w' => e = .returned (.bool false) ∧ w' = w) :
    Calls Tryz.prog 29 #[.string s] w fun e w' => e = .returned (.tuple #[.agg #[.int .i64 1, .int .i64 0, .string t, .int .u64 0], .int .i64 n, .int .i64 0]) ∧ Below w.heap.size w w' := by
  have B0 := (Below.refl w.heap.size w).alloc (Nat.le_refl _) (.cells #[.int .i64 0, .int .i64 0, .string ⟨#[]⟩, .int .u64 0] 31)
  have R0 := row4_new w 31 (.int .i64 0) (.int .i64 0) (.string ⟨#[]⟩) (.int .u64 0)
  go_enter Tryz.func29, Tryz.ntmps29
  go_wp2_with fail
  refine (c1 _).mono ?_
  rintro e w1 ⟨rfl, hb1⟩
  have R1 := R0.keep hb1
  have B1 := B0.trans (hb1.mono B0.size)
  go_wp2_with fail
  refine (c2 _).mono ?_
  rintro e w2 ⟨rfl, rfl⟩
  have HR := R1.set (.int .i64 1) (.int .i64 0) (.string t) (.int .u64 0)
  have HB : Hid (Below w.heap.size w w2) := B1
  have k0 := R1.c0
  have k1 := R1.c1
  have k2 := R1.c2
  have k3 := R1.c3
  have f0 := R1.f 0
  have f1 := R1.f 1
  have f2 := R1.f 2
  have f3 := R1.f 3
  clear R0 B0 R1 B1 hb1
  go_wp2
  (try simp only [Exit.inBlock, Exit.then])
  refine bodyPost_ret (results_tok rfl _ _ w.heap.size 31 _ (0, 0) _ rfl HR.row Tryz.underlying31 rfl (by kernel_rfl)) rfl ?_
  exact ⟨rfl, set4_below HB.out (Nat.le_refl _) _ _ _ _⟩
  

theorem name_any (l : List UInt8) (w : World) (hl : l.length ≤ 900000) (ha : asc l) :
    Calls Tryz.prog 29 #[.string (bs l)] w fun e w' => e = .returned (tokR (nameI l)) ∧ Below w.heap.size w w' := by
  have c1 := fun w => run_pure pSmall 28 pure_small l w (by omega) (Or.inl ha)
  have le := cntP_le pSmall l
  unfold nameI
  by_cases h : 32 < cntP pSmall l
  · rw [if_pos h]
    exact name_long (bs l) _ w h c1
  · rw [if_neg h]
    have c2 := fun w => kept_any (bs (l.take (cntP pSmall l))) w
    rw [bs_toList] at c2
    have hs : ((cntP pSmall l : Nat) : Int) ≤ (bs l).size := by rw [bs_size]; omega
    by_cases k : keptI (l.take (cntP pSmall l)) = true
    · rw [if_pos k]
      rw [k] at c2
      exact name_word (bs l) _ (cntP pSmall l) w (by omega) hs (by rw [bs_size]; omega) (bs_take l _) c1 c2
    · rw [if_neg k]
      have k' : keptI (l.take (cntP pSmall l)) = false := by simpa using k
      rw [k'] at c2
      exact name_name (bs l) _ (cntP pSmall l) w (by omega) hs (by rw [bs_size]; omega) (bs_take l _) c1 c2

end Go.Proofs.YtaikkmehmiiffaaGreatDoor.Lx
