/- The deferred closure of Resolve, where nothing was thrown. -/
import Derived.Test.YtihmdcdifakepaaYG
import Derived.Defers
import Derived.Recover
import Derived.Laws.Pointers
namespace Go.Proofs.Ytihmdcdifakepaa.Sc
open Go.RowKit
set_option linter.unusedVariables false
set_option linter.unusedSimpArgs false

theorem nil_assert (w : World) : (Instr.typeAssert Value.nilIface 20 65 true).run Try.prog w = .ok (.tuple #[.agg #[.int .i64 0, .int .i64 0], .bool false]) w := by kernel_rfl

set_option maxRecDepth 100000 in
set_option maxHeartbeats 2000000 in
theorem catch_idle (p0 p1 p2 : Addr) (w : World) :
    CallsD Try.prog 24 #[.pointer (some p0), .pointer (some p1), .pointer (some p2)] .returning w fun e u' w' => e = .returned (.tuple #[]) ∧ u' = .returning ∧ Below w.heap.size w w' := by
  have hta := fun w => nil_assert w
  refine callsD_of_wpS Try.func24 rfl fun c₀ cs hu => ?_
  simp only [Try.ntmps24, List.size_toArray, List.length_cons, List.length_nil, Nat.reduceAdd, Nat.reduceSub, Array.replicate_succ, Array.replicate_zero, List.push_toArray, List.append_toArray, List.nil_append, List.cons_append]
  apply wpS_seq
  apply wpS_region
  simp [wpOpsS, go_sem, recoverD, hu, hta, Exit.thenS]
  apply wpS_seq
  apply wpS_region
  simp [wpOpsS, go_sem, Exit.thenS]
  refine wpS_cond (t := false) (by simp [Act.eval]) ?_
  simp only [Bool.false_eq_true, if_false]
  refine wpS_of_wp (wp_skip ?_)
  have hb : Below w.heap.size w (w.alloc (.cells #[.int .i64 0, .int .i64 0] 65)) := (Below.refl _ _).alloc (Nat.le_refl _) _
  cases c₀
  simp_all [bodyPostS, results, Try.f24]

/-- Resolve's own boxes: the tree, and the three results -/
structure Boxes (w : World) (n : Nat) (p num : Int) (name op : ByteArray) (kids : Value) : Prop where
  b0 : w.cell? ⟨n, 0, none⟩ = some (.int .i64 47)
  b1 : w.cell? ⟨n, 1, none⟩ = some (.int .i64 p)
  b2 : w.cell? ⟨n, 2, none⟩ = some (.string name)
  b3 : w.cell? ⟨n, 3, none⟩ = some (.int .u64 num)
  b4 : w.cell? ⟨n, 4, none⟩ = some (.string op)
  b5 : w.cell? ⟨n, 5, none⟩ = some kids
  s0 : w.cell? ⟨n + 1, 0, none⟩ = some (.slice none 0 0)
  s1 : w.cell? ⟨n + 1, 1, none⟩ = some (.slice none 0 0)
  s2 : w.cell? ⟨n + 1, 2, none⟩ = some (.slice none 0 0)
  a0 : w.cell? ⟨n + 1 + 1, 0, none⟩ = some (.int .i64 0)
  e0 : w.cell? ⟨n + 1 + 1 + 1, 0, none⟩ = some (.int .i64 0)
  f0 : w.frozen? ⟨n + 1, 0, none⟩ = false
  f1 : w.frozen? ⟨n + 1, 1, none⟩ = false
  f2 : w.frozen? ⟨n + 1, 2, none⟩ = false
  fa : w.frozen? ⟨n + 1 + 1, 0, none⟩ = false
  fe : w.frozen? ⟨n + 1 + 1 + 1, 0, none⟩ = false

theorem Boxes.lt {w : World} {n : Nat} {p num : Int} {name op : ByteArray} {kids : Value} (h : Boxes w n p num name op kids) : n + 4 ≤ w.heap.size := World.block_lt_of_cell? w _ h.e0

theorem Boxes.kept {w w' : World} {n : Nat} {p num : Int} {name op : ByteArray} {kids : Value} {S : Nat → Prop} (h : Boxes w n p num name op kids) (hc : Chg S w w') (hn : ∀ k, S k → n + 4 ≤ k) : Boxes w' n p num name op kids := by
  have q : ∀ k, k < n + 4 → ¬ S k := fun k h1 h2 => by have := hn k h2; omega
  exact ⟨hc.cell h.b0 (q _ (by simp)), hc.cell h.b1 (q _ (by simp)), hc.cell h.b2 (q _ (by simp)), hc.cell h.b3 (q _ (by simp)), hc.cell h.b4 (q _ (by simp)), hc.cell h.b5 (q _ (by simp)),
    hc.cell h.s0 (q _ (by simp)), hc.cell h.s1 (q _ (by simp)), hc.cell h.s2 (q _ (by simp)), hc.cell h.a0 (q _ (by simp)), hc.cell h.e0 (q _ (by simp)),
    (frozen_chg' hc h.s0 (q _ (by simp))).trans h.f0, (frozen_chg' hc h.s1 (q _ (by simp))).trans h.f1, (frozen_chg' hc h.s2 (q _ (by simp))).trans h.f2, (frozen_chg' hc h.a0 (q _ (by simp))).trans h.fa, (frozen_chg' hc h.e0 (q _ (by simp))).trans h.fe⟩

theorem Boxes.made (w : World) (p num : Int) (name op : ByteArray) (kids : Value) : Boxes ((((w.alloc (.cells #[.int .i64 47, .int .i64 p, .string name, .int .u64 num, .string op, kids] 25)).alloc (.cells #[.slice none 0 0, .slice none 0 0, .slice none 0 0] 37)).alloc (.cells #[.int .i64 0] 3)).alloc (.cells #[.int .i64 0] 38)) w.heap.size p num name op kids := by
  constructor <;> simp [go_sem]

set_option maxRecDepth 100000 in
set_option maxHeartbeats 2000000 in
theorem resolve_one (pl p num : Int) (name op : ByteArray) (kids : Value) (w : World)
    (hr : ∀ w1, Below w.heap.size w w1 → Calls Try.prog 9 #[.agg #[.int .i64 47, .int .i64 p, .string name, .int .u64 num, .string op, kids]] w1 fun e w' => e = .returned (.bool true) ∧ Below w1.heap.size w1 w')
    (he : ∀ rb b cap sc w1, Ahead w1 rb b cap sc → Below w.heap.size w w1 → Calls Try.prog 52 #[.pointer (some ⟨rb, 0, none⟩), kids] w1 fun e w' => e = .returned (.tuple #[]) ∧ Used rb b cap sc pl w1 w') :
    Calls Try.prog 15 #[.agg #[.int .i64 47, .int .i64 p, .string name, .int .u64 num, .string op, kids]] w fun e w' => (∃ sb u c, e = .returned (.tuple #[.agg #[.slice (some ⟨sb, 0, none⟩) 1 1, .slice none 0 0, .slice (some ⟨u, 0, none⟩) 1 c], .int .i64 0, .int .i64 0]) ∧ w'.cell? ⟨u, 1, none⟩ = some (.int .i64 (-1))) ∧ Below w.heap.size w w' := by
  have hmf : ∀ (fn : Fn) (first cap : Array Value) (w : World), (Instr.makeFunc fn first cap).run Try.prog w = .ok (.func fn first cap) w := fun _ _ _ _ => rfl
  have HR : Hid (∀ w1, Below w.heap.size w w1 → Calls Try.prog 9 #[.agg #[.int .i64 47, .int .i64 p, .string name, .int .u64 num, .string op, kids]] w1 fun e w' => e = .returned (.bool true) ∧ Below w1.heap.size w1 w') := hr
  have HE : Hid (∀ rb b cap sc w1, Ahead w1 rb b cap sc → Below w.heap.size w w1 → Calls Try.prog 52 #[.pointer (some ⟨rb, 0, none⟩), kids] w1 fun e w' => e = .returned (.tuple #[]) ∧ Used rb b cap sc pl w1 w') := he
  clear hr he
  obtain ⟨w4, hw4⟩ : ∃ w4, w4 = (((w.alloc (.cells #[.int .i64 47, .int .i64 p, .string name, .int .u64 num, .string op, kids] 25)).alloc (.cells #[.slice none 0 0, .slice none 0 0, .slice none 0 0] 37)).alloc (.cells #[.int .i64 0] 3)).alloc (.cells #[.int .i64 0] 38) := ⟨_, rfl⟩
  have hB4 : Below w.heap.size w w4 := by rw [hw4]; exact ((((Below.refl w.heap.size w).alloc (Nat.le_refl _) _).alloc (by simp) _).alloc (by simp; omega) _).alloc (by simp; omega) _
  have hx : Boxes w4 w.heap.size p num name op kids := by rw [hw4]; exact Boxes.made w p num name op kids
  have HB4 : Hid (Below w.heap.size w w4) := hB4
  have HX : Hid (Boxes w4 w.heap.size p num name op kids) := hx
  have hcall := HR.out w4 hB4
  clear hB4 hx
  go_enter_defers Try.func15, Try.ntmps15
  go_wp2_with fail
  rw [← hw4]
  clear hw4
  refine hcall.mono ?_
  rintro e w5 ⟨rfl, hb5⟩
  have H5 : Hid (Below w.heap.size w w5) := HB4.out.trans (hb5.mono HB4.out.size)
  have X5 : Hid (Boxes w5 w.heap.size p num name op kids) := HX.out.kept (S := fun _ => False) (Chg.of_below hb5) (fun _ q => q.elim)
  clear hcall hb5
  obtain ⟨w6, hw6⟩ : ∃ w6, w6 = w5.alloc (.cells #[.slice none 0 0, .slice none 0 0, .slice none 0 0, .slice none 0 0, .int .i64 0, .int .i64 0, .slice none 0 0] 72) := ⟨_, rfl⟩
  have hb6 : Below w5.heap.size w5 w6 := by rw [hw6]; exact (Below.refl _ _).alloc (Nat.le_refl _) _
  have X6 : Hid (Boxes w6 w.heap.size p num name op kids) := X5.out.kept (S := fun _ => False) (Chg.of_below hb6) (fun _ q => q.elim)
  have R6 : Hid (Rsv w6 w5.heap.size (.slice none 0 0) (.slice none 0 0) (.slice none 0 0)) := by
    rw [hw6]
    exact ⟨box_new w5 _ _ 0 _ rfl, box_new w5 _ _ 1 _ rfl, box_new w5 _ _ 2 _ rfl, box_new w5 _ _ 3 _ rfl, frozen_new w5 _ _ _, frozen_new w5 _ _ _, frozen_new w5 _ _ _⟩
  have H6 : Hid (Below w.heap.size w w6) := H5.out.trans (hb6.mono H5.out.size)
  have HL : Hid (w.heap.size + 4 ≤ w5.heap.size) := X5.out.lt
  have hpr := program_one w5.heap.size pl p num name op kids w6 R6.out (fun b cap sc w1 ha hc => HE.out _ b cap sc w1 ha (hc.below H6.out H6.out.size (fun k e => by have := HL.out; omega)))
  have HPR : Hid (Calls Try.prog 25 #[.pointer (some ⟨w5.heap.size, 0, none⟩), .agg #[.int .i64 47, .int .i64 p, .string name, .int .u64 num, .string op, kids]] w6 fun e w' => e = .returned (.tuple #[]) ∧ (∃ sb, Told w5.heap.size (.slice (some ⟨sb, 0, none⟩) 1 1) pl w') ∧ Chg (fun k => k = w5.heap.size) w6 w') := hpr
  clear hpr hb6
  have b0 := X6.out.b0
  have b1 := X6.out.b1
  have b2 := X6.out.b2
  have b3 := X6.out.b3
  have b4 := X6.out.b4
  have b5 := X6.out.b5
  go_upto_region 5 with fail
  rw [← hw6]
  clear hw6
  go_wp2_with fail
  refine HPR.out.mono ?_
  rintro e w7 ⟨rfl, ⟨sb, u, c, bl, r7, u0, u1⟩, hc7⟩
  have X7 : Hid (Boxes w7 w.heap.size p num name op kids) := X6.out.kept hc7 (fun k e => by have := HL.out; omega)
  have H7 : Hid (Below w.heap.size w w7) := hc7.below H6.out H6.out.size (fun k e => by have := HL.out; omega)
  have HU : Hid (w7.cell? ⟨u, 1, none⟩ = some (.int .i64 (-1)) ∧ u ≠ w.heap.size + 1) := by
    refine ⟨u1, fun e => ?_⟩
    subst e
    have := X7.out.s1
    rw [u1] at this
    cases this
  obtain ⟨t0, t1, t2, _, _, _, _⟩ := r7
  have s0 := X7.out.s0
  have s1 := X7.out.s1
  have s2 := X7.out.s2
  have a0 := X7.out.a0
  have e0 := X7.out.e0
  have f0 := X7.out.f0
  have f1 := X7.out.f1
  have f2 := X7.out.f2
  have fa := X7.out.fa
  have fe := X7.out.fe
  clear b0 b1 b2 b3 b4 b5 u0 u1 hc7 R6 X6 H6 X5 H5 HX HB4 HPR HE HR
  go_wp2_with fail
  obtain ⟨w8, hw8⟩ : ∃ w8, w8 = ((((w7.setCell ⟨w.heap.size + 1, 0, none⟩ (.slice (some ⟨sb, 0, none⟩) 1 1)).setCell ⟨w.heap.size + 1, 1, none⟩ (.slice none 0 0)).setCell ⟨w.heap.size + 1, 2, none⟩ (.slice (some ⟨u, 0, none⟩) 1 c)).setCell ⟨w.heap.size + 1 + 1, 0, none⟩ (.int .i64 0)).setCell ⟨w.heap.size + 1 + 1 + 1, 0, none⟩ (.int .i64 0) := ⟨_, rfl⟩
  have hne := HU.out.2
  have hu1 := HU.out.1
  have k0 : w8.cell? ⟨w.heap.size + 1, 0, none⟩ = some (.slice (some ⟨sb, 0, none⟩) 1 1) := by rw [hw8]; simp [go_sem, s0, s1, s2, a0, e0]
  have k1 : w8.cell? ⟨w.heap.size + 1, 1, none⟩ = some (.slice none 0 0) := by rw [hw8]; simp [go_sem, s0, s1, s2, a0, e0]
  have k2 : w8.cell? ⟨w.heap.size + 1, 2, none⟩ = some (.slice (some ⟨u, 0, none⟩) 1 c) := by rw [hw8]; simp [go_sem, s0, s1, s2, a0, e0]
  have k3 : w8.cell? ⟨w.heap.size + 1 + 1, 0, none⟩ = some (.int .i64 0) := by rw [hw8]; simp [go_sem, s0, s1, s2, a0, e0]
  have k4 : w8.cell? ⟨w.heap.size + 1 + 1 + 1, 0, none⟩ = some (.int .i64 0) := by rw [hw8]; simp [go_sem, s0, s1, s2, a0, e0]
  have k5 : w8.cell? ⟨u, 1, none⟩ = some (.int .i64 (-1)) := by rw [hw8]; rw [World.cell?_setCell_other _ _ _ _ (by simp), World.cell?_setCell_other _ _ _ _ (by simp), World.cell?_setCell_other _ _ _ _ (by simp), World.cell?_setCell_other _ _ _ _ (by intro e; injection e with e1; exact hne e1.symm), World.cell?_setCell_other _ _ _ _ (by simp)]; exact hu1
  have H8 : Below w.heap.size w w8 := by
    rw [hw8]
    exact ((((H7.out.setCell (p := ⟨w.heap.size + 1, 0, none⟩) (by simp) _).setCell (p := ⟨w.heap.size + 1, 1, none⟩) (by simp) _).setCell (p := ⟨w.heap.size + 1, 2, none⟩) (by simp) _).setCell (p := ⟨w.heap.size + 1 + 1, 0, none⟩) (by simp; omega) _).setCell (p := ⟨w.heap.size + 1 + 1 + 1, 0, none⟩) (by simp; omega) _
  rw [← hw8]
  refine leaves_cons (f := 24) (args := #[.pointer (some ⟨w.heap.size + 1, 0, none⟩), .pointer (some ⟨w.heap.size + 1 + 1, 0, none⟩), .pointer (some ⟨w.heap.size + 1 + 1 + 1, 0, none⟩)]) (by simp) (by simp [go_sem]) ?_
  refine (catch_idle ⟨w.heap.size + 1, 0, none⟩ ⟨w.heap.size + 1 + 1, 0, none⟩ ⟨w.heap.size + 1 + 1 + 1, 0, none⟩ _).mono ?_
  rintro e u' w9 ⟨rfl, rfl, hb9⟩
  have j0 := cells_below hb9 _ _ k0
  have j1 := cells_below hb9 _ _ k1
  have j2 := cells_below hb9 _ _ k2
  have j3 := cells_below hb9 _ _ k3
  have j4 := cells_below hb9 _ _ k4
  have j5 := cells_below hb9 _ _ k5
  have H9 : Below w.heap.size w w9 := H8.trans (hb9.mono H8.size)
  simp [Leaves, settle, results, Try.f15, go_sem, j0, j1, j2, j3, j4]
  exact ⟨⟨sb, u, ⟨rfl, rfl⟩, j5⟩, H9⟩
end Go.Proofs.Ytihmdcdifakepaa.Sc
