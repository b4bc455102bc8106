/- The document's many and operand. -/
import Derived.Test.YtkoamenfbnpdbaaDoorCH
import Derived.Test.YtkoamenfbnpdbaaDoorCQ
namespace Go.Proofs.YtkoamenfbnpdbaaDoor.Cd
open Go.RowKit
set_option linter.unusedVariables false

theorem many_w (s : Sli Fn) (f : Fn) (w : World) : Calls Tryd.prog 40 #[.agg #[s.val], fnV f, .int .u8 119] w fun e w' => e = .returned (.int .i64 f.regs) ∧ Below w.heap.size w w' := by
  have HB : Hid (Below w.heap.size w ((w.alloc (.cells #[s.val] 24)).alloc (fnB f))) := below_new (below_new (Below.refl _ _) (Nat.le_refl _) _) (by rw [size_new]; omega) _
  obtain ⟨ad, cap, fs⟩ := s
  obtain ⟨nm, pa, re, ge, ⟨ca, c1, cx⟩, ⟨ka, kc, kx⟩, ⟨pa', pc, px⟩, ⟨ha, hc, hx⟩⟩ := f
  unfold fnB at *
  unfold fnV
  unfold Sli.val at *
  simp only at *
  go_enter Tryd.func40, Tryd.ntmps40
  go_wp2_with fail
  go_ret
  exact ⟨rfl, HB.out⟩

theorem many_r (s : Sli Fn) (f : Fn) (w : World) : Calls Tryd.prog 40 #[.agg #[s.val], fnV f, .int .u8 114] w fun e w' => e = .returned (.int .i64 f.regs) ∧ Below w.heap.size w w' := by
  have HB : Hid (Below w.heap.size w ((w.alloc (.cells #[s.val] 24)).alloc (fnB f))) := below_new (below_new (Below.refl _ _) (Nat.le_refl _) _) (by rw [size_new]; omega) _
  obtain ⟨ad, cap, fs⟩ := s
  obtain ⟨nm, pa, re, ge, ⟨ca, c1, cx⟩, ⟨ka, kc, kx⟩, ⟨pa', pc, px⟩, ⟨ha, hc, hx⟩⟩ := f
  unfold fnB at *
  unfold fnV
  unfold Sli.val at *
  simp only at *
  go_enter Tryd.func40, Tryd.ntmps40
  go_wp2_with fail
  go_ret
  exact ⟨rfl, HB.out⟩

theorem many_k (s : Sli Fn) (f : Fn) (w : World) : Calls Tryd.prog 40 #[.agg #[s.val], fnV f, .int .u8 107] w fun e w' => e = .returned (.int .i64 (f.consts.xs.length : Int)) ∧ Below w.heap.size w w' := by
  have HB : Hid (Below w.heap.size w ((w.alloc (.cells #[s.val] 24)).alloc (fnB f))) := below_new (below_new (Below.refl _ _) (Nat.le_refl _) _) (by rw [size_new]; omega) _
  obtain ⟨ad, cap, fs⟩ := s
  obtain ⟨nm, pa, re, ge, ⟨ca, c1, cx⟩, ⟨ka, kc, kx⟩, ⟨pa', pc, px⟩, ⟨ha, hc, hx⟩⟩ := f
  unfold fnB at *
  unfold fnV
  unfold Sli.val at *
  simp only at *
  go_enter Tryd.func40, Tryd.ntmps40
  go_wp2_with fail
  go_ret
  exact ⟨rfl, HB.out⟩

theorem many_x (s : Sli Fn) (f : Fn) (w : World) : Calls Tryd.prog 40 #[.agg #[s.val], fnV f, .int .u8 120] w fun e w' => e = .returned (.int .i64 (f.consts.xs.length : Int)) ∧ Below w.heap.size w w' := by
  have HB : Hid (Below w.heap.size w ((w.alloc (.cells #[s.val] 24)).alloc (fnB f))) := below_new (below_new (Below.refl _ _) (Nat.le_refl _) _) (by rw [size_new]; omega) _
  obtain ⟨ad, cap, fs⟩ := s
  obtain ⟨nm, pa, re, ge, ⟨ca, c1, cx⟩, ⟨ka, kc, kx⟩, ⟨pa', pc, px⟩, ⟨ha, hc, hx⟩⟩ := f
  unfold fnB at *
  unfold fnV
  unfold Sli.val at *
  simp only at *
  go_enter Tryd.func40, Tryd.ntmps40
  go_wp2_with fail
  go_ret
  exact ⟨rfl, HB.out⟩

theorem many_s (s : Sli Fn) (f : Fn) (w : World) : Calls Tryd.prog 40 #[.agg #[s.val], fnV f, .int .u8 115] w fun e w' => e = .returned (.int .i64 5) ∧ Below w.heap.size w w' := by
  have HB : Hid (Below w.heap.size w ((w.alloc (.cells #[s.val] 24)).alloc (fnB f))) := below_new (below_new (Below.refl _ _) (Nat.le_refl _) _) (by rw [size_new]; omega) _
  obtain ⟨ad, cap, fs⟩ := s
  obtain ⟨nm, pa, re, ge, ⟨ca, c1, cx⟩, ⟨ka, kc, kx⟩, ⟨pa', pc, px⟩, ⟨ha, hc, hx⟩⟩ := f
  unfold fnB at *
  unfold fnV
  unfold Sli.val at *
  simp only at *
  go_enter Tryd.func40, Tryd.ntmps40
  go_wp2_with fail
  go_ret
  exact ⟨rfl, HB.out⟩

theorem many_f (s : Sli Fn) (f : Fn) (w : World) : Calls Tryd.prog 40 #[.agg #[s.val], fnV f, .int .u8 102] w fun e w' => e = .returned (.int .i64 (s.xs.length : Int)) ∧ Below w.heap.size w w' := by
  have HB : Hid (Below w.heap.size w ((w.alloc (.cells #[s.val] 24)).alloc (fnB f))) := below_new (below_new (Below.refl _ _) (Nat.le_refl _) _) (by rw [size_new]; omega) _
  obtain ⟨ad, cap, fs⟩ := s
  obtain ⟨nm, pa, re, ge, ⟨ca, c1, cx⟩, ⟨ka, kc, kx⟩, ⟨pa', pc, px⟩, ⟨ha, hc, hx⟩⟩ := f
  unfold fnB at *
  unfold fnV
  unfold Sli.val at *
  simp only at *
  go_enter Tryd.func40, Tryd.ntmps40
  go_wp2_with fail
  go_ret
  exact ⟨rfl, HB.out⟩

theorem many_c (s : Sli Fn) (f : Fn) (w : World) : Calls Tryd.prog 40 #[.agg #[s.val], fnV f, .int .u8 99] w fun e w' => e = .returned (.int .i64 (f.caps.xs.length : Int)) ∧ Below w.heap.size w w' := by
  have HB : Hid (Below w.heap.size w ((w.alloc (.cells #[s.val] 24)).alloc (fnB f))) := below_new (below_new (Below.refl _ _) (Nat.le_refl _) _) (by rw [size_new]; omega) _
  obtain ⟨ad, cap, fs⟩ := s
  obtain ⟨nm, pa, re, ge, ⟨ca, c1, cx⟩, ⟨ka, kc, kx⟩, ⟨pa', pc, px⟩, ⟨ha, hc, hx⟩⟩ := f
  unfold fnB at *
  unfold fnV
  unfold Sli.val at *
  simp only at *
  go_enter Tryd.func40, Tryd.ntmps40
  go_wp2_with fail
  go_ret
  exact ⟨rfl, HB.out⟩

theorem many_b (s : Sli Fn) (f : Fn) (w : World) : Calls Tryd.prog 40 #[.agg #[s.val], fnV f, .int .u8 98] w fun e w' => e = .returned (.int .i64 14) ∧ Below w.heap.size w w' := by
  have HB : Hid (Below w.heap.size w ((w.alloc (.cells #[s.val] 24)).alloc (fnB f))) := below_new (below_new (Below.refl _ _) (Nat.le_refl _) _) (by rw [size_new]; omega) _
  obtain ⟨ad, cap, fs⟩ := s
  obtain ⟨nm, pa, re, ge, ⟨ca, c1, cx⟩, ⟨ka, kc, kx⟩, ⟨pa', pc, px⟩, ⟨ha, hc, hx⟩⟩ := f
  unfold fnB at *
  unfold fnV
  unfold Sli.val at *
  simp only at *
  go_enter Tryd.func40, Tryd.ntmps40
  go_wp2_with fail
  go_ret
  exact ⟨rfl, HB.out⟩

theorem many_t (s : Sli Fn) (f : Fn) (w : World) : Calls Tryd.prog 40 #[.agg #[s.val], fnV f, .int .u8 116] w fun e w' => e = .returned (.int .i64 (f.code.xs.length : Int)) ∧ Below w.heap.size w w' := by
  have HB : Hid (Below w.heap.size w ((w.alloc (.cells #[s.val] 24)).alloc (fnB f))) := below_new (below_new (Below.refl _ _) (Nat.le_refl _) _) (by rw [size_new]; omega) _
  obtain ⟨ad, cap, fs⟩ := s
  obtain ⟨nm, pa, re, ge, ⟨ca, c1, cx⟩, ⟨ka, kc, kx⟩, ⟨pa', pc, px⟩, ⟨ha, hc, hx⟩⟩ := f
  unfold fnB at *
  unfold fnV
  unfold Sli.val at *
  simp only at *
  go_enter Tryd.func40, Tryd.ntmps40
  go_wp2_with fail
  go_ret
  exact ⟨rfl, HB.out⟩

theorem many_h (s : Sli Fn) (f : Fn) (w : World) : Calls Tryd.prog 40 #[.agg #[s.val], fnV f, .int .u8 104] w fun e w' => e = .returned (.int .i64 2) ∧ Below w.heap.size w w' := by
  have HB : Hid (Below w.heap.size w ((w.alloc (.cells #[s.val] 24)).alloc (fnB f))) := below_new (below_new (Below.refl _ _) (Nat.le_refl _) _) (by rw [size_new]; omega) _
  obtain ⟨ad, cap, fs⟩ := s
  obtain ⟨nm, pa, re, ge, ⟨ca, c1, cx⟩, ⟨ka, kc, kx⟩, ⟨pa', pc, px⟩, ⟨ha, hc, hx⟩⟩ := f
  unfold fnB at *
  unfold fnV
  unfold Sli.val at *
  simp only at *
  go_enter Tryd.func40, Tryd.ntmps40
  go_wp2_with fail
  go_ret
  exact ⟨rfl, HB.out⟩

theorem many_z (s : Sli Fn) (f : Fn) (w : World) : Calls Tryd.prog 40 #[.agg #[s.val], fnV f, .int .u8 45] w fun e w' => e = .returned (.int .i64 1) ∧ Below w.heap.size w w' := by
  have HB : Hid (Below w.heap.size w ((w.alloc (.cells #[s.val] 24)).alloc (fnB f))) := below_new (below_new (Below.refl _ _) (Nat.le_refl _) _) (by rw [size_new]; omega) _
  obtain ⟨ad, cap, fs⟩ := s
  obtain ⟨nm, pa, re, ge, ⟨ca, c1, cx⟩, ⟨ka, kc, kx⟩, ⟨pa', pc, px⟩, ⟨ha, hc, hx⟩⟩ := f
  unfold fnB at *
  unfold fnV
  unfold Sli.val at *
  simp only at *
  go_enter Tryd.func40, Tryd.ntmps40
  go_wp2_with fail
  go_ret
  exact ⟨rfl, HB.out⟩

theorem oper_w (s : Sli Fn) (f : Fn) (y : Ins) (o : Int) (w : World) : Calls Tryd.prog 36 #[.agg #[s.val], fnV f, insV y, .int .u8 119, .int .i64 o] w fun e w' => e = .returned (.bool (withinB o f.regs)) ∧ Below w.heap.size w w' := by
  have HB : Hid (Below w.heap.size w (((w.alloc (.cells #[s.val] 24)).alloc (fnB f)).alloc (.cells #[.int .i64 y.op, .int .i64 y.a, .int .i64 y.b, .int .i64 y.c] 43))) := below_new (below_new (below_new (Below.refl _ _) (Nat.le_refl _) _) (by rw [size_new]; omega) _) (by rw [size_new, size_new]; omega) _
  have km := many_w s f (((w.alloc (.cells #[s.val] 24)).alloc (fnB f)).alloc (.cells #[.int .i64 y.op, .int .i64 y.a, .int .i64 y.b, .int .i64 y.c] 43))
  by_cases h0 : 0 ≤ o
  · by_cases h1 : o < f.regs
    · rw [show withinB o f.regs = true from by unfold withinB; simp [h0, h1]]
      have HD : Hid (∀ w', Below (((w.alloc (.cells #[s.val] 24)).alloc (fnB f)).alloc (.cells #[.int .i64 y.op, .int .i64 y.a, .int .i64 y.b, .int .i64 y.c] 43)).heap.size (((w.alloc (.cells #[s.val] 24)).alloc (fnB f)).alloc (.cells #[.int .i64 y.op, .int .i64 y.a, .int .i64 y.b, .int .i64 y.c] 43)) w' → Below w.heap.size w w') := fun w' h => HB.out.trans (h.mono HB.out.size)
      clear HB
      obtain ⟨ad, cap, fs⟩ := s
      obtain ⟨nm, pa, re, ge, ⟨ca, c1, cx⟩, ⟨ka, kc, kx⟩, ⟨pa', pc, px⟩, ⟨ha, hc, hx⟩⟩ := f
      obtain ⟨op, ia, ib, ic⟩ := y
      unfold fnB at *
      unfold fnV insV at *
      unfold Sli.val at *
      simp only at *
      go_enter Tryd.func36, Tryd.ntmps36
      go_wp2_with fail
      refine km.mono ?_
      rintro e w2 ⟨rfl, hb2⟩
      have HE : Hid (Below w.heap.size w w2) := HD.out _ hb2
      clear km hb2
      go_wp2_with fail
      go_ret
      exact ⟨rfl, HE.out⟩
    · rw [show withinB o f.regs = false from by unfold withinB; simp [h1]]
      have HD : Hid (∀ w', Below (((w.alloc (.cells #[s.val] 24)).alloc (fnB f)).alloc (.cells #[.int .i64 y.op, .int .i64 y.a, .int .i64 y.b, .int .i64 y.c] 43)).heap.size (((w.alloc (.cells #[s.val] 24)).alloc (fnB f)).alloc (.cells #[.int .i64 y.op, .int .i64 y.a, .int .i64 y.b, .int .i64 y.c] 43)) w' → Below w.heap.size w w') := fun w' h => HB.out.trans (h.mono HB.out.size)
      clear HB
      obtain ⟨ad, cap, fs⟩ := s
      obtain ⟨nm, pa, re, ge, ⟨ca, c1, cx⟩, ⟨ka, kc, kx⟩, ⟨pa', pc, px⟩, ⟨ha, hc, hx⟩⟩ := f
      obtain ⟨op, ia, ib, ic⟩ := y
      unfold fnB at *
      unfold fnV insV at *
      unfold Sli.val at *
      simp only at *
      go_enter Tryd.func36, Tryd.ntmps36
      go_wp2_with fail
      refine km.mono ?_
      rintro e w2 ⟨rfl, hb2⟩
      have HE : Hid (Below w.heap.size w w2) := HD.out _ hb2
      clear km hb2
      go_wp2_with fail
      go_ret
      exact ⟨rfl, HE.out⟩
  · rw [show withinB o f.regs = false from by unfold withinB; simp [h0]]
    clear km
    obtain ⟨ad, cap, fs⟩ := s
    obtain ⟨nm, pa, re, ge, ⟨ca, c1, cx⟩, ⟨ka, kc, kx⟩, ⟨pa', pc, px⟩, ⟨ha, hc, hx⟩⟩ := f
    obtain ⟨op, ia, ib, ic⟩ := y
    unfold fnB at *
    unfold fnV insV at *
    unfold Sli.val at *
    simp only at *
    go_enter Tryd.func36, Tryd.ntmps36
    go_wp2_with fail
    go_ret
    exact ⟨rfl, HB.out⟩

theorem oper_r (s : Sli Fn) (f : Fn) (y : Ins) (o : Int) (w : World) : Calls Tryd.prog 36 #[.agg #[s.val], fnV f, insV y, .int .u8 114, .int .i64 o] w fun e w' => e = .returned (.bool (withinB o f.regs)) ∧ Below w.heap.size w w' := by
  have HB : Hid (Below w.heap.size w (((w.alloc (.cells #[s.val] 24)).alloc (fnB f)).alloc (.cells #[.int .i64 y.op, .int .i64 y.a, .int .i64 y.b, .int .i64 y.c] 43))) := below_new (below_new (below_new (Below.refl _ _) (Nat.le_refl _) _) (by rw [size_new]; omega) _) (by rw [size_new, size_new]; omega) _
  have km := many_r s f (((w.alloc (.cells #[s.val] 24)).alloc (fnB f)).alloc (.cells #[.int .i64 y.op, .int .i64 y.a, .int .i64 y.b, .int .i64 y.c] 43))
  by_cases h0 : 0 ≤ o
  · by_cases h1 : o < f.regs
    · rw [show withinB o f.regs = true from by unfold withinB; simp [h0, h1]]
      have HD : Hid (∀ w', Below (((w.alloc (.cells #[s.val] 24)).alloc (fnB f)).alloc (.cells #[.int .i64 y.op, .int .i64 y.a, .int .i64 y.b, .int .i64 y.c] 43)).heap.size (((w.alloc (.cells #[s.val] 24)).alloc (fnB f)).alloc (.cells #[.int .i64 y.op, .int .i64 y.a, .int .i64 y.b, .int .i64 y.c] 43)) w' → Below w.heap.size w w') := fun w' h => HB.out.trans (h.mono HB.out.size)
      clear HB
      obtain ⟨ad, cap, fs⟩ := s
      obtain ⟨nm, pa, re, ge, ⟨ca, c1, cx⟩, ⟨ka, kc, kx⟩, ⟨pa', pc, px⟩, ⟨ha, hc, hx⟩⟩ := f
      obtain ⟨op, ia, ib, ic⟩ := y
      unfold fnB at *
      unfold fnV insV at *
      unfold Sli.val at *
      simp only at *
      go_enter Tryd.func36, Tryd.ntmps36
      go_wp2_with fail
      refine km.mono ?_
      rintro e w2 ⟨rfl, hb2⟩
      have HE : Hid (Below w.heap.size w w2) := HD.out _ hb2
      clear km hb2
      go_wp2_with fail
      go_ret
      exact ⟨rfl, HE.out⟩
    · rw [show withinB o f.regs = false from by unfold withinB; simp [h1]]
      have HD : Hid (∀ w', Below (((w.alloc (.cells #[s.val] 24)).alloc (fnB f)).alloc (.cells #[.int .i64 y.op, .int .i64 y.a, .int .i64 y.b, .int .i64 y.c] 43)).heap.size (((w.alloc (.cells #[s.val] 24)).alloc (fnB f)).alloc (.cells #[.int .i64 y.op, .int .i64 y.a, .int .i64 y.b, .int .i64 y.c] 43)) w' → Below w.heap.size w w') := fun w' h => HB.out.trans (h.mono HB.out.size)
      clear HB
      obtain ⟨ad, cap, fs⟩ := s
      obtain ⟨nm, pa, re, ge, ⟨ca, c1, cx⟩, ⟨ka, kc, kx⟩, ⟨pa', pc, px⟩, ⟨ha, hc, hx⟩⟩ := f
      obtain ⟨op, ia, ib, ic⟩ := y
      unfold fnB at *
      unfold fnV insV at *
      unfold Sli.val at *
      simp only at *
      go_enter Tryd.func36, Tryd.ntmps36
      go_wp2_with fail
      refine km.mono ?_
      rintro e w2 ⟨rfl, hb2⟩
      have HE : Hid (Below w.heap.size w w2) := HD.out _ hb2
      clear km hb2
      go_wp2_with fail
      go_ret
      exact ⟨rfl, HE.out⟩
  · rw [show withinB o f.regs = false from by unfold withinB; simp [h0]]
    clear km
    obtain ⟨ad, cap, fs⟩ := s
    obtain ⟨nm, pa, re, ge, ⟨ca, c1, cx⟩, ⟨ka, kc, kx⟩, ⟨pa', pc, px⟩, ⟨ha, hc, hx⟩⟩ := f
    obtain ⟨op, ia, ib, ic⟩ := y
    unfold fnB at *
    unfold fnV insV at *
    unfold Sli.val at *
    simp only at *
    go_enter Tryd.func36, Tryd.ntmps36
    go_wp2_with fail
    go_ret
    exact ⟨rfl, HB.out⟩

theorem oper_k (s : Sli Fn) (f : Fn) (y : Ins) (o : Int) (w : World) : Calls Tryd.prog 36 #[.agg #[s.val], fnV f, insV y, .int .u8 107, .int .i64 o] w fun e w' => e = .returned (.bool (withinB o (f.consts.xs.length : Int))) ∧ Below w.heap.size w w' := by
  have HB : Hid (Below w.heap.size w (((w.alloc (.cells #[s.val] 24)).alloc (fnB f)).alloc (.cells #[.int .i64 y.op, .int .i64 y.a, .int .i64 y.b, .int .i64 y.c] 43))) := below_new (below_new (below_new (Below.refl _ _) (Nat.le_refl _) _) (by rw [size_new]; omega) _) (by rw [size_new, size_new]; omega) _
  have km := many_k s f (((w.alloc (.cells #[s.val] 24)).alloc (fnB f)).alloc (.cells #[.int .i64 y.op, .int .i64 y.a, .int .i64 y.b, .int .i64 y.c] 43))
  by_cases h0 : 0 ≤ o
  · by_cases h1 : o < (f.consts.xs.length : Int)
    · rw [show withinB o (f.consts.xs.length : Int) = true from by unfold withinB; simp [h0, h1]]
      have HD : Hid (∀ w', Below (((w.alloc (.cells #[s.val] 24)).alloc (fnB f)).alloc (.cells #[.int .i64 y.op, .int .i64 y.a, .int .i64 y.b, .int .i64 y.c] 43)).heap.size (((w.alloc (.cells #[s.val] 24)).alloc (fnB f)).alloc (.cells #[.int .i64 y.op, .int .i64 y.a, .int .i64 y.b, .int .i64 y.c] 43)) w' → Below w.heap.size w w') := fun w' h => HB.out.trans (h.mono HB.out.size)
      clear HB
      obtain ⟨ad, cap, fs⟩ := s
      obtain ⟨nm, pa, re, ge, ⟨ca, c1, cx⟩, ⟨ka, kc, kx⟩, ⟨pa', pc, px⟩, ⟨ha, hc, hx⟩⟩ := f
      obtain ⟨op, ia, ib, ic⟩ := y
      unfold fnB at *
      unfold fnV insV at *
      unfold Sli.val at *
      simp only at *
      go_enter Tryd.func36, Tryd.ntmps36
      go_wp2_with fail
      refine km.mono ?_
      rintro e w2 ⟨rfl, hb2⟩
      have HE : Hid (Below w.heap.size w w2) := HD.out _ hb2
      clear km hb2
      go_wp2_with fail
      go_ret
      exact ⟨rfl, HE.out⟩
    · rw [show withinB o (f.consts.xs.length : Int) = false from by unfold withinB; simp [h1]]
      have HD : Hid (∀ w', Below (((w.alloc (.cells #[s.val] 24)).alloc (fnB f)).alloc (.cells #[.int .i64 y.op, .int .i64 y.a, .int .i64 y.b, .int .i64 y.c] 43)).heap.size (((w.alloc (.cells #[s.val] 24)).alloc (fnB f)).alloc (.cells #[.int .i64 y.op, .int .i64 y.a, .int .i64 y.b, .int .i64 y.c] 43)) w' → Below w.heap.size w w') := fun w' h => HB.out.trans (h.mono HB.out.size)
      clear HB
      obtain ⟨ad, cap, fs⟩ := s
      obtain ⟨nm, pa, re, ge, ⟨ca, c1, cx⟩, ⟨ka, kc, kx⟩, ⟨pa', pc, px⟩, ⟨ha, hc, hx⟩⟩ := f
      obtain ⟨op, ia, ib, ic⟩ := y
      unfold fnB at *
      unfold fnV insV at *
      unfold Sli.val at *
      simp only at *
      go_enter Tryd.func36, Tryd.ntmps36
      go_wp2_with fail
      refine km.mono ?_
      rintro e w2 ⟨rfl, hb2⟩
      have HE : Hid (Below w.heap.size w w2) := HD.out _ hb2
      clear km hb2
      go_wp2_with fail
      go_ret
      exact ⟨rfl, HE.out⟩
  · rw [show withinB o (f.consts.xs.length : Int) = false from by unfold withinB; simp [h0]]
    clear km
    obtain ⟨ad, cap, fs⟩ := s
    obtain ⟨nm, pa, re, ge, ⟨ca, c1, cx⟩, ⟨ka, kc, kx⟩, ⟨pa', pc, px⟩, ⟨ha, hc, hx⟩⟩ := f
    obtain ⟨op, ia, ib, ic⟩ := y
    unfold fnB at *
    unfold fnV insV at *
    unfold Sli.val at *
    simp only at *
    go_enter Tryd.func36, Tryd.ntmps36
    go_wp2_with fail
    go_ret
    exact ⟨rfl, HB.out⟩

theorem oper_s (s : Sli Fn) (f : Fn) (y : Ins) (o : Int) (w : World) : Calls Tryd.prog 36 #[.agg #[s.val], fnV f, insV y, .int .u8 115, .int .i64 o] w fun e w' => e = .returned (.bool (withinB o 5)) ∧ Below w.heap.size w w' := by
  have HB : Hid (Below w.heap.size w (((w.alloc (.cells #[s.val] 24)).alloc (fnB f)).alloc (.cells #[.int .i64 y.op, .int .i64 y.a, .int .i64 y.b, .int .i64 y.c] 43))) := below_new (below_new (below_new (Below.refl _ _) (Nat.le_refl _) _) (by rw [size_new]; omega) _) (by rw [size_new, size_new]; omega) _
  have km := many_s s f (((w.alloc (.cells #[s.val] 24)).alloc (fnB f)).alloc (.cells #[.int .i64 y.op, .int .i64 y.a, .int .i64 y.b, .int .i64 y.c] 43))
  by_cases h0 : 0 ≤ o
  · by_cases h1 : o < 5
    · rw [show withinB o 5 = true from by unfold withinB; simp [h0, h1]]
      have HD : Hid (∀ w', Below (((w.alloc (.cells #[s.val] 24)).alloc (fnB f)).alloc (.cells #[.int .i64 y.op, .int .i64 y.a, .int .i64 y.b, .int .i64 y.c] 43)).heap.size (((w.alloc (.cells #[s.val] 24)).alloc (fnB f)).alloc (.cells #[.int .i64 y.op, .int .i64 y.a, .int .i64 y.b, .int .i64 y.c] 43)) w' → Below w.heap.size w w') := fun w' h => HB.out.trans (h.mono HB.out.size)
      clear HB
      obtain ⟨ad, cap, fs⟩ := s
      obtain ⟨nm, pa, re, ge, ⟨ca, c1, cx⟩, ⟨ka, kc, kx⟩, ⟨pa', pc, px⟩, ⟨ha, hc, hx⟩⟩ := f
      obtain ⟨op, ia, ib, ic⟩ := y
      unfold fnB at *
      unfold fnV insV at *
      unfold Sli.val at *
      simp only at *
      go_enter Tryd.func36, Tryd.ntmps36
      go_wp2_with fail
      refine km.mono ?_
      rintro e w2 ⟨rfl, hb2⟩
      have HE : Hid (Below w.heap.size w w2) := HD.out _ hb2
      clear km hb2
      go_wp2_with fail
      go_ret
      exact ⟨rfl, HE.out⟩
    · rw [show withinB o 5 = false from by unfold withinB; simp [h1]]
      have HD : Hid (∀ w', Below (((w.alloc (.cells #[s.val] 24)).alloc (fnB f)).alloc (.cells #[.int .i64 y.op, .int .i64 y.a, .int .i64 y.b, .int .i64 y.c] 43)).heap.size (((w.alloc (.cells #[s.val] 24)).alloc (fnB f)).alloc (.cells #[.int .i64 y.op, .int .i64 y.a, .int .i64 y.b, .int .i64 y.c] 43)) w' → Below w.heap.size w w') := fun w' h => HB.out.trans (h.mono HB.out.size)
      clear HB
      obtain ⟨ad, cap, fs⟩ := s
      obtain ⟨nm, pa, re, ge, ⟨ca, c1, cx⟩, ⟨ka, kc, kx⟩, ⟨pa', pc, px⟩, ⟨ha, hc, hx⟩⟩ := f
      obtain ⟨op, ia, ib, ic⟩ := y
      unfold fnB at *
      unfold fnV insV at *
      unfold Sli.val at *
      simp only at *
      go_enter Tryd.func36, Tryd.ntmps36
      go_wp2_with fail
      refine km.mono ?_
      rintro e w2 ⟨rfl, hb2⟩
      have HE : Hid (Below w.heap.size w w2) := HD.out _ hb2
      clear km hb2
      go_wp2_with fail
      go_ret
      exact ⟨rfl, HE.out⟩
  · rw [show withinB o 5 = false from by unfold withinB; simp [h0]]
    clear km
    obtain ⟨ad, cap, fs⟩ := s
    obtain ⟨nm, pa, re, ge, ⟨ca, c1, cx⟩, ⟨ka, kc, kx⟩, ⟨pa', pc, px⟩, ⟨ha, hc, hx⟩⟩ := f
    obtain ⟨op, ia, ib, ic⟩ := y
    unfold fnB at *
    unfold fnV insV at *
    unfold Sli.val at *
    simp only at *
    go_enter Tryd.func36, Tryd.ntmps36
    go_wp2_with fail
    go_ret
    exact ⟨rfl, HB.out⟩

theorem oper_c (s : Sli Fn) (f : Fn) (y : Ins) (o : Int) (w : World) : Calls Tryd.prog 36 #[.agg #[s.val], fnV f, insV y, .int .u8 99, .int .i64 o] w fun e w' => e = .returned (.bool (withinB o (f.caps.xs.length : Int))) ∧ Below w.heap.size w w' := by
  have HB : Hid (Below w.heap.size w (((w.alloc (.cells #[s.val] 24)).alloc (fnB f)).alloc (.cells #[.int .i64 y.op, .int .i64 y.a, .int .i64 y.b, .int .i64 y.c] 43))) := below_new (below_new (below_new (Below.refl _ _) (Nat.le_refl _) _) (by rw [size_new]; omega) _) (by rw [size_new, size_new]; omega) _
  have km := many_c s f (((w.alloc (.cells #[s.val] 24)).alloc (fnB f)).alloc (.cells #[.int .i64 y.op, .int .i64 y.a, .int .i64 y.b, .int .i64 y.c] 43))
  by_cases h0 : 0 ≤ o
  · by_cases h1 : o < (f.caps.xs.length : Int)
    · rw [show withinB o (f.caps.xs.length : Int) = true from by unfold withinB; simp [h0, h1]]
      have HD : Hid (∀ w', Below (((w.alloc (.cells #[s.val] 24)).alloc (fnB f)).alloc (.cells #[.int .i64 y.op, .int .i64 y.a, .int .i64 y.b, .int .i64 y.c] 43)).heap.size (((w.alloc (.cells #[s.val] 24)).alloc (fnB f)).alloc (.cells #[.int .i64 y.op, .int .i64 y.a, .int .i64 y.b, .int .i64 y.c] 43)) w' → Below w.heap.size w w') := fun w' h => HB.out.trans (h.mono HB.out.size)
      clear HB
      obtain ⟨ad, cap, fs⟩ := s
      obtain ⟨nm, pa, re, ge, ⟨ca, c1, cx⟩, ⟨ka, kc, kx⟩, ⟨pa', pc, px⟩, ⟨ha, hc, hx⟩⟩ := f
      obtain ⟨op, ia, ib, ic⟩ := y
      unfold fnB at *
      unfold fnV insV at *
      unfold Sli.val at *
      simp only at *
      go_enter Tryd.func36, Tryd.ntmps36
      go_wp2_with fail
      refine km.mono ?_
      rintro e w2 ⟨rfl, hb2⟩
      have HE : Hid (Below w.heap.size w w2) := HD.out _ hb2
      clear km hb2
      go_wp2_with fail
      go_ret
      exact ⟨rfl, HE.out⟩
    · rw [show withinB o (f.caps.xs.length : Int) = false from by unfold withinB; simp [h1]]
      have HD : Hid (∀ w', Below (((w.alloc (.cells #[s.val] 24)).alloc (fnB f)).alloc (.cells #[.int .i64 y.op, .int .i64 y.a, .int .i64 y.b, .int .i64 y.c] 43)).heap.size (((w.alloc (.cells #[s.val] 24)).alloc (fnB f)).alloc (.cells #[.int .i64 y.op, .int .i64 y.a, .int .i64 y.b, .int .i64 y.c] 43)) w' → Below w.heap.size w w') := fun w' h => HB.out.trans (h.mono HB.out.size)
      clear HB
      obtain ⟨ad, cap, fs⟩ := s
      obtain ⟨nm, pa, re, ge, ⟨ca, c1, cx⟩, ⟨ka, kc, kx⟩, ⟨pa', pc, px⟩, ⟨ha, hc, hx⟩⟩ := f
      obtain ⟨op, ia, ib, ic⟩ := y
      unfold fnB at *
      unfold fnV insV at *
      unfold Sli.val at *
      simp only at *
      go_enter Tryd.func36, Tryd.ntmps36
      go_wp2_with fail
      refine km.mono ?_
      rintro e w2 ⟨rfl, hb2⟩
      have HE : Hid (Below w.heap.size w w2) := HD.out _ hb2
      clear km hb2
      go_wp2_with fail
      go_ret
      exact ⟨rfl, HE.out⟩
  · rw [show withinB o (f.caps.xs.length : Int) = false from by unfold withinB; simp [h0]]
    clear km
    obtain ⟨ad, cap, fs⟩ := s
    obtain ⟨nm, pa, re, ge, ⟨ca, c1, cx⟩, ⟨ka, kc, kx⟩, ⟨pa', pc, px⟩, ⟨ha, hc, hx⟩⟩ := f
    obtain ⟨op, ia, ib, ic⟩ := y
    unfold fnB at *
    unfold fnV insV at *
    unfold Sli.val at *
    simp only at *
    go_enter Tryd.func36, Tryd.ntmps36
    go_wp2_with fail
    go_ret
    exact ⟨rfl, HB.out⟩

theorem oper_b (s : Sli Fn) (f : Fn) (y : Ins) (o : Int) (w : World) : Calls Tryd.prog 36 #[.agg #[s.val], fnV f, insV y, .int .u8 98, .int .i64 o] w fun e w' => e = .returned (.bool (withinB o 14)) ∧ Below w.heap.size w w' := by
  have HB : Hid (Below w.heap.size w (((w.alloc (.cells #[s.val] 24)).alloc (fnB f)).alloc (.cells #[.int .i64 y.op, .int .i64 y.a, .int .i64 y.b, .int .i64 y.c] 43))) := below_new (below_new (below_new (Below.refl _ _) (Nat.le_refl _) _) (by rw [size_new]; omega) _) (by rw [size_new, size_new]; omega) _
  have km := many_b s f (((w.alloc (.cells #[s.val] 24)).alloc (fnB f)).alloc (.cells #[.int .i64 y.op, .int .i64 y.a, .int .i64 y.b, .int .i64 y.c] 43))
  by_cases h0 : 0 ≤ o
  · by_cases h1 : o < 14
    · rw [show withinB o 14 = true from by unfold withinB; simp [h0, h1]]
      have HD : Hid (∀ w', Below (((w.alloc (.cells #[s.val] 24)).alloc (fnB f)).alloc (.cells #[.int .i64 y.op, .int .i64 y.a, .int .i64 y.b, .int .i64 y.c] 43)).heap.size (((w.alloc (.cells #[s.val] 24)).alloc (fnB f)).alloc (.cells #[.int .i64 y.op, .int .i64 y.a, .int .i64 y.b, .int .i64 y.c] 43)) w' → Below w.heap.size w w') := fun w' h => HB.out.trans (h.mono HB.out.size)
      clear HB
      obtain ⟨ad, cap, fs⟩ := s
      obtain ⟨nm, pa, re, ge, ⟨ca, c1, cx⟩, ⟨ka, kc, kx⟩, ⟨pa', pc, px⟩, ⟨ha, hc, hx⟩⟩ := f
      obtain ⟨op, ia, ib, ic⟩ := y
      unfold fnB at *
      unfold fnV insV at *
      unfold Sli.val at *
      simp only at *
      go_enter Tryd.func36, Tryd.ntmps36
      go_wp2_with fail
      refine km.mono ?_
      rintro e w2 ⟨rfl, hb2⟩
      have HE : Hid (Below w.heap.size w w2) := HD.out _ hb2
      clear km hb2
      go_wp2_with fail
      go_ret
      exact ⟨rfl, HE.out⟩
    · rw [show withinB o 14 = false from by unfold withinB; simp [h1]]
      have HD : Hid (∀ w', Below (((w.alloc (.cells #[s.val] 24)).alloc (fnB f)).alloc (.cells #[.int .i64 y.op, .int .i64 y.a, .int .i64 y.b, .int .i64 y.c] 43)).heap.size (((w.alloc (.cells #[s.val] 24)).alloc (fnB f)).alloc (.cells #[.int .i64 y.op, .int .i64 y.a, .int .i64 y.b, .int .i64 y.c] 43)) w' → Below w.heap.size w w') := fun w' h => HB.out.trans (h.mono HB.out.size)
      clear HB
      obtain ⟨ad, cap, fs⟩ := s
      obtain ⟨nm, pa, re, ge, ⟨ca, c1, cx⟩, ⟨ka, kc, kx⟩, ⟨pa', pc, px⟩, ⟨ha, hc, hx⟩⟩ := f
      obtain ⟨op, ia, ib, ic⟩ := y
      unfold fnB at *
      unfold fnV insV at *
      unfold Sli.val at *
      simp only at *
      go_enter Tryd.func36, Tryd.ntmps36
      go_wp2_with fail
      refine km.mono ?_
      rintro e w2 ⟨rfl, hb2⟩
      have HE : Hid (Below w.heap.size w w2) := HD.out _ hb2
      clear km hb2
      go_wp2_with fail
      go_ret
      exact ⟨rfl, HE.out⟩
  · rw [show withinB o 14 = false from by unfold withinB; simp [h0]]
    clear km
    obtain ⟨ad, cap, fs⟩ := s
    obtain ⟨nm, pa, re, ge, ⟨ca, c1, cx⟩, ⟨ka, kc, kx⟩, ⟨pa', pc, px⟩, ⟨ha, hc, hx⟩⟩ := f
    obtain ⟨op, ia, ib, ic⟩ := y
    unfold fnB at *
    unfold fnV insV at *
    unfold Sli.val at *
    simp only at *
    go_enter Tryd.func36, Tryd.ntmps36
    go_wp2_with fail
    go_ret
    exact ⟨rfl, HB.out⟩

theorem oper_t (s : Sli Fn) (f : Fn) (y : Ins) (o : Int) (w : World) : Calls Tryd.prog 36 #[.agg #[s.val], fnV f, insV y, .int .u8 116, .int .i64 o] w fun e w' => e = .returned (.bool (withinB o (f.code.xs.length : Int))) ∧ Below w.heap.size w w' := by
  have HB : Hid (Below w.heap.size w (((w.alloc (.cells #[s.val] 24)).alloc (fnB f)).alloc (.cells #[.int .i64 y.op, .int .i64 y.a, .int .i64 y.b, .int .i64 y.c] 43))) := below_new (below_new (below_new (Below.refl _ _) (Nat.le_refl _) _) (by rw [size_new]; omega) _) (by rw [size_new, size_new]; omega) _
  have km := many_t s f (((w.alloc (.cells #[s.val] 24)).alloc (fnB f)).alloc (.cells #[.int .i64 y.op, .int .i64 y.a, .int .i64 y.b, .int .i64 y.c] 43))
  by_cases h0 : 0 ≤ o
  · by_cases h1 : o < (f.code.xs.length : Int)
    · rw [show withinB o (f.code.xs.length : Int) = true from by unfold withinB; simp [h0, h1]]
      have HD : Hid (∀ w', Below (((w.alloc (.cells #[s.val] 24)).alloc (fnB f)).alloc (.cells #[.int .i64 y.op, .int .i64 y.a, .int .i64 y.b, .int .i64 y.c] 43)).heap.size (((w.alloc (.cells #[s.val] 24)).alloc (fnB f)).alloc (.cells #[.int .i64 y.op, .int .i64 y.a, .int .i64 y.b, .int .i64 y.c] 43)) w' → Below w.heap.size w w') := fun w' h => HB.out.trans (h.mono HB.out.size)
      clear HB
      obtain ⟨ad, cap, fs⟩ := s
      obtain ⟨nm, pa, re, ge, ⟨ca, c1, cx⟩, ⟨ka, kc, kx⟩, ⟨pa', pc, px⟩, ⟨ha, hc, hx⟩⟩ := f
      obtain ⟨op, ia, ib, ic⟩ := y
      unfold fnB at *
      unfold fnV insV at *
      unfold Sli.val at *
      simp only at *
      go_enter Tryd.func36, Tryd.ntmps36
      go_wp2_with fail
      refine km.mono ?_
      rintro e w2 ⟨rfl, hb2⟩
      have HE : Hid (Below w.heap.size w w2) := HD.out _ hb2
      clear km hb2
      go_wp2_with fail
      go_ret
      exact ⟨rfl, HE.out⟩
    · rw [show withinB o (f.code.xs.length : Int) = false from by unfold withinB; simp [h1]]
      have HD : Hid (∀ w', Below (((w.alloc (.cells #[s.val] 24)).alloc (fnB f)).alloc (.cells #[.int .i64 y.op, .int .i64 y.a, .int .i64 y.b, .int .i64 y.c] 43)).heap.size (((w.alloc (.cells #[s.val] 24)).alloc (fnB f)).alloc (.cells #[.int .i64 y.op, .int .i64 y.a, .int .i64 y.b, .int .i64 y.c] 43)) w' → Below w.heap.size w w') := fun w' h => HB.out.trans (h.mono HB.out.size)
      clear HB
      obtain ⟨ad, cap, fs⟩ := s
      obtain ⟨nm, pa, re, ge, ⟨ca, c1, cx⟩, ⟨ka, kc, kx⟩, ⟨pa', pc, px⟩, ⟨ha, hc, hx⟩⟩ := f
      obtain ⟨op, ia, ib, ic⟩ := y
      unfold fnB at *
      unfold fnV insV at *
      unfold Sli.val at *
      simp only at *
      go_enter Tryd.func36, Tryd.ntmps36
      go_wp2_with fail
      refine km.mono ?_
      rintro e w2 ⟨rfl, hb2⟩
      have HE : Hid (Below w.heap.size w w2) := HD.out _ hb2
      clear km hb2
      go_wp2_with fail
      go_ret
      exact ⟨rfl, HE.out⟩
  · rw [show withinB o (f.code.xs.length : Int) = false from by unfold withinB; simp [h0]]
    clear km
    obtain ⟨ad, cap, fs⟩ := s
    obtain ⟨nm, pa, re, ge, ⟨ca, c1, cx⟩, ⟨ka, kc, kx⟩, ⟨pa', pc, px⟩, ⟨ha, hc, hx⟩⟩ := f
    obtain ⟨op, ia, ib, ic⟩ := y
    unfold fnB at *
    unfold fnV insV at *
    unfold Sli.val at *
    simp only at *
    go_enter Tryd.func36, Tryd.ntmps36
    go_wp2_with fail
    go_ret
    exact ⟨rfl, HB.out⟩

theorem oper_h (s : Sli Fn) (f : Fn) (y : Ins) (o : Int) (w : World) : Calls Tryd.prog 36 #[.agg #[s.val], fnV f, insV y, .int .u8 104, .int .i64 o] w fun e w' => e = .returned (.bool (withinB o 2)) ∧ Below w.heap.size w w' := by
  have HB : Hid (Below w.heap.size w (((w.alloc (.cells #[s.val] 24)).alloc (fnB f)).alloc (.cells #[.int .i64 y.op, .int .i64 y.a, .int .i64 y.b, .int .i64 y.c] 43))) := below_new (below_new (below_new (Below.refl _ _) (Nat.le_refl _) _) (by rw [size_new]; omega) _) (by rw [size_new, size_new]; omega) _
  have km := many_h s f (((w.alloc (.cells #[s.val] 24)).alloc (fnB f)).alloc (.cells #[.int .i64 y.op, .int .i64 y.a, .int .i64 y.b, .int .i64 y.c] 43))
  by_cases h0 : 0 ≤ o
  · by_cases h1 : o < 2
    · rw [show withinB o 2 = true from by unfold withinB; simp [h0, h1]]
      have HD : Hid (∀ w', Below (((w.alloc (.cells #[s.val] 24)).alloc (fnB f)).alloc (.cells #[.int .i64 y.op, .int .i64 y.a, .int .i64 y.b, .int .i64 y.c] 43)).heap.size (((w.alloc (.cells #[s.val] 24)).alloc (fnB f)).alloc (.cells #[.int .i64 y.op, .int .i64 y.a, .int .i64 y.b, .int .i64 y.c] 43)) w' → Below w.heap.size w w') := fun w' h => HB.out.trans (h.mono HB.out.size)
      clear HB
      obtain ⟨ad, cap, fs⟩ := s
      obtain ⟨nm, pa, re, ge, ⟨ca, c1, cx⟩, ⟨ka, kc, kx⟩, ⟨pa', pc, px⟩, ⟨ha, hc, hx⟩⟩ := f
      obtain ⟨op, ia, ib, ic⟩ := y
      unfold fnB at *
      unfold fnV insV at *
      unfold Sli.val at *
      simp only at *
      go_enter Tryd.func36, Tryd.ntmps36
      go_wp2_with fail
      refine km.mono ?_
      rintro e w2 ⟨rfl, hb2⟩
      have HE : Hid (Below w.heap.size w w2) := HD.out _ hb2
      clear km hb2
      go_wp2_with fail
      go_ret
      exact ⟨rfl, HE.out⟩
    · rw [show withinB o 2 = false from by unfold withinB; simp [h1]]
      have HD : Hid (∀ w', Below (((w.alloc (.cells #[s.val] 24)).alloc (fnB f)).alloc (.cells #[.int .i64 y.op, .int .i64 y.a, .int .i64 y.b, .int .i64 y.c] 43)).heap.size (((w.alloc (.cells #[s.val] 24)).alloc (fnB f)).alloc (.cells #[.int .i64 y.op, .int .i64 y.a, .int .i64 y.b, .int .i64 y.c] 43)) w' → Below w.heap.size w w') := fun w' h => HB.out.trans (h.mono HB.out.size)
      clear HB
      obtain ⟨ad, cap, fs⟩ := s
      obtain ⟨nm, pa, re, ge, ⟨ca, c1, cx⟩, ⟨ka, kc, kx⟩, ⟨pa', pc, px⟩, ⟨ha, hc, hx⟩⟩ := f
      obtain ⟨op, ia, ib, ic⟩ := y
      unfold fnB at *
      unfold fnV insV at *
      unfold Sli.val at *
      simp only at *
      go_enter Tryd.func36, Tryd.ntmps36
      go_wp2_with fail
      refine km.mono ?_
      rintro e w2 ⟨rfl, hb2⟩
      have HE : Hid (Below w.heap.size w w2) := HD.out _ hb2
      clear km hb2
      go_wp2_with fail
      go_ret
      exact ⟨rfl, HE.out⟩
  · rw [show withinB o 2 = false from by unfold withinB; simp [h0]]
    clear km
    obtain ⟨ad, cap, fs⟩ := s
    obtain ⟨nm, pa, re, ge, ⟨ca, c1, cx⟩, ⟨ka, kc, kx⟩, ⟨pa', pc, px⟩, ⟨ha, hc, hx⟩⟩ := f
    obtain ⟨op, ia, ib, ic⟩ := y
    unfold fnB at *
    unfold fnV insV at *
    unfold Sli.val at *
    simp only at *
    go_enter Tryd.func36, Tryd.ntmps36
    go_wp2_with fail
    go_ret
    exact ⟨rfl, HB.out⟩

theorem oper_z (s : Sli Fn) (f : Fn) (y : Ins) (o : Int) (w : World) : Calls Tryd.prog 36 #[.agg #[s.val], fnV f, insV y, .int .u8 45, .int .i64 o] w fun e w' => e = .returned (.bool (withinB o 1)) ∧ Below w.heap.size w w' := by
  have HB : Hid (Below w.heap.size w (((w.alloc (.cells #[s.val] 24)).alloc (fnB f)).alloc (.cells #[.int .i64 y.op, .int .i64 y.a, .int .i64 y.b, .int .i64 y.c] 43))) := below_new (below_new (below_new (Below.refl _ _) (Nat.le_refl _) _) (by rw [size_new]; omega) _) (by rw [size_new, size_new]; omega) _
  have km := many_z s f (((w.alloc (.cells #[s.val] 24)).alloc (fnB f)).alloc (.cells #[.int .i64 y.op, .int .i64 y.a, .int .i64 y.b, .int .i64 y.c] 43))
  by_cases h0 : 0 ≤ o
  · by_cases h1 : o < 1
    · rw [show withinB o 1 = true from by unfold withinB; simp [h0, h1]]
      have HD : Hid (∀ w', Below (((w.alloc (.cells #[s.val] 24)).alloc (fnB f)).alloc (.cells #[.int .i64 y.op, .int .i64 y.a, .int .i64 y.b, .int .i64 y.c] 43)).heap.size (((w.alloc (.cells #[s.val] 24)).alloc (fnB f)).alloc (.cells #[.int .i64 y.op, .int .i64 y.a, .int .i64 y.b, .int .i64 y.c] 43)) w' → Below w.heap.size w w') := fun w' h => HB.out.trans (h.mono HB.out.size)
      clear HB
      obtain ⟨ad, cap, fs⟩ := s
      obtain ⟨nm, pa, re, ge, ⟨ca, c1, cx⟩, ⟨ka, kc, kx⟩, ⟨pa', pc, px⟩, ⟨ha, hc, hx⟩⟩ := f
      obtain ⟨op, ia, ib, ic⟩ := y
      unfold fnB at *
      unfold fnV insV at *
      unfold Sli.val at *
      simp only at *
      go_enter Tryd.func36, Tryd.ntmps36
      go_wp2_with fail
      refine km.mono ?_
      rintro e w2 ⟨rfl, hb2⟩
      have HE : Hid (Below w.heap.size w w2) := HD.out _ hb2
      clear km hb2
      go_wp2_with fail
      go_ret
      exact ⟨rfl, HE.out⟩
    · rw [show withinB o 1 = false from by unfold withinB; simp [h1]]
      have HD : Hid (∀ w', Below (((w.alloc (.cells #[s.val] 24)).alloc (fnB f)).alloc (.cells #[.int .i64 y.op, .int .i64 y.a, .int .i64 y.b, .int .i64 y.c] 43)).heap.size (((w.alloc (.cells #[s.val] 24)).alloc (fnB f)).alloc (.cells #[.int .i64 y.op, .int .i64 y.a, .int .i64 y.b, .int .i64 y.c] 43)) w' → Below w.heap.size w w') := fun w' h => HB.out.trans (h.mono HB.out.size)
      clear HB
      obtain ⟨ad, cap, fs⟩ := s
      obtain ⟨nm, pa, re, ge, ⟨ca, c1, cx⟩, ⟨ka, kc, kx⟩, ⟨pa', pc, px⟩, ⟨ha, hc, hx⟩⟩ := f
      obtain ⟨op, ia, ib, ic⟩ := y
      unfold fnB at *
      unfold fnV insV at *
      unfold Sli.val at *
      simp only at *
      go_enter Tryd.func36, Tryd.ntmps36
      go_wp2_with fail
      refine km.mono ?_
      rintro e w2 ⟨rfl, hb2⟩
      have HE : Hid (Below w.heap.size w w2) := HD.out _ hb2
      clear km hb2
      go_wp2_with fail
      go_ret
      exact ⟨rfl, HE.out⟩
  · rw [show withinB o 1 = false from by unfold withinB; simp [h0]]
    clear km
    obtain ⟨ad, cap, fs⟩ := s
    obtain ⟨nm, pa, re, ge, ⟨ca, c1, cx⟩, ⟨ka, kc, kx⟩, ⟨pa', pc, px⟩, ⟨ha, hc, hx⟩⟩ := f
    obtain ⟨op, ia, ib, ic⟩ := y
    unfold fnB at *
    unfold fnV insV at *
    unfold Sli.val at *
    simp only at *
    go_enter Tryd.func36, Tryd.ntmps36
    go_wp2_with fail
    go_ret
    exact ⟨rfl, HB.out⟩

theorem oper_f (s : Sli Fn) (f : Fn) (y : Ins) (o : Int) (w : World) : Calls Tryd.prog 36 #[.agg #[s.val], fnV f, insV y, .int .u8 102, .int .i64 o] w fun e w' => e = .returned (.bool (decide (0 < o) && decide (o < (s.xs.length : Int)))) ∧ Below w.heap.size w w' := by
  have HB : Hid (Below w.heap.size w (((w.alloc (.cells #[s.val] 24)).alloc (fnB f)).alloc (.cells #[.int .i64 y.op, .int .i64 y.a, .int .i64 y.b, .int .i64 y.c] 43))) := below_new (below_new (below_new (Below.refl _ _) (Nat.le_refl _) _) (by rw [size_new]; omega) _) (by rw [size_new, size_new]; omega) _
  have km := many_f s f (((w.alloc (.cells #[s.val] 24)).alloc (fnB f)).alloc (.cells #[.int .i64 y.op, .int .i64 y.a, .int .i64 y.b, .int .i64 y.c] 43))
  by_cases h0 : 0 ≤ o
  · by_cases h1 : o < (s.xs.length : Int)
    · by_cases h2 : 0 < o
      · rw [show (decide (0 < o) && decide (o < (s.xs.length : Int))) = true from by simp [h1, h2]]
        have HD : Hid (∀ w', Below (((w.alloc (.cells #[s.val] 24)).alloc (fnB f)).alloc (.cells #[.int .i64 y.op, .int .i64 y.a, .int .i64 y.b, .int .i64 y.c] 43)).heap.size (((w.alloc (.cells #[s.val] 24)).alloc (fnB f)).alloc (.cells #[.int .i64 y.op, .int .i64 y.a, .int .i64 y.b, .int .i64 y.c] 43)) w' → Below w.heap.size w w') := fun w' h => HB.out.trans (h.mono HB.out.size)
        clear HB
        obtain ⟨ad, cap, fs⟩ := s
        obtain ⟨nm, pa, re, ge, ⟨ca, c1, cx⟩, ⟨ka, kc, kx⟩, ⟨pa', pc, px⟩, ⟨ha, hc, hx⟩⟩ := f
        obtain ⟨op, ia, ib, ic⟩ := y
        unfold fnB at *
        unfold fnV insV at *
        unfold Sli.val at *
        simp only at *
        go_enter Tryd.func36, Tryd.ntmps36
        go_wp2_with fail
        refine km.mono ?_
        rintro e w2 ⟨rfl, hb2⟩
        have HE : Hid (Below w.heap.size w w2) := HD.out _ hb2
        clear km hb2
        go_wp2_with fail
        go_ret
        exact ⟨rfl, HE.out⟩
      · rw [show (decide (0 < o) && decide (o < (s.xs.length : Int))) = false from by simp [h2]]
        have hd2 : decide (0 < o) = false := decide_eq_false h2
        have HD : Hid (∀ w', Below (((w.alloc (.cells #[s.val] 24)).alloc (fnB f)).alloc (.cells #[.int .i64 y.op, .int .i64 y.a, .int .i64 y.b, .int .i64 y.c] 43)).heap.size (((w.alloc (.cells #[s.val] 24)).alloc (fnB f)).alloc (.cells #[.int .i64 y.op, .int .i64 y.a, .int .i64 y.b, .int .i64 y.c] 43)) w' → Below w.heap.size w w') := fun w' h => HB.out.trans (h.mono HB.out.size)
        clear HB
        obtain ⟨ad, cap, fs⟩ := s
        obtain ⟨nm, pa, re, ge, ⟨ca, c1, cx⟩, ⟨ka, kc, kx⟩, ⟨pa', pc, px⟩, ⟨ha, hc, hx⟩⟩ := f
        obtain ⟨op, ia, ib, ic⟩ := y
        unfold fnB at *
        unfold fnV insV at *
        unfold Sli.val at *
        simp only at *
        go_enter Tryd.func36, Tryd.ntmps36
        go_wp2_with fail
        refine km.mono ?_
        rintro e w2 ⟨rfl, hb2⟩
        have HE : Hid (Below w.heap.size w w2) := HD.out _ hb2
        clear km hb2
        go_wp2_with fail
        go_ret
        exact ⟨rfl, HE.out⟩
    · rw [show (decide (0 < o) && decide (o < (s.xs.length : Int))) = false from by simp [h1]]
      have HD : Hid (∀ w', Below (((w.alloc (.cells #[s.val] 24)).alloc (fnB f)).alloc (.cells #[.int .i64 y.op, .int .i64 y.a, .int .i64 y.b, .int .i64 y.c] 43)).heap.size (((w.alloc (.cells #[s.val] 24)).alloc (fnB f)).alloc (.cells #[.int .i64 y.op, .int .i64 y.a, .int .i64 y.b, .int .i64 y.c] 43)) w' → Below w.heap.size w w') := fun w' h => HB.out.trans (h.mono HB.out.size)
      clear HB
      obtain ⟨ad, cap, fs⟩ := s
      obtain ⟨nm, pa, re, ge, ⟨ca, c1, cx⟩, ⟨ka, kc, kx⟩, ⟨pa', pc, px⟩, ⟨ha, hc, hx⟩⟩ := f
      obtain ⟨op, ia, ib, ic⟩ := y
      unfold fnB at *
      unfold fnV insV at *
      unfold Sli.val at *
      simp only at *
      go_enter Tryd.func36, Tryd.ntmps36
      go_wp2_with fail
      refine km.mono ?_
      rintro e w2 ⟨rfl, hb2⟩
      have HE : Hid (Below w.heap.size w w2) := HD.out _ hb2
      clear km hb2
      go_wp2_with fail
      go_ret
      exact ⟨rfl, HE.out⟩
  · rw [show (decide (0 < o) && decide (o < (s.xs.length : Int))) = false from by rw [decide_eq_false (by omega)]; rfl]
    clear km
    obtain ⟨ad, cap, fs⟩ := s
    obtain ⟨nm, pa, re, ge, ⟨ca, c1, cx⟩, ⟨ka, kc, kx⟩, ⟨pa', pc, px⟩, ⟨ha, hc, hx⟩⟩ := f
    obtain ⟨op, ia, ib, ic⟩ := y
    unfold fnB at *
    unfold fnV insV at *
    unfold Sli.val at *
    simp only at *
    go_enter Tryd.func36, Tryd.ntmps36
    go_wp2_with fail
    go_ret
    exact ⟨rfl, HB.out⟩

theorem oper_n (s : Sli Fn) (f : Fn) (y : Ins) (o : Int) (w : World) (g1 : 0 ≤ f.regs) (g2 : f.regs ≤ 400) (g3 : 0 ≤ y.b) (g4 : y.b < f.regs) : Calls Tryd.prog 36 #[.agg #[s.val], fnV f, insV y, .int .u8 110, .int .i64 o] w fun e w' => e = .returned (.bool (withinB o (f.regs - 1 - y.b))) ∧ Below w.heap.size w w' := by
  have HB : Hid (Below w.heap.size w (((w.alloc (.cells #[s.val] 24)).alloc (fnB f)).alloc (.cells #[.int .i64 y.op, .int .i64 y.a, .int .i64 y.b, .int .i64 y.c] 43))) := below_new (below_new (below_new (Below.refl _ _) (Nat.le_refl _) _) (by rw [size_new]; omega) _) (by rw [size_new, size_new]; omega) _
  by_cases h0 : 0 ≤ o
  · by_cases h3 : o ≤ 1000000
    · by_cases h1 : y.b + 1 + o < f.regs
      · rw [show withinB o (f.regs - 1 - y.b) = true from by unfold withinB; simp [h0]; omega]
        obtain ⟨ad, cap, fs⟩ := s
        obtain ⟨nm, pa, re, ge, ⟨ca, c1, cx⟩, ⟨ka, kc, kx⟩, ⟨pa', pc, px⟩, ⟨ha, hc, hx⟩⟩ := f
        obtain ⟨op, ia, ib, ic⟩ := y
        unfold fnB at *
        unfold fnV insV at *
        unfold Sli.val at *
        simp only at *
        go_enter Tryd.func36, Tryd.ntmps36
        go_wp2_with fail
        go_ret
        exact ⟨rfl, HB.out⟩
      · rw [show withinB o (f.regs - 1 - y.b) = false from by unfold withinB; simp [h0]; omega]
        obtain ⟨ad, cap, fs⟩ := s
        obtain ⟨nm, pa, re, ge, ⟨ca, c1, cx⟩, ⟨ka, kc, kx⟩, ⟨pa', pc, px⟩, ⟨ha, hc, hx⟩⟩ := f
        obtain ⟨op, ia, ib, ic⟩ := y
        unfold fnB at *
        unfold fnV insV at *
        unfold Sli.val at *
        simp only at *
        go_enter Tryd.func36, Tryd.ntmps36
        go_wp2_with fail
        go_ret
        exact ⟨rfl, HB.out⟩
    · rw [show withinB o (f.regs - 1 - y.b) = false from by unfold withinB; simp [h0]; omega]
      obtain ⟨ad, cap, fs⟩ := s
      obtain ⟨nm, pa, re, ge, ⟨ca, c1, cx⟩, ⟨ka, kc, kx⟩, ⟨pa', pc, px⟩, ⟨ha, hc, hx⟩⟩ := f
      obtain ⟨op, ia, ib, ic⟩ := y
      unfold fnB at *
      unfold fnV insV at *
      unfold Sli.val at *
      simp only at *
      go_enter Tryd.func36, Tryd.ntmps36
      go_wp2_with fail
      go_ret
      exact ⟨rfl, HB.out⟩
  · rw [show withinB o (f.regs - 1 - y.b) = false from by unfold withinB; simp [h0]]
    obtain ⟨ad, cap, fs⟩ := s
    obtain ⟨nm, pa, re, ge, ⟨ca, c1, cx⟩, ⟨ka, kc, kx⟩, ⟨pa', pc, px⟩, ⟨ha, hc, hx⟩⟩ := f
    obtain ⟨op, ia, ib, ic⟩ := y
    unfold fnB at *
    unfold fnV insV at *
    unfold Sli.val at *
    simp only at *
    go_enter Tryd.func36, Tryd.ntmps36
    go_wp2_with fail
    go_ret
    exact ⟨rfl, HB.out⟩

set_option maxRecDepth 100000 in
theorem oper_x (s : Sli Fn) (f : Fn) (y : Ins) (o : Int) (w : World) (hf : f.consts.ok cstC 3 w) : Calls Tryd.prog 36 #[.agg #[s.val], fnV f, insV y, .int .u8 120, .int .i64 o] w fun e w' => e = .returned (.bool (withinB o f.consts.xs.length && textAt f o)) ∧ Below w.heap.size w w' := by
  have HB : Hid (Below w.heap.size w (((w.alloc (.cells #[s.val] 24)).alloc (fnB f)).alloc (.cells #[.int .i64 y.op, .int .i64 y.a, .int .i64 y.b, .int .i64 y.c] 43))) := below_new (below_new (below_new (Below.refl _ _) (Nat.le_refl _) _) (by rw [size_new]; omega) _) (by rw [size_new, size_new]; omega) _
  have km := many_x s f (((w.alloc (.cells #[s.val] 24)).alloc (fnB f)).alloc (.cells #[.int .i64 y.op, .int .i64 y.a, .int .i64 y.b, .int .i64 y.c] 43))
  by_cases h0 : 0 ≤ o
  · by_cases h1 : o < (f.consts.xs.length : Int)
    · obtain ⟨k, rfl⟩ : ∃ k : Nat, o = (k : Int) := ⟨o.toNat, by omega⟩
      have kl : k < f.consts.xs.length := by omega
      have hex : ∃ c, f.consts.xs[k]? = some c := ⟨_, List.getElem?_eq_getElem kl⟩
      obtain ⟨c, hc⟩ := hex
      have ht : textAt f k = c.isText := by unfold textAt; rw [Int.toNat_natCast, hc]; rfl
      rw [show withinB (k : Int) f.consts.xs.length = true from by unfold withinB; simp [h0, h1], ht, Bool.true_and]
      have hml : f.consts.xs.length ≤ maxLen := Nat.le_trans hf.len hf.cap
      unfold maxLen at hml
      have HD : Hid (∀ w', Below (((w.alloc (.cells #[s.val] 24)).alloc (fnB f)).alloc (.cells #[.int .i64 y.op, .int .i64 y.a, .int .i64 y.b, .int .i64 y.c] 43)).heap.size (((w.alloc (.cells #[s.val] 24)).alloc (fnB f)).alloc (.cells #[.int .i64 y.op, .int .i64 y.a, .int .i64 y.b, .int .i64 y.c] 43)) w' → Below w.heap.size w w' ∧ w'.cell? ⟨w.heap.size + 1, 5, none⟩ = some f.consts.val ∧ ∃ b off, f.consts.at' = some ⟨b, off, none⟩ ∧ w'.cell? ⟨b, off + k * 3, none⟩ = some (.bool c.isText)) := by
        intro w' h
        refine ⟨HB.out.trans (h.mono HB.out.size), ?_, ?_⟩
        · have e := fnB_cell f (w.alloc (.cells #[s.val] 24)) 5 _ rfl
          rw [size_new] at e
          exact cells_below h _ _ (cells_below (below_new (Below.refl _ _) (Nat.le_refl _) _) _ _ e)
        · obtain ⟨b, off, had, hcc⟩ := ((hf.kept (cells_below HB.out)).kept (cells_below h)).cells (by intro e; rw [e] at hc; simp at hc)
          have g0 := hcc k c hc 0 _ rfl
          rw [Nat.add_zero] at g0
          exact ⟨b, off, had, g0⟩
      clear HB hf hc ht
      obtain ⟨ad, cap, fs⟩ := s
      obtain ⟨nm, pa, re, ge, ⟨ca, c1, cx⟩, ⟨ka, kc, kx⟩, ⟨pa', pc, px⟩, ⟨ha, hc, hx⟩⟩ := f
      obtain ⟨op, ia, ib, ic⟩ := y
      unfold fnB at *
      unfold fnV insV at *
      unfold Sli.val at *
      simp only at *
      go_enter Tryd.func36, Tryd.ntmps36
      go_wp2_with fail
      refine km.mono ?_
      rintro e w2 ⟨rfl, hb2⟩
      obtain ⟨he, m5, b, off, rfl, g0⟩ := HD.out _ hb2
      have HE : Hid (Below w.heap.size w w2) := he
      clear km hb2 he
      go_wp2_with fail
      go_ret
      exact ⟨rfl, HE.out⟩
    · rw [show withinB o f.consts.xs.length = false from by unfold withinB; simp [h1], Bool.false_and]
      have HD : Hid (∀ w', Below (((w.alloc (.cells #[s.val] 24)).alloc (fnB f)).alloc (.cells #[.int .i64 y.op, .int .i64 y.a, .int .i64 y.b, .int .i64 y.c] 43)).heap.size (((w.alloc (.cells #[s.val] 24)).alloc (fnB f)).alloc (.cells #[.int .i64 y.op, .int .i64 y.a, .int .i64 y.b, .int .i64 y.c] 43)) w' → Below w.heap.size w w') := fun w' h => HB.out.trans (h.mono HB.out.size)
      clear HB
      clear hf
      obtain ⟨ad, cap, fs⟩ := s
      obtain ⟨nm, pa, re, ge, ⟨ca, c1, cx⟩, ⟨ka, kc, kx⟩, ⟨pa', pc, px⟩, ⟨ha, hc, hx⟩⟩ := f
      obtain ⟨op, ia, ib, ic⟩ := y
      unfold fnB at *
      unfold fnV insV at *
      unfold Sli.val at *
      simp only at *
      go_enter Tryd.func36, Tryd.ntmps36
      go_wp2_with fail
      refine km.mono ?_
      rintro e w2 ⟨rfl, hb2⟩
      have HE : Hid (Below w.heap.size w w2) := HD.out _ hb2
      clear km hb2
      go_wp2_with fail
      go_ret
      exact ⟨rfl, HE.out⟩
  · rw [show withinB o f.consts.xs.length = false from by unfold withinB; simp [h0], Bool.false_and]
    clear km hf
    obtain ⟨ad, cap, fs⟩ := s
    obtain ⟨nm, pa, re, ge, ⟨ca, c1, cx⟩, ⟨ka, kc, kx⟩, ⟨pa', pc, px⟩, ⟨ha, hc, hx⟩⟩ := f
    obtain ⟨op, ia, ib, ic⟩ := y
    unfold fnB at *
    unfold fnV insV at *
    unfold Sli.val at *
    simp only at *
    go_enter Tryd.func36, Tryd.ntmps36
    go_wp2_with fail
    go_ret
    exact ⟨rfl, HB.out⟩

theorem one_zero (o : Int) : withinB o 1 = decide (o = 0) := by
  unfold withinB
  by_cases h : o = 0
  · subst h; rfl
  · rw [decide_eq_false h]
    by_cases h0 : 0 ≤ o
    · rw [decide_eq_false (show ¬ o < 1 by omega), Bool.and_false]
    · rw [decide_eq_false h0, Bool.false_and]

theorem oper_any (s : Sli Fn) (f : Fn) (y : Ins) (l o : Int) (w : World) (hl : l ∈ letters) (hf : f.consts.ok cstC 3 w) (hn : l = 110 → 0 ≤ f.regs ∧ f.regs ≤ 400 ∧ 0 ≤ y.b ∧ y.b < f.regs) :
    Calls Tryd.prog 36 #[.agg #[s.val], fnV f, insV y, .int .u8 l, .int .i64 o] w fun e w' => e = .returned (.bool (meansB f y l o s.xs.length)) ∧ Below w.heap.size w w' := by
  unfold letters at hl
  simp only [List.mem_cons, List.not_mem_nil, or_false] at hl
  rcases hl with rfl | rfl | rfl | rfl | rfl | rfl | rfl | rfl | rfl | rfl | rfl | rfl
  · exact oper_w s f y o w
  · exact oper_r s f y o w
  · exact oper_k s f y o w
  · exact oper_x s f y o w hf
  · exact oper_s s f y o w
  · exact oper_f s f y o w
  · exact oper_c s f y o w
  · exact oper_b s f y o w
  · exact oper_t s f y o w
  · exact oper_h s f y o w
  · obtain ⟨h1, h2, h3, h4⟩ := hn rfl
    exact oper_n s f y o w h1 h2 h3 h4
  · have h := oper_z s f y o w
    rw [one_zero] at h
    exact h

end Go.Proofs.YtkoamenfbnpdbaaDoor.Cd
