/- Package code: means. -/
import Derived.Test.YtkoamenfbnpdbaaDoorCD
namespace Go.Proofs.YtkoamenfbnpdbaaDoor.Cd
open Go.RowKit
set_option linter.unusedVariables false

def textAt (f : Fn) (o : Int) : Bool := ((f.consts.xs[o.toNat]?).map (·.isText)).getD false

/-- an operand is what its letter says -/
def meansB (f : Fn) (y : Ins) (l o fn : Int) : Bool :=
  if l = 119 then withinB o f.regs else if l = 114 then withinB o f.regs
  else if l = 107 then withinB o f.consts.xs.length
  else if l = 120 then withinB o f.consts.xs.length && textAt f o
  else if l = 115 then withinB o 5
  else if l = 102 then decide (0 < o) && decide (o < fn)
  else if l = 99 then withinB o f.caps.xs.length
  else if l = 98 then withinB o 14
  else if l = 116 then withinB o f.code.xs.length
  else if l = 104 then withinB o 2
  else if l = 110 then withinB o (f.regs - 1 - y.b)
  else decide (o = 0)

/-- the letters of shapes -/
def letters : List Int := [119, 114, 107, 120, 115, 102, 99, 98, 116, 104, 110, 45]

theorem means_w (f : Fn) (y : Ins) (o fn : Int) (w : World) : Calls Tryd.prog 39 #[fnV f, insV y, .int .u8 119, .int .i64 o, .int .i64 fn] w fun e w' => e = .returned (.bool (withinB o f.regs)) ∧ Below w.heap.size w w' := by
  have cw := within_any o f.regs
  have HB : Hid (Below w.heap.size w ((w.alloc (fnB f)).alloc (.cells #[.int .i64 y.op, .int .i64 y.a, .int .i64 y.b, .int .i64 y.c] 43))) := below_new (below_new (Below.refl _ _) (Nat.le_refl _) _) (by rw [size_new]; omega) _
  obtain ⟨nm, pa, re, ge, ⟨ca, c1, cx⟩, ⟨ka, kc, kx⟩, ⟨pa', pc, px⟩, ⟨ha, hc, hx⟩⟩ := f
  obtain ⟨op, ia, ib, ic⟩ := y
  unfold fnB at *
  unfold fnV insV
  unfold Sli.val at *
  simp only at *
  generalize withinB o re = B at *
  go_enter Tryd.func39, Tryd.ntmps39
  go_wp2_with fail
  refine (cw _).mono ?_
  rintro e w' ⟨rfl, rfl⟩
  go_wp2_with fail
  go_ret
  exact ⟨rfl, HB.out⟩

theorem means_r (f : Fn) (y : Ins) (o fn : Int) (w : World) : Calls Tryd.prog 39 #[fnV f, insV y, .int .u8 114, .int .i64 o, .int .i64 fn] w fun e w' => e = .returned (.bool (withinB o f.regs)) ∧ Below w.heap.size w w' := by
  have cw := within_any o f.regs
  have HB : Hid (Below w.heap.size w ((w.alloc (fnB f)).alloc (.cells #[.int .i64 y.op, .int .i64 y.a, .int .i64 y.b, .int .i64 y.c] 43))) := below_new (below_new (Below.refl _ _) (Nat.le_refl _) _) (by rw [size_new]; omega) _
  obtain ⟨nm, pa, re, ge, ⟨ca, c1, cx⟩, ⟨ka, kc, kx⟩, ⟨pa', pc, px⟩, ⟨ha, hc, hx⟩⟩ := f
  obtain ⟨op, ia, ib, ic⟩ := y
  unfold fnB at *
  unfold fnV insV
  unfold Sli.val at *
  simp only at *
  generalize withinB o re = B at *
  go_enter Tryd.func39, Tryd.ntmps39
  go_wp2_with fail
  refine (cw _).mono ?_
  rintro e w' ⟨rfl, rfl⟩
  go_wp2_with fail
  go_ret
  exact ⟨rfl, HB.out⟩

theorem means_k (f : Fn) (y : Ins) (o fn : Int) (w : World) : Calls Tryd.prog 39 #[fnV f, insV y, .int .u8 107, .int .i64 o, .int .i64 fn] w fun e w' => e = .returned (.bool (withinB o f.consts.xs.length)) ∧ Below w.heap.size w w' := by
  have cw := within_any o f.consts.xs.length
  have HB : Hid (Below w.heap.size w ((w.alloc (fnB f)).alloc (.cells #[.int .i64 y.op, .int .i64 y.a, .int .i64 y.b, .int .i64 y.c] 43))) := below_new (below_new (Below.refl _ _) (Nat.le_refl _) _) (by rw [size_new]; omega) _
  obtain ⟨nm, pa, re, ge, ⟨ca, c1, cx⟩, ⟨ka, kc, kx⟩, ⟨pa', pc, px⟩, ⟨ha, hc, hx⟩⟩ := f
  obtain ⟨op, ia, ib, ic⟩ := y
  unfold fnB at *
  unfold fnV insV
  unfold Sli.val at *
  simp only at *
  generalize withinB o kx.length = B at *
  go_enter Tryd.func39, Tryd.ntmps39
  go_wp2_with fail
  refine (cw _).mono ?_
  rintro e w' ⟨rfl, rfl⟩
  go_wp2_with fail
  go_ret
  exact ⟨rfl, HB.out⟩

theorem means_s (f : Fn) (y : Ins) (o fn : Int) (w : World) : Calls Tryd.prog 39 #[fnV f, insV y, .int .u8 115, .int .i64 o, .int .i64 fn] w fun e w' => e = .returned (.bool (withinB o 5)) ∧ Below w.heap.size w w' := by
  have cw := within_any o 5
  have HB : Hid (Below w.heap.size w ((w.alloc (fnB f)).alloc (.cells #[.int .i64 y.op, .int .i64 y.a, .int .i64 y.b, .int .i64 y.c] 43))) := below_new (below_new (Below.refl _ _) (Nat.le_refl _) _) (by rw [size_new]; omega) _
  obtain ⟨nm, pa, re, ge, ⟨ca, c1, cx⟩, ⟨ka, kc, kx⟩, ⟨pa', pc, px⟩, ⟨ha, hc, hx⟩⟩ := f
  obtain ⟨op, ia, ib, ic⟩ := y
  unfold fnB at *
  unfold fnV insV
  unfold Sli.val at *
  simp only at *
  generalize withinB o 5 = B at *
  go_enter Tryd.func39, Tryd.ntmps39
  go_wp2_with fail
  refine (cw _).mono ?_
  rintro e w' ⟨rfl, rfl⟩
  go_wp2_with fail
  go_ret
  exact ⟨rfl, HB.out⟩

theorem means_c (f : Fn) (y : Ins) (o fn : Int) (w : World) : Calls Tryd.prog 39 #[fnV f, insV y, .int .u8 99, .int .i64 o, .int .i64 fn] w fun e w' => e = .returned (.bool (withinB o f.caps.xs.length)) ∧ Below w.heap.size w w' := by
  have cw := within_any o f.caps.xs.length
  have HB : Hid (Below w.heap.size w ((w.alloc (fnB f)).alloc (.cells #[.int .i64 y.op, .int .i64 y.a, .int .i64 y.b, .int .i64 y.c] 43))) := below_new (below_new (Below.refl _ _) (Nat.le_refl _) _) (by rw [size_new]; omega) _
  obtain ⟨nm, pa, re, ge, ⟨ca, c1, cx⟩, ⟨ka, kc, kx⟩, ⟨pa', pc, px⟩, ⟨ha, hc, hx⟩⟩ := f
  obtain ⟨op, ia, ib, ic⟩ := y
  unfold fnB at *
  unfold fnV insV
  unfold Sli.val at *
  simp only at *
  generalize withinB o px.length = B at *
  go_enter Tryd.func39, Tryd.ntmps39
  go_wp2_with fail
  refine (cw _).mono ?_
  rintro e w' ⟨rfl, rfl⟩
  go_wp2_with fail
  go_ret
  exact ⟨rfl, HB.out⟩

theorem means_b (f : Fn) (y : Ins) (o fn : Int) (w : World) : Calls Tryd.prog 39 #[fnV f, insV y, .int .u8 98, .int .i64 o, .int .i64 fn] w fun e w' => e = .returned (.bool (withinB o 14)) ∧ Below w.heap.size w w' := by
  have cw := within_any o 14
  have HB : Hid (Below w.heap.size w ((w.alloc (fnB f)).alloc (.cells #[.int .i64 y.op, .int .i64 y.a, .int .i64 y.b, .int .i64 y.c] 43))) := below_new (below_new (Below.refl _ _) (Nat.le_refl _) _) (by rw [size_new]; omega) _
  obtain ⟨nm, pa, re, ge, ⟨ca, c1, cx⟩, ⟨ka, kc, kx⟩, ⟨pa', pc, px⟩, ⟨ha, hc, hx⟩⟩ := f
  obtain ⟨op, ia, ib, ic⟩ := y
  unfold fnB at *
  unfold fnV insV
  unfold Sli.val at *
  simp only at *
  generalize withinB o 14 = B at *
  go_enter Tryd.func39, Tryd.ntmps39
  go_wp2_with fail
  refine (cw _).mono ?_
  rintro e w' ⟨rfl, rfl⟩
  go_wp2_with fail
  go_ret
  exact ⟨rfl, HB.out⟩

theorem means_t (f : Fn) (y : Ins) (o fn : Int) (w : World) : Calls Tryd.prog 39 #[fnV f, insV y, .int .u8 116, .int .i64 o, .int .i64 fn] w fun e w' => e = .returned (.bool (withinB o f.code.xs.length)) ∧ Below w.heap.size w w' := by
  have cw := within_any o f.code.xs.length
  have HB : Hid (Below w.heap.size w ((w.alloc (fnB f)).alloc (.cells #[.int .i64 y.op, .int .i64 y.a, .int .i64 y.b, .int .i64 y.c] 43))) := below_new (below_new (Below.refl _ _) (Nat.le_refl _) _) (by rw [size_new]; omega) _
  obtain ⟨nm, pa, re, ge, ⟨ca, c1, cx⟩, ⟨ka, kc, kx⟩, ⟨pa', pc, px⟩, ⟨ha, hc, hx⟩⟩ := f
  obtain ⟨op, ia, ib, ic⟩ := y
  unfold fnB at *
  unfold fnV insV
  unfold Sli.val at *
  simp only at *
  generalize withinB o cx.length = B at *
  go_enter Tryd.func39, Tryd.ntmps39
  go_wp2_with fail
  refine (cw _).mono ?_
  rintro e w' ⟨rfl, rfl⟩
  go_wp2_with fail
  go_ret
  exact ⟨rfl, HB.out⟩

theorem means_h (f : Fn) (y : Ins) (o fn : Int) (w : World) : Calls Tryd.prog 39 #[fnV f, insV y, .int .u8 104, .int .i64 o, .int .i64 fn] w fun e w' => e = .returned (.bool (withinB o 2)) ∧ Below w.heap.size w w' := by
  have cw := within_any o 2
  have HB : Hid (Below w.heap.size w ((w.alloc (fnB f)).alloc (.cells #[.int .i64 y.op, .int .i64 y.a, .int .i64 y.b, .int .i64 y.c] 43))) := below_new (below_new (Below.refl _ _) (Nat.le_refl _) _) (by rw [size_new]; omega) _
  obtain ⟨nm, pa, re, ge, ⟨ca, c1, cx⟩, ⟨ka, kc, kx⟩, ⟨pa', pc, px⟩, ⟨ha, hc, hx⟩⟩ := f
  obtain ⟨op, ia, ib, ic⟩ := y
  unfold fnB at *
  unfold fnV insV
  unfold Sli.val at *
  simp only at *
  generalize withinB o 2 = B at *
  go_enter Tryd.func39, Tryd.ntmps39
  go_wp2_with fail
  refine (cw _).mono ?_
  rintro e w' ⟨rfl, rfl⟩
  go_wp2_with fail
  go_ret
  exact ⟨rfl, HB.out⟩

theorem means_n (f : Fn) (y : Ins) (o fn : Int) (w : World) (h1 : 0 ≤ f.regs) (h2 : f.regs ≤ 400) (h3 : 0 ≤ y.b) (h4 : y.b < f.regs) : Calls Tryd.prog 39 #[fnV f, insV y, .int .u8 110, .int .i64 o, .int .i64 fn] w fun e w' => e = .returned (.bool (withinB o (f.regs - 1 - y.b))) ∧ Below w.heap.size w w' := by
  have cw := within_any o (f.regs - 1 - y.b)
  have HB : Hid (Below w.heap.size w ((w.alloc (fnB f)).alloc (.cells #[.int .i64 y.op, .int .i64 y.a, .int .i64 y.b, .int .i64 y.c] 43))) := below_new (below_new (Below.refl _ _) (Nat.le_refl _) _) (by rw [size_new]; omega) _
  obtain ⟨nm, pa, re, ge, ⟨ca, c1, cx⟩, ⟨ka, kc, kx⟩, ⟨pa', pc, px⟩, ⟨ha, hc, hx⟩⟩ := f
  obtain ⟨op, ia, ib, ic⟩ := y
  unfold fnB at *
  unfold fnV insV
  unfold Sli.val at *
  simp only at *
  generalize withinB o (re - 1 - ib) = B at *
  go_enter Tryd.func39, Tryd.ntmps39
  go_wp2_with fail
  refine (cw _).mono ?_
  rintro e w' ⟨rfl, rfl⟩
  go_wp2_with fail
  go_ret
  exact ⟨rfl, HB.out⟩

theorem means_f (f : Fn) (y : Ins) (o fn : Int) (w : World) : Calls Tryd.prog 39 #[fnV f, insV y, .int .u8 102, .int .i64 o, .int .i64 fn] w fun e w' => e = .returned (.bool (decide (0 < o) && decide (o < fn))) ∧ Below w.heap.size w w' := by
  have HB : Hid (Below w.heap.size w ((w.alloc (fnB f)).alloc (.cells #[.int .i64 y.op, .int .i64 y.a, .int .i64 y.b, .int .i64 y.c] 43))) := below_new (below_new (Below.refl _ _) (Nat.le_refl _) _) (by rw [size_new]; omega) _
  obtain ⟨nm, pa, re, ge, ⟨ca, c1, cx⟩, ⟨ka, kc, kx⟩, ⟨pa', pc, px⟩, ⟨ha, hc, hx⟩⟩ := f
  obtain ⟨op, ia, ib, ic⟩ := y
  unfold fnB at *
  unfold fnV insV
  unfold Sli.val at *
  simp only at *
  by_cases h1 : 0 < o
  · by_cases h2 : o < fn
    · have hb : (decide (0 < o) && decide (o < fn)) = true := by simp [h1, h2]
      rw [hb]
      go_enter Tryd.func39, Tryd.ntmps39
      go_wp2_with fail
      go_ret
      exact ⟨rfl, HB.out⟩
    · have hb : (decide (0 < o) && decide (o < fn)) = false := by simp [h2]
      rw [hb]
      go_enter Tryd.func39, Tryd.ntmps39
      go_wp2_with fail
      go_ret
      exact ⟨rfl, HB.out⟩
  · have hb : (decide (0 < o) && decide (o < fn)) = false := by simp [h1]
    rw [hb]
    go_enter Tryd.func39, Tryd.ntmps39
    go_wp2_with fail
    go_ret
    exact ⟨rfl, HB.out⟩

theorem means_z (f : Fn) (y : Ins) (o fn : Int) (w : World) : Calls Tryd.prog 39 #[fnV f, insV y, .int .u8 45, .int .i64 o, .int .i64 fn] w fun e w' => e = .returned (.bool (decide (o = 0))) ∧ Below w.heap.size w w' := by
  have HB : Hid (Below w.heap.size w ((w.alloc (fnB f)).alloc (.cells #[.int .i64 y.op, .int .i64 y.a, .int .i64 y.b, .int .i64 y.c] 43))) := below_new (below_new (Below.refl _ _) (Nat.le_refl _) _) (by rw [size_new]; omega) _
  obtain ⟨nm, pa, re, ge, ⟨ca, c1, cx⟩, ⟨ka, kc, kx⟩, ⟨pa', pc, px⟩, ⟨ha, hc, hx⟩⟩ := f
  obtain ⟨op, ia, ib, ic⟩ := y
  unfold fnB at *
  unfold fnV insV
  unfold Sli.val at *
  simp only at *
  by_cases h1 : o = 0
  · subst h1
    go_enter Tryd.func39, Tryd.ntmps39
    go_wp2_with fail
    go_ret
    exact ⟨rfl, HB.out⟩
  · have e1 : (o == 0) = false := by simpa using h1
    rw [decide_eq_false h1]
    go_enter Tryd.func39, Tryd.ntmps39
    go_wp2_with fail
    go_ret
    exact ⟨rfl, HB.out⟩

set_option maxRecDepth 100000 in
theorem means_x (f : Fn) (y : Ins) (o fn : Int) (w : World) (hf : f.consts.ok cstC 3 w) : Calls Tryd.prog 39 #[fnV f, insV y, .int .u8 120, .int .i64 o, .int .i64 fn] w fun e w' => e = .returned (.bool (withinB o f.consts.xs.length && textAt f o)) ∧ Below w.heap.size w w' := by
  have cw := within_any o f.consts.xs.length
  have HB0 : Below w.heap.size w ((w.alloc (fnB f)).alloc (.cells #[.int .i64 y.op, .int .i64 y.a, .int .i64 y.b, .int .i64 y.c] 43)) := below_new (below_new (Below.refl _ _) (Nat.le_refl _) _) (by rw [size_new]; omega) _
  by_cases h : withinB o f.consts.xs.length = true
  · have hw := h
    unfold withinB at hw
    simp at hw
    obtain ⟨k, rfl⟩ : ∃ k : Nat, o = (k : Int) := ⟨o.toNat, by omega⟩
    have kl : k < f.consts.xs.length := by omega
    have hex : ∃ c, f.consts.xs[k]? = some c := ⟨_, List.getElem?_eq_getElem kl⟩
    obtain ⟨c, hc⟩ := hex
    have ht : textAt f k = c.isText := by unfold textAt; rw [Int.toNat_natCast, hc]; rfl
    rw [h] at cw
    rw [h, ht]
    obtain ⟨b, off, had, hcc⟩ := (hf.kept (cells_below HB0)).cells (by intro e; rw [e] at hc; simp at hc)
    have g0 := hcc k c hc 0 _ rfl
    rw [Nat.add_zero] at g0
    have hml : f.consts.xs.length ≤ maxLen := Nat.le_trans hf.len hf.cap
    unfold maxLen at hml
    clear hcc hc ht h hw HB0 hf
    generalize c.isText = T at *
    have HB : Hid (Below w.heap.size w ((w.alloc (fnB f)).alloc (.cells #[.int .i64 y.op, .int .i64 y.a, .int .i64 y.b, .int .i64 y.c] 43))) := below_new (below_new (Below.refl _ _) (Nat.le_refl _) _) (by rw [size_new]; omega) _
    obtain ⟨nm, pa, re, ge, ⟨ca, c1, cx⟩, ⟨ka, kc, kx⟩, ⟨pa', pc, px⟩, ⟨ha, hc, hx⟩⟩ := f
    obtain ⟨op, ia, ib, ic⟩ := y
    unfold fnB at *
    unfold fnV insV
    unfold Sli.val at *
    simp only at *
    subst had
    go_enter Tryd.func39, Tryd.ntmps39
    go_wp2_with fail
    refine (cw _).mono ?_
    rintro e w' ⟨rfl, rfl⟩
    go_wp2_with fail
    go_ret
    exact ⟨rfl, HB.out⟩
  · have hw : withinB o f.consts.xs.length = false := by simpa using h
    rw [hw] at cw
    rw [hw]
    clear hw h HB0 hf
    have HB : Hid (Below w.heap.size w ((w.alloc (fnB f)).alloc (.cells #[.int .i64 y.op, .int .i64 y.a, .int .i64 y.b, .int .i64 y.c] 43))) := below_new (below_new (Below.refl _ _) (Nat.le_refl _) _) (by rw [size_new]; omega) _
    obtain ⟨nm, pa, re, ge, ⟨ca, c1, cx⟩, ⟨ka, kc, kx⟩, ⟨pa', pc, px⟩, ⟨ha, hc, hx⟩⟩ := f
    obtain ⟨op, ia, ib, ic⟩ := y
    unfold fnB at *
    unfold fnV insV
    unfold Sli.val at *
    simp only at *
    rw [Bool.false_and]
    go_enter Tryd.func39, Tryd.ntmps39
    go_wp2_with fail
    refine (cw _).mono ?_
    rintro e w' ⟨rfl, rfl⟩
    go_wp2_with fail
    go_ret
    exact ⟨rfl, HB.out⟩

theorem means_any (f : Fn) (y : Ins) (l o fn : Int) (w : World) (hl : l ∈ letters) (hf : f.consts.ok cstC 3 w) (hn : l = 110 → 0 ≤ f.regs ∧ f.regs ≤ 400 ∧ 0 ≤ y.b ∧ y.b < f.regs) :
    Calls Tryd.prog 39 #[fnV f, insV y, .int .u8 l, .int .i64 o, .int .i64 fn] w fun e w' => e = .returned (.bool (meansB f y l o fn)) ∧ Below w.heap.size w w' := by
  unfold letters at hl
  simp only [List.mem_cons, List.not_mem_nil, or_false] at hl
  rcases hl with rfl | rfl | rfl | rfl | rfl | rfl | rfl | rfl | rfl | rfl | rfl | rfl
  · exact means_w f y o fn w
  · exact means_r f y o fn w
  · exact means_k f y o fn w
  · exact means_x f y o fn w hf
  · exact means_s f y o fn w
  · exact means_f f y o fn w
  · exact means_c f y o fn w
  · exact means_b f y o fn w
  · exact means_t f y o fn w
  · exact means_h f y o fn w
  · obtain ⟨h1, h2, h3, h4⟩ := hn rfl
    exact means_n f y o fn w h1 h2 h3 h4
  · exact means_z f y o fn w

end Go.Proofs.YtkoamenfbnpdbaaDoor.Cd
