/- Package code: first, sized, metBy. -/
import Derived.Test.YtkoamenfbnpdbaaDoorC9
namespace Go.Proofs.YtkoamenfbnpdbaaDoor.Cd
open Go.RowKit
set_option linter.unusedVariables false

def firstB (f : Fn) : Bool := decide (f.params = 0) && !f.gen && decide (f.caps.xs.length = 0)

theorem first_any (f : Fn) (w : World) : Calls Tryd.prog 20 #[fnV f] w fun e w' => e = .returned (.bool (firstB f)) ∧ Below w.heap.size w w' := by
  have HB : Hid (Below w.heap.size w (w.alloc (fnB f))) := (Below.refl _ _).alloc (Nat.le_refl _) _
  unfold firstB
  obtain ⟨nm, pa, re, ge, ⟨ca, c1, cx⟩, ⟨ka, kc, kx⟩, ⟨pa', pc, px⟩, ⟨ha, hc, hx⟩⟩ := f
  unfold fnB at HB
  unfold fnV
  unfold Sli.val at *
  simp only at *
  by_cases h1 : pa = 0
  · cases ge with
    | true =>
      have hb : (decide (pa = 0) && !true && decide (px.length = 0)) = false := by simp
      rw [hb]
      clear hb
      subst h1
      go_enter Tryd.func20, Tryd.ntmps20
      go_wp2
      go_ret
      exact ⟨rfl, HB.out⟩
    | false =>
      by_cases h2 : px.length = 0
      · have hb : (decide (pa = 0) && !false && decide (px.length = 0)) = true := by simp [h1, h2]
        rw [hb]
        clear hb
        subst h1
        have hp := List.length_eq_zero_iff.1 h2
        subst hp
        clear h2
        simp only [List.length_nil] at *
        go_enter Tryd.func20, Tryd.ntmps20
        go_wp2
        go_ret
        exact ⟨rfl, HB.out⟩
      · have hb : (decide (pa = 0) && !false && decide (px.length = 0)) = false := by simp [h2]
        rw [hb]
        have e2 : ((px.length : Int) == 0) = false := by
          rw [beq_eq_false_iff_ne]
          omega
        clear hb
        subst h1
        go_enter Tryd.func20, Tryd.ntmps20
        go_wp2
        go_ret
        exact ⟨rfl, HB.out⟩
  · have hb : (decide (pa = 0) && !ge && decide (px.length = 0)) = false := by simp [h1]
    rw [hb]
    have e2 : (pa == 0) = false := by simpa using h1
    clear hb
    go_enter Tryd.func20, Tryd.ntmps20
    go_wp2
    go_ret
    exact ⟨rfl, HB.out⟩

/-- a function keeps to the limits -/
def sizedB (f : Fn) : Bool := decide (1 ≤ f.code.xs.length) && decide (f.code.xs.length ≤ 65536) && decide (f.consts.xs.length ≤ 65536) && decide (0 ≤ f.regs) && decide (f.regs ≤ 400) && withinB f.params (f.regs + 1)

theorem sized_any (f : Fn) (w : World) : Calls Tryd.prog 22 #[fnV f] w fun e w' => e = .returned (.bool (sizedB f)) ∧ Below w.heap.size w w' := by
  have HB : Hid (Below w.heap.size w (w.alloc (fnB f))) := (Below.refl _ _).alloc (Nat.le_refl _) _
  have HQ : Hid (∀ b, sizedB f = b → Calls Tryd.prog 22 #[fnV f] w (fun e w' => e = .returned (.bool b) ∧ Below w.heap.size w w') → Calls Tryd.prog 22 #[fnV f] w fun e w' => e = .returned (.bool (sizedB f)) ∧ Below w.heap.size w w') := fun b h hc => by rw [h]; exact hc
  have cw := within_any f.params (f.regs + 1)
  unfold sizedB at HQ ⊢
  obtain ⟨nm, pa, re, ge, ⟨ca, c1, cx⟩, ⟨ka, kc, kx⟩, ⟨pa', pc, px⟩, ⟨ha, hc, hx⟩⟩ := f
  unfold fnB at HB
  unfold fnV at HQ ⊢
  unfold Sli.val at *
  simp only at *
  by_cases h1 : 1 ≤ cx.length
  case neg =>
    have hb : (decide (1 ≤ cx.length) && decide (cx.length ≤ 65536) && decide (kx.length ≤ 65536) && decide (0 ≤ re) && decide (re ≤ 400) && withinB pa (re + 1)) = false := by simp [h1]
    refine HQ.out _ hb ?_
    clear hb HQ cw
    go_enter Tryd.func22, Tryd.ntmps22
    go_wp2
    go_ret
    exact ⟨rfl, HB.out⟩
  by_cases h2 : cx.length ≤ 65536
  case neg =>
    have hb : (decide (1 ≤ cx.length) && decide (cx.length ≤ 65536) && decide (kx.length ≤ 65536) && decide (0 ≤ re) && decide (re ≤ 400) && withinB pa (re + 1)) = false := by simp [h2]
    refine HQ.out _ hb ?_
    clear hb HQ cw
    go_enter Tryd.func22, Tryd.ntmps22
    go_wp2
    go_ret
    exact ⟨rfl, HB.out⟩
  by_cases h3 : kx.length ≤ 65536
  case neg =>
    have hb : (decide (1 ≤ cx.length) && decide (cx.length ≤ 65536) && decide (kx.length ≤ 65536) && decide (0 ≤ re) && decide (re ≤ 400) && withinB pa (re + 1)) = false := by simp [h3]
    refine HQ.out _ hb ?_
    clear hb HQ cw
    go_enter Tryd.func22, Tryd.ntmps22
    go_wp2
    go_ret
    exact ⟨rfl, HB.out⟩
  by_cases h4 : 0 ≤ re
  case neg =>
    have hb : (decide (1 ≤ cx.length) && decide (cx.length ≤ 65536) && decide (kx.length ≤ 65536) && decide (0 ≤ re) && decide (re ≤ 400) && withinB pa (re + 1)) = false := by simp [h4]
    refine HQ.out _ hb ?_
    clear hb HQ cw
    go_enter Tryd.func22, Tryd.ntmps22
    go_wp2
    go_ret
    exact ⟨rfl, HB.out⟩
  by_cases h5 : re ≤ 400
  case neg =>
    have hb : (decide (1 ≤ cx.length) && decide (cx.length ≤ 65536) && decide (kx.length ≤ 65536) && decide (0 ≤ re) && decide (re ≤ 400) && withinB pa (re + 1)) = false := by simp [h5]
    refine HQ.out _ hb ?_
    clear hb HQ cw
    go_enter Tryd.func22, Tryd.ntmps22
    go_wp2
    go_ret
    exact ⟨rfl, HB.out⟩
  have hb : (decide (1 ≤ cx.length) && decide (cx.length ≤ 65536) && decide (kx.length ≤ 65536) && decide (0 ≤ re) && decide (re ≤ 400) && withinB pa (re + 1)) = withinB pa (re + 1) := by simp [h1, h2, h3, h4, h5]
  refine HQ.out _ hb ?_
  clear hb HQ
  generalize withinB pa (re + 1) = B at *
  go_enter Tryd.func22, Tryd.ntmps22
  go_wp2_with fail
  refine (cw _).mono ?_
  rintro e w' ⟨rfl, rfl⟩
  go_wp2
  go_ret
  exact ⟨rfl, HB.out⟩

/-- what a function asks of its makers -/
def metB (r fr : Int) (f : Fn) : Bool := decide (r < f.regs) && decide (fr < (f.caps.xs.length : Int))

theorem met_any (r fr : Int) (f : Fn) (w : World) : Calls Tryd.prog 35 #[.agg #[.int .i64 r, .int .i64 fr], fnV f] w fun e w' => e = .returned (.bool (metB r fr f)) ∧ Below w.heap.size w w' := by
  have HB : Hid (Below w.heap.size w ((w.alloc (.cells #[.int .i64 r, .int .i64 fr] 66)).alloc (fnB f))) := ((Below.refl _ _).alloc (Nat.le_refl _) _).alloc (by rw [size_new]; omega) _
  have HQ : Hid (∀ b, metB r fr f = b → Calls Tryd.prog 35 #[.agg #[.int .i64 r, .int .i64 fr], fnV f] w (fun e w' => e = .returned (.bool b) ∧ Below w.heap.size w w') → Calls Tryd.prog 35 #[.agg #[.int .i64 r, .int .i64 fr], fnV f] w fun e w' => e = .returned (.bool (metB r fr f)) ∧ Below w.heap.size w w') := fun b h hc => by rw [h]; exact hc
  unfold metB at HQ ⊢
  obtain ⟨nm, pa, re, ge, ⟨ca, c1, cx⟩, ⟨ka, kc, kx⟩, ⟨pa', pc, px⟩, ⟨ha, hc, hx⟩⟩ := f
  unfold fnB at HB
  unfold fnV at HQ ⊢
  unfold Sli.val at *
  simp only at *
  by_cases h1 : r < re
  · by_cases h2 : fr < (px.length : Int)
    · refine HQ.out true (by simp [h1, h2]) ?_
      clear HQ
      go_enter Tryd.func35, Tryd.ntmps35
      go_wp2
      go_ret
      exact ⟨rfl, HB.out⟩
    · refine HQ.out false (by simp [h2]) ?_
      clear HQ
      go_enter Tryd.func35, Tryd.ntmps35
      go_wp2
      go_ret
      exact ⟨rfl, HB.out⟩
  · refine HQ.out false (by simp [h1]) ?_
    clear HQ
    go_enter Tryd.func35, Tryd.ntmps35
    go_wp2
    go_ret
    exact ⟨rfl, HB.out⟩

end Go.Proofs.YtkoamenfbnpdbaaDoor.Cd
