/- The document's function. -/
import Derived.Test.YtkoamenfbnpdbaaDoorCS
namespace Go.Proofs.YtkoamenfbnpdbaaDoor.Cd
open Go.RowKit Go.Deep
set_option linter.unusedVariables false

def rinsB (f : Fn) (n : Nat) (y : Ins) : Bool := fitsB f y n && (decide (y.op ≠ 60) || f.gen)

/-- a function of a program of so many may be -/
def functionB (n : Nat) (f : Fn) : Bool := sizedB f && f.code.xs.all (rinsB f n) && flowsB f

structure F1At (f : Fn) (n : Nat) (w1 wr : World) (k : Nat) : Prop where
  le : k ≤ f.code.xs.length
  val : f.code.xs.all (rinsB f n) = (f.code.xs.drop k).all (rinsB f n)
  bel : Below w1.heap.size w1 wr

structure F2At (f : Fn) (w1 wr : World) (k : Nat) : Prop where
  le : k ≤ f.hnds.xs.length
  val : f.hnds.xs.all (hndB f.code.xs.length) = (f.hnds.xs.drop k).all (hndB f.code.xs.length)
  bel : Below w1.heap.size w1 wr

set_option maxRecDepth 100000 in
set_option maxHeartbeats 16000000 in
theorem function_out (s : Sli Fn) (f : Fn) (w : World) (h : sizedB f = false) :
    Calls Tryd.prog 25 #[.agg #[s.val], fnV f] w fun e w' => e = .returned (.bool false) ∧ Below w.heap.size w w' := by
  have HB : Hid (Below w.heap.size w ((w.alloc (.cells #[s.val] 24)).alloc (fnB f))) := below_new (below_new (Below.refl _ _) (Nat.le_refl _) _) (by rw [size_new]; omega) _
  have hh : f.code.xs.length = 0 ∨ 65536 < f.code.xs.length ∨ 65536 < f.consts.xs.length ∨ f.regs < 0 ∨ 400 < f.regs ∨ f.params < 0 ∨ f.regs < f.params := by
    by_cases h1 : f.code.xs.length = 0
    · exact Or.inl h1
    by_cases h2 : 65536 < f.code.xs.length
    · exact Or.inr (Or.inl h2)
    by_cases h3 : 65536 < f.consts.xs.length
    · exact Or.inr (Or.inr (Or.inl h3))
    by_cases h4 : f.regs < 0
    · exact Or.inr (Or.inr (Or.inr (Or.inl h4)))
    by_cases h5 : 400 < f.regs
    · exact Or.inr (Or.inr (Or.inr (Or.inr (Or.inl h5))))
    by_cases h6 : f.params < 0
    · exact Or.inr (Or.inr (Or.inr (Or.inr (Or.inr (Or.inl h6)))))
    by_cases h7 : f.regs < f.params
    · exact Or.inr (Or.inr (Or.inr (Or.inr (Or.inr (Or.inr h7)))))
    exfalso
    have : sizedB f = true := by
      unfold sizedB withinB
      simp only [Bool.and_eq_true, decide_eq_true_eq]
      omega
    rw [this] at h
    cases h
  clear h
  obtain ⟨ad, cap, fs⟩ := s
  obtain ⟨nm, pa, re, ge, ⟨ca, c1, cx⟩, ⟨ka, kc, kx⟩, ⟨pa', pc, px⟩, ⟨ha, hc, hx⟩⟩ := f
  unfold fnB at *
  unfold fnV at *
  unfold Sli.val at *
  simp only at *
  by_cases h1 : cx.length = 0
  · have e1 := List.length_eq_zero_iff.1 h1
    subst e1
    clear h1 hh
    simp only [List.length_nil] at *
    go_enter Tryd.func25, Tryd.ntmps25
    go_wp2_with fail
    go_ret
    exact ⟨rfl, HB.out⟩
  have d1 : ((cx.length : Int) == 0) = false := by
    rw [beq_eq_false_iff_ne]
    omega
  by_cases h2 : 65536 < cx.length
  · clear hh
    go_enter Tryd.func25, Tryd.ntmps25
    go_wp2_with fail
    go_ret
    exact ⟨rfl, HB.out⟩
  by_cases h3 : 65536 < kx.length
  · clear hh
    go_enter Tryd.func25, Tryd.ntmps25
    go_wp2_with fail
    go_ret
    exact ⟨rfl, HB.out⟩
  by_cases h4 : re < 0
  · clear hh
    go_enter Tryd.func25, Tryd.ntmps25
    go_wp2_with fail
    go_ret
    exact ⟨rfl, HB.out⟩
  by_cases h5 : 400 < re
  · clear hh
    go_enter Tryd.func25, Tryd.ntmps25
    go_wp2_with fail
    go_ret
    exact ⟨rfl, HB.out⟩
  by_cases h6 : pa < 0
  · clear hh
    go_enter Tryd.func25, Tryd.ntmps25
    go_wp2_with fail
    go_ret
    exact ⟨rfl, HB.out⟩
  by_cases h7 : re < pa
  · clear hh
    go_enter Tryd.func25, Tryd.ntmps25
    go_wp2_with fail
    go_ret
    exact ⟨rfl, HB.out⟩
  exfalso
  omega

end Go.Proofs.YtkoamenfbnpdbaaDoor.Cd
