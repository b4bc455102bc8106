/- The document's kind. -/
import Derived.Test.YtjkemkggcnholaaGC
namespace Go.Proofs.Ytjkemkggcnholaa.Fu
open Go.RowKit
set_option linter.unusedVariables false

set_option maxRecDepth 100000 in
set_option maxHeartbeats 4000000 in
theorem kind_one (f : Fn) (p : Int) (room : Nat) (w : World) (h : room < 2) :
    Calls Try.prog 18 #[fnV f, .int .i64 p, .int .i64 (room : Nat)] w fun e w' => e = .returned (.tuple #[.int .i64 0, .int .i64 1]) ∧ Below w.heap.size w w' := by
  have B0 : Hid (Below w.heap.size w (w.alloc (fnB f))) := (Below.refl _ _).alloc (Nat.le_refl _) _
  obtain ⟨nm, pa, re, ge, ⟨ca, c1, cx⟩, ⟨ka, kc, kx⟩, ⟨pa', pc, px⟩, ⟨ha, hc, hx⟩⟩ := f
  unfold fnB at *
  unfold fnV at *
  unfold Sli.val at *
  simp only at *
  have t : (room : Int) < 2 := by omega
  go_enter Try.func18, Try.ntmps18
  go_wp2_with fail
  go_ret2
  exact ⟨rfl, B0.out⟩

end Go.Proofs.Ytjkemkggcnholaa.Fu
