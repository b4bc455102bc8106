/- CellsChain: of cells that stand one on the other, breaking one breaks it and all above, and none below. -/
import Derived.Test.YtjahkjkkjccmgaaRows
import Derived.Test.YtjahkjkkjccmgaaCT
import Derived.Test.YtjahkjkkjccmgaaCR
import Derived.WalkKit
import Derived.ProofKit
import Derived.OpenShut
import Derived.ShutString
import Derived.ChangeOld
import Derived.Below
import Derived.SizedLaws
import Derived.JoinedCond
namespace Go.Proofs.Ytjahkjkkjccmgaa.cellsChain
open Go.ChangeShapes Go.WideShapes Go.ChangeAt Go.RowKit
set_option linter.unusedVariables false

theorem own : ownKnob Try.prog.godebug = none := by kernel_rfl
theorem laidOut : laidOutB Try.prog = true := by kernel_rfl

set_option maxRecDepth 100000 in
theorem lifted (os : Os) (started : os.Started) (H : Type) (enc : TypeId × Value → H) :
    ReturnsInHanded {} Try.checked os 5 .any (Rows.cellsChainSpec.pre6 enc Try.prog Try.f5 Rows.cellsChainRow.domain false) (Rows.cellsChainSpec.post enc Try.prog Try.f5 false true false false) := by
  refine returnsInHanded_of_change_sized (C := Try.checked) own started (by kernel_rfl) Try.func5
    (ChangeSpec.witness6 (enc := enc) (C := Try.checked) false ⟨#[], #[.int .i64 0, .int .i64 0], []⟩ 8 (by kernel_rfl) (by kernel_rfl) (by kernel_rfl) (by kernel_rfl)) ?_
  intro W base args ds gs before hval0 hW hcnd hszz _
  have hval : ∀ (j : Nat) t v, Try.f5.params[j]? = some t → args[j]? = some v → Value.okWide Try.prog W .any base t v := hval0
  have hW' := hW
  obtain ⟨p, q, hA0, hV, rfl, hfz, hnd⟩ := hW
  have hA : DataW.TrodAll enc Try.prog W 0 (fun _ => true) true Try.f5.params.toList args.toList ds p := hA0
  rw [Try.params5] at hA hval hszz
  obtain ⟨v0, vs0, d0, ds0, p0, q0, hargs, rfl, rfl, h0, r0⟩ := trodAll_cons hA
  obtain ⟨v1, vs1, d1, ds1, p1, q1, rfl, rfl, rfl, h1, r1⟩ := trodAll_cons r0
  obtain ⟨rfl, rfl, rfl⟩ := trodAll_nil r1
  obtain rfl : args = #[v0, v1] := by cases args; simp_all
  obtain ⟨rfl, rfl⟩ := trodVars_none hV
  have k0 := h0
  have lt0 : ∀ x ∈ p0, x.block < W.heap.size := by obtain ⟨m, hm⟩ := k0; exact DataW.trod_lt m _ _ _ hm
  have k1 := h1
  have lt1 : ∀ x ∈ p1, x.block < W.heap.size := by obtain ⟨m, hm⟩ := k1; exact DataW.trod_lt m _ _ _ hm
  obtain ⟨z0, rfl, wz0⟩ : ∃ z, v0 = .int .i64 z ∧ (Lit.int .i64 z).wf = true := by
    obtain ⟨fuel, hf⟩ := h0
    obtain ⟨z, e1, _, e3⟩ := DataW.trod_int Try.underlying3 hf
    obtain ⟨z', e4⟩ := okWide_int Try.underlying3 (hval 0 3 v0 rfl rfl)
    have : z' = z := by rw [e4] at e1; simpa [Value.cells] using e1
    rw [this] at e4
    exact ⟨z, e4, e3⟩
  obtain ⟨z1, rfl, wz1⟩ : ∃ z, v1 = .int .i64 z ∧ (Lit.int .i64 z).wf = true := by
    obtain ⟨fuel, hf⟩ := h1
    obtain ⟨z, e1, _, e3⟩ := DataW.trod_int Try.underlying3 hf
    obtain ⟨z', e4⟩ := okWide_int Try.underlying3 (hval 1 3 v1 rfl rfl)
    have : z' = z := by rw [e4] at e1; simpa [Value.cells] using e1
    rw [this] at e4
    exact ⟨z, e4, e3⟩
  clear hA0 hval0
  simp only [List.append_nil] at hW'
  have W1 := Ce.chain_walk W z0 z1
  refine W1.mono fun e W' ⟨he, bel⟩ => ?_
  subst he
  exact ⟨_, rfl, _, _, _, [], _, [], hW', trodAll_mk1 (shut_bool Try.underlying4 _), (trodAll_cons_mk (Below.trod laidOut (by kernel_rfl) (of_decide_eq_true (by kernel_rfl)) k0 bel lt0) (trodAll_cons_mk (Below.trod laidOut (by kernel_rfl) (of_decide_eq_true (by kernel_rfl)) k1 bel lt1) trodAll_mk0)), rfl, bel.frame _, fun h => by cases h⟩

theorem over : Rows.cellsChainRow.holds Try.pinned (OpenSpec.ofChange Rows.cellsChainSpec) :=
  OpenClaim.holds_of_wide 5 Try.f5 rfl rfl rfl rfl rfl rfl rfl ⟨rfl, rfl, rfl, rfl, rfl⟩ rfl rfl rfl rfl rfl (by kernel_rfl) Try.func5 (by kernel_rfl)
    (of_decide_eq_true (by kernel_rfl)) (by unfold Func.isWrapper; first | (rw [if_pos (by decide +kernel)]; kernel_rfl) | (rw [if_neg (by decide +kernel)]; exact ⟨rfl, rfl⟩))
    (fun os started H enc _ => lifted os started H enc)

theorem proved : Rows.CellsChainSaid :=
  over
end Go.Proofs.Ytjahkjkkjccmgaa.cellsChain

namespace Go.Proofs.Ytjahkjkkjccmgaa
theorem cellsChain_holds : Rows.CellsChainSaid := cellsChain.proved
#print axioms cellsChain_holds
end Go.Proofs.Ytjahkjkkjccmgaa
