/- ShapesStay: what a shape says never changes, whatever comes behind it. -/
import Derived.Test.YtiliffnflamkjaaRows
import Derived.Test.YtiliffnflamkjaaRO
import Derived.Test.YtiliffnflamkjaaQM
import Derived.WalkKit
import Derived.ProofKit
import Derived.OpenShut
import Derived.ShutString
import Derived.ChangeOld
import Derived.Below
import Derived.SizedLaws
import Derived.JoinedCond
namespace Go.Proofs.Ytiliffnflamkjaa.shapesStay
open Go.ChangeShapes Go.WideShapes Go.ChangeAt Go.RowKit
set_option linter.unusedVariables false

theorem own : ownKnob Try.prog.godebug = none := by kernel_rfl
theorem laidOut : laidOutB Try.prog = true := by kernel_rfl

set_option maxRecDepth 100000 in
theorem lifted (os : Os) (started : os.Started) (H : Type) (enc : TypeId × Value → H) :
    ReturnsInHanded {} Try.checked os 7 .any (Rows.shapesStaySpec.pre6 enc Try.prog Try.f7 Rows.shapesStayRow.domain false) (Rows.shapesStaySpec.post enc Try.prog Try.f7 false true false false) := by
  refine returnsInHanded_of_change_sized (C := Try.checked) own started (by kernel_rfl) Try.func7
    (ChangeSpec.witness6 (enc := enc) (C := Try.checked) false ⟨#[], #[.slice none 0 0, .slice none 0 0, .int .i64 0], []⟩ 8 (by kernel_rfl) (by kernel_rfl) (by kernel_rfl) (by kernel_rfl)) ?_
  intro W base args ds gs before hval0 hW hcnd hszz _
  have hval : ∀ (j : Nat) t v, Try.f7.params[j]? = some t → args[j]? = some v → Value.okWide Try.prog W .any base t v := hval0
  have hW' := hW
  obtain ⟨p, q, hA0, hV, rfl, hfz, hnd⟩ := hW
  have hA : DataW.TrodAll enc Try.prog W 0 (fun _ => true) true Try.f7.params.toList args.toList ds p := hA0
  rw [Try.params7] at hA hval
  obtain ⟨v0, vs0, d0, ds0, p0, q0, hargs, rfl, rfl, h0, r0⟩ := trodAll_cons hA
  obtain ⟨v1, vs1, d1, ds1, p1, q1, rfl, rfl, rfl, h1, r1⟩ := trodAll_cons r0
  obtain ⟨v2, vs2, d2, ds2, p2, q2, rfl, rfl, rfl, h2, r2⟩ := trodAll_cons r1
  obtain ⟨rfl, rfl, rfl⟩ := trodAll_nil r2
  obtain rfl : args = #[v0, v1, v2] := by cases args; simp_all
  obtain ⟨rfl, rfl⟩ := trodVars_none hV
  have k0 := h0
  have lt0 : ∀ x ∈ p0, x.block < W.heap.size := by obtain ⟨m, hm⟩ := k0; exact DataW.trod_lt m _ _ _ hm
  have k1 := h1
  have lt1 : ∀ x ∈ p1, x.block < W.heap.size := by obtain ⟨m, hm⟩ := k1; exact DataW.trod_lt m _ _ _ hm
  have k2 := h2
  have lt2 : ∀ x ∈ p2, x.block < W.heap.size := by obtain ⟨m, hm⟩ := k2; exact DataW.trod_lt m _ _ _ hm
  obtain ⟨m0, okm0, evm0, gm0, zm0⟩ : ∃ s : Sp.Sli Sp.Cl, s.ok Sp.clC 5 W ∧ v0 = s.val ∧ (∀ o ∈ s.xs, o.wf) ∧ (s.xs = [] ∨ ∃ els sp, d0 = .slice els sp ∧ els.length = s.xs.length) := by
    obtain ⟨a, len, cap, rfl⟩ := okWide_slice Try.underlying22 (hval 0 22 v0 rfl rfl)
    obtain ⟨fuel, hf⟩ := h0
    obtain ⟨s, e1, e2, e3, e4⟩ := Sp.open_sl Sp.clC Sp.Cl.wf Try.underlying22 (show Try.prog.cellsOf 33 = 5 by kernel_rfl) (by omega) (fun _ => rfl) (fun n cs' x' h => Sp.open_cl h) hf
    refine ⟨s, e2, ?_, e3, e4⟩
    simpa [Value.cells] using e1
  subst evm0
  obtain ⟨m1, okm1, evm1, gm1, zm1⟩ : ∃ s : Sp.Sli Sp.Cl, s.ok Sp.clC 5 W ∧ v1 = s.val ∧ (∀ o ∈ s.xs, o.wf) ∧ (s.xs = [] ∨ ∃ els sp, d1 = .slice els sp ∧ els.length = s.xs.length) := by
    obtain ⟨a, len, cap, rfl⟩ := okWide_slice Try.underlying22 (hval 1 22 v1 rfl rfl)
    obtain ⟨fuel, hf⟩ := h1
    obtain ⟨s, e1, e2, e3, e4⟩ := Sp.open_sl Sp.clC Sp.Cl.wf Try.underlying22 (show Try.prog.cellsOf 33 = 5 by kernel_rfl) (by omega) (fun _ => rfl) (fun n cs' x' h => Sp.open_cl h) hf
    refine ⟨s, e2, ?_, e3, e4⟩
    simpa [Value.cells] using e1
  subst evm1
  obtain ⟨z2, rfl, wz2⟩ : ∃ z, v2 = .int .i64 z ∧ (Lit.int .i64 z).wf = true := by
    obtain ⟨fuel, hf⟩ := h2
    obtain ⟨z, e1, _, e3⟩ := DataW.trod_int Try.underlying3 hf
    obtain ⟨z', e4⟩ := okWide_int Try.underlying3 (hval 2 3 v2 rfl rfl)
    have : z' = z := by rw [e4] at e1; simpa [Value.cells] using e1
    rw [this] at e4
    exact ⟨z, e4, e3⟩
  clear hA0 hval0
  simp only [List.append_nil] at hW'
  have W1 := Sp.stay_walk W m0 m1 okm0 gm0 okm1 gm1 z2
  refine W1.mono fun e W' ⟨he, bel⟩ => ?_
  subst he
  exact ⟨_, rfl, _, _, _, [], _, [], hW', trodAll_mk1 (shut_bool Try.underlying4 _), (trodAll_cons_mk (Below.trod laidOut (by kernel_rfl) (of_decide_eq_true (by kernel_rfl)) k0 bel lt0) (trodAll_cons_mk (Below.trod laidOut (by kernel_rfl) (of_decide_eq_true (by kernel_rfl)) k1 bel lt1) (trodAll_cons_mk (Below.trod laidOut (by kernel_rfl) (of_decide_eq_true (by kernel_rfl)) k2 bel lt2) trodAll_mk0))), rfl, bel.frame _, fun h => by cases h⟩

theorem over : Rows.shapesStayRow.holds Try.pinned (OpenSpec.ofChange Rows.shapesStaySpec) :=
  OpenClaim.holds_of_wide 7 Try.f7 rfl rfl rfl rfl rfl rfl rfl ⟨rfl, rfl, rfl, rfl, rfl⟩ rfl rfl rfl rfl rfl (by kernel_rfl) Try.func7 (by kernel_rfl)
    (of_decide_eq_true (by kernel_rfl)) (by unfold Func.isWrapper; first | (rw [if_pos (by decide +kernel)]; kernel_rfl) | (rw [if_neg (by decide +kernel)]; exact ⟨rfl, rfl⟩))
    (fun os started H enc _ => lifted os started H enc)

theorem proved : Rows.ShapesStaySaid :=
  over
end Go.Proofs.Ytiliffnflamkjaa.shapesStay

namespace Go.Proofs.Ytiliffnflamkjaa
theorem shapesStay_holds : Rows.ShapesStaySaid := shapesStay.proved
#print axioms shapesStay_holds
end Go.Proofs.Ytiliffnflamkjaa
