/- ShapesOnce, where what it reads is of bulk at most 1048576: the same steps from one shape come to one shape, always; other keys, other flags, another order come to another one. -/
import Derived.Test.YtiliffnflamkjaaRows
import Derived.Test.YtiliffnflamkjaaRQ
import Derived.Test.YtiliffnflamkjaaQP
import Derived.WalkKit
import Derived.ProofKit
import Derived.OpenShut
import Derived.ShutString
import Derived.ChangeOld
import Derived.Below
import Derived.SizedLaws
import Derived.JoinedCond
namespace Go.Proofs.Ytiliffnflamkjaa.shapesOnce
open Go.ChangeShapes Go.WideShapes Go.ChangeAt Go.RowKit
set_option linter.unusedVariables false

theorem own : ownKnob Try.prog.godebug = none := by kernel_rfl
theorem laidOut : laidOutB Try.prog = true := by kernel_rfl

set_option maxRecDepth 100000 in
theorem lifted (os : Os) (started : os.Started) (H : Type) (enc : TypeId × Value → H) (F : Stop.Interp) :
    ReturnsInHanded {} Try.checked os 4 .any ((Rows.OpenSpec.upto Rows.shapesOnceSpec).pre6 enc Try.prog Try.f4 Rows.shapesOnceUptoRow.domain false) (((Rows.OpenSpec.upto Rows.shapesOnceSpec).at F).post enc Try.prog Try.f4 false true false false) := by
  refine returnsInHanded_of_cond (C := Try.checked) (s := Rows.OpenSpec.upto Rows.shapesOnceSpec) (k := Rows.uptoSmall) rfl own started (by kernel_rfl) Try.func4
    (OpenSpec.witness (enc := enc) (C := Try.checked) (s := Rows.OpenSpec.upto Rows.shapesOnceSpec) (k := Rows.uptoSmall) rfl false ⟨#[], #[.int .i64 0, .slice none 0 0, .agg #[.int .i64 0, .int .i64 0, .int .i64 0, .int .u64 0, .string ByteArray.empty, .int .i64 0, .int .i64 0, .int .i64 0, .int .u64 0, .string ByteArray.empty]], []⟩ 8 (by kernel_rfl) (by kernel_rfl) (by kernel_rfl)
      (x := ([.lit (.int .i64 0), .nil, .agg [.agg [.lit (.int .i64 0), .lit (.int .i64 0), .lit (.int .i64 0), .lit (.int .u64 0), .lit (.string [])], .agg [.lit (.int .i64 0), .lit (.int .i64 0), .lit (.int .i64 0), .lit (.int .u64 0), .lit (.string [])]]], [], [])) (by kernel_rfl) rfl (by kernel_rfl)) ?_
  intro W base args ds gs before hval0 hW hcnd hk _
  have hval : ∀ (j : Nat) t v, Try.f4.params[j]? = some t → args[j]? = some v → Value.okWide Try.prog W .any base t v := hval0
  have hW' := hW
  obtain ⟨p, q, hA0, hV, rfl, hfz, hnd⟩ := hW
  have hA : DataW.TrodAll enc Try.prog W 0 (fun _ => true) true Try.f4.params.toList args.toList ds p := hA0
  rw [Try.params4] at hA hval
  obtain ⟨v0, vs0, d0, ds0, p0, q0, hargs, rfl, rfl, h0, r0⟩ := trodAll_cons hA
  obtain ⟨v1, vs1, d1, ds1, p1, q1, rfl, rfl, rfl, h1, r1⟩ := trodAll_cons r0
  obtain ⟨v2, vs2, d2, ds2, p2, q2, rfl, rfl, rfl, h2, r2⟩ := trodAll_cons r1
  obtain ⟨rfl, rfl, rfl⟩ := trodAll_nil r2
  obtain rfl : args = #[v0, v1, v2] := by cases args; simp_all
  obtain ⟨rfl, rfl⟩ := trodVars_none hV
  have k0 := h0
  have lt0 : ∀ x ∈ p0, x.block < W.heap.size := by obtain ⟨m, hm⟩ := k0; exact DataW.trod_lt m _ _ _ hm
  have k1 := h1
  have lt1 : ∀ x ∈ p1, x.block < W.heap.size := by obtain ⟨m, hm⟩ := k1; exact DataW.trod_lt m _ _ _ hm
  have k2 := h2
  have lt2 : ∀ x ∈ p2, x.block < W.heap.size := by obtain ⟨m, hm⟩ := k2; exact DataW.trod_lt m _ _ _ hm
  obtain ⟨z0, rfl, wz0⟩ : ∃ z, v0 = .int .i64 z ∧ (Lit.int .i64 z).wf = true := by
    obtain ⟨fuel, hf⟩ := h0
    obtain ⟨z, e1, _, e3⟩ := DataW.trod_int Try.underlying3 hf
    obtain ⟨z', e4⟩ := okWide_int Try.underlying3 (hval 0 3 v0 rfl rfl)
    have : z' = z := by rw [e4] at e1; simpa [Value.cells] using e1
    rw [this] at e4
    exact ⟨z, e4, e3⟩
  obtain ⟨m1, okm1, evm1, gm1, zm1⟩ : ∃ s : Sp.Sli Sp.Cl, s.ok Sp.clC 5 W ∧ v1 = s.val ∧ (∀ o ∈ s.xs, o.wf) ∧ (s.xs = [] ∨ ∃ els sp, d1 = .slice els sp ∧ els.length = s.xs.length) := by
    obtain ⟨a, len, cap, rfl⟩ := okWide_slice Try.underlying22 (hval 1 22 v1 rfl rfl)
    obtain ⟨fuel, hf⟩ := h1
    obtain ⟨s, e1, e2, e3, e4⟩ := Sp.open_sl Sp.clC Sp.Cl.wf Try.underlying22 (show Try.prog.cellsOf 33 = 5 by kernel_rfl) (by omega) (fun _ => rfl) (fun n cs' x' h => Sp.open_cl h) hf
    refine ⟨s, e2, ?_, e3, e4⟩
    simpa [Value.cells] using e1
  subst evm1
  obtain ⟨pa2, qa2, wp2, wq2, ev2⟩ : ∃ p q : Sp.Cl, p.wf ∧ q.wf ∧ v2 = .agg #[.int .i64 p.kd, .int .i64 p.sh, .int .i64 p.fl, .int .u64 p.pr, .string p.ke, .int .i64 q.kd, .int .i64 q.sh, .int .i64 q.fl, .int .u64 q.pr, .string q.ke] := by
    obtain ⟨fuel, hf⟩ := h2
    obtain ⟨p, q, e1, e2, e3⟩ := Sp.open_two hf
    exact ⟨p, q, e2, e3, Sp.agg_two (hval 2 35 v2 rfl rfl) e1⟩
  subst ev2
  have hb : Rows.uptoBulkAll ([d0, d1, d2] ++ []) ≤ 1048576 := of_decide_eq_true hk
  have hsum : Rows.uptoBulk d0 + Rows.uptoBulk d1 + Rows.uptoBulk d2 ≤ 1048576 := by
    simp only [List.append_nil, Rows.uptoBulkAll] at hb
    omega
  have hz1 : m1.xs.length + 3 ≤ 1048576 := by
    have b0 := Sp.some_bulk d0
    have b2 := Sp.some_bulk d2
    rcases zm1 with h | ⟨els, sp, h, h'⟩
    · rw [h]; decide
    · rw [h] at hsum
      have := Sp.slice_bulk els sp
      omega
  clear hA0 hval0 hb hsum
  simp only [List.append_nil] at hW'
  have W1 := Sp.once_walk W z0 m1 okm1 gm1 hz1 pa2 qa2 wp2 wq2
  refine W1.mono fun e W' ⟨he, bel⟩ => ?_
  subst he
  exact ⟨_, rfl, _, _, _, [], _, [], hW', trodAll_mk1 (shut_bool Try.underlying4 _), (trodAll_cons_mk (Below.trod laidOut (by kernel_rfl) (of_decide_eq_true (by kernel_rfl)) k0 bel lt0) (trodAll_cons_mk (Below.trod laidOut (by kernel_rfl) (of_decide_eq_true (by kernel_rfl)) k1 bel lt1) (trodAll_cons_mk (Below.trod laidOut (by kernel_rfl) (of_decide_eq_true (by kernel_rfl)) k2 bel lt2) trodAll_mk0))), rfl, bel.frame _, fun h => by cases h⟩

theorem over : Rows.shapesOnceUptoRow.holds Try.pinned (Rows.OpenSpec.upto Rows.shapesOnceSpec) :=
  OpenClaim.holds_of_cond 4 Try.f4 rfl rfl rfl rfl rfl rfl rfl ⟨rfl, rfl, rfl, rfl, rfl⟩ rfl rfl rfl rfl rfl (by kernel_rfl) Try.func4 (by kernel_rfl)
    (of_decide_eq_true (by kernel_rfl)) (by unfold Func.isWrapper; first | (rw [if_pos (by decide +kernel)]; kernel_rfl) | (rw [if_neg (by decide +kernel)]; exact ⟨rfl, rfl⟩))
    (fun os started H enc _ F => lifted os started H enc F)

theorem proved : Rows.ShapesOnceUptoSaid :=
  over
end Go.Proofs.Ytiliffnflamkjaa.shapesOnce

namespace Go.Proofs.Ytiliffnflamkjaa
theorem shapesOnceUpto_holds : Rows.ShapesOnceUptoSaid := shapesOnce.proved
#print axioms shapesOnceUpto_holds
end Go.Proofs.Ytiliffnflamkjaa
