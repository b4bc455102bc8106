/- HeapGuards, where what it reads is of bulk at most 1048576: a guard breaks when something of its object, or of one of its prototypes, is laid, dropped, or given another prototype; else it stays valid. -/
import Derived.Test.YtkpdpdllbnihgaaGreatRows
import Derived.Test.YtkpdpdllbnihgaaGreatB39
import Derived.Test.YtkpdpdllbnihgaaGreatWEH
import Derived.WalkKit
import Derived.ProofKit
import Derived.OpenShut
import Derived.ShutString
import Derived.ChangeOld
import Derived.Below
import Derived.SizedLaws
import Derived.JoinedCond
namespace Go.Proofs.YtkpdpdllbnihgaaGreat.heapGuards
open Go.ChangeShapes Go.WideShapes Go.ChangeAt Go.RowKit
set_option linter.unusedVariables false

theorem own : ownKnob Tryz.prog.godebug = none := by kernel_rfl
theorem laidOut : laidOutB Tryz.prog = true := by kernel_rfl

set_option maxRecDepth 100000 in
theorem lifted (os : Os) (started : os.Started) (H : Type) (enc : TypeId × Value → H) (F : Stop.Interp) :
    ReturnsInHanded {} Tryz.checked os 5 .any ((Rows.OpenSpec.upto Rows.heapGuardsSpec).pre6 enc Tryz.prog Tryz.f5 Rows.heapGuardsUptoRow.domain false) (((Rows.OpenSpec.upto Rows.heapGuardsSpec).at F).post enc Tryz.prog Tryz.f5 false true false false) := by
  refine returnsInHanded_of_cond (C := Tryz.checked) (s := Rows.OpenSpec.upto Rows.heapGuardsSpec) (k := Rows.uptoSmall) rfl own started (by kernel_rfl) Tryz.func5
    (OpenSpec.witness (enc := enc) (C := Tryz.checked) (s := Rows.OpenSpec.upto Rows.heapGuardsSpec) (k := Rows.uptoSmall) rfl false ⟨#[], #[.slice none 0 0, .int .u64 0, .slice none 0 0], []⟩ 8 (by kernel_rfl) (by kernel_rfl) (by kernel_rfl)
      (x := ([.nil, .lit (.int .u64 0), .nil], [], [])) (by kernel_rfl) rfl (by kernel_rfl)) ?_
  intro W base args ds gs before hval0 hW hcnd hk _
  have hval : ∀ (j : Nat) t v, Tryz.f5.params[j]? = some t → args[j]? = some v → Value.okWide Tryz.prog W .any base t v := hval0
  have hW' := hW
  obtain ⟨p, q, hA0, hV, rfl, hfz, hnd⟩ := hW
  have hA : DataW.TrodAll enc Tryz.prog W 0 (fun _ => true) true Tryz.f5.params.toList args.toList ds p := hA0
  rw [Tryz.params5] at hA hval
  obtain ⟨v0, vs0, d0, ds0, p0, q0, hargs, rfl, rfl, h0, r0⟩ := trodAll_cons hA
  obtain ⟨v1, vs1, d1, ds1, p1, q1, rfl, rfl, rfl, h1, r1⟩ := trodAll_cons r0
  obtain ⟨v2, vs2, d2, ds2, p2, q2, rfl, rfl, rfl, h2, r2⟩ := trodAll_cons r1
  obtain ⟨rfl, rfl, rfl⟩ := trodAll_nil r2
  obtain rfl : args = #[v0, v1, v2] := by cases args; simp_all
  obtain ⟨rfl, rfl⟩ := trodVars_none hV
  have k0 := h0
  have lt0 : ∀ x ∈ p0, x.block < W.heap.size := by obtain ⟨m, hm⟩ := k0; exact DataW.trod_lt m _ _ _ hm
  have k1 := h1
  have lt1 : ∀ x ∈ p1, x.block < W.heap.size := by obtain ⟨m, hm⟩ := k1; exact DataW.trod_lt m _ _ _ hm
  have k2 := h2
  have lt2 : ∀ x ∈ p2, x.block < W.heap.size := by obtain ⟨m, hm⟩ := k2; exact DataW.trod_lt m _ _ _ hm
  have hb : Rows.uptoBulkAll ([d0, d1, d2] ++ []) ≤ 1048576 := of_decide_eq_true hk
  have hsum : Rows.uptoBulk d0 + Rows.uptoBulk d1 + Rows.uptoBulk d2 ≤ 1048576 := by
    simp only [List.append_nil, Rows.uptoBulkAll] at hb
    omega
  obtain ⟨m0, evm0, okm0, gm0, zm0⟩ : ∃ s : Hp.Sli Hp.OpL, v0 = s.val ∧ s.ok Hp.opC 9 W ∧ (∀ o ∈ s.xs, o.wf ∧ o.w.ok Hp.wC 1 W) ∧ 11 * s.xs.length ≤ 1048576 := by
    obtain ⟨a, len, cap, rfl⟩ := okWide_slice Tryz.underlying22 (hval 0 22 v0 rfl rfl)
    obtain ⟨fuel, hf⟩ := h0
    obtain ⟨s, e1, e2, e3, e4⟩ := Hp.open_ops hf (by simp only; omega)
    refine ⟨s, ?_, e2, e3, e4⟩
    simpa [Value.cells] using e1
  subst evm0
  obtain ⟨z1, rfl, wz1⟩ : ∃ z, v1 = .int .u64 z ∧ (0 ≤ z ∧ z < 18446744073709551616) := by
    obtain ⟨fuel, hf⟩ := h1
    obtain ⟨z, e1, e3⟩ := Hp.open_word hf
    obtain ⟨z', e4⟩ := okWide_int Tryz.underlying33 (hval 1 33 v1 rfl rfl)
    have : z' = z := by rw [e4] at e1; simpa [Value.cells] using e1
    rw [this] at e4
    exact ⟨z, e4, e3⟩
  obtain ⟨m2, evm2, okm2, gm2, zm2⟩ : ∃ s : Hp.Sli Hp.OpL, v2 = s.val ∧ s.ok Hp.opC 9 W ∧ (∀ o ∈ s.xs, o.wf ∧ o.w.ok Hp.wC 1 W) ∧ 11 * s.xs.length ≤ 1048576 := by
    obtain ⟨a, len, cap, rfl⟩ := okWide_slice Tryz.underlying22 (hval 2 22 v2 rfl rfl)
    obtain ⟨fuel, hf⟩ := h2
    obtain ⟨s, e1, e2, e3, e4⟩ := Hp.open_ops hf (by simp only; omega)
    refine ⟨s, ?_, e2, e3, e4⟩
    simpa [Value.cells] using e1
  subst evm2
  clear hA0 hval0 hb hsum
  simp only [List.append_nil] at hW'
  have W1 := Hp.guards_walk W m0 z1 m2 okm0 gm0 zm0 wz1 okm2 gm2 zm2
  refine W1.mono fun e W' ⟨he, bel⟩ => ?_
  subst he
  exact ⟨_, rfl, _, _, _, [], _, [], hW', trodAll_mk1 (shut_bool Tryz.underlying4 _), (trodAll_cons_mk (Below.trod laidOut (by kernel_rfl) (of_decide_eq_true (by kernel_rfl)) k0 bel lt0) (trodAll_cons_mk (Below.trod laidOut (by kernel_rfl) (of_decide_eq_true (by kernel_rfl)) k1 bel lt1) (trodAll_cons_mk (Below.trod laidOut (by kernel_rfl) (of_decide_eq_true (by kernel_rfl)) k2 bel lt2) trodAll_mk0))), rfl, bel.frame _, fun h => by cases h⟩

theorem over : Rows.heapGuardsUptoRow.holds Tryz.pinned (Rows.OpenSpec.upto Rows.heapGuardsSpec) :=
  OpenClaim.holds_of_cond 5 Tryz.f5 rfl rfl rfl rfl rfl rfl rfl ⟨rfl, rfl, rfl, rfl, rfl⟩ rfl rfl rfl rfl rfl (by kernel_rfl) Tryz.func5 (by kernel_rfl)
    (of_decide_eq_true (by kernel_rfl)) (by unfold Func.isWrapper; first | (rw [if_pos (by decide +kernel)]; kernel_rfl) | (rw [if_neg (by decide +kernel)]; exact ⟨rfl, rfl⟩))
    (fun os started H enc _ F => lifted os started H enc F)

theorem proved : Rows.HeapGuardsUptoSaid :=
  over
end Go.Proofs.YtkpdpdllbnihgaaGreat.heapGuards

namespace Go.Proofs.YtkpdpdllbnihgaaGreat
theorem heapGuardsUpto_holds : Rows.HeapGuardsUptoSaid := heapGuards.proved
#print axioms heapGuardsUpto_holds
end Go.Proofs.YtkpdpdllbnihgaaGreat
