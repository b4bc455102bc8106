/- CachesFew: a site that meets four shapes at most, whose cells stay valid, is never at its end, and knows each of them from the first time on -/
import Derived.Test.YtfhdmglfpkmjbaaRows
import Derived.Test.YtfhdmglfpkmjbaaHV
import Derived.Test.YtfhdmglfpkmjbaaNI
import Derived.WalkKit
import Derived.ProofKit
import Derived.OpenShut
import Derived.ShutString
import Derived.ChangeOld
import Derived.Below
import Derived.SizedLaws
import Derived.JoinedCond
namespace Go.Proofs.Ytfhdmglfpkmjbaa.cachesFew
open Go.ChangeShapes Go.WideShapes Go.ChangeAt Go.RowKit
set_option linter.unusedVariables false

theorem own : ownKnob Try.prog.godebug = none := by kernel_rfl
theorem laidOut : laidOutB Try.prog = true := by kernel_rfl

set_option maxRecDepth 100000 in
theorem lifted (os : Os) (started : os.Started) (H : Type) (enc : TypeId × Value → H) :
    ReturnsInHanded {} Try.checked os 5 .any (Rows.cachesFewSpec.pre6 enc Try.prog Try.f5 Rows.cachesFewRow.domain false) (Rows.cachesFewSpec.post enc Try.prog Try.f5 false true false false) := by
  refine returnsInHanded_of_change_sized (C := Try.checked) own started (by kernel_rfl) Try.func5
    (ChangeSpec.witness6 (enc := enc) (C := Try.checked) false ⟨#[], #[.slice none 0 0], []⟩ 8 (by kernel_rfl) (by kernel_rfl) (by kernel_rfl) (by kernel_rfl)) ?_
  intro W base args ds gs before hval0 hW hcnd hszz _
  have hval : ∀ (j : Nat) t v, Try.f5.params[j]? = some t → args[j]? = some v → Value.okWide Try.prog W .any base t v := hval0
  have hW' := hW
  obtain ⟨p, q, hA0, hV, rfl, hfz, hnd⟩ := hW
  have hA : DataW.TrodAll enc Try.prog W 0 (fun _ => true) true Try.f5.params.toList args.toList ds p := hA0
  rw [Try.params5] at hA hval hszz
  obtain ⟨v0, vs0, d0, ds0, p0, q0, hargs, rfl, rfl, h0, r0⟩ := trodAll_cons hA
  obtain ⟨rfl, rfl, rfl⟩ := trodAll_nil r0
  obtain rfl : args = #[v0] := by cases args; simp_all
  obtain ⟨rfl, rfl⟩ := trodVars_none hV
  have k0 := h0
  have lt0 : ∀ x ∈ p0, x.block < W.heap.size := by obtain ⟨m, hm⟩ := k0; exact DataW.trod_lt m _ _ _ hm
  obtain ⟨m0, okm0, evm0, gm0, zm0⟩ : ∃ s : Hp.Sli Int, s.ok Hp.iC 1 W ∧ v0 = s.val ∧ (∀ y ∈ s.xs, (fun y => -9223372036854775808 ≤ y ∧ y ≤ 9223372036854775807) y) ∧ (s.xs = [] ∨ ∃ els sp, d0 = .slice els sp ∧ els.length = s.xs.length) := by
    obtain ⟨a, len, cap, rfl⟩ := okWide_slice Try.underlying27 (hval 0 27 v0 rfl rfl)
    obtain ⟨fuel, hf⟩ := h0
    obtain ⟨s, e1, e2, e3, e4⟩ := Hp.open_sl Hp.iC (fun y => -9223372036854775808 ≤ y ∧ y ≤ 9223372036854775807) Try.underlying27 (show Try.prog.cellsOf 3 = 1 by kernel_rfl) (by omega) (fun _ => rfl) (fun n cs' x' h => Hp.open_int h) hf
    refine ⟨s, e2, ?_, e3, e4⟩
    simpa [Value.cells] using e1
  subst evm0
  clear hA0 hval0
  simp only [List.append_nil] at hW'
  have W1 := Hp.few_walk W m0 okm0
  refine W1.mono fun e W' ⟨he, bel⟩ => ?_
  subst he
  exact ⟨_, rfl, _, _, _, [], _, [], hW', trodAll_mk1 (shut_bool Try.underlying4 _), (trodAll_cons_mk (Below.trod laidOut (by kernel_rfl) (of_decide_eq_true (by kernel_rfl)) k0 bel lt0) trodAll_mk0), rfl, bel.frame _, fun h => by cases h⟩

theorem over : Rows.cachesFewRow.holds Try.pinned (OpenSpec.ofChange Rows.cachesFewSpec) :=
  OpenClaim.holds_of_wide 5 Try.f5 rfl rfl rfl rfl rfl rfl rfl ⟨rfl, rfl, rfl, rfl, rfl⟩ rfl rfl rfl rfl rfl (by kernel_rfl) Try.func5 (by kernel_rfl)
    (of_decide_eq_true (by kernel_rfl)) (by unfold Func.isWrapper; first | (rw [if_pos (by decide +kernel)]; kernel_rfl) | (rw [if_neg (by decide +kernel)]; exact ⟨rfl, rfl⟩))
    (fun os started H enc _ => lifted os started H enc)

theorem proved : Rows.CachesFewSaid :=
  over
end Go.Proofs.Ytfhdmglfpkmjbaa.cachesFew

namespace Go.Proofs.Ytfhdmglfpkmjbaa
theorem cachesFew_holds : Rows.CachesFewSaid := cachesFew.proved
#print axioms cachesFew_holds
end Go.Proofs.Ytfhdmglfpkmjbaa
