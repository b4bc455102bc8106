/- CachesArith: the states of arithmetic and of calls are what the document says, and never fall -/
import Derived.Test.YtfhdmglfpkmjbaaRows
import Derived.Test.YtfhdmglfpkmjbaaNK
import Derived.Test.YtfhdmglfpkmjbaaOC
import Derived.WalkKit
import Derived.ProofKit
import Derived.OpenShut
import Derived.ShutString
import Derived.ChangeOld
import Derived.Below
import Derived.SizedLaws
import Derived.JoinedCond
namespace Go.Proofs.Ytfhdmglfpkmjbaa.cachesArith
open Go.ChangeShapes Go.WideShapes Go.ChangeAt Go.RowKit
set_option linter.unusedVariables false

theorem own : ownKnob Try.prog.godebug = none := by kernel_rfl
theorem laidOut : laidOutB Try.prog = true := by kernel_rfl

set_option maxRecDepth 100000 in
theorem lifted (os : Os) (started : os.Started) (H : Type) (enc : TypeId × Value → H) :
    ReturnsInHanded {} Try.checked os 6 .any (Rows.cachesArithSpec.pre6 enc Try.prog Try.f6 Rows.cachesArithRow.domain false) (Rows.cachesArithSpec.post enc Try.prog Try.f6 false true false false) := by
  refine returnsInHanded_of_change_sized (C := Try.checked) own started (by kernel_rfl) Try.func6
    (ChangeSpec.witness6 (enc := enc) (C := Try.checked) false ⟨#[], #[.slice none 0 0, .slice none 0 0], []⟩ 8 (by kernel_rfl) (by kernel_rfl) (by kernel_rfl) (by kernel_rfl)) ?_
  intro W base args ds gs before hval0 hW hcnd hszz _
  have hval : ∀ (j : Nat) t v, Try.f6.params[j]? = some t → args[j]? = some v → Value.okWide Try.prog W .any base t v := hval0
  have hW' := hW
  obtain ⟨p, q, hA0, hV, rfl, hfz, hnd⟩ := hW
  have hA : DataW.TrodAll enc Try.prog W 0 (fun _ => true) true Try.f6.params.toList args.toList ds p := hA0
  rw [Try.params6] at hA hval hszz
  obtain ⟨v0, vs0, d0, ds0, p0, q0, hargs, rfl, rfl, h0, r0⟩ := trodAll_cons hA
  obtain ⟨v1, vs1, d1, ds1, p1, q1, rfl, rfl, rfl, h1, r1⟩ := trodAll_cons r0
  obtain ⟨rfl, rfl, rfl⟩ := trodAll_nil r1
  obtain rfl : args = #[v0, v1] := by cases args; simp_all
  obtain ⟨rfl, rfl⟩ := trodVars_none hV
  have k0 := h0
  have lt0 : ∀ x ∈ p0, x.block < W.heap.size := by obtain ⟨m, hm⟩ := k0; exact DataW.trod_lt m _ _ _ hm
  have k1 := h1
  have lt1 : ∀ x ∈ p1, x.block < W.heap.size := by obtain ⟨m, hm⟩ := k1; exact DataW.trod_lt m _ _ _ hm
  obtain ⟨m0, okm0, evm0, gm0, zm0⟩ : ∃ s : Hp.Sli (Int × Int), s.ok Hp.prC2 2 W ∧ v0 = s.val ∧ (∀ y ∈ s.xs, (fun y => (0 ≤ y.1 ∧ y.1 < 18446744073709551616) ∧ (0 ≤ y.2 ∧ y.2 < 18446744073709551616)) y) ∧ (s.xs = [] ∨ ∃ els sp, d0 = .slice els sp ∧ els.length = s.xs.length) := by
    obtain ⟨a, len, cap, rfl⟩ := okWide_slice Try.underlying40 (hval 0 40 v0 rfl rfl)
    obtain ⟨fuel, hf⟩ := h0
    obtain ⟨s, e1, e2, e3, e4⟩ := Hp.open_sl Hp.prC2 (fun y => (0 ≤ y.1 ∧ y.1 < 18446744073709551616) ∧ (0 ≤ y.2 ∧ y.2 < 18446744073709551616)) Try.underlying40 (show Try.prog.cellsOf 44 = 2 by kernel_rfl) (by omega) (fun _ => rfl) (fun n cs' x' h => Hp.open_pair h) hf
    refine ⟨s, e2, ?_, e3, e4⟩
    simpa [Value.cells] using e1
  subst evm0
  obtain ⟨m1, okm1, evm1, gm1, zm1⟩ : ∃ s : Hp.Sli Int, s.ok Hp.wC1 1 W ∧ v1 = s.val ∧ (∀ y ∈ s.xs, (fun y => 0 ≤ y ∧ y < 18446744073709551616) y) ∧ (s.xs = [] ∨ ∃ els sp, d1 = .slice els sp ∧ els.length = s.xs.length) := by
    obtain ⟨a, len, cap, rfl⟩ := okWide_slice Try.underlying41 (hval 1 41 v1 rfl rfl)
    obtain ⟨fuel, hf⟩ := h1
    obtain ⟨s, e1, e2, e3, e4⟩ := Hp.open_sl Hp.wC1 (fun y => 0 ≤ y ∧ y < 18446744073709551616) Try.underlying41 (show Try.prog.cellsOf 43 = 1 by kernel_rfl) (by omega) (fun _ => rfl) (fun n cs' x' h => Hp.open_word h) hf
    refine ⟨s, e2, ?_, e3, e4⟩
    simpa [Value.cells] using e1
  subst evm1
  clear hA0 hval0
  simp only [List.append_nil] at hW'
  have W1 := Hp.arith_walk W m0 okm0 gm0 m1 okm1 gm1
  refine W1.mono fun e W' ⟨he, bel⟩ => ?_
  subst he
  exact ⟨_, rfl, _, _, _, [], _, [], hW', trodAll_mk1 (shut_bool Try.underlying4 _), (trodAll_cons_mk (Below.trod laidOut (by kernel_rfl) (of_decide_eq_true (by kernel_rfl)) k0 bel lt0) (trodAll_cons_mk (Below.trod laidOut (by kernel_rfl) (of_decide_eq_true (by kernel_rfl)) k1 bel lt1) trodAll_mk0)), rfl, bel.frame _, fun h => by cases h⟩

theorem over : Rows.cachesArithRow.holds Try.pinned (OpenSpec.ofChange Rows.cachesArithSpec) :=
  OpenClaim.holds_of_wide 6 Try.f6 rfl rfl rfl rfl rfl rfl rfl ⟨rfl, rfl, rfl, rfl, rfl⟩ rfl rfl rfl rfl rfl (by kernel_rfl) Try.func6 (by kernel_rfl)
    (of_decide_eq_true (by kernel_rfl)) (by unfold Func.isWrapper; first | (rw [if_pos (by decide +kernel)]; kernel_rfl) | (rw [if_neg (by decide +kernel)]; exact ⟨rfl, rfl⟩))
    (fun os started H enc _ => lifted os started H enc)

theorem proved : Rows.CachesArithSaid :=
  over
end Go.Proofs.Ytfhdmglfpkmjbaa.cachesArith

namespace Go.Proofs.Ytfhdmglfpkmjbaa
theorem cachesArith_holds : Rows.CachesArithSaid := cachesArith.proved
#print axioms cachesArith_holds
end Go.Proofs.Ytfhdmglfpkmjbaa
