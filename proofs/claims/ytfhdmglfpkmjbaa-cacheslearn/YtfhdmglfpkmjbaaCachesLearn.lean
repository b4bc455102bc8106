/- CachesLearn: what a site knows behind an entry more, and what it knows of a shape, is what the document says, whichever cells are valid; what was handed in stays as it was -/
import Derived.Test.YtfhdmglfpkmjbaaRows
import Derived.Test.YtfhdmglfpkmjbaaNK
import Derived.Test.YtfhdmglfpkmjbaaNS
import Derived.WalkKit
import Derived.ProofKit
import Derived.OpenShut
import Derived.ShutString
import Derived.ChangeOld
import Derived.Below
import Derived.SizedLaws
import Derived.JoinedCond
namespace Go.Proofs.Ytfhdmglfpkmjbaa.cachesLearn
open Go.ChangeShapes Go.WideShapes Go.ChangeAt Go.RowKit
set_option linter.unusedVariables false

theorem own : ownKnob Try.prog.godebug = none := by kernel_rfl
theorem laidOut : laidOutB Try.prog = true := by kernel_rfl

set_option maxRecDepth 100000 in
theorem lifted (os : Os) (started : os.Started) (H : Type) (enc : TypeId × Value → H) :
    ReturnsInHanded {} Try.checked os 3 .any (Rows.cachesLearnSpec.pre6 enc Try.prog Try.f3 Rows.cachesLearnRow.domain false) (Rows.cachesLearnSpec.post enc Try.prog Try.f3 false true false false) := by
  refine returnsInHanded_of_change_sized (C := Try.checked) own started (by kernel_rfl) Try.func3
    (ChangeSpec.witness6 (enc := enc) (C := Try.checked) false ⟨#[], #[.agg #[.int .i64 0, .slice none 0 0], .agg #[.int .i64 0, .int .i64 0, .int .i64 0, .int .i64 0], .slice none 0 0], []⟩ 8 (by kernel_rfl) (by kernel_rfl) (by kernel_rfl) (by kernel_rfl)) ?_
  intro W base args ds gs before hval0 hW hcnd hszz _
  have hval : ∀ (j : Nat) t v, Try.f3.params[j]? = some t → args[j]? = some v → Value.okWide Try.prog W .any base t v := hval0
  have hW' := hW
  obtain ⟨p, q, hA0, hV, rfl, hfz, hnd⟩ := hW
  have hA : DataW.TrodAll enc Try.prog W 0 (fun _ => true) true Try.f3.params.toList args.toList ds p := hA0
  rw [Try.params3] at hA hval hszz
  obtain ⟨v0, vs0, d0, ds0, p0, q0, hargs, rfl, rfl, h0, r0⟩ := trodAll_cons hA
  obtain ⟨v1, vs1, d1, ds1, p1, q1, rfl, rfl, rfl, h1, r1⟩ := trodAll_cons r0
  obtain ⟨v2, vs2, d2, ds2, p2, q2, rfl, rfl, rfl, h2, r2⟩ := trodAll_cons r1
  obtain ⟨rfl, rfl, rfl⟩ := trodAll_nil r2
  obtain rfl : args = #[v0, v1, v2] := by cases args; simp_all
  obtain ⟨rfl, rfl⟩ := trodVars_none hV
  have k0 := h0
  have lt0 : ∀ x ∈ p0, x.block < W.heap.size := by obtain ⟨m, hm⟩ := k0; exact DataW.trod_lt m _ _ _ hm
  have k1 := h1
  have lt1 : ∀ x ∈ p1, x.block < W.heap.size := by obtain ⟨m, hm⟩ := k1; exact DataW.trod_lt m _ _ _ hm
  have k2 := h2
  have lt2 : ∀ x ∈ p2, x.block < W.heap.size := by obtain ⟨m, hm⟩ := k2; exact DataW.trod_lt m _ _ _ hm
  obtain ⟨st0, m0, okm0, evm0, zm0⟩ : ∃ (st : Int) (s : Hp.Sli Hp.En), s.ok Hp.encE 4 W ∧ v0 = .agg #[.int .i64 st, s.val] ∧ (s.xs = [] ∨ ∃ st' els sp, d0 = .agg [st', .slice els sp] ∧ els.length = s.xs.length) := by
    obtain ⟨fuel, hf⟩ := h0
    obtain ⟨st, s, e1, e2, e3⟩ := Hp.open_site hf
    exact ⟨st, s, e2, Hp.agg_site (hval 0 24 v0 rfl rfl) e1, e3⟩
  subst evm0
  obtain ⟨y1, ey1⟩ : ∃ y : Hp.En, v1 = y.val := by
    obtain ⟨fuel, hf⟩ := h1
    obtain ⟨y, e1, _⟩ := Hp.open_en hf
    exact ⟨y, Hp.agg_en (hval 1 26 v1 rfl rfl) e1⟩
  subst ey1
  obtain ⟨m2, okm2, evm2, gm2, zm2⟩ : ∃ s : Hp.Sli Int, s.ok Hp.iC 1 W ∧ v2 = s.val ∧ (∀ y ∈ s.xs, (fun y => -9223372036854775808 ≤ y ∧ y ≤ 9223372036854775807) y) ∧ (s.xs = [] ∨ ∃ els sp, d2 = .slice els sp ∧ els.length = s.xs.length) := by
    obtain ⟨a, len, cap, rfl⟩ := okWide_slice Try.underlying27 (hval 2 27 v2 rfl rfl)
    obtain ⟨fuel, hf⟩ := h2
    obtain ⟨s, e1, e2, e3, e4⟩ := Hp.open_sl Hp.iC (fun y => -9223372036854775808 ≤ y ∧ y ≤ 9223372036854775807) Try.underlying27 (show Try.prog.cellsOf 3 = 1 by kernel_rfl) (by omega) (fun _ => rfl) (fun n cs' x' h => Hp.open_int h) hf
    refine ⟨s, e2, ?_, e3, e4⟩
    simpa [Value.cells] using e1
  subst evm2
  clear hA0 hval0
  simp only [List.append_nil] at hW'
  have W1 := Hp.learn_walk W st0 m0 okm0 (Hp.site_len hszz (j := 0) rfl rfl zm0) y1 m2 okm2
  refine W1.mono fun e W' ⟨he, bel⟩ => ?_
  subst he
  exact ⟨_, rfl, _, _, _, [], _, [], hW', trodAll_mk1 (shut_bool Try.underlying4 _), (trodAll_cons_mk (Below.trod laidOut (by kernel_rfl) (of_decide_eq_true (by kernel_rfl)) k0 bel lt0) (trodAll_cons_mk (Below.trod laidOut (by kernel_rfl) (of_decide_eq_true (by kernel_rfl)) k1 bel lt1) (trodAll_cons_mk (Below.trod laidOut (by kernel_rfl) (of_decide_eq_true (by kernel_rfl)) k2 bel lt2) trodAll_mk0))), rfl, bel.frame _, fun h => by cases h⟩

theorem over : Rows.cachesLearnRow.holds Try.pinned (OpenSpec.ofChange Rows.cachesLearnSpec) :=
  OpenClaim.holds_of_wide 3 Try.f3 rfl rfl rfl rfl rfl rfl rfl ⟨rfl, rfl, rfl, rfl, rfl⟩ rfl rfl rfl rfl rfl (by kernel_rfl) Try.func3 (by kernel_rfl)
    (of_decide_eq_true (by kernel_rfl)) (by unfold Func.isWrapper; first | (rw [if_pos (by decide +kernel)]; kernel_rfl) | (rw [if_neg (by decide +kernel)]; exact ⟨rfl, rfl⟩))
    (fun os started H enc _ => lifted os started H enc)

theorem proved : Rows.CachesLearnSaid :=
  over
end Go.Proofs.Ytfhdmglfpkmjbaa.cachesLearn

namespace Go.Proofs.Ytfhdmglfpkmjbaa
theorem cachesLearn_holds : Rows.CachesLearnSaid := cachesLearn.proved
#print axioms cachesLearn_holds
end Go.Proofs.Ytfhdmglfpkmjbaa
