/- CachesLast: what was learnt last stands last, and alone for its shape; the others keep their order -/
import Derived.Test.YtfhdmglfpkmjbaaRows
import Derived.Test.YtfhdmglfpkmjbaaNK
import Derived.Test.YtfhdmglfpkmjbaaNL
import Derived.WalkKit
import Derived.ProofKit
import Derived.OpenShut
import Derived.ShutString
import Derived.ChangeOld
import Derived.Below
import Derived.SizedLaws
import Derived.JoinedCond
namespace Go.Proofs.Ytfhdmglfpkmjbaa.cachesLast
open Go.ChangeShapes Go.WideShapes Go.ChangeAt Go.RowKit
set_option linter.unusedVariables false

theorem own : ownKnob Try.prog.godebug = none := by kernel_rfl
theorem laidOut : laidOutB Try.prog = true := by kernel_rfl

set_option maxRecDepth 100000 in
theorem lifted (os : Os) (started : os.Started) (H : Type) (enc : TypeId × Value → H) :
    ReturnsInHanded {} Try.checked os 8 .any (Rows.cachesLastSpec.pre6 enc Try.prog Try.f8 Rows.cachesLastRow.domain false) (Rows.cachesLastSpec.post enc Try.prog Try.f8 false true false false) := by
  refine returnsInHanded_of_change_sized (C := Try.checked) own started (by kernel_rfl) Try.func8
    (ChangeSpec.witness6 (enc := enc) (C := Try.checked) false ⟨#[], #[.agg #[.int .i64 0, .slice none 0 0], .agg #[.int .i64 0, .int .i64 0, .int .i64 0, .int .i64 0]], []⟩ 8 (by kernel_rfl) (by kernel_rfl) (by kernel_rfl) (by kernel_rfl)) ?_
  intro W base args ds gs before hval0 hW hcnd hszz _
  have hval : ∀ (j : Nat) t v, Try.f8.params[j]? = some t → args[j]? = some v → Value.okWide Try.prog W .any base t v := hval0
  have hW' := hW
  obtain ⟨p, q, hA0, hV, rfl, hfz, hnd⟩ := hW
  have hA : DataW.TrodAll enc Try.prog W 0 (fun _ => true) true Try.f8.params.toList args.toList ds p := hA0
  rw [Try.params8] at hA hval hszz
  obtain ⟨v0, vs0, d0, ds0, p0, q0, hargs, rfl, rfl, h0, r0⟩ := trodAll_cons hA
  obtain ⟨v1, vs1, d1, ds1, p1, q1, rfl, rfl, rfl, h1, r1⟩ := trodAll_cons r0
  obtain ⟨rfl, rfl, rfl⟩ := trodAll_nil r1
  obtain rfl : args = #[v0, v1] := by cases args; simp_all
  obtain ⟨rfl, rfl⟩ := trodVars_none hV
  have k0 := h0
  have lt0 : ∀ x ∈ p0, x.block < W.heap.size := by obtain ⟨m, hm⟩ := k0; exact DataW.trod_lt m _ _ _ hm
  have k1 := h1
  have lt1 : ∀ x ∈ p1, x.block < W.heap.size := by obtain ⟨m, hm⟩ := k1; exact DataW.trod_lt m _ _ _ hm
  obtain ⟨st0, m0, okm0, evm0, zm0⟩ : ∃ (st : Int) (s : Hp.Sli Hp.En), s.ok Hp.encE 4 W ∧ v0 = .agg #[.int .i64 st, s.val] ∧ (s.xs = [] ∨ ∃ st' els sp, d0 = .agg [st', .slice els sp] ∧ els.length = s.xs.length) := by
    obtain ⟨fuel, hf⟩ := h0
    obtain ⟨st, s, e1, e2, e3⟩ := Hp.open_site hf
    exact ⟨st, s, e2, Hp.agg_site (hval 0 24 v0 rfl rfl) e1, e3⟩
  subst evm0
  obtain ⟨y1, ey1⟩ : ∃ y : Hp.En, v1 = y.val := by
    obtain ⟨fuel, hf⟩ := h1
    obtain ⟨y, e1, _⟩ := Hp.open_en hf
    exact ⟨y, Hp.agg_en (hval 1 26 v1 rfl rfl) e1⟩
  subst ey1
  clear hA0 hval0
  simp only [List.append_nil] at hW'
  have W1 := Hp.last_walk W st0 m0 okm0 (Hp.site_len hszz (j := 0) rfl rfl zm0) y1
  refine W1.mono fun e W' ⟨he, bel⟩ => ?_
  subst he
  exact ⟨_, rfl, _, _, _, [], _, [], hW', trodAll_mk1 (shut_bool Try.underlying4 _), (trodAll_cons_mk (Below.trod laidOut (by kernel_rfl) (of_decide_eq_true (by kernel_rfl)) k0 bel lt0) (trodAll_cons_mk (Below.trod laidOut (by kernel_rfl) (of_decide_eq_true (by kernel_rfl)) k1 bel lt1) trodAll_mk0)), rfl, bel.frame _, fun h => by cases h⟩

theorem over : Rows.cachesLastRow.holds Try.pinned (OpenSpec.ofChange Rows.cachesLastSpec) :=
  OpenClaim.holds_of_wide 8 Try.f8 rfl rfl rfl rfl rfl rfl rfl ⟨rfl, rfl, rfl, rfl, rfl⟩ rfl rfl rfl rfl rfl (by kernel_rfl) Try.func8 (by kernel_rfl)
    (of_decide_eq_true (by kernel_rfl)) (by unfold Func.isWrapper; first | (rw [if_pos (by decide +kernel)]; kernel_rfl) | (rw [if_neg (by decide +kernel)]; exact ⟨rfl, rfl⟩))
    (fun os started H enc _ => lifted os started H enc)

theorem proved : Rows.CachesLastSaid :=
  over
end Go.Proofs.Ytfhdmglfpkmjbaa.cachesLast

namespace Go.Proofs.Ytfhdmglfpkmjbaa
theorem cachesLast_holds : Rows.CachesLastSaid := cachesLast.proved
#print axioms cachesLast_holds
end Go.Proofs.Ytfhdmglfpkmjbaa
