/- FuseGroups: the groups of whatever code are the document's. -/
import Derived.Test.YtjkemkggcnholaaRows
import Derived.Test.YtjkemkggcnholaaGR
import Derived.Test.YtjkemkggcnholaaFJ
import Derived.WalkKit
import Derived.ProofKit
import Derived.OpenShut
import Derived.ShutString
import Derived.ChangeOld
import Derived.Below
import Derived.SizedLaws
namespace Go.Proofs.Ytjkemkggcnholaa.fuseGroups
open Go.ChangeShapes Go.WideShapes Go.ChangeAt Go.RowKit
set_option linter.unusedVariables false

theorem own : ownKnob Try.prog.godebug = none := by kernel_rfl
theorem laidOut : laidOutB Try.prog = true := by kernel_rfl

set_option maxRecDepth 100000 in
theorem lifted (os : Os) (started : os.Started) (H : Type) (enc : TypeId × Value → H) :
    ReturnsInHanded {} Try.checked os 3 .any (Rows.fuseGroupsSpec.pre6 enc Try.prog Try.f3 Rows.fuseGroupsRow.domain false) (Rows.fuseGroupsSpec.post enc Try.prog Try.f3 false true false false) := by
  refine returnsInHanded_of_change_sized (C := Try.checked) own started (by kernel_rfl) Try.func3
    (ChangeSpec.witness6 (enc := enc) (C := Try.checked) false ⟨#[], #[.agg #[.string ByteArray.empty, .int .i64 0, .int .i64 0, .bool false, .slice none 0 0, .slice none 0 0, .slice none 0 0, .slice none 0 0]], []⟩ 8 (by kernel_rfl) (by kernel_rfl) (by kernel_rfl) (by kernel_rfl)) ?_
  intro W base args ds gs before hval0 hW hcnd hsz _
  have hval : ∀ (j : Nat) t v, Try.f3.params[j]? = some t → args[j]? = some v → Value.okWide Try.prog W .any base t v := hval0
  have hW' := hW
  obtain ⟨p, q, hA0, hV, rfl, hfz, hnd⟩ := hW
  have hA : DataW.TrodAll enc Try.prog W 0 (fun _ => true) true Try.f3.params.toList args.toList ds p := hA0
  rw [Try.params3] at hA hval hsz
  obtain ⟨v0, vs0, d0, ds0, p0, q0, hargs, rfl, rfl, h0, r0⟩ := trodAll_cons hA
  obtain ⟨rfl, rfl, rfl⟩ := trodAll_nil r0
  obtain rfl : args = #[v0] := by cases args; simp_all
  obtain ⟨rfl, rfl⟩ := trodVars_none hV
  have k0 := h0
  have lt0 : ∀ x ∈ p0, x.block < W.heap.size := by obtain ⟨m, hm⟩ := k0; exact DataW.trod_lt m _ _ _ hm
  obtain ⟨f0, ok0, ev0, l0, dl0, z40, z70, z50⟩ : ∃ f, Fu.Fn.ok W f ∧ v0 = Fu.fnV f ∧ ∃ l, d0 = .agg l ∧ (f.code.xs = [] ∨ ∃ els sp, l[4]? = some (.slice els sp) ∧ els.length = f.code.xs.length) ∧ (f.hnds.xs = [] ∨ ∃ els sp, l[7]? = some (.slice els sp) ∧ els.length = f.hnds.xs.length) ∧ (f.consts.xs = [] ∨ ∃ els sp, l[5]? = some (.slice els sp) ∧ els.length = f.consts.xs.length) := by
    obtain ⟨fuel, hf⟩ := h0
    obtain ⟨f, hs, ok, l, e1, e2⟩ := Fu.open_fn hf
    exact ⟨f, ok, Fu.agg_fn (hval 0 27 v0 rfl rfl) hs, l, e1, e2⟩
  subst ev0
  have hz0 := Fu.fn_szd hsz (j := 0) rfl (by rw [dl0]; rfl) z40 z70
  clear hA0 hval0
  simp only [List.append_nil] at hW'
  have W1 := Fu.groups_walk f0 W ok0 hz0
  refine W1.mono fun e W' ⟨he, bel⟩ => ?_
  subst he
  exact ⟨_, rfl, _, _, _, [], _, [], hW', trodAll_mk1 (shut_bool Try.underlying4 _), (trodAll_cons_mk (Below.trod laidOut (by kernel_rfl) (of_decide_eq_true (by kernel_rfl)) k0 bel lt0) trodAll_mk0), rfl, bel.frame _, fun h => by cases h⟩

theorem over : Rows.fuseGroupsRow.holds Try.pinned (OpenSpec.ofChange Rows.fuseGroupsSpec) :=
  OpenClaim.holds_of_wide 3 Try.f3 rfl rfl rfl rfl rfl rfl rfl ⟨rfl, rfl, rfl, rfl, rfl⟩ rfl rfl rfl rfl rfl (by kernel_rfl) Try.func3 (by kernel_rfl)
    (of_decide_eq_true (by kernel_rfl)) (by unfold Func.isWrapper; first | (rw [if_pos (by decide +kernel)]; kernel_rfl) | (rw [if_neg (by decide +kernel)]; exact ⟨rfl, rfl⟩))
    (fun os started H enc _ => lifted os started H enc)

theorem proved : Rows.FuseGroupsSaid :=
  over
end Go.Proofs.Ytjkemkggcnholaa.fuseGroups

namespace Go.Proofs.Ytjkemkggcnholaa
theorem fuseGroups_holds : Rows.FuseGroupsSaid := fuseGroups.proved
#print axioms fuseGroups_holds
end Go.Proofs.Ytjkemkggcnholaa
