/- The tied card of CodeCut: code that is cut anywhere may be run just if nothing in it goes beyond the cut, and it ends there. -/
import Derived.Test.YtkoamenfbnpdbaaDoorCZ
import Derived.Test.YtkoamenfbnpdbaaDoorCards
import Derived.Test.YtkoamenfbnpdbaaDoorTie
import Derived.WalkKit
import Derived.ProofKit
import Derived.OpenShut
import Derived.ShutString
import Derived.ChangeOld
import Derived.Below
import Derived.Carry
import Derived.LaidMore
import Derived.Lay
import Derived.SevenTiedAt
import Derived.Stop.Joined
namespace Go.Proofs.YtkoamenfbnpdbaaDoor.codeCut
open Go.ChangeShapes Go.WideShapes Go.ChangeAt Go.RowKit
open Go.ChangeMaps (open_string shut_string)
set_option linter.unusedVariables false

theorem own : ownKnob Tryd.prog.godebug = none := by kernel_rfl
theorem laidOut : laidOutB Tryd.prog = true := by kernel_rfl

set_option maxRecDepth 100000 in
theorem lifted (os : Os) (started : os.Started) (H : Type) (enc : TypeId × Value → H) :
    ReturnsInHanded {} Tryd.checked os 8 .any (fun w args => (Rows.codeCutSpec.pre enc Tryd.prog Tryd.f8 Rows.codeCutRow.domain false w args ∧ laidMetH Tryd.prog Rows.codeCutRow.laid w) ∧ sizedMet enc Tryd.prog Tryd.f8 (OpenSpec.ofChange Rows.codeCutSpec) false w args)
      (Rows.codeCutSpec.post enc Tryd.prog Tryd.f8 false true false false) := by
  refine returnsInHanded_of_change_and (C := Tryd.checked) (X := fun w _ => laidMetH Tryd.prog Rows.codeCutRow.laid w) (fun _ _ _ hh h => h.of_heap hh) own started (by kernel_rfl) Tryd.func8
    (ChangeSpec.witness_shaped (enc := enc) (C := Tryd.checked) (os := os) (X := fun w _ => laidMetH Tryd.prog Rows.codeCutRow.laid w) false (World.laidAll Tryd.prog os Rows.codeCutRow.laid) #[.agg #[.string ByteArray.empty, .int .i64 0, .int .i64 0, .bool false, .slice none 0 0, .slice none 0 0, .slice none 0 0, .slice none 0 0], .int .i64 0] 8 (World.laidAll_os _ _ _)
      (World.shaped_of_ZipB (by kernel_rfl) (by kernel_rfl)) (by kernel_rfl) (by kernel_rfl) (by kernel_rfl)
      (by rw [MakeChecks.laidMetH_plain _ _ _ (by kernel_rfl)]; exact laidMet_laidAll _ (by kernel_rfl) (by kernel_rfl))) ?_
  intro W base args ds gs before hval0 hW hc hsz hL _
  have hval : ∀ (j : Nat) t v, Tryd.f8.params[j]? = some t → args[j]? = some v → Value.okWide Tryd.prog W .any base t v := hval0
  have hW' := hW
  obtain ⟨p, q, hA0, hV, rfl, hfz, hnd⟩ := hW
  have hA : DataW.TrodAll enc Tryd.prog W 0 (fun _ => true) true Tryd.f8.params.toList args.toList ds p := hA0
  rw [Tryd.params8] at hA hval hsz
  obtain ⟨v0, vs0, d0, ds0, p0, q0, hargs, rfl, rfl, h0, r0⟩ := trodAll_cons hA
  obtain ⟨v1, vs1, d1, ds1, p1, q1, rfl, rfl, rfl, h1, r1⟩ := trodAll_cons r0
  obtain ⟨rfl, rfl, rfl⟩ := trodAll_nil r1
  obtain rfl : args = #[v0, v1] := by cases args; simp_all
  obtain ⟨rfl, rfl⟩ := trodVars_none hV
  have k0 := h0
  have lt0 : ∀ x ∈ p0, x.block < W.heap.size := by obtain ⟨m, hm⟩ := k0; exact DataW.trod_lt m _ _ _ hm
  obtain ⟨f0, ok0, ev0, l0, dl0, z40, z70, z50⟩ : ∃ f, Cd.Fn.ok W f ∧ v0 = Cd.fnV f ∧ ∃ l, d0 = .agg l ∧ (f.code.xs = [] ∨ ∃ els sp, l[4]? = some (.slice els sp) ∧ els.length = f.code.xs.length) ∧ (f.hnds.xs = [] ∨ ∃ els sp, l[7]? = some (.slice els sp) ∧ els.length = f.hnds.xs.length) ∧ (f.consts.xs = [] ∨ ∃ els sp, l[5]? = some (.slice els sp) ∧ els.length = f.consts.xs.length) := by
    obtain ⟨fuel, hf⟩ := h0
    obtain ⟨f, hs, ok, l, e1, e2⟩ := Cd.open_fn hf
    exact ⟨f, ok, Cd.agg_fn (hval 0 36 v0 rfl rfl) hs, l, e1, e2⟩
  subst ev0
  have hz0 := Cd.fn_bound hsz (j := 0) rfl (by rw [dl0]; rfl) z40 z70
  obtain ⟨a1, rfl, rfl, rfl, w1⟩ := open_int Tryd.underlying3 (hval 1 3 v1 rfl rfl) h1
  clear hA0 hval0
  simp only [List.append_nil] at hW'
  have W1 := Cd.cut_walk f0 a1 W (Cd.shAt_of hL) ok0 hz0
  refine W1.mono fun e W' ⟨he, bel⟩ => ?_
  subst he
  exact ⟨_, rfl, _, _, _, [], _, [], hW', trodAll_mk1 (shut_bool Tryd.underlying4 _), (trodAll_cons_mk (Below.trod laidOut (by kernel_rfl) (of_decide_eq_true (by kernel_rfl)) k0 bel lt0) (trodAll_cons_mk (shut_int Tryd.underlying3 w1) trodAll_mk0)), rfl, bel.frame _, fun h => by cases h⟩

theorem holds : Rows.CodeCutSaid :=
  OpenClaim.holds_of_wide 8 Tryd.f8 rfl rfl rfl rfl rfl rfl rfl ⟨rfl, rfl, rfl, rfl, rfl⟩ rfl rfl rfl rfl rfl (by kernel_rfl) Tryd.func8 (by kernel_rfl)
    (of_decide_eq_true (by kernel_rfl)) (by unfold Func.isWrapper; first | (rw [if_pos (by decide +kernel)]; kernel_rfl) | (rw [if_neg (by decide +kernel)]; exact ⟨rfl, rfl⟩))
    (fun os started H enc _ => lifted os started H enc)

end Go.Proofs.YtkoamenfbnpdbaaDoor.codeCut
namespace Go.Proofs.YtkoamenfbnpdbaaDoor
set_option linter.unusedVariables false

/-- THE TIED CARD: code that is cut anywhere may be run just if nothing in it goes beyond the cut, and it ends there. -/
theorem codeCut_holds : Rows.CodeCutCardSaid :=
  Claim7.holds_tied_plain_at .later [] [.data] true (true, "b826c1f1c5678471767e0971328f41749b4d725aac8a09d885344c9bacd83d97") false codeCut.holds (fun _ h => by cases h) (by kernel_rfl) (fun _ h => by cases h) codeCut_row_tie rfl ⟨rfl, rfl⟩ (by kernel_rfl) rfl
    (fun f fn hf hfn => by
      obtain rfl : f = 8 := Option.some.inj ((show Tryd.prog.funcNamed "brazier/brazierlaw08.CodeCut" = some 8 by kernel_rfl).symm.trans hf) |>.symm
      obtain rfl : fn = Tryd.f8 := (Option.some.inj (Tryd.func8.symm.trans hfn)).symm
      exact ⟨by kernel_rfl, fun j t ht => by
        rw [Tryd.params8] at ht
        have hm : t ∈ [36, 3] := by simpa using Array.mem_of_getElem? ht
        have hall : ([36, 3].all fun u => !Tryd.prog.wantsStandIn u) = true := by kernel_rfl
        exact (show Tryd.prog.wantsStandIn t = false by simpa using List.all_eq_true.1 hall t hm)⟩)
    (by kernel_rfl)
#print axioms codeCut_holds
end Go.Proofs.YtkoamenfbnpdbaaDoor
