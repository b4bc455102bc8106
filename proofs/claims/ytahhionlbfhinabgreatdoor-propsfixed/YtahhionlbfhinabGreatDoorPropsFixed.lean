/- The tied card of PropsFixed: a property that is not configurable stays: with its flags but Writable, and, if it is not writable, with its value -/
import Derived.Test.YtahhionlbfhinabGreatDoorXY
import Derived.Test.YtahhionlbfhinabGreatDoorXN2
import Derived.Test.YtahhionlbfhinabGreatDoorCards
import Derived.Test.YtahhionlbfhinabGreatDoorTie
import Derived.WalkKit
import Derived.ProofKit
import Derived.OpenShut
import Derived.ShutString
import Derived.ChangeOld
import Derived.Below
import Derived.Carry
import Derived.LaidMore
import Derived.Lay
import Derived.SevenTiedAt
import Derived.Stop.Joined
import Derived.SizedLaws
import Derived.JoinedCond
import Derived.Test.YtahhionlbfhinabGreatDoorOW
namespace Go.Proofs.YtahhionlbfhinabGreatDoor.propsFixed
open Go.ChangeShapes Go.WideShapes Go.ChangeAt Go.RowKit
open Go.ChangeMaps (open_string shut_string)
set_option linter.unusedVariables false

theorem own : ownKnob Tryz.prog.godebug = none := by kernel_rfl
theorem laidOut : laidOutB Tryz.prog = true := by kernel_rfl

set_option maxRecDepth 100000 in
theorem lifted (os : Os) (started : os.Started) (H : Type) (enc : TypeId × Value → H) :
    ReturnsInHanded {} Tryz.checked os 4 .any (fun w args => (Rows.propsFixedSpec.pre enc Tryz.prog Tryz.f4 Rows.propsFixedRow.domain false w args ∧ laidMetH Tryz.prog Rows.propsFixedRow.laid w) ∧ sizedMet enc Tryz.prog Tryz.f4 (OpenSpec.ofChange Rows.propsFixedSpec) false w args)
      (Rows.propsFixedSpec.post enc Tryz.prog Tryz.f4 false true false false) := by
  refine returnsInHanded_of_change_and (C := Tryz.checked) (X := fun w _ => laidMetH Tryz.prog Rows.propsFixedRow.laid w) (fun _ _ _ hh h => h.of_heap hh) own started (by kernel_rfl) Tryz.func4
    (ChangeSpec.witness_shaped (enc := enc) (C := Tryz.checked) (os := os) (X := fun w _ => laidMetH Tryz.prog Rows.propsFixedRow.laid w) false (World.laidAll Tryz.prog os Rows.propsFixedRow.laid) #[.slice none 0 0, .int .u64 0, .string ByteArray.empty] 8 (World.laidAll_os _ _ _)
      (World.shaped_of_ZipB (by kernel_rfl) (by kernel_rfl)) (by kernel_rfl) (by kernel_rfl) (by kernel_rfl)
      (by rw [MakeChecks.laidMetH_plain _ _ _ (by kernel_rfl)]; exact laidMet_laidAll _ (by kernel_rfl) (by kernel_rfl))) ?_
  intro W base args ds gs before hval0 hW hc hsz hL _
  have hval : ∀ (j : Nat) t v, Tryz.f4.params[j]? = some t → args[j]? = some v → Value.okWide Tryz.prog W .any base t v := hval0
  have hW' := hW
  obtain ⟨p, q, hA0, hV, rfl, hfz, hnd⟩ := hW
  have hA : DataW.TrodAll enc Tryz.prog W 0 (fun _ => true) true Tryz.f4.params.toList args.toList ds p := hA0
  rw [Tryz.params4] at hA hval hsz
  obtain ⟨v0, vs0, d0, ds0, p0, q0, hargs, rfl, rfl, h0, r0⟩ := trodAll_cons hA
  obtain ⟨v1, vs1, d1, ds1, p1, q1, rfl, rfl, rfl, h1, r1⟩ := trodAll_cons r0
  obtain ⟨v2, vs2, d2, ds2, p2, q2, rfl, rfl, rfl, h2, r2⟩ := trodAll_cons r1
  obtain ⟨rfl, rfl, rfl⟩ := trodAll_nil r2
  obtain rfl : args = #[v0, v1, v2] := by cases args; simp_all
  obtain ⟨rfl, rfl⟩ := trodVars_none hV
  have k0 := h0
  have lt0 : ∀ x ∈ p0, x.block < W.heap.size := by obtain ⟨m, hm⟩ := k0; exact DataW.trod_lt m _ _ _ hm
  have k1 := h1
  have lt1 : ∀ x ∈ p1, x.block < W.heap.size := by obtain ⟨m, hm⟩ := k1; exact DataW.trod_lt m _ _ _ hm
  have k2 := h2
  have lt2 : ∀ x ∈ p2, x.block < W.heap.size := by obtain ⟨m, hm⟩ := k2; exact DataW.trod_lt m _ _ _ hm
  obtain ⟨m0, evm0, okm0, gm0, zm0⟩ : ∃ s : Hp.Sli Hp.OpP, v0 = s.val ∧ s.ok Hp.opP 11 W ∧ (∀ a ∈ s.xs, a.wf) ∧ (s.xs = [] ∨ ∃ els sp, d0 = .slice els sp ∧ els.length = s.xs.length) := by
    obtain ⟨a, len, cap, rfl⟩ := okWide_slice Tryz.underlying22 (hval 0 22 v0 rfl rfl)
    obtain ⟨fuel, hf⟩ := h0
    obtain ⟨s, e1, e2, e3, e4⟩ := Hp.open_popl hf
    refine ⟨s, ?_, e2, e3, e4⟩
    simpa [Value.cells] using e1
  subst evm0
  have sz0 := Hp.pops_len hsz (j := 0) rfl rfl zm0
  obtain ⟨z1, rfl, wz1⟩ : ∃ z, v1 = .int .u64 z ∧ (0 ≤ z ∧ z < 18446744073709551616) := by
    obtain ⟨fuel, hf⟩ := h1
    obtain ⟨z, e1, e3⟩ := Hp.open_word hf
    obtain ⟨z', e4⟩ := okWide_int Tryz.underlying24 (hval 1 24 v1 rfl rfl)
    have : z' = z := by rw [e4] at e1; simpa [Value.cells] using e1
    rw [this] at e4
    exact ⟨z, e4, e3⟩
  obtain ⟨z2, rfl, wz2⟩ : ∃ z, v2 = .string z ∧ z.size ≤ maxLen := by
    obtain ⟨fuel, hf⟩ := h2
    obtain ⟨z, e1, e3⟩ := Hp.open_str hf
    obtain ⟨z', e4⟩ := okWide_string Tryz.underlying9 (hval 2 9 v2 rfl rfl)
    have : z' = z := by rw [e4] at e1; simpa [Value.cells] using e1
    rw [this] at e4
    exact ⟨z, e4, e3⟩
  clear hA0 hval0
  simp only [List.append_nil] at hW'
  have W1 := Hp.fixed_walk W (Hp.tb_of hL) m0 z1 z2 okm0 gm0 wz1.1 wz1.2 wz2 sz0
  refine W1.mono fun e W' ⟨he, bel⟩ => ?_
  subst he
  exact ⟨_, rfl, _, _, _, [], _, [], hW', trodAll_mk1 (shut_bool Tryz.underlying4 _), (trodAll_cons_mk (Below.trod laidOut (by kernel_rfl) (of_decide_eq_true (by kernel_rfl)) k0 bel lt0) (trodAll_cons_mk (Below.trod laidOut (by kernel_rfl) (of_decide_eq_true (by kernel_rfl)) k1 bel lt1) (trodAll_cons_mk (Below.trod laidOut (by kernel_rfl) (of_decide_eq_true (by kernel_rfl)) k2 bel lt2) trodAll_mk0))), rfl, bel.frame _, fun h => by cases h⟩

theorem holds : Rows.PropsFixedSaid :=
  OpenClaim.holds_of_wide 4 Tryz.f4 rfl rfl rfl rfl rfl rfl rfl ⟨rfl, rfl, rfl, rfl, rfl⟩ rfl rfl rfl rfl rfl (by kernel_rfl) Tryz.func4 (by kernel_rfl)
    (of_decide_eq_true (by kernel_rfl)) (by unfold Func.isWrapper; first | (rw [if_pos (by decide +kernel)]; kernel_rfl) | (rw [if_neg (by decide +kernel)]; exact ⟨rfl, rfl⟩))
    (fun os started H enc _ => lifted os started H enc)

end Go.Proofs.YtahhionlbfhinabGreatDoor.propsFixed
namespace Go.Proofs.YtahhionlbfhinabGreatDoor
set_option linter.unusedVariables false

/-- THE TIED CARD: a property that is not configurable stays: with its flags but Writable, and, if it is not writable, with its value -/
theorem propsFixed_holds : Rows.PropsFixedCardSaid :=
  Claim7.holds_tied_plain_at .later [] [.data, .data, .data, .data] true (true, "5e97012ca806bf33140ec5834a84968c7d815abed3d77427c7480ca401941cde") false propsFixed.holds (fun _ h => by cases h) (by kernel_rfl) (fun _ h => by cases h) propsFixed_row_tie rfl ⟨rfl, rfl⟩ (by kernel_rfl) rfl
    (fun f fn hf hfn => by
      obtain rfl : f = 4 := Option.some.inj ((show Tryz.prog.funcNamed "brazier/brazierlaw14.PropsFixed" = some 4 by kernel_rfl).symm.trans hf) |>.symm
      obtain rfl : fn = Tryz.f4 := (Option.some.inj (Tryz.func4.symm.trans hfn)).symm
      exact ⟨by kernel_rfl, fun j t ht => by
        rw [Tryz.params4] at ht
        have hm : t ∈ [22, 24, 9] := by simpa using Array.mem_of_getElem? ht
        have hall : ([22, 24, 9].all fun u => !Tryz.prog.wantsStandIn u) = true := by kernel_rfl
        exact (show Tryz.prog.wantsStandIn t = false by simpa using List.all_eq_true.1 hall t hm)⟩)
    (by kernel_rfl)
#print axioms propsFixed_holds
end Go.Proofs.YtahhionlbfhinabGreatDoor
