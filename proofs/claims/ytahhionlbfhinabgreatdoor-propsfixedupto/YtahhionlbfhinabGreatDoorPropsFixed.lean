/- The tied card of PropsFixed, where what it reads is of bulk at most 1048576: a property that is not configurable stays: with its flags but Writable, and, if it is not writable, with its value -/
import Derived.Test.YtahhionlbfhinabGreatDoorB39
import Derived.Test.YtahhionlbfhinabGreatDoorXY
import Derived.Test.YtahhionlbfhinabGreatDoorCards
import Derived.Test.YtahhionlbfhinabGreatDoorTie
import Derived.WalkKit
import Derived.ProofKit
import Derived.OpenShut
import Derived.ShutString
import Derived.ChangeOld
import Derived.Below
import Derived.Carry
import Derived.LaidMore
import Derived.Lay
import Derived.SizedLaws
import Derived.JoinedCond
import Derived.SevenTiedAt
import Derived.Deep.DeepHandedRow
import Derived.Test.YtahhionlbfhinabGreatDoorOW
namespace Go.Proofs.YtahhionlbfhinabGreatDoor.propsFixed
open Go.ChangeShapes Go.WideShapes Go.ChangeAt Go.RowKit
set_option linter.unusedVariables false

theorem own : ownKnob Tryz.prog.godebug = none := by kernel_rfl
theorem laidOut : laidOutB Tryz.prog = true := by kernel_rfl
theorem reads (os : Os) {H : Type} (enc : TypeId × Value → H) : ∃ places, DataW.whole enc Tryz.prog ((World.laidAll Tryz.prog os Rows.propsFixedUptoRow.laid).forCall (fun _ _ => 0) ⟨#[], #[.slice none 0 0, .int .u64 0, .string ByteArray.empty], []⟩).memory Tryz.f4.params.toList Rows.propsFixedSpec.vars false (#[.slice none 0 0, .int .u64 0, .string ByteArray.empty] : Array Value).toList 8 = some ([.nil, .lit (.int .u64 0), .lit (.string [])], [], places) :=
  ⟨[], by kernel_rfl⟩

set_option maxRecDepth 100000 in
theorem lifted (os : Os) (started : os.Started) (H : Type) (enc : TypeId × Value → H) (F : Stop.Interp) :
    ReturnsInHanded {} Tryz.checked os 4 .any ((Rows.OpenSpec.upto Rows.propsFixedSpec).preRow enc Tryz.prog Tryz.f4 Rows.propsFixedUptoRow.domain false Rows.propsFixedUptoRow.laid) (((Rows.OpenSpec.upto Rows.propsFixedSpec).at F).post enc Tryz.prog Tryz.f4 false true false false) := by
  obtain ⟨places, hx⟩ := reads os enc
  refine returnsInHanded_of_row (C := Tryz.checked) (s := Rows.OpenSpec.upto Rows.propsFixedSpec) own started (by kernel_rfl) Tryz.func4
    (witness_row_at (enc := enc) (C := Tryz.checked) false (World.laidAll Tryz.prog os Rows.propsFixedUptoRow.laid) #[.slice none 0 0, .int .u64 0, .string ByteArray.empty] (World.laidAll_os _ _ _) (by kernel_rfl) (by kernel_rfl) (by kernel_rfl)
      (OpenSpec.preRow_of_cond 8 hx (by kernel_rfl) (fun k hk => by cases hk; kernel_rfl) (by kernel_rfl) (laidMet_laidAll _ (by kernel_rfl) (by kernel_rfl)))) ?_
  intro W base args ds gs before hval0 hW _ hcond hszz hL _ _
  have hk := hcond _ rfl
  have hval : ∀ (j : Nat) t v, Tryz.f4.params[j]? = some t → args[j]? = some v → Value.okWide Tryz.prog W .any base t v := hval0
  have hW' := hW
  obtain ⟨p, q, hA0, hV, rfl, hfz, hnd⟩ := hW
  have hA : DataW.TrodAll enc Tryz.prog W 0 (fun _ => true) true Tryz.f4.params.toList args.toList ds p := hA0
  rw [Tryz.params4] at hA hval
  obtain ⟨v0, vs0, d0, ds0, p0, q0, hargs, rfl, rfl, h0, r0⟩ := trodAll_cons hA
  obtain ⟨v1, vs1, d1, ds1, p1, q1, rfl, rfl, rfl, h1, r1⟩ := trodAll_cons r0
  obtain ⟨v2, vs2, d2, ds2, p2, q2, rfl, rfl, rfl, h2, r2⟩ := trodAll_cons r1
  obtain ⟨rfl, rfl, rfl⟩ := trodAll_nil r2
  obtain rfl : args = #[v0, v1, v2] := by cases args; simp_all
  obtain ⟨rfl, rfl⟩ := trodVars_none hV
  have k0 := h0
  have lt0 : ∀ x ∈ p0, x.block < W.heap.size := by obtain ⟨m, hm⟩ := k0; exact DataW.trod_lt m _ _ _ hm
  have k1 := h1
  have lt1 : ∀ x ∈ p1, x.block < W.heap.size := by obtain ⟨m, hm⟩ := k1; exact DataW.trod_lt m _ _ _ hm
  have k2 := h2
  have lt2 : ∀ x ∈ p2, x.block < W.heap.size := by obtain ⟨m, hm⟩ := k2; exact DataW.trod_lt m _ _ _ hm
  have hb : Rows.uptoBulkAll ([d0, d1, d2] ++ []) ≤ 1048576 := of_decide_eq_true hk
  have hsum : Rows.uptoBulk d0 + Rows.uptoBulk d1 + Rows.uptoBulk d2 ≤ 1048576 := by
    simp only [List.append_nil, Rows.uptoBulkAll] at hb
    omega
  obtain ⟨m0, evm0, okm0, gm0, zm0⟩ : ∃ s : Hp.Sli Hp.OpP, v0 = s.val ∧ s.ok Hp.opP 11 W ∧ (∀ a ∈ s.xs, a.wf) ∧ 11 * s.xs.length ≤ Rows.uptoBulk d0 := by
    obtain ⟨a, len, cap, rfl⟩ := okWide_slice Tryz.underlying22 (hval 0 22 v0 rfl rfl)
    obtain ⟨fuel, hf⟩ := h0
    obtain ⟨s, e1, e2, e3, e4⟩ := Hp.open_pops hf
    refine ⟨s, ?_, e2, e3, e4⟩
    simpa [Value.cells] using e1
  subst evm0
  obtain ⟨z1, rfl, wz1⟩ : ∃ z, v1 = .int .u64 z ∧ (0 ≤ z ∧ z < 18446744073709551616) := by
    obtain ⟨fuel, hf⟩ := h1
    obtain ⟨z, e1, e3⟩ := Hp.open_word hf
    obtain ⟨z', e4⟩ := okWide_int Tryz.underlying24 (hval 1 24 v1 rfl rfl)
    have : z' = z := by rw [e4] at e1; simpa [Value.cells] using e1
    rw [this] at e4
    exact ⟨z, e4, e3⟩
  obtain ⟨z2, rfl, wz2⟩ : ∃ z, v2 = .string z ∧ z.size ≤ maxLen := by
    obtain ⟨fuel, hf⟩ := h2
    obtain ⟨z, e1, e3⟩ := Hp.open_str hf
    obtain ⟨z', e4⟩ := okWide_string Tryz.underlying9 (hval 2 9 v2 rfl rfl)
    have : z' = z := by rw [e4] at e1; simpa [Value.cells] using e1
    rw [this] at e4
    exact ⟨z, e4, e3⟩
  have hsz : 11 * m0.xs.length ≤ 1048576 := by omega
  clear hA0 hval0 hb hsum
  simp only [List.append_nil] at hW'
  have W1 := Hp.fixed_walk W (Hp.tb_of hL) m0 z1 z2 okm0 gm0 wz1.1 wz1.2 wz2 hsz
  refine W1.mono fun e W' ⟨he, bel⟩ => ?_
  subst he
  exact ⟨_, rfl, _, _, _, [], _, [], hW', trodAll_mk1 (shut_bool Tryz.underlying4 _), (trodAll_cons_mk (Below.trod laidOut (by kernel_rfl) (of_decide_eq_true (by kernel_rfl)) k0 bel lt0) (trodAll_cons_mk (Below.trod laidOut (by kernel_rfl) (of_decide_eq_true (by kernel_rfl)) k1 bel lt1) (trodAll_cons_mk (Below.trod laidOut (by kernel_rfl) (of_decide_eq_true (by kernel_rfl)) k2 bel lt2) trodAll_mk0))), rfl, bel.frame _, fun h => by cases h⟩

theorem over : Rows.PropsFixedUptoSaid :=
  OpenClaim.holds_of_cond 4 Tryz.f4 rfl rfl rfl rfl rfl rfl rfl ⟨rfl, rfl, rfl, rfl, rfl⟩ rfl rfl rfl rfl rfl (by kernel_rfl) Tryz.func4 (by kernel_rfl)
    (of_decide_eq_true (by kernel_rfl)) (by unfold Func.isWrapper; first | (rw [if_pos (by decide +kernel)]; kernel_rfl) | (rw [if_neg (by decide +kernel)]; exact ⟨rfl, rfl⟩))
    (fun os started H enc _ F => by rw [OpenClaim.pre_eq_preRow]; exact lifted os started H enc F)
theorem plain (f : FuncId) (fn : Func) (hf : Tryz.pinned.checked.prog.funcNamed "brazier/brazierlaw14.PropsFixed" = some f) (hfn : Tryz.pinned.checked.prog.funcs[f]? = some fn) :
    false = Tryz.pinned.checked.prog.looks [] ∧ ∀ (j : Nat) t, fn.params[j]? = some t → Tryz.pinned.checked.prog.wantsStandIn t = false := by
  obtain rfl : f = 4 := Option.some.inj ((show Tryz.prog.funcNamed "brazier/brazierlaw14.PropsFixed" = some 4 by kernel_rfl).symm.trans hf) |>.symm
  obtain rfl : fn = Tryz.f4 := (Option.some.inj (Tryz.func4.symm.trans hfn)).symm
  refine ⟨by kernel_rfl, fun j t ht => ?_⟩
  rw [Tryz.params4] at ht
  have hm : t ∈ [22, 24, 9] := by simpa using Array.mem_of_getElem? ht
  have hall : ([22, 24, 9].all fun u => !Tryz.prog.wantsStandIn u) = true := by kernel_rfl
  exact (show Tryz.prog.wantsStandIn t = false by simpa using List.all_eq_true.1 hall t hm)
end Go.Proofs.YtahhionlbfhinabGreatDoor.propsFixed

namespace Go.Proofs.YtahhionlbfhinabGreatDoor
set_option linter.unusedVariables false

/-- THE TIED CARD: a property that is not configurable stays: with its flags but Writable, and, if it is not writable, with its value -/
theorem propsFixedUpto_holds : Rows.PropsFixedUptoCardSaid :=
  Claim7.holds_tied_plain_at .later [] _ _ _ _ propsFixed.over (fun _ h => by cases h) (by kernel_rfl) (fun _ h => by cases h) propsFixedUpto_row_tie rfl ⟨rfl, rfl⟩ (by kernel_rfl) rfl propsFixed.plain (by kernel_rfl)
#print axioms propsFixedUpto_holds
end Go.Proofs.YtahhionlbfhinabGreatDoor
