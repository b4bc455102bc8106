/- FuseBehind, where what it reads is of bulk at most 1048576: instructions behind the last one, to which nothing jumps, change no group but the last two. -/
import Derived.Test.YtjkemkggcnholaaRows
import Derived.Test.YtjkemkggcnholaaGT
import Derived.Test.YtjkemkggcnholaaFJ
import Derived.WalkKit
import Derived.ProofKit
import Derived.OpenShut
import Derived.ShutString
import Derived.ChangeOld
import Derived.Below
import Derived.SizedLaws
import Derived.JoinedCond
namespace Go.Proofs.Ytjkemkggcnholaa.fuseBehind
open Go.ChangeShapes Go.WideShapes Go.ChangeAt Go.RowKit
set_option linter.unusedVariables false

theorem own : ownKnob Try.prog.godebug = none := by kernel_rfl
theorem laidOut : laidOutB Try.prog = true := by kernel_rfl

theorem some_bulk {H : Type} (d : DataW H) : 1 ≤ Rows.uptoBulk d := by
  cases d with
  | lit l => cases l <;> simp [Rows.uptoBulk]
  | _ => simp [Rows.uptoBulk]

/-- a list has no more parts than its bulk -/
theorem list_bulk {H : Type} : ∀ l : List (DataW H), l.length ≤ Rows.uptoBulkAll l
  | [] => Nat.zero_le _
  | d :: l => by
    have h1 := some_bulk d
    have h2 := list_bulk l
    simp only [Rows.uptoBulkAll, List.length_cons]
    omega

theorem at_bulk {H : Type} : ∀ (l : List (DataW H)) (i : Nat) (d : DataW H), l[i]? = some d → Rows.uptoBulk d ≤ Rows.uptoBulkAll l
  | [], i, d, h => by simp at h
  | x :: l, 0, d, h => by
    simp at h
    subst h
    simp only [Rows.uptoBulkAll]
    omega
  | x :: l, i + 1, d, h => by
    have := at_bulk l i d (by simpa using h)
    simp only [Rows.uptoBulkAll]
    omega

theorem slice_bulk {H : Type} (els sp : List (DataW H)) : els.length + 1 ≤ Rows.uptoBulk (.slice els sp) := by
  have := list_bulk els
  simp only [Rows.uptoBulk]
  omega

/-- a function's slice is no longer than the function's bulk -/
theorem part_bulk {H : Type} (l : List (DataW H)) (i n : Nat) (h : n = 0 ∨ ∃ els sp, l[i]? = some (.slice els sp) ∧ els.length = n) : n + 1 ≤ Rows.uptoBulk (.agg l) := by
  rcases h with h | ⟨els, sp, h1, h2⟩
  · have := some_bulk (DataW.agg l)
    omega
  · have h3 := at_bulk l i _ h1
    have h4 := slice_bulk els sp
    simp only [Rows.uptoBulk] at h3 h4 ⊢
    omega

set_option maxRecDepth 100000 in
theorem lifted (os : Os) (started : os.Started) (H : Type) (enc : TypeId × Value → H) (F : Stop.Interp) :
    ReturnsInHanded {} Try.checked os 6 .any ((Rows.OpenSpec.upto Rows.fuseBehindSpec).pre6 enc Try.prog Try.f6 Rows.fuseBehindUptoRow.domain false) (((Rows.OpenSpec.upto Rows.fuseBehindSpec).at F).post enc Try.prog Try.f6 false true false false) := by
  refine returnsInHanded_of_cond (C := Try.checked) (s := Rows.OpenSpec.upto Rows.fuseBehindSpec) (k := Rows.uptoSmall) rfl own started (by kernel_rfl) Try.func6
    (OpenSpec.witness (enc := enc) (C := Try.checked) (s := Rows.OpenSpec.upto Rows.fuseBehindSpec) (k := Rows.uptoSmall) rfl false ⟨#[], #[.agg #[.string ByteArray.empty, .int .i64 0, .int .i64 0, .bool false, .slice none 0 0, .slice none 0 0, .slice none 0 0, .slice none 0 0], .slice none 0 0], []⟩ 8 (by kernel_rfl) (by kernel_rfl) (by kernel_rfl)
      (x := ([.agg [.lit (.string []), .lit (.int .i64 0), .lit (.int .i64 0), .lit (.bool false), .nil, .nil, .nil, .nil], .nil], [], [])) (by kernel_rfl) rfl (by kernel_rfl)) ?_
  intro W base args ds gs before hval0 hW hcnd hk _
  have hval : ∀ (j : Nat) t v, Try.f6.params[j]? = some t → args[j]? = some v → Value.okWide Try.prog W .any base t v := hval0
  have hW' := hW
  obtain ⟨p, q, hA0, hV, rfl, hfz, hnd⟩ := hW
  have hA : DataW.TrodAll enc Try.prog W 0 (fun _ => true) true Try.f6.params.toList args.toList ds p := hA0
  rw [Try.params6] at hA hval
  obtain ⟨v0, vs0, d0, ds0, p0, q0, hargs, rfl, rfl, h0, r0⟩ := trodAll_cons hA
  obtain ⟨v1, vs1, d1, ds1, p1, q1, rfl, rfl, rfl, h1, r1⟩ := trodAll_cons r0
  obtain ⟨rfl, rfl, rfl⟩ := trodAll_nil r1
  obtain rfl : args = #[v0, v1] := by cases args; simp_all
  obtain ⟨rfl, rfl⟩ := trodVars_none hV
  have k0 := h0
  have lt0 : ∀ x ∈ p0, x.block < W.heap.size := by obtain ⟨m, hm⟩ := k0; exact DataW.trod_lt m _ _ _ hm
  have k1 := h1
  have lt1 : ∀ x ∈ p1, x.block < W.heap.size := by obtain ⟨m, hm⟩ := k1; exact DataW.trod_lt m _ _ _ hm
  obtain ⟨f0, ok0, ev0, l0, dl0, z40, z70, z50⟩ : ∃ f, Fu.Fn.ok W f ∧ v0 = Fu.fnV f ∧ ∃ l, d0 = .agg l ∧ (f.code.xs = [] ∨ ∃ els sp, l[4]? = some (.slice els sp) ∧ els.length = f.code.xs.length) ∧ (f.hnds.xs = [] ∨ ∃ els sp, l[7]? = some (.slice els sp) ∧ els.length = f.hnds.xs.length) ∧ (f.consts.xs = [] ∨ ∃ els sp, l[5]? = some (.slice els sp) ∧ els.length = f.consts.xs.length) := by
    obtain ⟨fuel, hf⟩ := h0
    obtain ⟨f, hs, ok, l, e1, e2⟩ := Fu.open_fn hf
    exact ⟨f, ok, Fu.agg_fn (hval 0 27 v0 rfl rfl) hs, l, e1, e2⟩
  subst ev0
  obtain ⟨m0, okm, evm, zm⟩ : ∃ s : Fu.Sli Fu.Ins, s.ok Fu.insC 4 W ∧ v1 = s.val ∧ (s.xs = [] ∨ ∃ els sp, d1 = .slice els sp ∧ els.length = s.xs.length) := by
    obtain ⟨a, len, cap, rfl⟩ := okWide_slice Try.underlying22 (hval 1 22 v1 rfl rfl)
    obtain ⟨fuel, hf⟩ := h1
    obtain ⟨s, e1, e2, _, e4⟩ := Fu.open_sl Fu.insC (fun _ => True) Try.underlying22 (show Try.prog.cellsOf 41 = 4 by kernel_rfl) (by omega) (fun _ => rfl) (fun n cs' x' h => Fu.open_ins h) hf
    refine ⟨s, e2, ?_, e4⟩
    simpa [Value.cells] using e1
  subst evm
  have hb : Rows.uptoBulkAll ([d0, d1] ++ []) ≤ 1048576 := of_decide_eq_true hk
  have hsum : Rows.uptoBulk d0 + Rows.uptoBulk d1 ≤ 1048576 := by
    simp only [List.append_nil, Rows.uptoBulkAll] at hb
    omega
  have hz : f0.code.xs.length + m0.xs.length ≤ 1048576 := by
    have a1 := part_bulk l0 4 f0.code.xs.length (z40.elim (fun h => Or.inl (by rw [h]; rfl)) Or.inr)
    have a2 : m0.xs.length ≤ Rows.uptoBulk d1 := by
      rcases zm with h | ⟨els, sp, h, h'⟩
      · rw [h]; exact Nat.zero_le _
      · rw [h, ← h']; have := slice_bulk els sp; omega
    rw [dl0] at hsum
    omega
  have hh : f0.hnds.xs.length ≤ 1048576 := by
    have a1 := part_bulk l0 7 f0.hnds.xs.length (z70.elim (fun h => Or.inl (by rw [h]; rfl)) Or.inr)
    rw [dl0] at hsum
    omega
  clear hA0 hval0 hb hsum
  simp only [List.append_nil] at hW'
  have W1 := Fu.behind_walk f0 m0 W ok0 okm hz hh
  refine W1.mono fun e W' ⟨he, bel⟩ => ?_
  subst he
  exact ⟨_, rfl, _, _, _, [], _, [], hW', trodAll_mk1 (shut_bool Try.underlying4 _), (trodAll_cons_mk (Below.trod laidOut (by kernel_rfl) (of_decide_eq_true (by kernel_rfl)) k0 bel lt0) (trodAll_cons_mk (Below.trod laidOut (by kernel_rfl) (of_decide_eq_true (by kernel_rfl)) k1 bel lt1) trodAll_mk0)), rfl, bel.frame _, fun h => by cases h⟩

theorem over : Rows.fuseBehindUptoRow.holds Try.pinned (Rows.OpenSpec.upto Rows.fuseBehindSpec) :=
  OpenClaim.holds_of_cond 6 Try.f6 rfl rfl rfl rfl rfl rfl rfl ⟨rfl, rfl, rfl, rfl, rfl⟩ rfl rfl rfl rfl rfl (by kernel_rfl) Try.func6 (by kernel_rfl)
    (of_decide_eq_true (by kernel_rfl)) (by unfold Func.isWrapper; first | (rw [if_pos (by decide +kernel)]; kernel_rfl) | (rw [if_neg (by decide +kernel)]; exact ⟨rfl, rfl⟩))
    (fun os started H enc _ F => lifted os started H enc F)

theorem proved : Rows.FuseBehindUptoSaid :=
  over
end Go.Proofs.Ytjkemkggcnholaa.fuseBehind

namespace Go.Proofs.Ytjkemkggcnholaa
theorem fuseBehindUpto_holds : Rows.FuseBehindUptoSaid := fuseBehind.proved
#print axioms fuseBehindUpto_holds
end Go.Proofs.Ytjkemkggcnholaa
