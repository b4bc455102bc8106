/- The program's tree in memory: keys of its map. -/
import Derived.Test.YtahhionlbfhinaaGreatDoorB1
import Derived.Test.YtahhionlbfhinaaGreatDoorPA
import Derived.WalkKit
import Derived.WalkSpells
import Derived.WalkLawsBesides
import Derived.BigQuiet
import Derived.Below
import Derived.Laws.Rows
import Derived.Laws.AppendOwn
import Derived.Maps.OwnSet
import Derived.DeepKeys5
import Derived.Deep.AppendLies
import Derived.Deep.RegionHeldLaw
import Derived.Deep.RegionLaw
namespace Go.Proofs.YtahhionlbfhinaaGreatDoor.Sp
open Go.RowKit Go.Proofs.YtahhionlbfhinaaGreatDoor.Hp
set_option linter.unusedVariables false

theorem laidOut : laidOutB Tryz.prog = true := by kernel_rfl

theorem key_law : WideMaps.KeyLaw Tryz.prog 143 := deep_law_gate laidOut (by decide +kernel) (by decide +kernel) (by kernel_rfl) (by kernel_rfl)

/-- the numbers of a layout are numbers of their kinds; its key is a text -/
structure Ly.wf (l : Ly) : Prop where
  kd : l.kd ≤ 2
  pr1 : 0 ≤ l.pr
  pr2 : l.pr ≤ 18446744073709551615
  fr : l.fr ≤ 1700000000000
  ke : l.ke.size ≤ maxLen
  fl1 : -9223372036854775808 ≤ l.fl
  fl2 : l.fl ≤ 9223372036854775807
  sl : l.sl ≤ 1700000000000
  sz : l.sz ≤ 1700000000000

/-- a step as a key of the map -/
def stV (l : Ly) : Value := .agg #[.int .i64 l.kd, .int .u64 l.pr, .int .i64 l.fr, .string l.ke, .int .i64 l.fl]

theorem keyType66 : Tryz.prog.keyType 143 = true := by kernel_rfl
theorem wf_i {k : Int} (h1 : -9223372036854775808 ≤ k) (h2 : k ≤ 9223372036854775807) : (Lit.int .i64 k).wf = true := by
  unfold Lit.wf
  rw [Bool.and_eq_true]
  exact ⟨decide_eq_true h1, decide_eq_true h2⟩
theorem wf_u {k : Int} (h1 : 0 ≤ k) (h2 : k ≤ 18446744073709551615) : (Lit.int .u64 k).wf = true := by
  unfold Lit.wf
  rw [Bool.and_eq_true]
  exact ⟨decide_eq_true h1, decide_eq_true h2⟩

theorem types_some : ∃ m, Tryz.prog.types.size = m + 1 := ⟨Tryz.prog.types.size - 1, by decide +kernel⟩

theorem key_lits (m : Nat) (l : Ly) (h : l.wf) : ∃ ls, Tryz.prog.keyLits (m + 2) 143 [.int .i64 l.kd, .int .u64 l.pr, .int .i64 l.fr, .string l.ke, .int .i64 l.fl] = some ls := by
  have c3 : Tryz.prog.cellsOf 3 = 1 := by kernel_rfl
  have c31 : Tryz.prog.cellsOf 32 = 1 := by kernel_rfl
  have c9 : Tryz.prog.cellsOf 9 = 1 := by kernel_rfl
  have c66 : Tryz.prog.cellsOf 143 = 5 := by kernel_rfl
  have w0 : (Lit.int .i64 (l.kd : Int)).wf = true := wf_i (by omega) (by have := h.kd; omega)
  have w1 := wf_u h.pr1 h.pr2
  have w2 : (Lit.int .i64 (l.fr : Int)).wf = true := wf_i (by omega) (by have := h.fr; omega)
  have w3 := h.ke
  have w4 := wf_i h.fl1 h.fl2
  unfold Program.keyLits
  simp [Tryz.underlying143, Program.keyLits, Tryz.underlying3, Tryz.underlying32, Tryz.underlying9, c3, c31, c9, c66, w0, w1, w2, w3, w4]

theorem key_of (l : Ly) (h : l.wf) : ∃ z, keyOf Tryz.prog 143 (stV l) = some z := by
  obtain ⟨m, hm⟩ := types_some
  obtain ⟨ls, hls⟩ := key_lits m l h
  have c66 : Tryz.prog.cellsOf 143 = 5 := by kernel_rfl
  unfold keyOf
  rw [Tryz.underlying143]
  simp only [keyType66, hm]
  unfold stV
  simp [Value.formed, Tryz.underlying143, c66, Value.cells, hls]

theorem stV_inj {x l : Ly} : stV x = stV l ↔ sameStep x l := by
  unfold stV sameStep
  simp only [Value.agg.injEq, Array.mk.injEq, List.cons.injEq, Value.int.injEq, Value.string.injEq, true_and, and_true]
  constructor <;> rintro ⟨a, b, c, d, e⟩ <;> exact ⟨by omega, b, by omega, d, e⟩

/-- the map of a tree: the number of each layout, by its step -/
def MapAt (w : World) (mb : Nat) (T : List Ly) : Prop :=
  ∃ es clock, w.heap[mb]? = some (.map es clock) ∧ es.toList.map (fun e => (e.key, e.val)) = T.zipIdx.map (fun p => (stV p.1, Value.int .i64 (p.2 : Int)))

theorem MapAt.at' {T : List Ly} {es : List MapEntry} (h : es.map (fun e => (e.key, e.val)) = T.zipIdx.map (fun p => (stV p.1, Value.int .i64 (p.2 : Int)))) (j : Nat) (e : MapEntry) (he : es[j]? = some e) :
    ∃ x, T[j]? = some x ∧ e.key = stV x ∧ e.val = .int .i64 (j : Int) := by
  have h1 := congrArg (·[j]?) h
  simp only [List.getElem?_map, he, Option.map_some, List.getElem?_zipIdx] at h1
  cases hx : T[j]? with
  | none => rw [hx] at h1; simp at h1
  | some x =>
    rw [hx] at h1
    simp at h1
    exact ⟨x, rfl, h1.1, h1.2⟩

theorem MapAt.keys {T : List Ly} {es : List MapEntry} (h : es.map (fun e => (e.key, e.val)) = T.zipIdx.map (fun p => (stV p.1, Value.int .i64 (p.2 : Int)))) (hw : ∀ x ∈ T, x.wf) : ∀ e ∈ es, ∃ l, keyOf Tryz.prog 143 e.key = some l := by
  intro e he
  obtain ⟨j, hj⟩ := List.mem_iff_getElem?.1 he
  obtain ⟨x, h1, h2, _⟩ := MapAt.at' h j e hj
  rw [h2]
  exact key_of x (hw x (List.mem_of_getElem? h1))

theorem zero3 (w : World) : (zeroValue 3).run Tryz.prog w = .ok (.int .i64 0) w := by
  obtain ⟨i, hi, hz⟩ := Option.map_eq_some_iff.1 (show (Tryz.prog.info? 3).map (fun i => i.zero) = some (some (.int .i64 0)) by kernel_rfl)
  simp [zeroValue, typeInfo, hi, hz]

/-- where a step is known, or not -/
theorem MapAt.look {w : World} {mb : Nat} {T : List Ly} (h : MapAt w mb T) (hw : ∀ x ∈ T, x.wf) (l : Ly) (hl : l.wf) :
    (((Instr.lookup 165 (.map (some mb)) (stV l) true).run Tryz.prog w = .ok (.tuple #[.int .i64 0, .bool false]) w) ∧ ∀ x ∈ T, ¬ sameStep x l) ∨
    ∃ j x, (Instr.lookup 165 (.map (some mb)) (stV l) true).run Tryz.prog w = .ok (.tuple #[.int .i64 (j : Nat), .bool true]) w ∧ T[j]? = some x ∧ sameStep x l := by
  obtain ⟨es, clock, hb, he⟩ := h
  obtain ⟨z, hz⟩ := key_of l hl
  rcases key_law.find w hz es.toList (MapAt.keys he hw) with ⟨f1, f2⟩ | ⟨j, e, f1, f2, f3⟩
  · refine Or.inl ⟨?_, fun x hx hs => ?_⟩
    · simp [Instr.lookup, run_underlying Tryz.underlying165, MapKept.run_getObj_map hb, key_law.check w _ hz, f1, Result.andThen]
    · obtain ⟨j, hj⟩ := List.mem_iff_getElem?.1 hx
      have h1 := congrArg (·[j]?) he
      simp only [List.getElem?_map, hj, Option.map_some, List.getElem?_zipIdx] at h1
      cases hq : es.toList[j]? with
      | none => rw [hq] at h1; simp at h1
      | some e =>
        rw [hq] at h1
        simp at h1
        exact f2 e (List.mem_of_getElem? hq) (by rw [h1.1]; exact stV_inj.2 hs)
  · obtain ⟨x, h1, h2, h3⟩ := MapAt.at' he j e f2
    refine Or.inr ⟨j, x, ?_, h1, stV_inj.1 (by rw [← h2, f3])⟩
    simp [Instr.lookup, run_underlying Tryz.underlying165, MapKept.run_getObj_map hb, key_law.check w _ hz, f1, h3, Result.andThen]

/-- a step more -/
theorem MapAt.put {w : World} {mb : Nat} {T : List Ly} (h : MapAt w mb T) (hw : ∀ x ∈ T, x.wf) (l : Ly) (hl : l.wf) (hn : ∀ x ∈ T, ¬ sameStep x l) :
    ∃ w', (Instr.mapUpdate 165 (.map (some mb)) (stV l) (.int .i64 (T.length : Int))).run Tryz.prog w = .ok () w' ∧ MapAt w' mb (T ++ [l]) ∧ w.grownBy w' (some mb) ∧ w'.heap.size = w.heap.size := by
  obtain ⟨es, clock, hb, he⟩ := h
  obtain ⟨z, hz⟩ := key_of l hl
  rcases key_law.find w hz es.toList (MapAt.keys he hw) with ⟨f1, f2⟩ | ⟨j, e, f1, f2, f3⟩
  · have hlen : es.toList.length = T.length := by
      have := congrArg List.length he
      simpa using this
    refine ⟨ChangeMaps.setBlock w mb (.map (es.push ⟨stV l, .int .i64 (T.length : Int), clock⟩) (clock + 1)), ?_, ⟨_, _, ChangeMaps.heap_setBlock_same hb _, ?_⟩, ⟨rfl, rfl, rfl, by simp [ChangeMaps.setBlock], fun i _ hi => ChangeMaps.heap_setBlock_other hb _ (fun e => hi (by rw [e]))⟩, by simp [ChangeMaps.setBlock]⟩
    · simp [Instr.mapUpdate, run_underlying Tryz.underlying165, MapKept.run_getObj_map hb, key_law.check w _ hz, f1, MapKept.run_setObj_map _ hb, Result.andThen, ChangeMaps.setBlock]
    · simp [he, List.zipIdx_append]
  · obtain ⟨x, h1, h2, h3⟩ := MapAt.at' he j e f2
    exact absurd (stV_inj.1 (by rw [← h2, f3])) (hn x (List.mem_of_getElem? h1))

end Go.Proofs.YtahhionlbfhinaaGreatDoor.Sp
