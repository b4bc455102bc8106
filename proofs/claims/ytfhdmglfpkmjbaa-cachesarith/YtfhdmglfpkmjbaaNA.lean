/- Caches: entries, whoever says which cells are valid, and asking it. -/
import Derived.Test.YtfhdmglfpkmjbaaHC
import Derived.Defers
import Derived.Recover
import Derived.Laws.Pointers
namespace Go.Proofs.Ytfhdmglfpkmjbaa.Hp
open Go.RowKit
set_option linter.unusedVariables false
set_option linter.unusedSimpArgs false

/-- whoever says which cells are valid: function f with what it has along, where X holds -/
structure Ask (X : World → Prop) (f : Nat) (cap : Array Value) (vf : Int → Bool) : Prop where
  ent : ∀ (args : Array Value) (w : World), (callFunc f args).run Try.prog w = .ok (.enter f args) w
  kept : ∀ {w w' : World}, X w → Below w.heap.size w w' → X w'
  call : ∀ (c : Int) (w : World), X w → Calls Try.prog f (#[.int .i64 c] ++ cap) w fun e w' => e = .returned (.bool (vf c)) ∧ Below w.heap.size w w'

/-- such a function as a value -/
def fnV (f : Nat) (cap : Array Value) : Value := .func (.func f) #[] cap

theorem frozen_new (w : World) (cs : Array Value) (t : TypeId) (j : Nat) : (w.alloc (.cells cs t)).frozen? ⟨w.heap.size, j, none⟩ = false := by simp [go_sem]

set_option maxRecDepth 100000 in
set_option maxHeartbeats 2000000 in
theorem idle (p0 : Addr) (w : World) :
    CallsD Try.prog 37 #[.pointer (some p0)] .returning w fun e u' w' => e = .returned (.tuple #[]) ∧ u' = .returning ∧ w' = w := by
  refine callsD_of_wpS Try.func37 rfl fun c₀ cs hu => ?_
  simp only [Try.ntmps37, List.size_toArray, List.length_cons, List.length_nil, Nat.reduceAdd, Nat.reduceSub, Array.replicate_succ, Array.replicate_zero, List.push_toArray, List.append_toArray, List.nil_append, List.cons_append]
  apply wpS_seq
  apply wpS_region
  simp [wpOpsS, go_sem, recoverD, hu, Exit.thenS]
  refine wpS_cond (t := false) (by simp [Act.eval]) ?_
  simp only [Bool.false_eq_true, if_false]
  refine wpS_of_wp (wp_skip ?_)
  cases c₀
  simp_all [bodyPostS, results, Try.f37]

set_option maxRecDepth 100000 in
set_option maxHeartbeats 2000000 in
theorem says_any {X : World → Prop} {f : Nat} {cap : Array Value} {vf : Int → Bool} (A : Ask X f cap vf) (c : Int) (w : World) (hX : X w) :
    Calls Try.prog 32 #[fnV f cap, .int .i64 c] w fun e w' => e = .returned (.bool (vf c)) ∧ Below w.heap.size w w' := by
  have hmf : ∀ (fn : Fn) (first cap : Array Value) (w : World), (Instr.makeFunc fn first cap).run Try.prog w = .ok (.func fn first cap) w := fun _ _ _ _ => rfl
  obtain ⟨w1, hw1⟩ : ∃ w1, w1 = w.alloc (.cells #[.bool false] 4) := ⟨_, rfl⟩
  have hB : Below w.heap.size w w1 := by rw [hw1]; exact (Below.refl _ _).alloc (Nat.le_refl _) _
  have hc := A.call c w1 (A.kept hX hB)
  have c0 : w1.cell? ⟨w.heap.size, 0, none⟩ = some (.bool false) := by rw [hw1]; exact box_new w _ _ 0 _ rfl
  have hne : ∀ w : World, (binOp .eql 29 (Value.func (.func f) #[] cap) .nilFunc).run Try.prog w = .ok (.bool false) w := fun _ => rfl
  unfold fnV
  generalize hv : vf c = r at *
  have hen := A.ent (#[.int .i64 c] ++ cap)
  clear A hX
  go_enter_defers Try.func32, Try.ntmps32
  go_wp2_with fail
  rw [← hw1]
  refine hc.mono ?_
  rintro e w2 ⟨rfl, hb2⟩
  have d0 := cells_below hb2 _ _ c0
  have f0 : w2.frozen? ⟨w.heap.size, 0, none⟩ = false := by
    rw [World.frozen?_of_block (w := w1) (hb2.block _ (World.block_lt_of_cell? w1 _ c0)), hw1]
    exact frozen_new w _ _ _
  have H2 : Below w.heap.size w w2 := hB.trans (hb2.mono hB.size)
  have HH : Hid (Below w.heap.size w w2) := H2
  clear hc hb2 c0 hw1 hB H2
  go_wp2_with fail
  refine leaves_cons (f := 37) (args := #[.pointer (some ⟨w.heap.size, 0, none⟩)]) (by simp) (by simp [go_sem]) ?_
  refine (idle ⟨w.heap.size, 0, none⟩ _).mono ?_
  rintro e u' w9 ⟨rfl, rfl, rfl⟩
  have j0 : (w2.setCell ⟨w.heap.size, 0, none⟩ (.bool r)).cell? ⟨w.heap.size, 0, none⟩ = some (.bool r) := by simp [go_sem, d0]
  simp [Leaves, settle, results, Try.f32, go_sem, j0, d0]
  exact HH.out.setCell (p := ⟨w.heap.size, 0, none⟩) (Nat.le_refl _) _
end Go.Proofs.Ytfhdmglfpkmjbaa.Hp
