/- The interval in memory; the walks of times, canEnd, roundsUp. -/
import Derived.Test.YtpejebohekcfoabGreatDoorA8
namespace Go.Proofs.YtpejebohekcfoabGreatDoor
open Go.RowKit
set_option linter.unusedVariables false

/-- four numbers and a truth behind a pointer, each number in a block of its own -/
def Iv (w : World) (B b : Nat) (V L U T : Nat) (cl : Bool) : Prop :=
  ∃ v1 v2 v3 v4 g1 g2 g3 g4, w.heap[b]? = some (.cells #[v1, v2, v3, v4, .bool cl] 76 (0, 0)) ∧ Num w v1 g1 V ∧ Num w v2 g2 L ∧ Num w v3 g3 U ∧ Num w v4 g4 T ∧
    g1 ≠ b ∧ g2 ≠ b ∧ g3 ≠ b ∧ g4 ≠ b ∧ g1 ≠ g2 ∧ g1 ≠ g3 ∧ g1 ≠ g4 ∧ g2 ≠ g3 ∧ g2 ≠ g4 ∧ g3 ≠ g4 ∧ B ≤ b ∧ B ≤ g1 ∧ B ≤ g2 ∧ B ≤ g3 ∧ B ≤ g4

theorem cells5_of {w : World} {b : Nat} {v1 v2 v3 v4 : Value} {cl : Bool} (h : w.heap[b]? = some (.cells #[v1, v2, v3, v4, .bool cl] 76 (0, 0))) : Cells5 w b v1 v2 v3 v4 cl :=
  ⟨cell_of_row w b 0 _ 76 (0, 0) h, cell_of_row w b 1 _ 76 (0, 0) h, cell_of_row w b 2 _ 76 (0, 0) h, cell_of_row w b 3 _ 76 (0, 0) h, cell_of_row w b 4 _ 76 (0, 0) h⟩

theorem Num.kept0 {w w' : World} {v : Value} {g N : Nat} (h : Num w v g N) (m : w.grownBy w' none) : Num w' v g N := by
  obtain ⟨cap, rfl, hown⟩ := h
  exact ⟨cap, rfl, hown.kept m (.inr (by simp [Value.ownBlock]))⟩

theorem canEnd_any (w : World) (B b V L U T : Nat) (cl : Bool) (K : Nat) (h : Iv w B b V L U T cl) (hV : V < 2 ^ K) (hL : L < 2 ^ K) (hU : U < 2 ^ K) (hT : T < 2 ^ K) (hK : K ≤ 60000000) :
    Calls Tryz.prog 52 #[.pointer (some ⟨b, 0, none⟩)] w fun e w' => e = .returned (.tuple #[.bool (inI (cmpI V L) cl), .bool (inI (cmpI T (V + U)) cl)]) ∧ w.grownBy w' none := by
  obtain ⟨v1, v2, v3, v4, g1, g2, g3, g4, hb, n1, n2, n3, n4, _⟩ := h
  have lV := len_small hV (by omega)
  have lL := len_small hL (by omega)
  have lU := len_small hU (by omega)
  have lT := len_small hT (by omega)
  have lS := len_small (show V + U < 2 ^ (K + 1) by rw [Nat.pow_succ]; omega) (by omega)
  refine canEnd_walk w b v1 v2 v3 v4 cl _ _ (cells5_of hb) (fun n => compare_fix (w.drewN n) v1 v2 g1 g2 V L n1 n2 lV lL) ?_
  intro w1 g
  refine (plus_any w1 v1 v3 g1 g3 V U (n1.kept0 g) (n3.kept0 g) lV lU).mono ?_
  rintro e w' ⟨v, gv, rfl, nv, gr, _⟩
  refine ⟨v, rfl, gr, ?_⟩
  intro w2 g2'
  exact compare_fix w2 v4 v g4 gv T (V + U) (((n4.kept0 g).kept0 gr).kept0 g2') (nv.kept0 g2') lT lS

theorem blk_kept {w w' : World} {b g g' : Nat} {o : Obj} (h : w.heap[b]? = some o) (m : Moved w w' g g') (hg : g ≠ b) : w'.heap[b]? = some o :=
  (m.grown.block b (Array.getElem?_eq_some_iff.1 h).1 (by simp; omega)).trans h

/-- a row of words -/
def Row22 (w : World) (k : Nat) : Prop := ∃ cur, w.heap[k]? = some (.cells cur 22 (0, 0))

/-- rows of words and the interval alone are touched -/
structure Tame (w w' : World) (b : Nat) : Prop where
  os : w'.os = w.os
  tape : w'.tape = w.tape
  output : w'.output = w.output
  size : w.heap.size ≤ w'.heap.size
  block : ∀ k, k < w.heap.size → k ≠ b → ¬ Row22 w k → w'.heap[k]? = w.heap[k]?

theorem Tame.refl (w : World) (b : Nat) : Tame w w b := ⟨rfl, rfl, rfl, Nat.le_refl _, fun _ _ _ _ => rfl⟩

theorem Tame.trans {w w1 w2 : World} {b : Nat} (h : Tame w w1 b) (k : Tame w1 w2 b) : Tame w w2 b := by
  refine ⟨k.os.trans h.os, k.tape.trans h.tape, k.output.trans h.output, Nat.le_trans h.size k.size, fun j hj hb hr => ?_⟩
  have e := h.block j hj hb hr
  refine (k.block j (by have := h.size; omega) hb ?_).trans e
  rintro ⟨cur, hc⟩
  exact hr ⟨cur, by rw [← e]; exact hc⟩

theorem Tame.of_none {w w' : World} {b : Nat} (h : w.grownBy w' none) : Tame w w' b := ⟨h.os, h.tape, h.output, h.size, fun k hk _ _ => h.block k hk (by simp)⟩

theorem Num.row {w : World} {v : Value} {g N : Nat} (h : Num w v g N) : Row22 w g := by
  obtain ⟨cap, rfl, hown⟩ := h
  rcases hown.2 with ⟨h', _⟩ | ⟨g', cap', cur, h', hb, hg, _⟩
  · simp at h'
  · simp only [Value.slice.injEq, Option.some.injEq, Addr.mk.injEq, and_true, true_and] at h'
    obtain ⟨rfl, rfl⟩ := h'
    exact ⟨cur, hg⟩

theorem Tame.of_grown {w w' : World} {b g N : Nat} {v : Value} (h : w.grownBy w' (some g)) (n : Num w v g N) : Tame w w' b :=
  ⟨h.os, h.tape, h.output, h.size, fun k hk _ hr => h.block k hk (by intro e; simp at e; subst e; exact hr n.row)⟩

theorem Tame.of_set (w : World) (b i : Nat) (u : Value) : Tame w (w.setCell ⟨b, i, none⟩ u) b :=
  ⟨rfl, rfl, rfl, by simp, fun k _ hb _ => Below.heap_setCell w ⟨b, i, none⟩ u k hb⟩

theorem below_none {B : Nat} {w w' : World} (h : w.grownBy w' none) (hB : B ≤ w.heap.size) : Below B w w' := ⟨h.os, h.tape, h.output, h.size, fun k hk => h.block k (by omega) (by simp)⟩

theorem below_some {B g : Nat} {w w' : World} (h : w.grownBy w' (some g)) (hB : B ≤ w.heap.size) (hg : B ≤ g) : Below B w w' := ⟨h.os, h.tape, h.output, h.size, fun k hk => h.block k (by omega) (by simp; omega)⟩

theorem blk_grown {w w' : World} {b g : Nat} {o : Obj} (h : w.heap[b]? = some o) (m : w.grownBy w' (some g)) (hg : g ≠ b) : w'.heap[b]? = some o :=
  (m.block b (Array.getElem?_eq_some_iff.1 h).1 (by simp; omega)).trans h

theorem Num.set {w : World} {v u : Value} {g N b i : Nat} (h : Num w v g N) (hg : g ≠ b) : Num (w.setCell ⟨b, i, none⟩ u) v g N := by
  have e : w.grownBy (w.setCell ⟨b, i, none⟩ u) (some b) := ⟨rfl, rfl, rfl, by simp, fun k _ hk => Below.heap_setCell w ⟨b, i, none⟩ u k (by intro h'; exact hk (by rw [h']))⟩
  exact h.kept e hg

end Go.Proofs.YtpejebohekcfoabGreatDoor
