/- The walk of around. -/
import Derived.Test.YtpejebohekcfoabGreatDoorA9
import Derived.Lib.Builder
namespace Go.Proofs.YtpejebohekcfoabGreatDoor
open Go.RowKit
set_option linter.unusedVariables false

theorem wds_one (x : Nat) (hx : 0 < x) (hx1 : x < 18446744073709551616) : wds x = [x] := by
  rw [wds_pos x (by omega), Nat.mod_eq_of_lt hx1, Nat.div_eq_of_lt hx1, wds_zero]

theorem num_new (x : Nat) (w : World) (hx : 0 < x) (hx1 : x < 18446744073709551616) :
    Num (w.alloc (.cells #[.int .u64 (x : Int)] 22)) (.slice (some ⟨w.heap.size, 0, none⟩) 1 1) w.heap.size x := by
  unfold Num Holds
  rw [wds_one x hx hx1]
  exact ⟨1, rfl, rfl, Or.inr ⟨w.heap.size, 1, #[.int .u64 (x : Int)], rfl, Nat.le_refl _, heap_alloc_new _ _, Nat.le_refl _, by decide, rfl, rfl⟩⟩

theorem grown_alloc (w : World) (o : Obj) : w.grownBy (w.alloc o) none :=
  ⟨rfl, rfl, rfl, by simp, fun k hk _ => Lib.alloc_old w o k hk⟩

theorem grown_new {w w' : World} {o : Obj} (h : (w.alloc o).grownBy w' (some w.heap.size)) : w.grownBy w' none := by
  refine ⟨h.os, h.tape, h.output, by have := h.size; simp at this; omega, fun k hk _ => ?_⟩
  rw [h.block k (by simp; omega) (by simp; omega)]
  exact Lib.alloc_old w o k hk

/-- a number of one word, made greater by a power of two -/
theorem made_any (X C : Int) (x c N : Nat) (w : World) (hX : X = x) (hC : C = c) (hx : 0 < x) (hx1 : x < 18446744073709551616) (hc : c ≤ 5000) (hN : Hid (x * 2 ^ c = N)) :
    Calls Tryz.prog 79 #[.slice (some ⟨w.heap.size, 0, none⟩) 1 1, .int .i64 C] (w.alloc (.cells #[.int .u64 X] 22)) fun e w' =>
      ∃ g l p : Nat, e = .returned (.slice (some ⟨g, 0, none⟩) l p) ∧ Hid (Num w' (.slice (some ⟨g, 0, none⟩) l p) g N ∧ w.heap.size ≤ g ∧ w.grownBy w' none) := by
  have hN := hN.out
  subst hN hX hC
  refine (shifted_any _ _ w.heap.size x c 64 (num_new x w hx hx1) (by omega) (by omega)).mono ?_
  rintro e w' ⟨v, g, rfl, n, m⟩
  have pl := m.place
  obtain ⟨p, rfl, o⟩ := n
  refine ⟨g, _, p, rfl, ⟨p, rfl, o⟩, ?_, grown_new m.grown⟩
  rcases pl with h | h
  · omega
  · simp at h; omega

/-- what around leaves -/
def Around (w w' : World) (v1 v2 v3 v4 : Value) (V L U T : Nat) : Prop :=
  ∃ g1 g2 g3 g4, Num w' v1 g1 V ∧ Num w' v2 g2 L ∧ Num w' v3 g3 U ∧ Num w' v4 g4 T ∧ w.heap.size ≤ g1 ∧ g1 < g2 ∧ g2 < g3 ∧ g3 < g4 ∧ Below w.heap.size w w'

def z5 : Array Value := #[.slice none 0 0, .slice none 0 0, .slice none 0 0, .slice none 0 0, .bool false]

theorem kept4 (w w1 w2 w3 w4 : World) (o : Obj) (h1 : (w.alloc o).grownBy w1 none) (h2 : w1.grownBy w2 none) (h3 : w2.grownBy w3 none) (h4 : w3.grownBy w4 none) : w4.heap[w.heap.size]? = some o := by
  have s1 := h1.size
  have s2 := h2.size
  have s3 := h3.size
  simp at s1
  rw [h4.block _ (by omega) (by simp), h3.block _ (by omega) (by simp), h2.block _ (by omega) (by simp), h1.block _ (by simp) (by simp)]
  exact heap_alloc_new w o

theorem row5 (w : World) (b : Nat) (v1 v2 v3 v4 : Value) (c0 cl : Bool) (u1 u2 u3 u4 : Value) (h : w.heap[b]? = some (.cells #[v1, v2, v3, v4, .bool c0] 76 (0, 0))) :
    Hid (((((((w.setCell ⟨b, 0, none⟩ u1).setCell ⟨b, 1, none⟩ u2).setCell ⟨b, 2, none⟩ u3).setCell ⟨b, 3, none⟩ u4).setCell ⟨b, 4, none⟩ (.bool cl))).heap[b]? = some (.cells #[u1, u2, u3, u4, .bool cl] 76 (0, 0))) := by
  have h1 := heap_setCell_same w b 0 _ 76 u1 h
  have h2 := heap_setCell_same _ b 1 _ 76 u2 h1
  have h3 := heap_setCell_same _ b 2 _ 76 u3 h2
  have h4 := heap_setCell_same _ b 3 _ 76 u4 h3
  have h5 := heap_setCell_same _ b 4 _ 76 (.bool cl) h4
  exact h5.trans rfl

theorem around_end (w w1 w2 w3 w4 : World) (cl : Bool) (N1 N2 N3 N4 g1 l1 p1 g2 l2 p2 g3 l3 p3 g4 l4 p4 : Nat) {o : Obj}
    (H1 : Hid (Num w1 (.slice (some ⟨g1, 0, none⟩) l1 p1) g1 N1 ∧ (w.alloc o).heap.size ≤ g1 ∧ (w.alloc o).grownBy w1 none))
    (H2 : Hid (Num w2 (.slice (some ⟨g2, 0, none⟩) l2 p2) g2 N2 ∧ w1.heap.size ≤ g2 ∧ w1.grownBy w2 none))
    (H3 : Hid (Num w3 (.slice (some ⟨g3, 0, none⟩) l3 p3) g3 N3 ∧ w2.heap.size ≤ g3 ∧ w2.grownBy w3 none))
    (H4 : Hid (Num w4 (.slice (some ⟨g4, 0, none⟩) l4 p4) g4 N4 ∧ w3.heap.size ≤ g4 ∧ w3.grownBy w4 none)) :
    Around w ((((((w4.setCell ⟨w.heap.size, 0, none⟩ (.slice (some ⟨g1, 0, none⟩) l1 p1)).setCell ⟨w.heap.size, 1, none⟩ (.slice (some ⟨g2, 0, none⟩) l2 p2)).setCell ⟨w.heap.size, 2, none⟩ (.slice (some ⟨g3, 0, none⟩) l3 p3)).setCell ⟨w.heap.size, 3, none⟩ (.slice (some ⟨g4, 0, none⟩) l4 p4)).setCell ⟨w.heap.size, 4, none⟩ (.bool cl)))
      (.slice (some ⟨g1, 0, none⟩) l1 p1) (.slice (some ⟨g2, 0, none⟩) l2 p2) (.slice (some ⟨g3, 0, none⟩) l3 p3) (.slice (some ⟨g4, 0, none⟩) l4 p4) N1 N2 N3 N4 := by
  obtain ⟨n1, b1, r1⟩ := H1.out
  obtain ⟨n2, b2, r2⟩ := H2.out
  obtain ⟨n3, b3, r3⟩ := H3.out
  obtain ⟨n4, b4, r4⟩ := H4.out
  have a1 := n1.lt
  have a2 := n2.lt
  have a3 := n3.lt
  have a4 := n4.lt
  simp at b1
  have s1 := r1.size
  have s2 := r2.size
  have s3 := r3.size
  have s4 := r4.size
  simp at s1
  have m1 := ((n1.kept0 r2).kept0 r3).kept0 r4
  have m2 := (n2.kept0 r3).kept0 r4
  have m3 := n3.kept0 r4
  have B0 : Below w.heap.size w w4 := ((((below_none (grown_alloc w o) (Nat.le_refl _)).trans (below_none r1 (by simp))).trans (below_none r2 (by omega))).trans (below_none r3 (by omega))).trans (below_none r4 (by omega))
  refine ⟨g1, g2, g3, g4, ?_, ?_, ?_, ?_, by omega, by omega, by omega, by omega, ?_⟩
  · exact ((((m1.set (by omega)).set (by omega)).set (by omega)).set (by omega)).set (by omega)
  · exact ((((m2.set (by omega)).set (by omega)).set (by omega)).set (by omega)).set (by omega)
  · exact ((((m3.set (by omega)).set (by omega)).set (by omega)).set (by omega)).set (by omega)
  · exact ((((n4.set (by omega)).set (by omega)).set (by omega)).set (by omega)).set (by omega)
  · exact ((((B0.setCell (p := ⟨w.heap.size, 0, none⟩) (Nat.le_refl _) _).setCell (p := ⟨w.heap.size, 1, none⟩) (Nat.le_refl _) _).setCell (p := ⟨w.heap.size, 2, none⟩) (Nat.le_refl _) _).setCell (p := ⟨w.heap.size, 3, none⟩) (Nat.le_refl _) _).setCell (p := ⟨w.heap.size, 4, none⟩) (Nat.le_refl _) _

set_option maxHeartbeats 2000000 in
theorem around_sub (A M : Int) (w : World) (N1 N2 N4 : Nat) (cl : Bool) (hcl : (A % 2 == 0) = cl) (e1 : bits .and .u64 A 4503599627370495 = A) (e2 : A / 4503599627370496 = 0) (e3 : IntKind.u64.wrap (4 * A) = M)
    (m1 : ∀ (w : World) (k : Nat), k = w.heap.size → Calls Tryz.prog 79 #[.slice (some ⟨k, 0, none⟩) 1 1, .int .i64 0] (w.alloc (.cells #[.int .u64 M] 22)) fun e w' => ∃ g l p : Nat, e = .returned (.slice (some ⟨g, 0, none⟩) l p) ∧ Hid (Num w' (.slice (some ⟨g, 0, none⟩) l p) g N1 ∧ w.heap.size ≤ g ∧ w.grownBy w' none))
    (m2 : ∀ (w : World) (k : Nat), k = w.heap.size → Calls Tryz.prog 79 #[.slice (some ⟨k, 0, none⟩) 1 1, .int .i64 0] (w.alloc (.cells #[.int .u64 2] 22)) fun e w' => ∃ g l p : Nat, e = .returned (.slice (some ⟨g, 0, none⟩) l p) ∧ Hid (Num w' (.slice (some ⟨g, 0, none⟩) l p) g N2 ∧ w.heap.size ≤ g ∧ w.grownBy w' none))
    (m4 : ∀ (w : World) (k : Nat), k = w.heap.size → Calls Tryz.prog 79 #[.slice (some ⟨k, 0, none⟩) 1 1, .int .i64 1074] (w.alloc (.cells #[.int .u64 4] 22)) fun e w' => ∃ g l p : Nat, e = .returned (.slice (some ⟨g, 0, none⟩) l p) ∧ Hid (Num w' (.slice (some ⟨g, 0, none⟩) l p) g N4 ∧ w.heap.size ≤ g ∧ w.grownBy w' none)) :
    Calls Tryz.prog 44 #[.int .u64 A] w fun e w' => ∃ v1 v2 v3 v4, e = .returned (.agg #[v1, v2, v3, v4, .bool cl]) ∧ Around w w' v1 v2 v3 v4 N1 N2 N2 N4 := by
  go_enter Tryz.func44, Tryz.ntmps44
  go_wp2_with fail
  refine (m1 _ _ (by simp)).mono ?_
  rintro e w1 ⟨g1, l1, p1, rfl, H1⟩
  go_wp2_with fail
  refine (m2 _ _ (by simp)).mono ?_
  rintro e w2 ⟨g2, l2, p2, rfl, H2⟩
  go_wp2_with fail
  refine (m2 _ _ (by simp)).mono ?_
  rintro e w3 ⟨g3, l3, p3, rfl, H3⟩
  go_wp2_with fail
  refine (m4 _ _ (by simp)).mono ?_
  rintro e w4 ⟨g4, l4, p4, rfl, H4⟩
  clear m1 m2 m4
  have K := kept4 w w1 w2 w3 w4 _ H1.out.2.2 H2.out.2.2 H3.out.2.2 H4.out.2.2
  have HA : Hid (Around w ((((((w4.setCell ⟨w.heap.size, 0, none⟩ (.slice (some ⟨g1, 0, none⟩) l1 p1)).setCell ⟨w.heap.size, 1, none⟩ (.slice (some ⟨g2, 0, none⟩) l2 p2)).setCell ⟨w.heap.size, 2, none⟩ (.slice (some ⟨g3, 0, none⟩) l3 p3)).setCell ⟨w.heap.size, 3, none⟩ (.slice (some ⟨g4, 0, none⟩) l4 p4)).setCell ⟨w.heap.size, 4, none⟩ (.bool cl)))
      (.slice (some ⟨g1, 0, none⟩) l1 p1) (.slice (some ⟨g2, 0, none⟩) l2 p2) (.slice (some ⟨g3, 0, none⟩) l3 p3) (.slice (some ⟨g4, 0, none⟩) l4 p4) N1 N2 N2 N4) := around_end w w1 w2 w3 w4 cl N1 N2 N2 N4 g1 l1 p1 g2 l2 p2 g3 l3 p3 g4 l4 p4 H1 H2 H3 H4
  have HR := row5 w4 w.heap.size _ _ _ _ false cl (.slice (some ⟨g1, 0, none⟩) l1 p1) (.slice (some ⟨g2, 0, none⟩) l2 p2) (.slice (some ⟨g3, 0, none⟩) l3 p3) (.slice (some ⟨g4, 0, none⟩) l4 p4) K
  obtain ⟨c0, c1, c2, c3, c4⟩ := cells5_of K
  have f0 := frozen_of_row w4 w.heap.size 0 _ 76 K
  have f1 := frozen_of_row w4 w.heap.size 1 _ 76 K
  have f2 := frozen_of_row w4 w.heap.size 2 _ 76 K
  have f3 := frozen_of_row w4 w.heap.size 3 _ 76 K
  have f4 := frozen_of_row w4 w.heap.size 4 _ 76 K
  clear K H1 H2 H3 H4
  go_wp2
  (try simp only [Exit.inBlock, Exit.then])
  refine bodyPost_ret (results_cell_row rfl _ _ w.heap.size 76 _ (0, 0) _ rfl HR.out Tryz.underlying76 rfl (by kernel_rfl)) rfl ?_
  exact ⟨_, _, _, _, rfl, HA.out⟩

end Go.Proofs.YtpejebohekcfoabGreatDoor
