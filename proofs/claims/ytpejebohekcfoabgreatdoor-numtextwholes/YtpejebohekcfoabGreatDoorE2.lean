/- The walk of around, of numbers with a bit ahead. -/
import Derived.Test.YtpejebohekcfoabGreatDoorE1
namespace Go.Proofs.YtpejebohekcfoabGreatDoor
open Go.RowKit
set_option linter.unusedVariables false

def Makes (X C : Int) (N : Nat) : Prop := ∀ (w : World) (k : Nat), k = w.heap.size → Calls Tryz.prog 79 #[.slice (some ⟨k, 0, none⟩) 1 1, .int .i64 C] (w.alloc (.cells #[.int .u64 X] 22)) fun e w' => ∃ g l p : Nat, e = .returned (.slice (some ⟨g, 0, none⟩) l p) ∧ Hid (Num w' (.slice (some ⟨g, 0, none⟩) l p) g N ∧ w.heap.size ≤ g ∧ w.grownBy w' none)

set_option maxHeartbeats 2000000 in
theorem around_pow_lo (A F E P M D : Int) (w : World) (N1 N2 N3 N4 : Nat) (cl : Bool) (hcl : (P.tmod 2 == 0) = cl) (e1 : bits .and .u64 A 4503599627370495 = F) (e2 : A / 4503599627370496 = E) (hE : 0 < E) (hE1 : E < 2047) (e3 : bits .or .u64 F 4503599627370496 = P) (e4 : IntKind.u64.wrap (4 * P) = M)
    (hf : (F == 0) = true) (hf1 : 1 < E) (hx : -1074 + (E - 1) < 0) (hd : -(-1074 + (E - 1)) = D)
    (m1 : Makes M 0 N1) (m2 : Makes 1 0 N2) (m3 : Makes 2 0 N3) (m4 : Makes 4 D N4) :
    Calls Tryz.prog 44 #[.int .u64 A] w fun e w' => ∃ v1 v2 v3 v4, e = .returned (.agg #[v1, v2, v3, v4, .bool cl]) ∧ Around w w' v1 v2 v3 v4 N1 N2 N3 N4 := by
  unfold Makes at *
  go_enter Tryz.func44, Tryz.ntmps44
  go_wp2_with fail
  refine (m1 _ _ (by simp)).mono ?_
  rintro e w1 ⟨g1, l1, p1, rfl, H1⟩
  go_wp2_with fail
  refine (m2 _ _ (by simp)).mono ?_
  rintro e w2 ⟨g2, l2, p2, rfl, H2⟩
  go_wp2_with fail
  refine (m3 _ _ (by simp)).mono ?_
  rintro e w3 ⟨g3, l3, p3, rfl, H3⟩
  go_wp2_with fail
  refine (m4 _ _ (by simp)).mono ?_
  rintro e w4 ⟨g4, l4, p4, rfl, H4⟩
  clear m1 m2 m3 m4
  have K := kept4 w w1 w2 w3 w4 _ H1.out.2.2 H2.out.2.2 H3.out.2.2 H4.out.2.2
  have HA : Hid (Around w ((((((w4.setCell ⟨w.heap.size, 0, none⟩ (.slice (some ⟨g1, 0, none⟩) l1 p1)).setCell ⟨w.heap.size, 1, none⟩ (.slice (some ⟨g2, 0, none⟩) l2 p2)).setCell ⟨w.heap.size, 2, none⟩ (.slice (some ⟨g3, 0, none⟩) l3 p3)).setCell ⟨w.heap.size, 3, none⟩ (.slice (some ⟨g4, 0, none⟩) l4 p4)).setCell ⟨w.heap.size, 4, none⟩ (.bool cl)))
      (.slice (some ⟨g1, 0, none⟩) l1 p1) (.slice (some ⟨g2, 0, none⟩) l2 p2) (.slice (some ⟨g3, 0, none⟩) l3 p3) (.slice (some ⟨g4, 0, none⟩) l4 p4) N1 N2 N3 N4) := around_end w w1 w2 w3 w4 cl N1 N2 N3 N4 g1 l1 p1 g2 l2 p2 g3 l3 p3 g4 l4 p4 H1 H2 H3 H4
  have HR := row5 w4 w.heap.size _ _ _ _ false cl (.slice (some ⟨g1, 0, none⟩) l1 p1) (.slice (some ⟨g2, 0, none⟩) l2 p2) (.slice (some ⟨g3, 0, none⟩) l3 p3) (.slice (some ⟨g4, 0, none⟩) l4 p4) K
  obtain ⟨c0, c1, c2, c3, c4⟩ := cells5_of K
  have f0 := frozen_of_row w4 w.heap.size 0 _ 76 K
  have f1 := frozen_of_row w4 w.heap.size 1 _ 76 K
  have f2 := frozen_of_row w4 w.heap.size 2 _ 76 K
  have f3 := frozen_of_row w4 w.heap.size 3 _ 76 K
  have f4 := frozen_of_row w4 w.heap.size 4 _ 76 K
  clear K H1 H2 H3 H4
  go_wp2
  (try simp only [Exit.inBlock, Exit.then])
  refine bodyPost_ret (results_cell_row rfl _ _ w.heap.size 76 _ (0, 0) _ rfl HR.out Tryz.underlying76 rfl (by kernel_rfl)) rfl ?_
  exact ⟨_, _, _, _, rfl, HA.out⟩

set_option maxHeartbeats 2000000 in
theorem around_pow_mid (A F E P M D : Int) (w : World) (N1 N2 N3 N4 : Nat) (cl : Bool) (hcl : (P.tmod 2 == 0) = cl) (e1 : bits .and .u64 A 4503599627370495 = F) (e2 : A / 4503599627370496 = E) (hE : 0 < E) (hE1 : E < 2047) (e3 : bits .or .u64 F 4503599627370496 = P) (e4 : IntKind.u64.wrap (4 * P) = M)
    (hf : (F == 0) = true) (hf1 : 1 < E) (hx : E = 1075)
    (m1 : Makes M 0 N1) (m2 : Makes 1 0 N2) (m3 : Makes 2 0 N3) (m4 : Makes 4 0 N4) :
    Calls Tryz.prog 44 #[.int .u64 A] w fun e w' => ∃ v1 v2 v3 v4, e = .returned (.agg #[v1, v2, v3, v4, .bool cl]) ∧ Around w w' v1 v2 v3 v4 N1 N2 N3 N4 := by
  unfold Makes at *
  subst hx
  go_enter Tryz.func44, Tryz.ntmps44
  go_wp2_with fail
  refine (m1 _ _ (by simp)).mono ?_
  rintro e w1 ⟨g1, l1, p1, rfl, H1⟩
  go_wp2_with fail
  refine (m2 _ _ (by simp)).mono ?_
  rintro e w2 ⟨g2, l2, p2, rfl, H2⟩
  go_wp2_with fail
  refine (m3 _ _ (by simp)).mono ?_
  rintro e w3 ⟨g3, l3, p3, rfl, H3⟩
  go_wp2_with fail
  refine (m4 _ _ (by simp)).mono ?_
  rintro e w4 ⟨g4, l4, p4, rfl, H4⟩
  clear m1 m2 m3 m4
  have K := kept4 w w1 w2 w3 w4 _ H1.out.2.2 H2.out.2.2 H3.out.2.2 H4.out.2.2
  have HA : Hid (Around w ((((((w4.setCell ⟨w.heap.size, 0, none⟩ (.slice (some ⟨g1, 0, none⟩) l1 p1)).setCell ⟨w.heap.size, 1, none⟩ (.slice (some ⟨g2, 0, none⟩) l2 p2)).setCell ⟨w.heap.size, 2, none⟩ (.slice (some ⟨g3, 0, none⟩) l3 p3)).setCell ⟨w.heap.size, 3, none⟩ (.slice (some ⟨g4, 0, none⟩) l4 p4)).setCell ⟨w.heap.size, 4, none⟩ (.bool cl)))
      (.slice (some ⟨g1, 0, none⟩) l1 p1) (.slice (some ⟨g2, 0, none⟩) l2 p2) (.slice (some ⟨g3, 0, none⟩) l3 p3) (.slice (some ⟨g4, 0, none⟩) l4 p4) N1 N2 N3 N4) := around_end w w1 w2 w3 w4 cl N1 N2 N3 N4 g1 l1 p1 g2 l2 p2 g3 l3 p3 g4 l4 p4 H1 H2 H3 H4
  have HR := row5 w4 w.heap.size _ _ _ _ false cl (.slice (some ⟨g1, 0, none⟩) l1 p1) (.slice (some ⟨g2, 0, none⟩) l2 p2) (.slice (some ⟨g3, 0, none⟩) l3 p3) (.slice (some ⟨g4, 0, none⟩) l4 p4) K
  obtain ⟨c0, c1, c2, c3, c4⟩ := cells5_of K
  have f0 := frozen_of_row w4 w.heap.size 0 _ 76 K
  have f1 := frozen_of_row w4 w.heap.size 1 _ 76 K
  have f2 := frozen_of_row w4 w.heap.size 2 _ 76 K
  have f3 := frozen_of_row w4 w.heap.size 3 _ 76 K
  have f4 := frozen_of_row w4 w.heap.size 4 _ 76 K
  clear K H1 H2 H3 H4
  go_wp2
  (try simp only [Exit.inBlock, Exit.then])
  refine bodyPost_ret (results_cell_row rfl _ _ w.heap.size 76 _ (0, 0) _ rfl HR.out Tryz.underlying76 rfl (by kernel_rfl)) rfl ?_
  exact ⟨_, _, _, _, rfl, HA.out⟩

set_option maxHeartbeats 2000000 in
theorem around_pow_hi (A F E P M D : Int) (w : World) (N1 N2 N3 N4 : Nat) (cl : Bool) (hcl : (P.tmod 2 == 0) = cl) (e1 : bits .and .u64 A 4503599627370495 = F) (e2 : A / 4503599627370496 = E) (hE : 0 < E) (hE1 : E < 2047) (e3 : bits .or .u64 F 4503599627370496 = P) (e4 : IntKind.u64.wrap (4 * P) = M)
    (hf : (F == 0) = true) (hf1 : 1 < E) (hx : 0 < -1074 + (E - 1)) (hd : -1074 + (E - 1) = D)
    (m1 : Makes M D N1) (m2 : Makes 1 D N2) (m3 : Makes 2 D N3) (m4 : Makes 4 0 N4) :
    Calls Tryz.prog 44 #[.int .u64 A] w fun e w' => ∃ v1 v2 v3 v4, e = .returned (.agg #[v1, v2, v3, v4, .bool cl]) ∧ Around w w' v1 v2 v3 v4 N1 N2 N3 N4 := by
  unfold Makes at *
  go_enter Tryz.func44, Tryz.ntmps44
  go_wp2_with fail
  refine (m1 _ _ (by simp)).mono ?_
  rintro e w1 ⟨g1, l1, p1, rfl, H1⟩
  go_wp2_with fail
  refine (m2 _ _ (by simp)).mono ?_
  rintro e w2 ⟨g2, l2, p2, rfl, H2⟩
  go_wp2_with fail
  refine (m3 _ _ (by simp)).mono ?_
  rintro e w3 ⟨g3, l3, p3, rfl, H3⟩
  go_wp2_with fail
  refine (m4 _ _ (by simp)).mono ?_
  rintro e w4 ⟨g4, l4, p4, rfl, H4⟩
  clear m1 m2 m3 m4
  have K := kept4 w w1 w2 w3 w4 _ H1.out.2.2 H2.out.2.2 H3.out.2.2 H4.out.2.2
  have HA : Hid (Around w ((((((w4.setCell ⟨w.heap.size, 0, none⟩ (.slice (some ⟨g1, 0, none⟩) l1 p1)).setCell ⟨w.heap.size, 1, none⟩ (.slice (some ⟨g2, 0, none⟩) l2 p2)).setCell ⟨w.heap.size, 2, none⟩ (.slice (some ⟨g3, 0, none⟩) l3 p3)).setCell ⟨w.heap.size, 3, none⟩ (.slice (some ⟨g4, 0, none⟩) l4 p4)).setCell ⟨w.heap.size, 4, none⟩ (.bool cl)))
      (.slice (some ⟨g1, 0, none⟩) l1 p1) (.slice (some ⟨g2, 0, none⟩) l2 p2) (.slice (some ⟨g3, 0, none⟩) l3 p3) (.slice (some ⟨g4, 0, none⟩) l4 p4) N1 N2 N3 N4) := around_end w w1 w2 w3 w4 cl N1 N2 N3 N4 g1 l1 p1 g2 l2 p2 g3 l3 p3 g4 l4 p4 H1 H2 H3 H4
  have HR := row5 w4 w.heap.size _ _ _ _ false cl (.slice (some ⟨g1, 0, none⟩) l1 p1) (.slice (some ⟨g2, 0, none⟩) l2 p2) (.slice (some ⟨g3, 0, none⟩) l3 p3) (.slice (some ⟨g4, 0, none⟩) l4 p4) K
  obtain ⟨c0, c1, c2, c3, c4⟩ := cells5_of K
  have f0 := frozen_of_row w4 w.heap.size 0 _ 76 K
  have f1 := frozen_of_row w4 w.heap.size 1 _ 76 K
  have f2 := frozen_of_row w4 w.heap.size 2 _ 76 K
  have f3 := frozen_of_row w4 w.heap.size 3 _ 76 K
  have f4 := frozen_of_row w4 w.heap.size 4 _ 76 K
  clear K H1 H2 H3 H4
  go_wp2
  (try simp only [Exit.inBlock, Exit.then])
  refine bodyPost_ret (results_cell_row rfl _ _ w.heap.size 76 _ (0, 0) _ rfl HR.out Tryz.underlying76 rfl (by kernel_rfl)) rfl ?_
  exact ⟨_, _, _, _, rfl, HA.out⟩

set_option maxHeartbeats 2000000 in
theorem around_nz_lo (A F E P M D : Int) (w : World) (N1 N2 N3 N4 : Nat) (cl : Bool) (hcl : (P.tmod 2 == 0) = cl) (e1 : bits .and .u64 A 4503599627370495 = F) (e2 : A / 4503599627370496 = E) (hE : 0 < E) (hE1 : E < 2047) (e3 : bits .or .u64 F 4503599627370496 = P) (e4 : IntKind.u64.wrap (4 * P) = M)
    (hf : (F == 0) = false) (hx : -1074 + (E - 1) < 0) (hd : -(-1074 + (E - 1)) = D)
    (m1 : Makes M 0 N1) (m2 : Makes 2 0 N2) (m3 : Makes 2 0 N3) (m4 : Makes 4 D N4) :
    Calls Tryz.prog 44 #[.int .u64 A] w fun e w' => ∃ v1 v2 v3 v4, e = .returned (.agg #[v1, v2, v3, v4, .bool cl]) ∧ Around w w' v1 v2 v3 v4 N1 N2 N3 N4 := by
  unfold Makes at *
  go_enter Tryz.func44, Tryz.ntmps44
  go_wp2_with fail
  refine (m1 _ _ (by simp)).mono ?_
  rintro e w1 ⟨g1, l1, p1, rfl, H1⟩
  go_wp2_with fail
  refine (m2 _ _ (by simp)).mono ?_
  rintro e w2 ⟨g2, l2, p2, rfl, H2⟩
  go_wp2_with fail
  refine (m3 _ _ (by simp)).mono ?_
  rintro e w3 ⟨g3, l3, p3, rfl, H3⟩
  go_wp2_with fail
  refine (m4 _ _ (by simp)).mono ?_
  rintro e w4 ⟨g4, l4, p4, rfl, H4⟩
  clear m1 m2 m3 m4
  have K := kept4 w w1 w2 w3 w4 _ H1.out.2.2 H2.out.2.2 H3.out.2.2 H4.out.2.2
  have HA : Hid (Around w ((((((w4.setCell ⟨w.heap.size, 0, none⟩ (.slice (some ⟨g1, 0, none⟩) l1 p1)).setCell ⟨w.heap.size, 1, none⟩ (.slice (some ⟨g2, 0, none⟩) l2 p2)).setCell ⟨w.heap.size, 2, none⟩ (.slice (some ⟨g3, 0, none⟩) l3 p3)).setCell ⟨w.heap.size, 3, none⟩ (.slice (some ⟨g4, 0, none⟩) l4 p4)).setCell ⟨w.heap.size, 4, none⟩ (.bool cl)))
      (.slice (some ⟨g1, 0, none⟩) l1 p1) (.slice (some ⟨g2, 0, none⟩) l2 p2) (.slice (some ⟨g3, 0, none⟩) l3 p3) (.slice (some ⟨g4, 0, none⟩) l4 p4) N1 N2 N3 N4) := around_end w w1 w2 w3 w4 cl N1 N2 N3 N4 g1 l1 p1 g2 l2 p2 g3 l3 p3 g4 l4 p4 H1 H2 H3 H4
  have HR := row5 w4 w.heap.size _ _ _ _ false cl (.slice (some ⟨g1, 0, none⟩) l1 p1) (.slice (some ⟨g2, 0, none⟩) l2 p2) (.slice (some ⟨g3, 0, none⟩) l3 p3) (.slice (some ⟨g4, 0, none⟩) l4 p4) K
  obtain ⟨c0, c1, c2, c3, c4⟩ := cells5_of K
  have f0 := frozen_of_row w4 w.heap.size 0 _ 76 K
  have f1 := frozen_of_row w4 w.heap.size 1 _ 76 K
  have f2 := frozen_of_row w4 w.heap.size 2 _ 76 K
  have f3 := frozen_of_row w4 w.heap.size 3 _ 76 K
  have f4 := frozen_of_row w4 w.heap.size 4 _ 76 K
  clear K H1 H2 H3 H4
  go_wp2
  (try simp only [Exit.inBlock, Exit.then])
  refine bodyPost_ret (results_cell_row rfl _ _ w.heap.size 76 _ (0, 0) _ rfl HR.out Tryz.underlying76 rfl (by kernel_rfl)) rfl ?_
  exact ⟨_, _, _, _, rfl, HA.out⟩

set_option maxHeartbeats 2000000 in
theorem around_nz_mid (A F E P M D : Int) (w : World) (N1 N2 N3 N4 : Nat) (cl : Bool) (hcl : (P.tmod 2 == 0) = cl) (e1 : bits .and .u64 A 4503599627370495 = F) (e2 : A / 4503599627370496 = E) (hE : 0 < E) (hE1 : E < 2047) (e3 : bits .or .u64 F 4503599627370496 = P) (e4 : IntKind.u64.wrap (4 * P) = M)
    (hf : (F == 0) = false) (hx : E = 1075)
    (m1 : Makes M 0 N1) (m2 : Makes 2 0 N2) (m3 : Makes 2 0 N3) (m4 : Makes 4 0 N4) :
    Calls Tryz.prog 44 #[.int .u64 A] w fun e w' => ∃ v1 v2 v3 v4, e = .returned (.agg #[v1, v2, v3, v4, .bool cl]) ∧ Around w w' v1 v2 v3 v4 N1 N2 N3 N4 := by
  unfold Makes at *
  subst hx
  go_enter Tryz.func44, Tryz.ntmps44
  go_wp2_with fail
  refine (m1 _ _ (by simp)).mono ?_
  rintro e w1 ⟨g1, l1, p1, rfl, H1⟩
  go_wp2_with fail
  refine (m2 _ _ (by simp)).mono ?_
  rintro e w2 ⟨g2, l2, p2, rfl, H2⟩
  go_wp2_with fail
  refine (m3 _ _ (by simp)).mono ?_
  rintro e w3 ⟨g3, l3, p3, rfl, H3⟩
  go_wp2_with fail
  refine (m4 _ _ (by simp)).mono ?_
  rintro e w4 ⟨g4, l4, p4, rfl, H4⟩
  clear m1 m2 m3 m4
  have K := kept4 w w1 w2 w3 w4 _ H1.out.2.2 H2.out.2.2 H3.out.2.2 H4.out.2.2
  have HA : Hid (Around w ((((((w4.setCell ⟨w.heap.size, 0, none⟩ (.slice (some ⟨g1, 0, none⟩) l1 p1)).setCell ⟨w.heap.size, 1, none⟩ (.slice (some ⟨g2, 0, none⟩) l2 p2)).setCell ⟨w.heap.size, 2, none⟩ (.slice (some ⟨g3, 0, none⟩) l3 p3)).setCell ⟨w.heap.size, 3, none⟩ (.slice (some ⟨g4, 0, none⟩) l4 p4)).setCell ⟨w.heap.size, 4, none⟩ (.bool cl)))
      (.slice (some ⟨g1, 0, none⟩) l1 p1) (.slice (some ⟨g2, 0, none⟩) l2 p2) (.slice (some ⟨g3, 0, none⟩) l3 p3) (.slice (some ⟨g4, 0, none⟩) l4 p4) N1 N2 N3 N4) := around_end w w1 w2 w3 w4 cl N1 N2 N3 N4 g1 l1 p1 g2 l2 p2 g3 l3 p3 g4 l4 p4 H1 H2 H3 H4
  have HR := row5 w4 w.heap.size _ _ _ _ false cl (.slice (some ⟨g1, 0, none⟩) l1 p1) (.slice (some ⟨g2, 0, none⟩) l2 p2) (.slice (some ⟨g3, 0, none⟩) l3 p3) (.slice (some ⟨g4, 0, none⟩) l4 p4) K
  obtain ⟨c0, c1, c2, c3, c4⟩ := cells5_of K
  have f0 := frozen_of_row w4 w.heap.size 0 _ 76 K
  have f1 := frozen_of_row w4 w.heap.size 1 _ 76 K
  have f2 := frozen_of_row w4 w.heap.size 2 _ 76 K
  have f3 := frozen_of_row w4 w.heap.size 3 _ 76 K
  have f4 := frozen_of_row w4 w.heap.size 4 _ 76 K
  clear K H1 H2 H3 H4
  go_wp2
  (try simp only [Exit.inBlock, Exit.then])
  refine bodyPost_ret (results_cell_row rfl _ _ w.heap.size 76 _ (0, 0) _ rfl HR.out Tryz.underlying76 rfl (by kernel_rfl)) rfl ?_
  exact ⟨_, _, _, _, rfl, HA.out⟩

set_option maxHeartbeats 2000000 in
theorem around_nz_hi (A F E P M D : Int) (w : World) (N1 N2 N3 N4 : Nat) (cl : Bool) (hcl : (P.tmod 2 == 0) = cl) (e1 : bits .and .u64 A 4503599627370495 = F) (e2 : A / 4503599627370496 = E) (hE : 0 < E) (hE1 : E < 2047) (e3 : bits .or .u64 F 4503599627370496 = P) (e4 : IntKind.u64.wrap (4 * P) = M)
    (hf : (F == 0) = false) (hx : 0 < -1074 + (E - 1)) (hd : -1074 + (E - 1) = D)
    (m1 : Makes M D N1) (m2 : Makes 2 D N2) (m3 : Makes 2 D N3) (m4 : Makes 4 0 N4) :
    Calls Tryz.prog 44 #[.int .u64 A] w fun e w' => ∃ v1 v2 v3 v4, e = .returned (.agg #[v1, v2, v3, v4, .bool cl]) ∧ Around w w' v1 v2 v3 v4 N1 N2 N3 N4 := by
  unfold Makes at *
  go_enter Tryz.func44, Tryz.ntmps44
  go_wp2_with fail
  refine (m1 _ _ (by simp)).mono ?_
  rintro e w1 ⟨g1, l1, p1, rfl, H1⟩
  go_wp2_with fail
  refine (m2 _ _ (by simp)).mono ?_
  rintro e w2 ⟨g2, l2, p2, rfl, H2⟩
  go_wp2_with fail
  refine (m3 _ _ (by simp)).mono ?_
  rintro e w3 ⟨g3, l3, p3, rfl, H3⟩
  go_wp2_with fail
  refine (m4 _ _ (by simp)).mono ?_
  rintro e w4 ⟨g4, l4, p4, rfl, H4⟩
  clear m1 m2 m3 m4
  have K := kept4 w w1 w2 w3 w4 _ H1.out.2.2 H2.out.2.2 H3.out.2.2 H4.out.2.2
  have HA : Hid (Around w ((((((w4.setCell ⟨w.heap.size, 0, none⟩ (.slice (some ⟨g1, 0, none⟩) l1 p1)).setCell ⟨w.heap.size, 1, none⟩ (.slice (some ⟨g2, 0, none⟩) l2 p2)).setCell ⟨w.heap.size, 2, none⟩ (.slice (some ⟨g3, 0, none⟩) l3 p3)).setCell ⟨w.heap.size, 3, none⟩ (.slice (some ⟨g4, 0, none⟩) l4 p4)).setCell ⟨w.heap.size, 4, none⟩ (.bool cl)))
      (.slice (some ⟨g1, 0, none⟩) l1 p1) (.slice (some ⟨g2, 0, none⟩) l2 p2) (.slice (some ⟨g3, 0, none⟩) l3 p3) (.slice (some ⟨g4, 0, none⟩) l4 p4) N1 N2 N3 N4) := around_end w w1 w2 w3 w4 cl N1 N2 N3 N4 g1 l1 p1 g2 l2 p2 g3 l3 p3 g4 l4 p4 H1 H2 H3 H4
  have HR := row5 w4 w.heap.size _ _ _ _ false cl (.slice (some ⟨g1, 0, none⟩) l1 p1) (.slice (some ⟨g2, 0, none⟩) l2 p2) (.slice (some ⟨g3, 0, none⟩) l3 p3) (.slice (some ⟨g4, 0, none⟩) l4 p4) K
  obtain ⟨c0, c1, c2, c3, c4⟩ := cells5_of K
  have f0 := frozen_of_row w4 w.heap.size 0 _ 76 K
  have f1 := frozen_of_row w4 w.heap.size 1 _ 76 K
  have f2 := frozen_of_row w4 w.heap.size 2 _ 76 K
  have f3 := frozen_of_row w4 w.heap.size 3 _ 76 K
  have f4 := frozen_of_row w4 w.heap.size 4 _ 76 K
  clear K H1 H2 H3 H4
  go_wp2
  (try simp only [Exit.inBlock, Exit.then])
  refine bodyPost_ret (results_cell_row rfl _ _ w.heap.size 76 _ (0, 0) _ rfl HR.out Tryz.underlying76 rfl (by kernel_rfl)) rfl ?_
  exact ⟨_, _, _, _, rfl, HA.out⟩

set_option maxHeartbeats 2000000 in
theorem around_one_lo (A F E P M D : Int) (w : World) (N1 N2 N3 N4 : Nat) (cl : Bool) (hcl : (P.tmod 2 == 0) = cl) (e1 : bits .and .u64 A 4503599627370495 = F) (e2 : A / 4503599627370496 = E) (hE : 0 < E) (hE1 : E < 2047) (e3 : bits .or .u64 F 4503599627370496 = P) (e4 : IntKind.u64.wrap (4 * P) = M)
    (hf : (F == 0) = true) (hf1 : E ≤ 1) (hx : -1074 + (E - 1) < 0) (hd : -(-1074 + (E - 1)) = D)
    (m1 : Makes M 0 N1) (m2 : Makes 2 0 N2) (m3 : Makes 2 0 N3) (m4 : Makes 4 D N4) :
    Calls Tryz.prog 44 #[.int .u64 A] w fun e w' => ∃ v1 v2 v3 v4, e = .returned (.agg #[v1, v2, v3, v4, .bool cl]) ∧ Around w w' v1 v2 v3 v4 N1 N2 N3 N4 := by
  unfold Makes at *
  go_enter Tryz.func44, Tryz.ntmps44
  go_wp2_with fail
  refine (m1 _ _ (by simp)).mono ?_
  rintro e w1 ⟨g1, l1, p1, rfl, H1⟩
  go_wp2_with fail
  refine (m2 _ _ (by simp)).mono ?_
  rintro e w2 ⟨g2, l2, p2, rfl, H2⟩
  go_wp2_with fail
  refine (m3 _ _ (by simp)).mono ?_
  rintro e w3 ⟨g3, l3, p3, rfl, H3⟩
  go_wp2_with fail
  refine (m4 _ _ (by simp)).mono ?_
  rintro e w4 ⟨g4, l4, p4, rfl, H4⟩
  clear m1 m2 m3 m4
  have K := kept4 w w1 w2 w3 w4 _ H1.out.2.2 H2.out.2.2 H3.out.2.2 H4.out.2.2
  have HA : Hid (Around w ((((((w4.setCell ⟨w.heap.size, 0, none⟩ (.slice (some ⟨g1, 0, none⟩) l1 p1)).setCell ⟨w.heap.size, 1, none⟩ (.slice (some ⟨g2, 0, none⟩) l2 p2)).setCell ⟨w.heap.size, 2, none⟩ (.slice (some ⟨g3, 0, none⟩) l3 p3)).setCell ⟨w.heap.size, 3, none⟩ (.slice (some ⟨g4, 0, none⟩) l4 p4)).setCell ⟨w.heap.size, 4, none⟩ (.bool cl)))
      (.slice (some ⟨g1, 0, none⟩) l1 p1) (.slice (some ⟨g2, 0, none⟩) l2 p2) (.slice (some ⟨g3, 0, none⟩) l3 p3) (.slice (some ⟨g4, 0, none⟩) l4 p4) N1 N2 N3 N4) := around_end w w1 w2 w3 w4 cl N1 N2 N3 N4 g1 l1 p1 g2 l2 p2 g3 l3 p3 g4 l4 p4 H1 H2 H3 H4
  have HR := row5 w4 w.heap.size _ _ _ _ false cl (.slice (some ⟨g1, 0, none⟩) l1 p1) (.slice (some ⟨g2, 0, none⟩) l2 p2) (.slice (some ⟨g3, 0, none⟩) l3 p3) (.slice (some ⟨g4, 0, none⟩) l4 p4) K
  obtain ⟨c0, c1, c2, c3, c4⟩ := cells5_of K
  have f0 := frozen_of_row w4 w.heap.size 0 _ 76 K
  have f1 := frozen_of_row w4 w.heap.size 1 _ 76 K
  have f2 := frozen_of_row w4 w.heap.size 2 _ 76 K
  have f3 := frozen_of_row w4 w.heap.size 3 _ 76 K
  have f4 := frozen_of_row w4 w.heap.size 4 _ 76 K
  clear K H1 H2 H3 H4
  go_wp2
  (try simp only [Exit.inBlock, Exit.then])
  refine bodyPost_ret (results_cell_row rfl _ _ w.heap.size 76 _ (0, 0) _ rfl HR.out Tryz.underlying76 rfl (by kernel_rfl)) rfl ?_
  exact ⟨_, _, _, _, rfl, HA.out⟩

end Go.Proofs.YtpejebohekcfoabGreatDoor
