/- The walk of times. -/
import Derived.Test.YtpejebohekcfoabGreatDoorA11
namespace Go.Proofs.YtpejebohekcfoabGreatDoor
open Go.RowKit
set_option linter.unusedVariables false

/-- a number's value -/
def sl (g N p : Nat) : Value := .slice (some ⟨g, 0, none⟩) (wds N).length p

/-- the interval, its numbers' values told -/
def IvV (w : World) (B b : Nat) (v1 v2 v3 v4 : Value) (cl : Bool) (V L U T : Nat) (g1 g2 g3 g4 : Nat) (u1 u2 u3 : Value) : Prop :=
  w.heap[b]? = some (.cells #[v1, v2, v3, v4, .bool cl] 76 (0, 0)) ∧ Num w u1 g1 V ∧ Num w u2 g2 L ∧ Num w u3 g3 U ∧ Num w v4 g4 T ∧
    g1 ≠ b ∧ g2 ≠ b ∧ g3 ≠ b ∧ g4 ≠ b ∧ g1 ≠ g2 ∧ g1 ≠ g3 ∧ g1 ≠ g4 ∧ g2 ≠ g3 ∧ g2 ≠ g4 ∧ g3 ≠ g4 ∧ B ≤ b ∧ B ≤ g1 ∧ B ≤ g2 ∧ B ≤ g3 ∧ B ≤ g4

/-- one of the numbers is made greater -/
theorem step1 {w w1 : World} {B b : Nat} {v1 v2 v3 v4 : Value} {cl : Bool} {V L U T g1 g2 g3 g4 k1 N : Nat} {u1 u2 u3 u : Value} (h : IvV w B b v1 v2 v3 v4 cl V L U T g1 g2 g3 g4 u1 u2 u3) (m : Num w1 u k1 N) (mv : Moved w w1 g1 k1) :
    IvV w1 B b v1 v2 v3 v4 cl N L U T k1 g2 g3 g4 u u2 u3 ∧ Tame w w1 b ∧ Below B w w1 := by
  obtain ⟨hb, n1, n2, n3, n4, s1, s2, s3, s4, s5, s6, s7, s8, s9, s10, b0, b1, b2, b3, b4⟩ := h
  have l1 := n1.lt
  have l2 := n2.lt
  have l3 := n3.lt
  have l4 := n4.lt
  have lb : b < w.heap.size := (Array.getElem?_eq_some_iff.1 hb).1
  have pl := mv.place
  exact ⟨⟨blk_kept hb mv s1, m, n2.kept mv.grown (by omega), n3.kept mv.grown (by omega), n4.kept mv.grown (by omega), by omega, s2, s3, s4, by omega, by omega, by omega, s8, s9, s10, b0, by omega, b2, b3, b4⟩,
    Tame.of_grown mv.grown n1, mv.below b1 (by omega)⟩

theorem step2 {w w1 : World} {B b : Nat} {v1 v2 v3 v4 : Value} {cl : Bool} {V L U T g1 g2 g3 g4 k2 N : Nat} {u1 u2 u3 u : Value} (h : IvV w B b v1 v2 v3 v4 cl V L U T g1 g2 g3 g4 u1 u2 u3) (m : Num w1 u k2 N) (mv : Moved w w1 g2 k2) :
    IvV w1 B b v1 v2 v3 v4 cl V N U T g1 k2 g3 g4 u1 u u3 ∧ Tame w w1 b ∧ Below B w w1 := by
  obtain ⟨hb, n1, n2, n3, n4, s1, s2, s3, s4, s5, s6, s7, s8, s9, s10, b0, b1, b2, b3, b4⟩ := h
  have l1 := n1.lt
  have l2 := n2.lt
  have l3 := n3.lt
  have l4 := n4.lt
  have lb : b < w.heap.size := (Array.getElem?_eq_some_iff.1 hb).1
  have pl := mv.place
  exact ⟨⟨blk_kept hb mv s2, n1.kept mv.grown (by omega), m, n3.kept mv.grown (by omega), n4.kept mv.grown (by omega), s1, by omega, s3, s4, by omega, s6, s7, by omega, by omega, s10, b0, b1, by omega, b3, b4⟩,
    Tame.of_grown mv.grown n2, mv.below b2 (by omega)⟩

theorem step3 {w w1 : World} {B b : Nat} {v1 v2 v3 v4 : Value} {cl : Bool} {V L U T g1 g2 g3 g4 k3 N : Nat} {u1 u2 u3 u : Value} (h : IvV w B b v1 v2 v3 v4 cl V L U T g1 g2 g3 g4 u1 u2 u3) (m : Num w1 u k3 N) (mv : Moved w w1 g3 k3) :
    IvV w1 B b v1 v2 v3 v4 cl V L N T g1 g2 k3 g4 u1 u2 u ∧ Tame w w1 b ∧ Below B w w1 := by
  obtain ⟨hb, n1, n2, n3, n4, s1, s2, s3, s4, s5, s6, s7, s8, s9, s10, b0, b1, b2, b3, b4⟩ := h
  have l1 := n1.lt
  have l2 := n2.lt
  have l3 := n3.lt
  have l4 := n4.lt
  have lb : b < w.heap.size := (Array.getElem?_eq_some_iff.1 hb).1
  have pl := mv.place
  exact ⟨⟨blk_kept hb mv s3, n1.kept mv.grown (by omega), n2.kept mv.grown (by omega), m, n4.kept mv.grown (by omega), s1, s2, by omega, s4, s5, by omega, s7, by omega, s9, by omega, b0, b1, b2, by omega, b4⟩,
    Tame.of_grown mv.grown n3, mv.below b3 (by omega)⟩

/-- all three are put down -/
theorem stored {w w3 : World} {B b : Nat} {v1 v2 v3 v4 : Value} {cl : Bool} {V L U T g1 g2 g3 g4 : Nat} {u1 u2 u3 : Value} (h : IvV w3 B b v1 v2 v3 v4 cl V L U T g1 g2 g3 g4 u1 u2 u3) (tm : Tame w w3 b) (bl : Below B w w3) :
    Iv (((w3.setCell ⟨b, 0, none⟩ u1).setCell ⟨b, 1, none⟩ u2).setCell ⟨b, 2, none⟩ u3) B b V L U T cl ∧ Tame w (((w3.setCell ⟨b, 0, none⟩ u1).setCell ⟨b, 1, none⟩ u2).setCell ⟨b, 2, none⟩ u3) b ∧
      Below B w (((w3.setCell ⟨b, 0, none⟩ u1).setCell ⟨b, 1, none⟩ u2).setCell ⟨b, 2, none⟩ u3) := by
  obtain ⟨hb, n1, n2, n3, n4, s1, s2, s3, s4, s5, s6, s7, s8, s9, s10, b0, b1, b2, b3, b4⟩ := h
  have h1 := heap_setCell_same w3 b 0 _ 76 u1 hb
  have h2 := heap_setCell_same _ b 1 _ 76 u2 h1
  have h3 := heap_setCell_same _ b 2 _ 76 u3 h2
  refine ⟨⟨u1, u2, u3, v4, g1, g2, g3, g4, h3.trans rfl, ((n1.set s1).set s1).set s1, ((n2.set s2).set s2).set s2, ((n3.set s3).set s3).set s3, ((n4.set s4).set s4).set s4, s1, s2, s3, s4, s5, s6, s7, s8, s9, s10, b0, b1, b2, b3, b4⟩, ?_, ?_⟩
  · exact ((tm.trans (Tame.of_set _ b 0 u1)).trans (Tame.of_set _ b 1 u2)).trans (Tame.of_set _ b 2 u3)
  · exact ((bl.setCell b0 u1).setCell b0 u2).setCell b0 u3

/-- where times stands behind its calls -/
def Mid (w w' : World) (B b : Nat) (v1 v2 v3 v4 : Value) (cl : Bool) (V L U T : Nat) (u1 u2 u3 : Value) : Prop :=
  ∃ g1 g2 g3 g4, IvV w' B b v1 v2 v3 v4 cl V L U T g1 g2 g3 g4 u1 u2 u3 ∧ Tame w w' b ∧ Below B w w'

set_option maxHeartbeats 4000000 in
theorem times_any (w : World) (B b V L U T c K : Nat) (cl : Bool) (h : Iv w B b V L U T cl) (hV : V < 2 ^ K) (hL : L < 2 ^ K) (hU : U < 2 ^ K) (hK : K + 4 * c ≤ 60000000) :
    Calls Tryz.prog 50 #[.pointer (some ⟨b, 0, none⟩), .int .i64 c] w fun e w' => e = .returned (.tuple #[]) ∧ Iv w' B b (V * 10 ^ c) (L * 10 ^ c) (U * 10 ^ c) T cl ∧ Tame w w' b ∧ Below B w w' := by
  obtain ⟨v1, v2, v3, v4, g1, g2, g3, g4, hb, n1, n2, n3, n4, seps⟩ := h
  obtain ⟨c0, c1, c2, c3, c4⟩ := cells5_of hb
  have hI : IvV w.drew B b v1 v2 v3 v4 cl V L U T g1 g2 g3 g4 v1 v2 v3 := ⟨hb, n1, n2, n3, n4, seps⟩
  have tm0 : Tame w w.drew b := Tame.of_none (grown_drew w)
  have bl0 : Below B w w.drew := ⟨rfl, rfl, rfl, Nat.le_refl _, fun _ _ => rfl⟩
  have t1 : Calls Tryz.prog 70 #[v1, .int .i64 c] w.drew fun e w1 => ∃ k1 p1 : Nat, e = .returned (.slice (some ⟨k1, 0, none⟩) (wds (V * 10 ^ c)).length p1) ∧ w1.cell? ⟨b, 1, none⟩ = some v2 ∧ w1.cell? ⟨b, 2, none⟩ = some v3 ∧ Hid (Mid w w1 B b v1 v2 v3 v4 cl (V * 10 ^ c) L U T (.slice (some ⟨k1, 0, none⟩) (wds (V * 10 ^ c)).length p1) v2 v3) := by
    refine (tens_any w.drew v1 g1 V c K hI.2.1 hV (by omega)).mono ?_
    rintro e w1 ⟨u, k1, rfl, m, mv⟩
    obtain ⟨i1, tm, bl⟩ := step1 hI m mv
    obtain ⟨p1, rfl, o1⟩ := m
    have C := cells5_of i1.1
    exact ⟨k1, p1, rfl, C.c1, C.c2, _, _, _, _, i1, tm0.trans tm, bl0.trans bl⟩
  have t2 : ∀ (w1 : World) (u1 : Value), Hid (Mid w w1 B b v1 v2 v3 v4 cl (V * 10 ^ c) L U T u1 v2 v3) → Calls Tryz.prog 70 #[v2, .int .i64 c] w1 fun e w2 => ∃ k2 p2 : Nat, e = .returned (.slice (some ⟨k2, 0, none⟩) (wds (L * 10 ^ c)).length p2) ∧ w2.cell? ⟨b, 2, none⟩ = some v3 ∧
      Hid (Mid w w2 B b v1 v2 v3 v4 cl (V * 10 ^ c) (L * 10 ^ c) U T u1 (.slice (some ⟨k2, 0, none⟩) (wds (L * 10 ^ c)).length p2) v3) := by
    rintro w1 u1 ⟨a1, a2, a3, a4, i1, tm1, bl1⟩
    refine (tens_any w1 v2 a2 L c K i1.2.2.1 hL (by omega)).mono ?_
    rintro e w2 ⟨u, k2, rfl, m, mv⟩
    obtain ⟨i2, tm, bl⟩ := step2 i1 m mv
    obtain ⟨p2, rfl, o2⟩ := m
    have C := cells5_of i2.1
    exact ⟨k2, p2, rfl, C.c2, _, _, _, _, i2, tm1.trans tm, bl1.trans bl⟩
  have t3 : ∀ (w2 : World) (u1 u2 : Value), Hid (Mid w w2 B b v1 v2 v3 v4 cl (V * 10 ^ c) (L * 10 ^ c) U T u1 u2 v3) → Calls Tryz.prog 70 #[v3, .int .i64 c] w2 fun e w3 => ∃ k3 p3 : Nat, e = .returned (.slice (some ⟨k3, 0, none⟩) (wds (U * 10 ^ c)).length p3) ∧
      w3.cell? ⟨b, 0, none⟩ = some v1 ∧ w3.cell? ⟨b, 1, none⟩ = some v2 ∧ w3.cell? ⟨b, 2, none⟩ = some v3 ∧ w3.frozen? ⟨b, 0, none⟩ = false ∧ w3.frozen? ⟨b, 1, none⟩ = false ∧ w3.frozen? ⟨b, 2, none⟩ = false ∧
      Hid (Mid w w3 B b v1 v2 v3 v4 cl (V * 10 ^ c) (L * 10 ^ c) (U * 10 ^ c) T u1 u2 (.slice (some ⟨k3, 0, none⟩) (wds (U * 10 ^ c)).length p3)) := by
    rintro w2 u1 u2 ⟨a1, a2, a3, a4, i2, tm2, bl2⟩
    refine (tens_any w2 v3 a3 U c K i2.2.2.2.1 hU (by omega)).mono ?_
    rintro e w3 ⟨u, k3, rfl, m, mv⟩
    obtain ⟨i3, tm, bl⟩ := step3 i2 m mv
    obtain ⟨p3, rfl, o3⟩ := m
    have C := cells5_of i3.1
    exact ⟨k3, p3, rfl, C.c0, C.c1, C.c2, frozen_of_row w3 b 0 _ 76 i3.1, frozen_of_row w3 b 1 _ 76 i3.1, frozen_of_row w3 b 2 _ 76 i3.1, _, _, _, _, i3, tm2.trans tm, bl2.trans bl⟩
  have fin : ∀ (w3 : World) (u1 u2 u3 : Value), Hid (Mid w w3 B b v1 v2 v3 v4 cl (V * 10 ^ c) (L * 10 ^ c) (U * 10 ^ c) T u1 u2 u3) →
      Iv (((w3.setCell ⟨b, 0, none⟩ u1).setCell ⟨b, 1, none⟩ u2).setCell ⟨b, 2, none⟩ u3) B b (V * 10 ^ c) (L * 10 ^ c) (U * 10 ^ c) T cl ∧ Tame w (((w3.setCell ⟨b, 0, none⟩ u1).setCell ⟨b, 1, none⟩ u2).setCell ⟨b, 2, none⟩ u3) b ∧
        Below B w (((w3.setCell ⟨b, 0, none⟩ u1).setCell ⟨b, 1, none⟩ u2).setCell ⟨b, 2, none⟩ u3) := by
    rintro w3 u1 u2 u3 ⟨a1, a2, a3, a4, i3, tm3, bl3⟩
    exact stored i3 tm3 bl3
  have HF : Hid (∀ (w3 : World) (u1 u2 u3 : Value), Hid (Mid w w3 B b v1 v2 v3 v4 cl (V * 10 ^ c) (L * 10 ^ c) (U * 10 ^ c) T u1 u2 u3) →
      Iv (((w3.setCell ⟨b, 0, none⟩ u1).setCell ⟨b, 1, none⟩ u2).setCell ⟨b, 2, none⟩ u3) B b (V * 10 ^ c) (L * 10 ^ c) (U * 10 ^ c) T cl ∧ Tame w (((w3.setCell ⟨b, 0, none⟩ u1).setCell ⟨b, 1, none⟩ u2).setCell ⟨b, 2, none⟩ u3) b ∧
        Below B w (((w3.setCell ⟨b, 0, none⟩ u1).setCell ⟨b, 1, none⟩ u2).setCell ⟨b, 2, none⟩ u3)) := fin
  clear fin hV hL hU hK hI tm0 bl0 n1 n2 n3 n4 seps hb c3 c4
  go_enter Tryz.func50, Tryz.ntmps50
  go_wp2_with fail
  go_region_with (first | (go_at_call_of 70 v1; refine t1.mono ?_; rintro e w1 ⟨k1, p1, rfl, d1, d2, S1⟩) | (go_at_call_of 70 v2; refine (t2 w1 _ S1).mono ?_; rintro e w2 ⟨k2, p2, rfl, e2, S2⟩) | (go_at_call_of 70 v3; refine (t3 w2 _ _ S2).mono ?_; rintro e w3 ⟨k3, p3, rfl, f0, f1, f2, z0, z1, z2, S3⟩))
  all_goals (first | (go_end0; exact ⟨rfl, HF.out _ _ _ _ S3⟩) | (go_wp2; go_end0; exact ⟨rfl, HF.out _ _ _ _ S3⟩))

end Go.Proofs.YtpejebohekcfoabGreatDoor
