/- The walk of next. -/
import Derived.Test.YtpejebohekcfoabGreatDoorA10
namespace Go.Proofs.YtpejebohekcfoabGreatDoor
open Go.RowKit
set_option linter.unusedVariables false

def NextAt (w wr : World) (B b V L U T : Nat) (cl : Bool) (d : Value) : Prop :=
  ∃ k : Nat, k ≤ 9 ∧ k * T ≤ V ∧ d = .int .u8 (48 + (k : Int)) ∧ Iv wr B b (V - k * T) L U T cl ∧ Tame w wr b ∧ Below B w wr

theorem next_step {w wr w5 : World} {B b V L U T k : Nat} {cl : Bool} {v1 v2 v3 v4 u : Value} {g1 g2 g3 g4 : Nat} (hk : k ≤ 8) (hkT : (k + 1) * T ≤ V)
    (hb : wr.heap[b]? = some (.cells #[v1, v2, v3, v4, .bool cl] 76 (0, 0))) (n1 : Num wr v1 g1 (V - k * T)) (n2 : Num wr v2 g2 L) (n3 : Num wr v3 g3 U) (n4 : Num wr v4 g4 T)
    (s : g1 ≠ b ∧ g2 ≠ b ∧ g3 ≠ b ∧ g4 ≠ b ∧ g1 ≠ g2 ∧ g1 ≠ g3 ∧ g1 ≠ g4 ∧ g2 ≠ g3 ∧ g2 ≠ g4 ∧ g3 ≠ g4 ∧ B ≤ b ∧ B ≤ g1 ∧ B ≤ g2 ∧ B ≤ g3 ∧ B ≤ g4)
    (tm : Tame w wr b) (bl : Below B w wr) (m5 : Num w5 u g1 (V - k * T - T)) (gr : wr.grownBy w5 (some g1)) :
    NextAt w (w5.setCell ⟨b, 0, none⟩ u) B b V L U T cl (.int .u8 (48 + (k : Int) + 1)) := by
  obtain ⟨s1, s2, s3, s4, s5, s6, s7, s8, s9, s10, b0, b1, b2, b3, b4⟩ := s
  have hb5 := blk_grown hb gr s1
  have e : V - k * T - T = V - (k + 1) * T := by rw [Nat.add_mul, Nat.one_mul]; omega
  rw [e] at m5
  have l1 := n1.lt
  have lw := gr.size
  refine ⟨k + 1, by omega, hkT, by congr 1, ⟨u, v2, v3, v4, g1, g2, g3, g4, ?_, m5.set s1, (n2.kept gr (by omega)).set s2, (n3.kept gr (by omega)).set s3, (n4.kept gr (by omega)).set s4, s1, s2, s3, s4, s5, s6, s7, s8, s9, s10, b0, b1, b2, b3, b4⟩, ?_, ?_⟩
  · rw [heap_setCell_same w5 b 0 _ 76 u hb5]; rfl
  · exact (tm.trans (Tame.of_grown gr n1)).trans (Tame.of_set w5 b 0 u)
  · exact (bl.trans (below_some gr (by omega) b1)).setCell b0 u

set_option maxHeartbeats 2000000 in
theorem next_any (w : World) (B b V L U T K : Nat) (cl : Bool) (h : Iv w B b V L U T cl) (hV : V < 2 ^ K) (hTK : T < 2 ^ K) (hK : K ≤ 60000000) (hVT : V < 10 * T) :
    Calls Tryz.prog 51 #[.pointer (some ⟨b, 0, none⟩)] w fun e w' => ∃ k : Nat, e = .returned (.int .u8 (48 + (k : Int))) ∧ k * T ≤ V ∧ V - k * T < T ∧ k ≤ 9 ∧ Iv w' B b (V - k * T) L U T cl ∧ Tame w w' b ∧ Below B w w' := by
  go_enter Tryz.func51, Tryz.ntmps51
  go_wp2_with fail
  go_loopw [3] (fun d wr => NextAt w wr B b V L U T cl d) (fun d _ => (58 - intOf d).toNat)
  case atStart => exact ⟨0, by omega, by omega, rfl, by simpa using h, Tame.refl w b, Below.refl _ _⟩
  case round =>
    obtain ⟨k, hk, hkV, rfl, iv, tm, bl⟩ := hrel
    obtain ⟨v1, v2, v3, v4, g1, g2, g3, g4, hb, n1, n2, n3, n4, seps⟩ := iv
    have lX := len_small (show V - k * T < 2 ^ K by omega) (by omega)
    have lT := len_small hTK (by omega)
    obtain ⟨c0, c1, c2, c3, c4⟩ := cells5_of hb
    have z0 := frozen_of_row wr b 0 _ 76 hb
    have cp := fun n => compare_fix (wr.drewN n) v1 v4 g1 g4 (V - k * T) T n1 n4 lX lT
    have ci := cmpI_is (V - k * T) T
    by_cases hc : T ≤ V - k * T
    · have r0 : 0 ≤ cmpI (V - k * T) T := by have := ci.1; omega
      have hk8 : k ≤ 8 := by
        rcases Nat.lt_or_ge k 9 with h | h
        · omega
        · have : k = 9 := by omega
          subst this; omega
      have hk1 : (k + 1) * T ≤ V := by rw [Nat.add_mul, Nat.one_mul]; omega
      have mn : ∀ n, Calls Tryz.prog 82 #[v1, v4] (wr.drewN n) fun e w' => ∃ v', e = .returned v' ∧ Num w' v' g1 (V - k * T - T) ∧ wr.grownBy w' (some g1) := fun n => (minus_any (wr.drewN n) v1 v4 g1 g4 (V - k * T) T n1 n4 lX hc seps.2.2.2.2.2.2.1).mono (fun _ _ ⟨v', a1, a2, a3⟩ => ⟨v', a1, a2, ⟨a3.os, a3.tape, a3.output, a3.size, a3.block⟩⟩)
      have nx := fun (w5 : World) (u : Value) (m5 : Num w5 u g1 (V - k * T - T)) (gr : wr.grownBy w5 (some g1)) => next_step hk8 hk1 hb n1 n2 n3 n4 seps tm bl m5 gr
      have fz : ∀ w5 : World, wr.grownBy w5 (some g1) → w5.frozen? ⟨b, 0, none⟩ = false ∧ w5.cell? ⟨b, 0, none⟩ = some v1 := fun w5 gr => ⟨frozen_of_row w5 b 0 _ 76 (blk_grown hb gr seps.1), (cells5_of (blk_grown hb gr seps.1)).c0⟩
      generalize cmpI (V - k * T) T = r at *
      clear h hV hTK hVT ci lX lT hc hkV hk1 tm bl n1 n2 n3 n4 hb seps
      generalize V - k * T = X at *
      go_wp2_with fail
      go_quiet ((go_at_call 81; exact Calls.quiet_of (cp _)))
      go_wp2_with fail
      go_region_with (first | (go_at_call 82; refine (mn _).mono ?_; rintro e w5 ⟨u5, rfl, ⟨cp5, rfl, o5⟩, gr5⟩; obtain ⟨z5, y5⟩ := fz w5 gr5))
      all_goals (go_wp2_with fail; refine ⟨nx w5 _ ⟨cp5, rfl, o5⟩ gr5, ?_⟩; simp [intOf]; omega)
    · have r0 : cmpI (V - k * T) T < 0 := ci.1.2 (by omega)
      have fin : Iv wr B b (V - k * T) L U T cl := ⟨v1, v2, v3, v4, g1, g2, g3, g4, hb, n1, n2, n3, n4, seps⟩
      have HF : Hid (Iv wr B b (V - k * T) L U T cl) := fin
      have hlt : Hid (V - k * T < T) := by show _ < _; omega
      generalize cmpI (V - k * T) T = r at *
      clear h hV hTK hVT ci lX lT hc n1 n2 n3 n4 hb seps fin
      go_wp2_with fail
      go_quiet ((go_at_call 81; exact Calls.quiet_of (cp _)))
      go_wp2
      go_ret
      exact ⟨k, rfl, hkV, hlt.out, hk, HF.out, tm.trans (Tame.of_none (grown_drewN _ _)), below_drewN bl _⟩

end Go.Proofs.YtpejebohekcfoabGreatDoor
