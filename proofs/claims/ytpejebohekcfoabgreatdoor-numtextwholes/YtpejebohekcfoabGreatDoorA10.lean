/- The walks of roundsUp and next. -/
import Derived.Test.YtpejebohekcfoabGreatDoorA9
namespace Go.Proofs.YtpejebohekcfoabGreatDoor
open Go.RowKit
set_option linter.unusedVariables false

/-- whether the next digit is nearer -/
def upI (r : Int) (d : Int) : Bool := decide (0 < r) || (decide (r = 0) && decide (d % 2 = 1))

set_option maxHeartbeats 1000000 in
theorem roundsUp_walk (w : World) (b : Nat) (v1 v2 v3 v4 : Value) (cl : Bool) (r d : Int) (hd0 : 0 ≤ d) (_hd1 : d < 256) (C : Cells5 w b v1 v2 v3 v4 cl)
    (pl : ∀ w1, w.grownBy w1 none → Calls Tryz.prog 84 #[v1, v1] w1 fun e w' => ∃ v, e = .returned v ∧ w1.grownBy w' none ∧ ∀ w2, w'.grownBy w2 none → Calls Tryz.prog 81 #[v, v4] w2 fun e w' => e = .returned (.int .i64 r) ∧ ∃ m, w' = w2.drewN m) :
    Calls Tryz.prog 53 #[.pointer (some ⟨b, 0, none⟩), .int .u8 d] w fun e w' => e = .returned (.bool (upI r d)) ∧ w.grownBy w' none := by
  have D := C
  obtain ⟨c0, c1, c2, c3, c4⟩ := C
  go_enter Tryz.func53, Tryz.ntmps53
  go_upto_region 1 with fail
  go_cut [5] from 6 to 19 (fun u wx => u = .int .i64 r ∧ w.grownBy wx none)
  case first =>
    go_region_held3 (fun w' => w'.cell? ⟨b, 0, none⟩ = some v1 ∧ w'.cell? ⟨b, 3, none⟩ = some v4) (go_keep) (first | (go_at_call 84; refine (pl _ (by first | exact grown_drew _ | exact grown_refl _ _ | exact grown_drewN _ _)).mono ?_; rintro e w5 ⟨v5, rfl, g5, cp2⟩; have G5 : w.grownBy w5 none := (by first | exact grown_none_trans (grown_drew _) g5 | exact g5); have E := D.kept G5; obtain ⟨e0, e1, e2, e3, e4⟩ := E) | (go_at_call 81; refine (cp2 _ (by first | exact grown_refl _ _ | exact grown_drew _ | exact grown_drewN _ _)).mono ?_; rintro e w6 ⟨rfl, m6, rfl⟩))
    go_wp2_with fail
    go_meet
    exact ⟨rfl, grown_none_trans G5 (grown_drewN _ _)⟩
  case rest =>
    obtain ⟨rfl, hg⟩ := hcut
    have e2 : d.tmod 2 = d % 2 := Int.tmod_eq_emod_of_nonneg hd0
    rcases Int.lt_trichotomy r 0 with h | h | h
    · have f1 : decide (0 < r) = false := by simp; omega
      have f2 : (r == 0) = false := by simp; omega
      have hu : upI r d = false := by unfold upI; rw [f1]; simp; omega
      have HU : Hid (upI r d = false) := hu
      clear hu
      go_wp2
      go_ret
      rw [HU.out]
      exact ⟨rfl, hg⟩
    · subst h
      by_cases hp : d % 2 = 1
      · have HU : Hid (upI 0 d = true) := by show _ = _; unfold upI; simp [hp]
        go_wp2
        go_ret
        rw [HU.out]
        exact ⟨rfl, hg⟩
      · have f1 : (d % 2 == 1) = false := by simp; omega
        have HU : Hid (upI 0 d = false) := by show _ = _; unfold upI; simp [hp]
        go_wp2
        go_ret
        rw [HU.out]
        exact ⟨rfl, hg⟩
    · have f1 : decide (0 < r) = true := by simp; omega
      have HU : Hid (upI r d = true) := by show _ = _; unfold upI; rw [f1]; rfl
      go_wp2
      go_ret
      rw [HU.out]
      exact ⟨rfl, hg⟩

theorem roundsUp_any (w : World) (B b V L U T : Nat) (cl : Bool) (d : Int) (K : Nat) (hd0 : 0 ≤ d) (hd1 : d < 256) (h : Iv w B b V L U T cl) (hV : V < 2 ^ K) (hT : T < 2 ^ K) (hK : K ≤ 60000000) :
    Calls Tryz.prog 53 #[.pointer (some ⟨b, 0, none⟩), .int .u8 d] w fun e w' => e = .returned (.bool (upI (cmpI (V + V) T) d)) ∧ w.grownBy w' none := by
  obtain ⟨v1, v2, v3, v4, g1, g2, g3, g4, hb, n1, n2, n3, n4, _⟩ := h
  have lV := len_small hV (by omega)
  have lT := len_small hT (by omega)
  have lS := len_small (show V + V < 2 ^ (K + 1) by rw [Nat.pow_succ]; omega) (by omega)
  refine roundsUp_walk w b v1 v2 v3 v4 cl _ d hd0 hd1 (cells5_of hb) ?_
  intro w1 g
  refine (plus_any w1 v1 v1 g1 g1 V V (n1.kept0 g) (n1.kept0 g) lV lV).mono ?_
  rintro e w' ⟨v, gv, rfl, nv, gr, _⟩
  refine ⟨v, rfl, gr, ?_⟩
  intro w2 g2'
  exact compare_fix w2 v v4 gv g4 (V + V) T (nv.kept0 g2') (((n4.kept0 g).kept0 gr).kept0 g2') lS lT

end Go.Proofs.YtpejebohekcfoabGreatDoor
