/- The interval in memory; the walk of canEnd. -/
import Derived.Test.YtpejebohekcfoabGreatDoorA7
import Derived.Deep.RegionHeld3
namespace Go.Proofs.YtpejebohekcfoabGreatDoor
open Go.RowKit
set_option linter.unusedVariables false

/-- the interval's five cells -/
structure Cells5 (w : World) (b : Nat) (v1 v2 v3 v4 : Value) (cl : Bool) : Prop where
  c0 : w.cell? ⟨b, 0, none⟩ = some v1
  c1 : w.cell? ⟨b, 1, none⟩ = some v2
  c2 : w.cell? ⟨b, 2, none⟩ = some v3
  c3 : w.cell? ⟨b, 3, none⟩ = some v4
  c4 : w.cell? ⟨b, 4, none⟩ = some (.bool cl)

/-- nothing that was there is touched -/
theorem grown_none_trans {w w1 w2 : World} (h : w.grownBy w1 none) (k : w1.grownBy w2 none) : w.grownBy w2 none := grown_trans h k
theorem grown_drewN (w : World) (n : Nat) : w.grownBy (w.drewN n) none := ⟨rfl, rfl, rfl, Nat.le_refl _, fun _ _ _ => rfl⟩
theorem grown_drew (w : World) : w.grownBy w.drew none := ⟨rfl, rfl, rfl, Nat.le_refl _, fun _ _ _ => rfl⟩

theorem Cells5.kept {w w' : World} {b : Nat} {v1 v2 v3 v4 : Value} {cl : Bool} (C : Cells5 w b v1 v2 v3 v4 cl) (h : w.grownBy w' none) : Cells5 w' b v1 v2 v3 v4 cl :=
  ⟨h.cell C.c0 (by simp), h.cell C.c1 (by simp), h.cell C.c2 (by simp), h.cell C.c3 (by simp), h.cell C.c4 (by simp)⟩

theorem canEnd_walk (w : World) (b : Nat) (v1 v2 v3 v4 : Value) (cl : Bool) (r1 r2 : Int) (C : Cells5 w b v1 v2 v3 v4 cl)
    (cp1 : ∀ n, Calls Tryz.prog 81 #[v1, v2] (w.drewN n) fun e w' => e = .returned (.int .i64 r1) ∧ ∃ m, w' = (w.drewN n).drewN m)
    (pl : ∀ w1, w.grownBy w1 none → Calls Tryz.prog 84 #[v1, v3] w1 fun e w' => ∃ v, e = .returned v ∧ w1.grownBy w' none ∧ ∀ w2, w'.grownBy w2 none → Calls Tryz.prog 81 #[v4, v] w2 fun e w' => e = .returned (.int .i64 r2) ∧ ∃ m, w' = w2.drewN m) :
    Calls Tryz.prog 52 #[.pointer (some ⟨b, 0, none⟩)] w fun e w' => e = .returned (.tuple #[.bool (inI r1 cl), .bool (inI r2 cl)]) ∧ w.grownBy w' none := by
  have D := C
  obtain ⟨c0, c1, c2, c3, c4⟩ := C
  have wi : ∀ (r : Int) (w' : World), w'.cell? ⟨b, 4, none⟩ = some (.bool cl) → Calls Tryz.prog 83 #[.pointer (some ⟨b, 0, none⟩), .int .i64 r] w' fun e w'' => e = .returned (.bool (inI r cl)) ∧ w'' = w' := fun r w' h => within_any b r cl w' h
  go_enter Tryz.func52, Tryz.ntmps52
  go_wp2_with fail
  go_quiet (first | (go_at_call 81; exact Calls.quiet_of (cp1 _)) | (go_at_call 83; exact Calls.quiet_of_same (wi r1 _ c4)))
  go_upto_region 2 with fail
  go_cut [3] from 15 to 30 (fun u wx => u = .bool (inI r2 cl) ∧ w.grownBy wx none)
  case first =>
    go_region_held3 (fun w' => w'.cell? ⟨b, 0, none⟩ = some v1 ∧ w'.cell? ⟨b, 2, none⟩ = some v3 ∧ w'.cell? ⟨b, 3, none⟩ = some v4 ∧ w'.cell? ⟨b, 4, none⟩ = some (.bool cl)) (go_keep) (first | (go_at_call 84; refine (pl _ (by first | exact grown_drewN _ _ | exact grown_none_trans (grown_drewN _ _) (grown_drew _))).mono ?_; rintro e w5 ⟨v5, rfl, g5, cp2⟩; have G5 : w.grownBy w5 none := (by first | exact grown_none_trans (grown_drewN _ _) g5 | exact grown_none_trans (grown_none_trans (grown_drewN _ _) (grown_drew _)) g5); have E := D.kept G5; obtain ⟨e0, e1, e2, e3, e4⟩ := E) | (go_at_call 81; refine (cp2 _ (by first | exact grown_refl _ _ | exact grown_drew _ | exact grown_drewN _ _)).mono ?_; rintro e w6 ⟨rfl, m6, rfl⟩) | (go_at_call 83; refine (wi r2 _ (by assumption)).mono ?_; rintro e w7 ⟨rfl, rfl⟩))
    go_wp2_with fail
    go_meet
    exact ⟨rfl, by first | exact grown_none_trans G5 (grown_drewN _ _) | exact grown_none_trans (grown_none_trans G5 (grown_drew _)) (grown_drewN _ _) | exact G5⟩
  case rest =>
    obtain ⟨rfl, hg⟩ := hcut
    go_wp2
    go_ret2
    exact ⟨rfl, hg⟩

end Go.Proofs.YtpejebohekcfoabGreatDoor
