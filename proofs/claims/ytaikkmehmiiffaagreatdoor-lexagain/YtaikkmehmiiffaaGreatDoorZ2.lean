/- Package lex: what its small functions say of a byte. -/
import Derived.Test.YtaikkmehmiiffaaGreatDoorZ1
namespace Go.Proofs.YtaikkmehmiiffaaGreatDoor.Lx
open Go.RowKit
set_option linter.unusedVariables false


theorem ret_b {a b : Bool} (h : a = true ↔ b = true) : Ending.returned (.bool a) = .returned (.bool b) := by rw [Bool.eq_iff_iff.2 h]

theorem dig_call (c : Nat) (w : World) : Calls Tryz.prog 26 #[.int .i32 (c : Int)] w fun e w' => e = .returned (.bool (pDig c)) ∧ w' = w := by
  go_enter Tryz.func26, Tryz.ntmps26
  go_wp2
  all_goals (go_ret; refine ⟨ret_b ?_, rfl⟩; unfold pDig; simp_all <;> omega)

theorem prog_call (c : Nat) (w : World) : Calls Tryz.prog 16 #[.int .i32 (c : Int)] w fun e w' => e = .returned (.bool (pProg c)) ∧ w' = w := by
  go_enter Tryz.func16, Tryz.ntmps16
  go_wp2
  all_goals (go_ret; refine ⟨ret_b ?_, rfl⟩; unfold pProg; simp_all <;> omega)

theorem blank_call (c : Nat) (w : World) : Calls Tryz.prog 46 #[.int .i32 (c : Int)] w fun e w' => e = .returned (.bool (pBlank c)) ∧ w' = w := by
  go_enter Tryz.func46, Tryz.ntmps46
  go_wp2
  all_goals (go_ret; refine ⟨ret_b ?_, rfl⟩; unfold pBlank; simp_all <;> omega)

theorem line_call (c : Nat) (w : World) : Calls Tryz.prog 44 #[.int .i32 (c : Int)] w fun e w' => e = .returned (.bool (pLine c)) ∧ w' = w := by
  go_enter Tryz.func44, Tryz.ntmps44
  go_wp2
  all_goals (go_ret; refine ⟨ret_b ?_, rfl⟩; unfold pLine; simp_all <;> omega)

theorem dot_call (c : Nat) (w : World) : Calls Tryz.prog 67 #[.int .i32 (c : Int)] w fun e w' => e = .returned (.bool (pDot c)) ∧ w' = w := by
  go_enter Tryz.func67, Tryz.ntmps67
  go_wp2
  all_goals (go_ret; refine ⟨ret_b ?_, rfl⟩; unfold pDot; simp_all <;> omega)

theorem exp_call (c : Nat) (w : World) : Calls Tryz.prog 68 #[.int .i32 (c : Int)] w fun e w' => e = .returned (.bool (pExp c)) ∧ w' = w := by
  go_enter Tryz.func68, Tryz.ntmps68
  go_wp2
  all_goals (go_ret; refine ⟨ret_b ?_, rfl⟩; unfold pExp; simp_all <;> omega)

theorem sig_call (c : Nat) (w : World) : Calls Tryz.prog 69 #[.int .i32 (c : Int)] w fun e w' => e = .returned (.bool (pSig c)) ∧ w' = w := by
  go_enter Tryz.func69, Tryz.ntmps69
  go_wp2
  all_goals (go_ret; refine ⟨ret_b ?_, rfl⟩; unfold pSig; simp_all <;> omega)

theorem raw_call (c : Nat) (w : World) : Calls Tryz.prog 76 #[.int .i32 (c : Int)] w fun e w' => e = .returned (.bool (pRaw c)) ∧ w' = w := by
  go_enter Tryz.func76, Tryz.ntmps76
  go_wp2
  all_goals (go_ret; refine ⟨ret_b ?_, rfl⟩; unfold pRaw; simp_all <;> omega)

theorem hex_call (c : Nat) (w : World) : Calls Tryz.prog 66 #[.int .i32 (c : Int)] w fun e w' => e = .returned (.bool (pHex c)) ∧ w' = w := by
  have dc := fun w => dig_call c w
  go_enter Tryz.func66, Tryz.ntmps66
  go_wp2_with (go_at_call 26; refine (dc _).mono ?_; rintro e w1 ⟨rfl, rfl⟩)
  all_goals (clear dc; go_ret; refine ⟨ret_b ?_, rfl⟩; unfold pHex at *; simp_all <;> omega)

theorem small_call (c : Nat) (w : World) : Calls Tryz.prog 28 #[.int .i32 (c : Int)] w fun e w' => e = .returned (.bool (pSmall c)) ∧ w' = w := by
  have dc := fun w => dig_call c w
  go_enter Tryz.func28, Tryz.ntmps28
  go_wp2_with (go_at_call 26; refine (dc _).mono ?_; rintro e w1 ⟨rfl, rfl⟩)
  all_goals (clear dc; go_ret; refine ⟨ret_b ?_, rfl⟩; unfold pSmall at *; simp_all <;> omega)

theorem below_setIt {B b : Nat} {w0 w : World} {s : ByteArray} {pos : Nat} (h : Below B w0 w) (hb : B ≤ b) : Below B w0 (setIt w b s pos) := by
  refine ⟨h.os, h.tape, h.output, ?_, ?_⟩
  · rw [setIt_size]; exact h.size
  · intro k hk
    rw [setIt_other _ _ _ _ _ (by omega)]
    exact h.block k hk

theorem below_iter {B : Nat} {w0 w : World} {s : ByteArray} (h : Below B w0 w) (hB : B ≤ w0.heap.size) : Below B w0 (w.iter s 0) := by
  have z := h.size
  refine ⟨h.os, h.tape, h.output, ?_, ?_⟩
  · show _ ≤ (w.heap.push _).size
    simp; omega
  · intro k hk
    show (w.heap.push _)[k]? = _
    rw [Array.getElem?_push_lt (by omega), ← h.block k hk, Array.getElem?_eq_getElem (by omega)]

/-- a closure that has no state -/
theorem clo_pure (N : Nat) (w0 : World) (p : Nat → Bool) (f : Nat) (hN : w0.heap.size ≤ N) (ent : ∀ args w, (callFunc f args).run Tryz.prog w = .ok (.enter f args) w)
    (h : ∀ (c : Nat) w, Calls Tryz.prog f #[.int .i32 (c : Int)] w fun e w' => e = .returned (.bool (p c)) ∧ w' = w) :
    Clo N (fun (_ : Unit) w => Below w0.heap.size w0 w) (fun _ c => ((), p c)) f #[] := by
  refine ⟨?_, ent, ?_, ?_, ?_⟩
  · intro st c w hw hb hc
    rw [Array.append_empty]
    refine (h c w).mono ?_
    rintro e w' ⟨rfl, rfl⟩
    exact ⟨rfl, hb, Nat.le_refl _, fun _ _ _ => rfl⟩
  · intro st w b s pos hb hB
    exact below_setIt hB (by omega)
  · intro st w s hB
    exact below_iter hB (Nat.le_refl _)
  · intro st w hB
    exact hB.drew

end Go.Proofs.YtaikkmehmiiffaaGreatDoor.Lx
