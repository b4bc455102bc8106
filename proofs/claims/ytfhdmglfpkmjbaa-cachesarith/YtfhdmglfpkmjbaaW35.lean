/- The document's Trunc and Floor. -/
import Derived.Test.YtfhdmglfpkmjbaaW34
namespace Go.Proofs.Ytfhdmglfpkmjbaa
open Go.RowKit

theorem kind_nan_word (s : Bool) (t : Nat) (h : t % 4503599627370496 ≠ 0) : kindI ((Ieee.double.write (.nan s t) : Nat) : Int) = 3 ∧ Ieee.double.write (.nan s t) < 18446744073709551616 := by
  have e : Ieee.double.write (.nan s t) = wordOf s (9218868437227405312 + t % 4503599627370496) := by
    unfold Ieee.Format.write
    simp only
    rw [word_eq, d_inf, d_binade]
  rw [e]
  have lt := Nat.mod_lt t (show 0 < 4503599627370496 by decide)
  generalize t % 4503599627370496 = u at *
  have b : wordOf s (9218868437227405312 + u) < 18446744073709551616 := by unfold wordOf; split <;> omega
  refine ⟨?_, b⟩
  have := (kind_fld ((wordOf s (9218868437227405312 + u) : Nat) : Int) (by omega) (by omega)).2.2.2
  refine this ?_
  unfold rankI wordOf
  cases s
  · simp only [Bool.false_eq_true, if_false]
    rw [if_pos (by omega)]
    omega
  · simp only [if_true]
    rw [if_neg (by omega)]
    omega

theorem quiet_ne (t : Nat) (h : t < 4503599627370496) : Ieee.double.quiet t % 4503599627370496 ≠ 0 := by
  unfold Ieee.Format.quiet
  have e : 2 ^ (Ieee.double.fractionBits - 1) = 2251799813685248 := by decide
  rw [e]
  have l : t ||| 2251799813685248 < 2 ^ 52 := Nat.or_lt_two_pow (show t < 2 ^ 52 from h) (by decide)
  rw [Nat.mod_eq_of_lt l]
  intro z
  have := Nat.right_le_or (m := 2251799813685248) (n := t)
  omega

section
variable (way : Ieee.Toward) (name : String) (x : Nat) (w : World)

theorem int_quiet (s : Bool) (t : Nat) (r : FloatKind.f64.decode x = .nan s t) (q : FloatKind.f64.format.quiet t = t) :
    (Extern.MathFloor.toIntegral name way #[.float .f64 x]).run Try.prog w = .ok (.float .f64 x) w := by
  unfold Extern.MathFloor.toIntegral
  conv => lhs; arg 2; whnf
  simp only [r]
  rw [if_pos q]
  rfl

theorem int_loud (s : Bool) (t : Nat) (r : FloatKind.f64.decode x = .nan s t) (q : ¬ FloatKind.f64.format.quiet t = t) :
    ∃ k : Bool, (Extern.MathFloor.toIntegral name way #[.float .f64 x]).run Try.prog w = .ok (.float .f64 (if k then x else Ieee.double.write (.nan s (Ieee.double.quiet t)))) w.drew := by
  unfold Extern.MathFloor.toIntegral
  conv => enter [1, k]; lhs; arg 2; whnf
  simp only [r]
  rw [if_neg q]
  exact ⟨_, rfl⟩

theorem int_num (s : Bool) (m : Nat) (i : Int) (r : FloatKind.f64.decode x = .number s m i) :
    (Extern.MathFloor.toIntegral name way #[.float .f64 x]).run Try.prog w = .ok (.float .f64 (Ieee.double.write ((Ieee.Datum.number s m i).integral way))) w := by
  unfold Extern.MathFloor.toIntegral
  conv => lhs; arg 2; whnf
  simp only [r]
  rfl

theorem int_inf (s : Bool) (r : FloatKind.f64.decode x = .infinity s) :
    (Extern.MathFloor.toIntegral name way #[.float .f64 x]).run Try.prog w = .ok (.float .f64 (Ieee.double.write ((Ieee.Datum.infinity s).integral way))) w := by
  unfold Extern.MathFloor.toIntegral
  conv => lhs; arg 2; whnf
  simp only [r]
  rfl

end

theorem arch_run (way : Ieee.Toward) (name : String) (a : Int) (h0 : 0 ≤ a) (h1 : a < 18446744073709551616) :
    ∃ (F : World → Nat) (D : World → World), (∀ w, (Extern.MathFloor.toIntegral name way #[.float .f64 a.toNat]).run Try.prog w = .ok (.float .f64 (F w)) (D w)) ∧
      (∀ w, Below w.heap.size w (D w)) ∧ (kindI a ≠ 3 → ∀ w, F w = Ieee.double.write ((Ieee.double.read a.toNat).integral way) ∧ D w = w) ∧ (kindI a = 3 → ∀ w, kindI ((F w : Nat) : Int) = 3 ∧ F w < 18446744073709551616) := by
  by_cases k : kindI a = 3
  · have r := read_nan a h0 h1 k
    have fl := frc_lt a.toNat
    by_cases q : FloatKind.f64.format.quiet (frcN a.toNat) = frcN a.toNat
    · refine ⟨fun _ => a.toNat, fun w => w, fun w => int_quiet way name _ w _ _ r q, fun w => Below.refl _ _, fun h => absurd k h, fun _ w => ?_⟩
      show kindI ((a.toNat : Nat) : Int) = 3 ∧ a.toNat < 18446744073709551616
      rw [Int.toNat_of_nonneg h0]
      exact ⟨k, by omega⟩
    · have ex := fun w => int_loud way name a.toNat w _ _ r q
      refine ⟨fun w => if (ex w).choose then a.toNat else Ieee.double.write (.nan (negB a.toNat) (Ieee.double.quiet (frcN a.toNat))), fun w => w.drew, fun w => (ex w).choose_spec, fun w => (Below.refl _ _).drew, fun h => absurd k h, fun _ w => ?_⟩
      show kindI (((if (ex w).choose then a.toNat else Ieee.double.write (.nan (negB a.toNat) (Ieee.double.quiet (frcN a.toNat))) : Nat) : Nat) : Int) = 3 ∧ (if (ex w).choose then a.toNat else Ieee.double.write (.nan (negB a.toNat) (Ieee.double.quiet (frcN a.toNat)))) < 18446744073709551616
      generalize (ex w).choose = b
      cases b
      · exact kind_nan_word _ _ (quiet_ne _ fl)
      · show kindI ((a.toNat : Nat) : Int) = 3 ∧ a.toNat < 18446744073709551616
        rw [Int.toNat_of_nonneg h0]
        exact ⟨k, by omega⟩
  · refine ⟨fun _ => Ieee.double.write ((Ieee.double.read a.toNat).integral way), fun w => w, fun w => ?_, fun w => Below.refl _ _, fun _ w => ⟨rfl, rfl⟩, fun h => absurd h k⟩
    rcases kind_cases a with c | c | c | c
    · have r := (read_zero a h0 h1 c).1
      rw [r]
      exact int_num way name _ w _ _ _ r
    · have r := (read_fin a h0 h1 c).1
      rw [r]
      exact int_num way name _ w _ _ _ r
    · have r := (read_inf a h0 h1 c).1
      rw [r]
      exact int_inf way name _ w _ r
    · exact absurd c k

/-- what math.Trunc and math.Floor tell -/
structure Made (a T : Int) (n : Nat) : Prop where
  num : kindI a ≠ 3 → n = T.toNat
  nan : kindI a = 3 → kindI ((n : Nat) : Int) = 3 ∧ n < 18446744073709551616

set_option maxHeartbeats 400000 in
theorem mathTrunc_any (a : Int) (h0 : 0 ≤ a) (h1 : a < 18446744073709551616) (w : World) :
    Calls Try.prog 68 #[.float .f64 a.toNat] w fun e w' => ∃ n, e = .returned (.float .f64 n) ∧ Below w.heap.size w w' ∧ Made a (truncI a) n := by
  obtain ⟨F, D, hr, hb, h2, h3⟩ := arch_run .zero "math.archTrunc" a h0 h1
  have M : ∀ w, Made a (truncI a) (F w) := fun w => ⟨fun k => by rw [(h2 k w).1, ← trunc_word a h0 h1 k, Int.toNat_natCast], fun k => h3 k w⟩
  have hx : ∀ w, (callFunc 70 #[.float .f64 a.toNat]).run Try.prog w = .ok (.value (.float .f64 (F w))) (D w) := fun w => by
    rw [run_callFunc_extern (e := Extern.MathFloor.toIntegral "math.archTrunc" .zero) Try.func70 (by kernel_rfl) (by kernel_rfl) (by kernel_rfl) (by kernel_rfl)]
    rw [hr]
    rfl
  clear hr h2 h3
  generalize a.toNat = x at *
  go_enter Try.func68, Try.ntmps68
  go_wp2
  go_ret
  exact ⟨_, rfl, hb _, M _⟩

set_option maxHeartbeats 400000 in
theorem mathFloor_any (a : Int) (h0 : 0 ≤ a) (h1 : a < 18446744073709551616) (w : World) :
    Calls Try.prog 57 #[.float .f64 a.toNat] w fun e w' => ∃ n, e = .returned (.float .f64 n) ∧ Below w.heap.size w w' ∧ Made a (floorI a) n := by
  obtain ⟨F, D, hr, hb, h2, h3⟩ := arch_run .down "math.archFloor" a h0 h1
  have M : ∀ w, Made a (floorI a) (F w) := fun w => ⟨fun k => by rw [(h2 k w).1, ← floor_word a h0 h1 k, Int.toNat_natCast], fun k => h3 k w⟩
  have hx : ∀ w, (callFunc 62 #[.float .f64 a.toNat]).run Try.prog w = .ok (.value (.float .f64 (F w))) (D w) := fun w => by
    rw [run_callFunc_extern (e := Extern.MathFloor.toIntegral "math.archFloor" .down) Try.func62 (by kernel_rfl) (by kernel_rfl) (by kernel_rfl) (by kernel_rfl)]
    rw [hr]
    rfl
  clear hr h2 h3
  generalize a.toNat = x at *
  go_enter Try.func57, Try.ntmps57
  go_wp2
  go_ret
  exact ⟨_, rfl, hb _, M _⟩

end Go.Proofs.Ytfhdmglfpkmjbaa
