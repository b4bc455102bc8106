/- math.Frexp of a finite number above 0. -/
import Derived.Test.YtnocnodiecihnaaW19
namespace Go.Proofs.Ytnocnodiecihnaa
open Go.RowKit

set_option maxHeartbeats 1000000 in
theorem frexp_w (x g : Nat) (E q f X : Int) (w : World) (hz : (FloatKind.f64.format.order x 0 == some Ordering.eq) = false)
    (ci : ∀ w : World, Calls Try.prog 23 #[.float .f64 x, .int .i64 0] w fun e w' => e = .returned (.bool false) ∧ w' = w)
    (cn : ∀ w : World, Calls Try.prog 67 #[.float .f64 x] w fun e w' => e = .returned (.bool false) ∧ w' = w)
    (nm : ∀ w : World, Calls Try.prog 72 #[.float .f64 x] w fun e w' => e = .returned (.tuple #[.float .f64 g, .int .i64 E]) ∧ w' = w)
    (hq : (g : Int) / 4503599627370496 = q) (_q0 : 0 ≤ q) (_q1 : q ≤ 2047) (ha : bits .and .u64 q 2047 = q) (_E0 : -52 ≤ E) (_E1 : E ≤ 0)
    (hf : bits .andNot .u64 (g : Int) 9218868437227405312 = f) (hX : bits .or .u64 f 4602678819172646912 = X) :
    Calls Try.prog 75 #[.float .f64 x] w fun e w' => e = .returned (.tuple #[.float .f64 X.toNat, .int .i64 (E + (q - 1023 + 1))]) ∧ w' = w := by
  have hx := tobits_run
  have hy := frombits_run
  go_enter Try.func75, Try.ntmps75
  go_wp2_with fail
  refine (ci _).mono ?_
  rintro e w1 ⟨rfl, hw⟩
  subst hw
  go_wp2_with fail
  refine (cn _).mono ?_
  rintro e w1 ⟨rfl, hw⟩
  subst hw
  go_wp2_with fail
  refine (nm _).mono ?_
  rintro e w1 ⟨rfl, hw⟩
  subst hw
  go_wp2
  go_ret2
  exact ⟨rfl, rfl⟩

theorem and_2047u (q : Int) (h0 : 0 ≤ q) (h1 : q ≤ 2047) : bits .and .u64 q 2047 = q := by
  obtain ⟨n, rfl⟩ := Int.eq_ofNat_of_zero_le h0
  have hn : n < 2048 := by omega
  have all : ∀ m : Fin 2048, bits .and .u64 ((m.val : Nat) : Int) 2047 = ((m.val : Nat) : Int) := by decide +kernel
  exact all ⟨n, hn⟩

/-- what is ahead of the point, its first bit set, of 53 bits; and the place of its last bit behind 52 and the smallest number's -/
def frgI (F : Int) : Nat := (normI F).toNat % 4503599627370496 + 4503599627370496
def frcE (F : Int) : Int := nexpI F + (((normI F).toNat / 4503599627370496 : Nat) : Int)

theorem frexp_any (F : Int) (h0 : 0 < F) (h1 : F < 9218868437227405312) (w : World) :
    Calls Try.prog 75 #[.float .f64 F.toNat] w fun e w' => e = .returned (.tuple #[.float .f64 (4598175219545276416 + frgI F), .int .i64 (frcE F - 1022)]) ∧ w' = w := by
  obtain ⟨_, _, _, kF⟩ := own_parts F h0 h1
  have hz : (FloatKind.f64.format.order F.toNat 0 == some Ordering.eq) = false := by
    have := equal_order F 0 (by omega) (by omega) (by omega) (by omega)
    have z : (0 : Int).toNat = 0 := rfl
    rw [z] at this
    rw [this]
    unfold equalI
    have r1 : rankI F = F := by unfold rankI; rw [if_pos (by omega)]
    have r2 : rankI 0 = 0 := rfl
    rw [r1, r2]
    have : (F == 0) = false := by rw [beq_eq_false_iff_ne]; omega
    rw [this]; simp
  have ci := fun w => mathInf_any F w (by omega) (by omega)
  rw [show (kindI F == 2) = false from by rw [kF]; rfl] at ci
  have cn := fun w => mathNaN_any F w (by omega) (by omega)
  rw [show (kindI F == 3) = false from by rw [kF]; rfl] at cn
  have nm := fun w => normalize_any F h0 h1 w
  obtain ⟨q, f, q0, q1, hf, hG, _⟩ := norm_parts F h0 h1
  have E0 : -52 ≤ nexpI F := by unfold nexpI; split <;> omega
  have E1 : nexpI F ≤ 0 := by unfold nexpI; split <;> omega
  unfold frgI frcE
  obtain ⟨g, hg⟩ : ∃ g : Nat, (normI F).toNat = g := ⟨_, rfl⟩
  rw [hg] at nm ⊢
  have hgv : g = q * 4503599627370496 + f := by omega
  clear hg hG kF
  generalize nexpI F = E at *
  have e1 : g / 4503599627370496 = q := by omega
  have e2 : g % 4503599627370496 = f := by omega
  rw [e1, e2]
  have hq : (g : Int) / 4503599627370496 = q := by omega
  have hM : bits .andNot .u64 ((g : Nat) : Int) 9218868437227405312 = ((f : Nat) : Int) := by
    rw [mask_exp _ (by omega) (by omega)]; omega
  have hX := or_field f 1022 hf (by omega)
  rw [show (((1022 : Nat) : Int) * 4503599627370496) = 4602678819172646912 from by omega] at hX
  obtain ⟨X, hXe⟩ : ∃ X : Int, ((1022 * 4503599627370496 + f : Nat) : Int) = X := ⟨_, rfl⟩
  have hXn : X.toNat = 4598175219545276416 + (f + 4503599627370496) := by omega
  rw [hXe] at hX
  have z3 := and_2047u (q : Int) (by omega) (by omega)
  have := frexp_w F.toNat g E q f _ w hz ci cn nm hq (by omega) (by omega) z3 E0 E1 hM hX
  rw [hXn, show E + ((q : Int) - 1023 + 1) = E + (q : Int) - 1022 from by omega] at this
  exact this

set_option maxHeartbeats 400000 in
theorem Frexp_any (F : Int) (h0 : 0 < F) (h1 : F < 9218868437227405312) (w : World) :
    Calls Try.prog 69 #[.float .f64 F.toNat] w fun e w' => e = .returned (.tuple #[.float .f64 (4598175219545276416 + frgI F), .int .i64 (frcE F - 1022)]) ∧ w' = w := by
  have c := fun w => frexp_any F h0 h1 w
  obtain ⟨G, hG⟩ : ∃ G : Nat, 4598175219545276416 + frgI F = G := ⟨_, rfl⟩
  obtain ⟨E, hE⟩ : ∃ E : Int, frcE F - 1022 = E := ⟨_, rfl⟩
  rw [hG, hE] at c ⊢
  generalize F.toNat = x at *
  clear hG hE h0 h1
  go_enter Try.func69, Try.ntmps69
  go_wp2_with (go_at_call 75; refine (c _).mono ?_; rintro e w1 ⟨rfl, rfl⟩)
  go_ret2
  exact ⟨rfl, rfl⟩

end Go.Proofs.Ytnocnodiecihnaa
