/- The tied card of NumtextReads: what every text of at most 4,096 bytes is as a number, and whether it may stand in a program as one. -/
import Derived.Test.YtpejebohekcfoaaGreatDoorW8
import Derived.Test.YtpejebohekcfoaaGreatDoorMN
import Derived.Test.YtpejebohekcfoaaGreatDoorW20
import Derived.Test.YtpejebohekcfoaaGreatDoorKA
import Derived.Test.YtpejebohekcfoaaGreatDoorBB
import Derived.Deep.CutBlock
import Derived.Deep.DeepCutAuto
import Derived.Test.YtpejebohekcfoaaGreatDoorP2
import Derived.Test.YtpejebohekcfoaaGreatDoorCards
import Derived.Test.YtpejebohekcfoaaGreatDoorTie
import Derived.WalkKit
import Derived.ProofKit
import Derived.OpenShut
import Derived.ShutString
import Derived.ChangeOld
import Derived.Below
import Derived.Carry
import Derived.LaidMore
import Derived.Lay
import Derived.SevenTiedAt
import Derived.Stop.Joined
/- math.Ldexp of a finite number above 0: the number times a power of two, rounded once. -/
namespace Go.Proofs.YtpejebohekcfoaaGreatDoor
open Go.RowKit
set_option linter.unusedVariables false

def mulI (a b : Int) : Int := opI (Ieee.double.mul a.toNat b.toNat)

theorem read_num (b : Int) (h2 : 0 ≤ b) (h3 : b < 18446744073709551616) (l : kindI b < 2) : ∃ n j, Ieee.double.read b.toNat = .number (negB b.toNat) n j := by
  rcases kind_cases b with c | c | c | c
  · exact ⟨_, _, (read_zero b h2 h3 c).1⟩
  · exact ⟨_, _, (read_fin b h2 h3 c).1⟩
  · omega
  · omega

theorem wrap_i64 (n : Int) (h0 : -9223372036854775808 ≤ n) (h1 : n < 9223372036854775808) : IntKind.i64.wrap n = n := by
  rw [IntKind.wrap_i64]; omega


theorem rung_zero' (e : Int) : rung 0 e = 0 := by simp [rung]

set_option maxHeartbeats 400000 in
theorem mathNaN_any (a : Int) (w : World) (h0 : 0 ≤ a) (h1 : a < 18446744073709551616) :
    Calls Tryz.prog 162 #[.float .f64 a.toNat] w fun e w' => e = .returned (.bool (kindI a == 3)) ∧ w' = w := by
  have hn := nan_order a h0 h1
  generalize (kindI a == 3) = K at *
  generalize a.toNat = x at *
  go_enter Tryz.func162, Tryz.ntmps162
  go_wp2
  go_ret
  exact ⟨rfl, rfl⟩

set_option maxHeartbeats 400000 in
theorem mathInf1 (w : World) :
    Calls Tryz.prog 164 #[.int .i64 1] w fun e w' => e = .returned (.float .f64 9218868437227405312) ∧ w' = w := by
  have hx := frombits_run
  go_enter Tryz.func164, Tryz.ntmps164
  go_wp2
  go_ret
  exact ⟨rfl, rfl⟩

set_option maxHeartbeats 400000 in
theorem copysign0 (x : Nat) (w : World) (hz : bits .and .u64 (x : Int) 9223372036854775808 = 0) (h0 : bits .andNot .u64 0 9223372036854775808 = 0) (h1 : bits .or .u64 0 0 = 0) :
    Calls Tryz.prog 150 #[.float .f64 0, .float .f64 x] w fun e w' => e = .returned (.float .f64 0) ∧ w' = w := by
  have hx := tobits_run
  have hy := frombits_run
  go_enter Tryz.func150, Tryz.ntmps150
  go_wp2
  go_ret
  exact ⟨rfl, rfl⟩

/-- a product of two finite ones, by the language -/
theorem mul_run (a b : Int) (h0 : 0 ≤ a) (h1 : a < 18446744073709551616) (h2 : 0 ≤ b) (h3 : b < 18446744073709551616) (ka : kindI a < 2) (kb : kindI b < 2) (w : World) :
    (binOp .mul 30 (.float .f64 a.toNat) (.float .f64 b.toNat)).run Tryz.prog w = .ok (.float .f64 (mulI a b).toNat) w := by
  obtain ⟨m, i, ra⟩ := read_num a h0 h1 ka
  obtain ⟨n, j, rb⟩ := read_num b h2 h3 kb
  have h : Ieee.double.mul a.toNat b.toNat = some (mulI a b).toNat := by
    unfold mulI Ieee.Format.mul
    rw [ra, rb]
    simp only [Ieee.Datum.product]
    rw [Option.map_some, opI_some, Int.toNat_natCast]
  exact run_float_arith w .mul 30 .f64 _ _ _ h

/-- the product of two finite ones above 0 -/
theorem mulI_pos (a b : Int) (h0 : 0 ≤ a) (h1 : a < 9223372036854775808) (h2 : 0 ≤ b) (h3 : b < 9223372036854775808) (ka : kindI a = 1) (kb : kindI b = 1) :
    mulI a b = (rung ((manI a).toNat * (manI b).toNat) (expI a + expI b) : Nat) := by
  unfold mulI Ieee.Format.mul
  obtain ⟨ra, _, _⟩ := read_fin a h0 (by omega) ka
  obtain ⟨rb, _, _⟩ := read_fin b h2 (by omega) kb
  rw [ra, rb]
  simp only [Ieee.Datum.product]
  have na : negB a.toNat = false := decide_eq_false (by omega)
  have nb : negB b.toNat = false := decide_eq_false (by omega)
  rw [Option.map_some, write_num, opI_some, word_int, na, nb]
  simp [sb]

/-- the word of a field and a fraction -/
theorem parts_of (q f : Nat) (hq0 : 1 ≤ q) (hq : q ≤ 2046) (hf : f < 4503599627370496) (X : Int) (hX : X = ((q * 4503599627370496 + f : Nat) : Int)) :
    0 ≤ X ∧ X < 9218868437227405312 ∧ kindI X = 1 ∧ manI X = ((f + 4503599627370496 : Nat) : Int) ∧ expI X = (q : Int) - 1075 := by
  subst hX
  have e1 : fldN (((q * 4503599627370496 + f : Nat) : Int)).toNat = q := by unfold fldN; omega
  have e2 : frcN (((q * 4503599627370496 + f : Nat) : Int)).toNat = f := by unfold frcN; omega
  have k : kindI ((q * 4503599627370496 + f : Nat) : Int) = 1 := by unfold kindI; rw [e1, e2, if_neg (by omega), if_neg (by omega)]
  refine ⟨by omega, by omega, k, ?_, ?_⟩
  · unfold manI manN; rw [if_pos k, e1, e2, if_neg (by omega)]
  · unfold expI; rw [if_pos k, e1]; omega

/-- a positive word's own field and fraction -/
theorem own_parts (F : Int) (h0 : 0 < F) (h1 : F < 9218868437227405312) : F = ((fldN F.toNat * 4503599627370496 + frcN F.toNat : Nat) : Int) ∧ fldN F.toNat ≤ 2046 ∧ frcN F.toNat < 4503599627370496 ∧ kindI F = 1 := by
  have a1 : fldN F.toNat = F.toNat / 4503599627370496 := by unfold fldN; omega
  have a2 : frcN F.toNat = F.toNat % 4503599627370496 := rfl
  refine ⟨by rw [a1, a2]; omega, by rw [a1]; omega, by rw [a2]; omega, ?_⟩
  unfold kindI
  rw [if_neg (by rw [a1]; omega), if_neg (by rw [a1, a2]; omega)]

/-- what normalize makes of it: a number that has its highest bit, and by how many places it was moved -/
def normI (F : Int) : Int := if F < 4503599627370496 then mulI F 4841369599423283200 else F
def nexpI (F : Int) : Int := if F < 4503599627370496 then -52 else 0

theorem c52 : kindI 4841369599423283200 = 1 ∧ manI 4841369599423283200 = 4503599627370496 ∧ expI 4841369599423283200 = 0 := by decide +kernel

theorem norm_parts (F : Int) (h0 : 0 < F) (h1 : F < 9218868437227405312) :
    ∃ q f : Nat, 1 ≤ q ∧ q ≤ 2046 ∧ f < 4503599627370496 ∧ normI F = ((q * 4503599627370496 + f : Nat) : Int) ∧
      ∀ k : Int, rung (f + 4503599627370496) ((q : Int) - 1075 + nexpI F + k) = rung (manI F).toNat (expI F + k) := by
  obtain ⟨e, hq, hf, kF⟩ := own_parts F h0 h1
  unfold normI nexpI
  by_cases c : F < 4503599627370496
  · rw [if_pos c, if_pos c]
    obtain ⟨c1, c2, c3⟩ := c52
    have f0 : fldN F.toNat = 0 := by unfold fldN; omega
    have r0 : frcN F.toNat = F.toNat := by unfold frcN; omega
    have mF : manI F = F := by unfold manI manN; rw [if_pos kF, f0, if_pos rfl, r0]; omega
    have eF : expI F = -1074 := by unfold expI; rw [if_pos kF, f0]; rfl
    rw [mulI_pos F 4841369599423283200 (by omega) (by omega) (by omega) (by omega) kF c1, mF, eF, c2, c3]
    have hn : (4503599627370496 : Int).toNat = 2 ^ 52 := rfl
    rw [hn, rung_scale]
    obtain ⟨n, rfl⟩ := Int.eq_ofNat_of_zero_le (show 0 ≤ F by omega)
    rw [Int.toNat_natCast]
    -- n times 2^(52 - log2 n) has 53 bits
    have hz : n ≠ 0 := by omega
    have l1 := Nat.log2_self_le hz
    have l2 := lt_two_log2 n
    have l3 : n.log2 < 52 := (Nat.log2_lt hz).2 (show n < 2 ^ 52 by show n < 4503599627370496; omega)
    obtain ⟨d, hd⟩ : ∃ d, d = 52 - n.log2 := ⟨_, rfl⟩
    have p := Nat.two_pow_pos d
    have b1 : 4503599627370496 ≤ n * 2 ^ d := by
      have := Nat.mul_le_mul_right (2 ^ d) l1
      rw [← Nat.pow_add, show n.log2 + d = 52 from by omega] at this
      exact this
    have b2 : n * 2 ^ d < 9007199254740992 := by
      have := (Nat.mul_lt_mul_right p).2 l2
      rw [← Nat.pow_add, show n.log2 + 1 + d = 53 from by omega] at this
      exact this
    have sc : ∀ x : Int, rung n x = rung (n * 2 ^ d) (x - d) := fun x => by rw [rung_scale]; congr 1; omega
    have own := rung_own (n * 2 ^ d) (-1022 - d) ⟨by omega, by omega, by omega, by omega, fun _ => by omega⟩
    refine ⟨(-1022 - (d : Int) + 1074).toNat + 1, n * 2 ^ d - 4503599627370496, by omega, by omega, by omega, ?_, ?_⟩
    · rw [show (-1074 + 0 + ((52 : Nat) : Int)) = -1022 from rfl, sc, own]
      generalize n * 2 ^ d = z at *
      omega
    · intro k
      rw [sc, show n * 2 ^ d - 4503599627370496 + 4503599627370496 = n * 2 ^ d from by omega]
      congr 1
      omega
  · rw [if_neg c, if_neg c]
    have hq1 : 1 ≤ fldN F.toNat := by unfold fldN; omega
    obtain ⟨_, _, _, m1, e1⟩ := parts_of (fldN F.toNat) (frcN F.toNat) hq1 hq hf F e
    refine ⟨fldN F.toNat, frcN F.toNat, hq1, hq, hf, e, ?_⟩
    intro k
    rw [m1, e1, Int.toNat_natCast]
    congr 1
    omega

theorem lss_small (F : Int) (h0 : 0 < F) (h1 : F < 9218868437227405312) : (FloatKind.f64.format.order F.toNat 4503599627370496 == some Ordering.lt) = decide (F < 4503599627370496) := by
  have := less_order F 4503599627370496 (by omega) (by omega) (by omega) (by omega)
  have hn : (4503599627370496 : Int).toNat = 4503599627370496 := rfl
  rw [hn] at this
  rw [this]
  obtain ⟨_, _, _, k⟩ := own_parts F h0 h1
  unfold lessI
  have k2 : kindI 4503599627370496 = 1 := by decide +kernel
  have r1 : rankI F = F := by unfold rankI; rw [if_pos (by omega)]
  have r2 : rankI 4503599627370496 = 4503599627370496 := by decide +kernel
  rw [k, k2, r1, r2]
  simp

set_option maxHeartbeats 400000 in
theorem normalize_any (F : Int) (h0 : 0 < F) (h1 : F < 9218868437227405312) (w : World) :
    Calls Tryz.prog 163 #[.float .f64 F.toNat] w fun e w' => e = .returned (.tuple #[.float .f64 (normI F).toNat, .int .i64 (nexpI F)]) ∧ w' = w := by
  obtain ⟨_, _, _, k⟩ := own_parts F h0 h1
  have hm : bits .andNot .u64 ((F.toNat : Nat) : Int) 9223372036854775808 = F := by
    rw [Int.toNat_of_nonneg (by omega), mask_size F (by omega) (by omega)]; omega
  have ca := fun w => abs_any F.toNat w _ hm
  have hl := lss_small F h0 h1
  have hmul := fun w => mul_run F 4841369599423283200 (by omega) (by omega) (by omega) (by omega) (by omega) (by rw [c52.1]; decide) w
  have hn : (4841369599423283200 : Int).toNat = 4841369599423283200 := rfl
  rw [hn] at hmul
  unfold normI nexpI
  by_cases c : F < 4503599627370496
  · rw [if_pos c, if_pos c]
    rw [decide_eq_true c] at hl
    generalize (mulI F 4841369599423283200).toNat = Z at *
    generalize F.toNat = x at *
    clear hm c k h0 h1
    go_enter Tryz.func163, Tryz.ntmps163
    go_wp2_with (go_at_call 72; refine (ca _).mono ?_; rintro e w1 ⟨rfl, rfl⟩)
    go_ret2
    exact ⟨rfl, rfl⟩
  · rw [if_neg c, if_neg c]
    rw [decide_eq_false c] at hl
    clear hmul
    generalize F.toNat = x at *
    clear hm c k h0 h1
    go_enter Tryz.func163, Tryz.ntmps163
    go_wp2_with (go_at_call 72; refine (ca _).mono ?_; rintro e w1 ⟨rfl, rfl⟩)
    go_ret2
    exact ⟨rfl, rfl⟩

end Go.Proofs.YtpejebohekcfoaaGreatDoor
/- math.Ldexp: the walk. -/
namespace Go.Proofs.YtpejebohekcfoaaGreatDoor
open Go.RowKit

section
variable (x g : Nat) (k E q f p : Int) (w : World)

set_option maxHeartbeats 1000000 in
theorem ldexp_under (hz : (FloatKind.f64.format.order x 0 == some Ordering.eq) = false)
    (ci : ∀ w : World, Calls Tryz.prog 32 #[.float .f64 x, .int .i64 0] w fun e w' => e = .returned (.bool false) ∧ w' = w)
    (cn : ∀ w : World, Calls Tryz.prog 162 #[.float .f64 x] w fun e w' => e = .returned (.bool false) ∧ w' = w)
    (nm : ∀ w : World, Calls Tryz.prog 163 #[.float .f64 x] w fun e w' => e = .returned (.tuple #[.float .f64 g, .int .i64 E]) ∧ w' = w)
    (hq : (g : Int) / 4503599627370496 = q) (_q0 : 0 ≤ q) (_q1 : q ≤ 2047) (ha : bits .and .i64 q 2047 = q) (_k0 : -100000 ≤ k) (_k1 : k ≤ 100000) (_E0 : -52 ≤ E) (_E1 : E ≤ 0)
    (hp : k + E + (q - 1023) = p)
    (_c1 : p < -1075) (cs : ∀ w : World, Calls Tryz.prog 150 #[.float .f64 0, .float .f64 g] w fun e w' => e = .returned (.float .f64 0) ∧ w' = w) :
    Calls Tryz.prog 153 #[.float .f64 x, .int .i64 k] w fun e w' => e = .returned (.float .f64 0) ∧ w' = w := by
  have hx := tobits_run
  go_enter Tryz.func153, Tryz.ntmps153
  go_wp2_with fail
  refine (ci _).mono ?_
  rintro e w1 ⟨rfl, hw⟩
  subst hw
  go_wp2_with fail
  refine (cn _).mono ?_
  rintro e w1 ⟨rfl, hw⟩
  subst hw
  go_wp2_with fail
  refine (nm _).mono ?_
  rintro e w1 ⟨rfl, hw⟩
  subst hw
  go_wp2_with fail
  refine (cs _).mono ?_
  rintro e w1 ⟨rfl, hw⟩
  subst hw
  go_wp2
  go_ret
  exact ⟨rfl, rfl⟩

set_option maxHeartbeats 1000000 in
theorem ldexp_over (hz : (FloatKind.f64.format.order x 0 == some Ordering.eq) = false)
    (ci : ∀ w : World, Calls Tryz.prog 32 #[.float .f64 x, .int .i64 0] w fun e w' => e = .returned (.bool false) ∧ w' = w)
    (cn : ∀ w : World, Calls Tryz.prog 162 #[.float .f64 x] w fun e w' => e = .returned (.bool false) ∧ w' = w)
    (nm : ∀ w : World, Calls Tryz.prog 163 #[.float .f64 x] w fun e w' => e = .returned (.tuple #[.float .f64 g, .int .i64 E]) ∧ w' = w)
    (hq : (g : Int) / 4503599627370496 = q) (_q0 : 0 ≤ q) (_q1 : q ≤ 2047) (ha : bits .and .i64 q 2047 = q) (_k0 : -100000 ≤ k) (_k1 : k ≤ 100000) (_E0 : -52 ≤ E) (_E1 : E ≤ 0)
    (hp : k + E + (q - 1023) = p)
    (_c1 : 1023 < p) (hl : (FloatKind.f64.format.order g 0 == some Ordering.lt) = false) :
    Calls Tryz.prog 153 #[.float .f64 x, .int .i64 k] w fun e w' => e = .returned (.float .f64 9218868437227405312) ∧ w' = w := by
  have hx := tobits_run
  go_enter Tryz.func153, Tryz.ntmps153
  go_wp2_with fail
  refine (ci _).mono ?_
  rintro e w1 ⟨rfl, hw⟩
  subst hw
  go_wp2_with fail
  refine (cn _).mono ?_
  rintro e w1 ⟨rfl, hw⟩
  subst hw
  go_wp2_with fail
  refine (nm _).mono ?_
  rintro e w1 ⟨rfl, hw⟩
  subst hw
  go_wp2_with fail
  refine (mathInf1 _).mono ?_
  rintro e w1 ⟨rfl, hw⟩
  subst hw
  go_wp2
  go_ret
  exact ⟨rfl, rfl⟩

set_option maxHeartbeats 1000000 in
theorem ldexp_norm (X : Int) (R : Nat) (hz : (FloatKind.f64.format.order x 0 == some Ordering.eq) = false)
    (ci : ∀ w : World, Calls Tryz.prog 32 #[.float .f64 x, .int .i64 0] w fun e w' => e = .returned (.bool false) ∧ w' = w)
    (cn : ∀ w : World, Calls Tryz.prog 162 #[.float .f64 x] w fun e w' => e = .returned (.bool false) ∧ w' = w)
    (nm : ∀ w : World, Calls Tryz.prog 163 #[.float .f64 x] w fun e w' => e = .returned (.tuple #[.float .f64 g, .int .i64 E]) ∧ w' = w)
    (hq : (g : Int) / 4503599627370496 = q) (_q0 : 0 ≤ q) (_q1 : q ≤ 2047) (ha : bits .and .i64 q 2047 = q) (_k0 : -100000 ≤ k) (_k1 : k ≤ 100000) (_E0 : -52 ≤ E) (_E1 : E ≤ 0)
    (hp : k + E + (q - 1023) = p)
    (_c1 : -1022 ≤ p) (_c2 : p ≤ 1023) (hf : bits .andNot .u64 (g : Int) 9218868437227405312 = f) (hX : bits .or .u64 f ((p + 1023) * 4503599627370496) = X)
    (hm : ∀ w : World, (binOp .mul 30 (.float .f64 4607182418800017408) (.float .f64 X.toNat)).run Tryz.prog w = .ok (.float .f64 R) w) :
    Calls Tryz.prog 153 #[.float .f64 x, .int .i64 k] w fun e w' => e = .returned (.float .f64 R) ∧ w' = w := by
  have hx := tobits_run
  have hy := frombits_run
  go_enter Tryz.func153, Tryz.ntmps153
  go_wp2_with fail
  refine (ci _).mono ?_
  rintro e w1 ⟨rfl, hw⟩
  subst hw
  go_wp2_with fail
  refine (cn _).mono ?_
  rintro e w1 ⟨rfl, hw⟩
  subst hw
  go_wp2_with fail
  refine (nm _).mono ?_
  rintro e w1 ⟨rfl, hw⟩
  subst hw
  go_wp2
  go_ret
  exact ⟨rfl, rfl⟩

set_option maxHeartbeats 1000000 in
theorem ldexp_denorm (X : Int) (R : Nat) (hz : (FloatKind.f64.format.order x 0 == some Ordering.eq) = false)
    (ci : ∀ w : World, Calls Tryz.prog 32 #[.float .f64 x, .int .i64 0] w fun e w' => e = .returned (.bool false) ∧ w' = w)
    (cn : ∀ w : World, Calls Tryz.prog 162 #[.float .f64 x] w fun e w' => e = .returned (.bool false) ∧ w' = w)
    (nm : ∀ w : World, Calls Tryz.prog 163 #[.float .f64 x] w fun e w' => e = .returned (.tuple #[.float .f64 g, .int .i64 E]) ∧ w' = w)
    (hq : (g : Int) / 4503599627370496 = q) (_q0 : 0 ≤ q) (_q1 : q ≤ 2047) (ha : bits .and .i64 q 2047 = q) (_k0 : -100000 ≤ k) (_k1 : k ≤ 100000) (_E0 : -52 ≤ E) (_E1 : E ≤ 0)
    (hp : k + E + (q - 1023) = p)
    (_c1 : -1075 ≤ p) (_c2 : p < -1022) (hf : bits .andNot .u64 (g : Int) 9218868437227405312 = f) (hX : bits .or .u64 f ((p + 53 + 1023) * 4503599627370496) = X)
    (hm : ∀ w : World, (binOp .mul 30 (.float .f64 4368491638549381120) (.float .f64 X.toNat)).run Tryz.prog w = .ok (.float .f64 R) w) :
    Calls Tryz.prog 153 #[.float .f64 x, .int .i64 k] w fun e w' => e = .returned (.float .f64 R) ∧ w' = w := by
  have hx := tobits_run
  have hy := frombits_run
  go_enter Tryz.func153, Tryz.ntmps153
  go_wp2_with fail
  refine (ci _).mono ?_
  rintro e w1 ⟨rfl, hw⟩
  subst hw
  go_wp2_with fail
  refine (cn _).mono ?_
  rintro e w1 ⟨rfl, hw⟩
  subst hw
  go_wp2_with fail
  refine (nm _).mono ?_
  rintro e w1 ⟨rfl, hw⟩
  subst hw
  go_wp2
  go_ret
  exact ⟨rfl, rfl⟩
end

theorem and_2047 (q : Int) (h0 : 0 ≤ q) (h1 : q ≤ 2047) : bits .and .i64 q 2047 = q := by
  obtain ⟨n, rfl⟩ := Int.eq_ofNat_of_zero_le h0
  have hn : n < 2048 := by omega
  have all : ∀ m : Fin 2048, bits .and .i64 ((m.val : Nat) : Int) 2047 = ((m.val : Nat) : Int) := by decide +kernel
  exact all ⟨n, hn⟩

theorem mask_exp (a : Int) (h0 : 0 ≤ a) (h1 : a < 9223372036854775808) : bits .andNot .u64 a 9218868437227405312 = a % 4503599627370496 := by
  rw [u64_andNot a _ h0 (by omega) (by omega) (by omega)]
  have e2 : 18446744073709551615 - (9218868437227405312 : Int).toNat = 9223372036854775808 + 4503599627370495 := rfl
  rw [e2]
  have e3 : (9223372036854775808 + 4503599627370495 : Nat) = 9223372036854775808 ||| 4503599627370495 := by decide
  rw [e3, Nat.and_or_distrib_left]
  have e4 := nat_bit 63 a.toNat
  simp only [show (2 : Nat) ^ 63 = 9223372036854775808 from rfl] at e4
  have e5 := Nat.and_two_pow_sub_one_eq_mod a.toNat 52
  simp only [show (2 : Nat) ^ 52 = 4503599627370496 from rfl] at e5
  have e6 : (4503599627370495 : Nat) = 4503599627370496 - 1 := rfl
  rw [e4, e6, e5, show a.toNat / 9223372036854775808 % 2 * 9223372036854775808 = 0 from by omega]
  simp
  omega

theorem or_field (f q : Nat) (hf : f < 4503599627370496) (hq : q ≤ 2047) : bits .or .u64 ((f : Nat) : Int) ((q : Int) * 4503599627370496) = ((q * 4503599627370496 + f : Nat) : Int) := by
  rw [u64_or _ _ (by omega) (by omega) (by omega) (by omega)]
  have e := nat_join 52 (q * 4503599627370496) f (by show q * 4503599627370496 % 4503599627370496 = 0; omega) hf
  rw [Nat.or_comm] at e
  rw [Int.toNat_natCast, show ((q : Int) * 4503599627370496).toNat = q * 4503599627370496 from by omega, e]

theorem one_run : kindI 4607182418800017408 = 1 ∧ manI 4607182418800017408 = 4503599627370496 ∧ expI 4607182418800017408 = -52 := by decide +kernel
theorem c53 : kindI 4368491638549381120 = 1 ∧ manI 4368491638549381120 = 4503599627370496 ∧ expI 4368491638549381120 = -105 := by decide +kernel

/-- far below: nothing is left -/
theorem rung_none (m : Nat) (p : Int) (hm : m < 9007199254740992) (hp : p < -1127) : rung m p = 0 := by
  by_cases hz : m = 0
  · subst hz; exact rung_zero' p
  have l := (Nat.log2_lt hz).2 (show m < 2 ^ 53 from hm)
  have hL : lastPlace m p = -1074 := by unfold lastPlace; omega
  unfold rung
  rw [if_neg hz, hL, show (p - -1074).toNat = 0 from by omega, Nat.pow_zero, Nat.mul_one]
  obtain ⟨d, hd⟩ : ∃ d : Nat, (-1074 - p).toNat = d := ⟨_, rfl⟩
  have h54 : 2 ^ 54 ≤ 2 ^ d := Nat.pow_le_pow_right (by decide) (by omega)
  have h54' : 18014398509481984 ≤ 2 ^ d := h54
  rw [hd]
  have e1 : m / 2 ^ d = 0 := Nat.div_eq_of_lt (by omega)
  have e2 : m % 2 ^ d = m := Nat.mod_eq_of_lt (by omega)
  unfold rne
  rw [e1, e2]
  generalize 2 ^ d = c at *
  rw [if_neg (by omega)]
  rfl

/-- far above: infinite -/
theorem rung_far (m : Nat) (p : Int) (hm : 4503599627370496 ≤ m) (hm1 : m < 9007199254740992) (hp : 971 < p) : rung m p = 9218868437227405312 := by
  have hz : m ≠ 0 := by omega
  have l : m.log2 = 52 := by
    rw [Nat.log2_eq_iff hz]; exact ⟨hm, hm1⟩
  have hL : lastPlace m p = p := by unfold lastPlace; rw [l]; omega
  unfold rung
  rw [if_neg hz, hL, show (p - p).toNat = 0 from by omega, rne_zero, Nat.pow_zero, Nat.mul_one]
  have : 2046 ≤ (p + 1074).toNat := by omega
  generalize (p + 1074).toNat = q at *
  omega

end Go.Proofs.YtpejebohekcfoaaGreatDoor
/- math.Ldexp of a finite number above 0, whole. -/
namespace Go.Proofs.YtpejebohekcfoaaGreatDoor
open Go.RowKit

theorem rank_small (n : Nat) (h : n < 9223372036854775808) : rankI ((n : Nat) : Int) = ((n : Nat) : Int) := by unfold rankI; rw [if_pos (by omega)]

theorem not_below (n : Nat) (h : n < 9223372036854775808) : (FloatKind.f64.format.order n 0 == some Ordering.lt) = false := by
  have := less_order ((n : Nat) : Int) 0 (by omega) (by omega) (by omega) (by omega)
  rw [Int.toNat_natCast, show (0 : Int).toNat = 0 from rfl] at this
  rw [this]
  unfold lessI
  rw [rank_small n h, show rankI 0 = 0 from rfl, decide_eq_false (by omega)]
  simp

set_option maxHeartbeats 1000000 in
theorem ldexp_any (F k : Int) (h0 : 0 < F) (h1 : F < 9218868437227405312) (k0 : -90000 ≤ k) (k1 : k ≤ 90000) (w : World) :
    Calls Tryz.prog 153 #[.float .f64 F.toNat, .int .i64 k] w fun e w' => e = .returned (.float .f64 (rung (manI F).toNat (expI F + k))) ∧ w' = w := by
  obtain ⟨_, _, _, kF⟩ := own_parts F h0 h1
  have hz : (FloatKind.f64.format.order F.toNat 0 == some Ordering.eq) = false := by
    have := equal_order F 0 (by omega) (by omega) (by omega) (by omega)
    have z : (0 : Int).toNat = 0 := rfl
    rw [z] at this
    rw [this]
    unfold equalI
    have r1 : rankI F = F := by unfold rankI; rw [if_pos (by omega)]
    have r2 : rankI 0 = 0 := rfl
    rw [r1, r2]
    have : (F == 0) = false := by rw [beq_eq_false_iff_ne]; omega
    rw [this]; simp
  have ci := fun w => mathInf_any F w (by omega) (by omega)
  rw [show (kindI F == 2) = false from by rw [kF]; rfl] at ci
  have cn := fun w => mathNaN_any F w (by omega) (by omega)
  rw [show (kindI F == 3) = false from by rw [kF]; rfl] at cn
  have nm := fun w => normalize_any F h0 h1 w
  obtain ⟨q, f, q0, q1, hf, hG, hr⟩ := norm_parts F h0 h1
  have E0 : -52 ≤ nexpI F := by unfold nexpI; split <;> omega
  have E1 : nexpI F ≤ 0 := by unfold nexpI; split <;> omega
  have hgb : (normI F).toNat = q * 4503599627370496 + f := by rw [hG]; omega
  rw [hgb] at nm
  have hq : ((q * 4503599627370496 + f : Nat) : Int) / 4503599627370496 = q := by omega
  have HM : Hid (bits .andNot .u64 ((q * 4503599627370496 + f : Nat) : Int) 9218868437227405312 = ((f : Nat) : Int)) := by
    show bits .andNot .u64 ((q * 4503599627370496 + f : Nat) : Int) 9218868437227405312 = _
    rw [mask_exp _ (by omega) (by omega)]; omega
  have hr' := hr k
  rw [← hr']
  clear hr hr' hG hgb kF
  generalize nexpI F = E at *
  obtain ⟨p, hp⟩ : ∃ p : Int, k + E + ((q : Int) - 1023) = p := ⟨_, rfl⟩
  have z1 : 0 ≤ (q : Int) := by omega
  have z2 : (q : Int) ≤ 2047 := by omega
  have z3 := and_2047 (q : Int) z1 z2
  have Z3 : Hid _ := z3
  clear z3
  have z4 : -100000 ≤ k := by omega
  have z5 : k ≤ 100000 := by omega
  by_cases c1 : p < -1075
  · rw [rung_none (f + 4503599627370496) ((q : Int) - 1075 + E + k) (by omega) (by omega)]
    have hs : bits .and .u64 ((q * 4503599627370496 + f : Nat) : Int) 9223372036854775808 = 0 := by
      rw [mask_sgn _ (by omega) (by omega)]
      unfold sgnI sgnN
      rw [Int.toNat_natCast, Nat.div_eq_of_lt (by omega)]
      rfl
    exact ldexp_under F.toNat _ k E q p w hz ci cn nm hq z1 z2 Z3.out z4 z5 E0 E1 hp c1 (fun w => copysign0 _ w hs (by decide +kernel) (by decide +kernel))
  by_cases c2 : 1023 < p
  · rw [rung_far (f + 4503599627370496) ((q : Int) - 1075 + E + k) (by omega) (by omega) (by omega)]
    have hl := not_below (q * 4503599627370496 + f) (by omega)
    exact ldexp_over F.toNat _ k E q p w hz ci cn nm hq z1 z2 Z3.out z4 z5 E0 E1 hp c2 hl
  by_cases c3 : p < -1022
  · obtain ⟨s, hs⟩ : ∃ s : Nat, (s : Int) = p + 53 + 1023 := ⟨(p + 53 + 1023).toNat, by omega⟩
    have z6 : -1075 ≤ p := by omega
    have hsb : s ≤ 2047 := by omega
    have hs1 : 1 ≤ s := by omega
    have hs2 : s ≤ 2046 := by omega
    have hpl : -105 + ((s : Int) - 1075) + ((52 : Nat) : Int) = (q : Int) - 1075 + E + k := by omega
    have hX : bits .or .u64 ((f : Nat) : Int) ((p + 53 + 1023) * 4503599627370496) = ((s * 4503599627370496 + f : Nat) : Int) := by rw [← hs]; exact or_field f s hf hsb
    obtain ⟨X, hXe⟩ : ∃ X : Int, X = ((s * 4503599627370496 + f : Nat) : Int) := ⟨_, rfl⟩
    obtain ⟨X0, X1, kX, mX, eX⟩ := parts_of s f hs1 hs2 hf X hXe
    rw [← hXe] at hX
    clear hXe hs
    have X2 : X < 18446744073709551616 := by omega
    have X3 : X < 9223372036854775808 := by omega
    have hm := fun w => mul_run 4368491638549381120 X (by decide) (by decide) X0 X2 (by rw [c53.1]; decide) (by rw [kX]; decide) w
    have e := mulI_pos 4368491638549381120 X (by decide) (by decide) X0 X3 c53.1 kX
    rw [c53.2.1, c53.2.2, mX, eX, Int.toNat_natCast] at e
    have hn : (4503599627370496 : Int).toNat = 2 ^ 52 := rfl
    rw [hn, Nat.mul_comm, rung_scale, hpl] at e
    rw [e] at hm
    have hn2 : (4368491638549381120 : Int).toNat = 4368491638549381120 := rfl
    rw [hn2, Int.toNat_natCast] at hm
    clear kX mX eX e
    exact ldexp_denorm F.toNat _ k E q f p w _ _ hz ci cn nm hq z1 z2 Z3.out z4 z5 E0 E1 hp z6 c3 HM.out hX hm
  · obtain ⟨s, hs⟩ : ∃ s : Nat, (s : Int) = p + 1023 := ⟨(p + 1023).toNat, by omega⟩
    have z6 : -1022 ≤ p := by omega
    have z7 : p ≤ 1023 := by omega
    have hsb : s ≤ 2047 := by omega
    have hs1 : 1 ≤ s := by omega
    have hs2 : s ≤ 2046 := by omega
    have hpl : -52 + ((s : Int) - 1075) + ((52 : Nat) : Int) = (q : Int) - 1075 + E + k := by omega
    have hX : bits .or .u64 ((f : Nat) : Int) ((p + 1023) * 4503599627370496) = ((s * 4503599627370496 + f : Nat) : Int) := by rw [← hs]; exact or_field f s hf hsb
    obtain ⟨X, hXe⟩ : ∃ X : Int, X = ((s * 4503599627370496 + f : Nat) : Int) := ⟨_, rfl⟩
    obtain ⟨X0, X1, kX, mX, eX⟩ := parts_of s f hs1 hs2 hf X hXe
    rw [← hXe] at hX
    clear hXe hs
    have X2 : X < 18446744073709551616 := by omega
    have X3 : X < 9223372036854775808 := by omega
    have hm := fun w => mul_run 4607182418800017408 X (by decide) (by decide) X0 X2 (by rw [one_run.1]; decide) (by rw [kX]; decide) w
    have e := mulI_pos 4607182418800017408 X (by decide) (by decide) X0 X3 one_run.1 kX
    rw [one_run.2.1, one_run.2.2, mX, eX, Int.toNat_natCast] at e
    have hn : (4503599627370496 : Int).toNat = 2 ^ 52 := rfl
    rw [hn, Nat.mul_comm, rung_scale, hpl] at e
    rw [e] at hm
    have hn2 : (4607182418800017408 : Int).toNat = 4607182418800017408 := rfl
    rw [hn2, Int.toNat_natCast] at hm
    clear kX mX eX e
    exact ldexp_norm F.toNat _ k E q f p w _ _ hz ci cn nm hq z1 z2 Z3.out z4 z5 E0 E1 hp z6 z7 HM.out hX hm

set_option maxHeartbeats 400000 in
theorem Ldexp_any (F k : Int) (h0 : 0 < F) (h1 : F < 9218868437227405312) (k0 : -90000 ≤ k) (k1 : k ≤ 90000) (w : World) :
    Calls Tryz.prog 131 #[.float .f64 F.toNat, .int .i64 k] w fun e w' => e = .returned (.float .f64 (rung (manI F).toNat (expI F + k))) ∧ w' = w := by
  have c := fun w => ldexp_any F k h0 h1 k0 k1 w
  generalize rung (manI F).toNat (expI F + k) = R at *
  generalize F.toNat = x at *
  clear h0 h1
  go_enter Tryz.func131, Tryz.ntmps131
  go_wp2_with (go_at_call 153; refine (c _).mono ?_; rintro e w1 ⟨rfl, rfl⟩)
  go_ret
  exact ⟨rfl, rfl⟩

end Go.Proofs.YtpejebohekcfoaaGreatDoor
/- math.Ldexp of a whole number of at most 53 bits; the bits of a number that was rounded. -/
namespace Go.Proofs.YtpejebohekcfoaaGreatDoor
open Go.RowKit

theorem nearest_rung (n : Int) (h : 0 ≤ n) : FloatKind.f64.nearest n = rung n.toNat 0 := by
  have e : FloatKind.f64.nearest n = Ieee.double.nearest (decide (n < 0)) n.natAbs 0 := by
    unfold FloatKind.nearest FloatKind.encode Ieee.Format.write
    rfl
  rw [e, nearest_eq, decide_eq_false (by omega), show n.natAbs = n.toNat from by omega]
  unfold wordOf
  rw [if_neg (by decide)]

theorem kind_le (R : Nat) (h : R ≤ 9218868437227405312) : kindI ((R : Nat) : Int) ≠ 3 := by
  unfold kindI fldN frcN
  rw [Int.toNat_natCast]
  split
  · split
    · omega
    · exfalso; omega
  · split <;> omega

theorem of_rung (R : Nat) (h : R ≤ 9218868437227405312) (w : World) :
    Calls Tryz.prog 17 #[.float .f64 R] w fun e w' => e = .returned (.int .u64 ((R : Nat) : Int)) ∧ w' = w := by
  have hk := kind_le R h
  obtain ⟨a, ha⟩ : ∃ a : Int, a = ((R : Nat) : Int) := ⟨_, rfl⟩
  have h0 : 0 ≤ a := by omega
  have h1 : a < 18446744073709551616 := by omega
  have hR : R = a.toNat := by omega
  rw [← ha] at hk ⊢
  rw [hR]
  have := of_any a w h0 h1
  rw [if_neg hk] at this
  exact this

set_option maxHeartbeats 400000 in
theorem ldexp_zero (k : Int) (w : World) :
    Calls Tryz.prog 153 #[.float .f64 0, .int .i64 k] w fun e w' => e = .returned (.float .f64 0) ∧ w' = w := by
  have hz : (FloatKind.f64.format.order 0 0 == some Ordering.eq) = true := by decide +kernel
  go_enter Tryz.func153, Tryz.ntmps153
  go_wp2
  go_ret
  exact ⟨rfl, rfl⟩

set_option maxHeartbeats 400000 in
theorem Ldexp_zero (k : Int) (w : World) :
    Calls Tryz.prog 131 #[.float .f64 0, .int .i64 k] w fun e w' => e = .returned (.float .f64 0) ∧ w' = w := by
  have c := fun w => ldexp_zero k w
  go_enter Tryz.func131, Tryz.ntmps131
  go_wp2_with (go_at_call 153; refine (c _).mono ?_; rintro e w1 ⟨rfl, rfl⟩)
  go_ret
  exact ⟨rfl, rfl⟩

theorem whole_word (n : Nat) (h0 : 0 < n) (h1 : n ≤ 9007199254740992) (F : Int) (hF : F = ((rung n 0 : Nat) : Int)) :
    0 < F ∧ F < 9218868437227405312 ∧ ∀ k : Int, rung (manI F).toNat (expI F + k) = rung n k := by
  obtain ⟨m, d, m0, m1, d0, d1, hr⟩ := whole_parts n h0 h1
  obtain ⟨q, hq, hw⟩ := rung_word m d m0 m1 (by omega) (by omega)
  have e0 : rung n 0 = rung m (-d) := by rw [hr, show (0 : Int) - d = -d from by omega]
  rw [e0, hw] at hF
  clear e0 hw
  have q0 : 1 ≤ q := by omega
  have q1 : q ≤ 2046 := by omega
  have pos : 0 < F := by rw [hF]; clear hF hr; omega
  obtain ⟨X0, X1, kX, mX, eX⟩ := parts_of q (m - 4503599627370496) q0 q1 (by omega) F hF
  refine ⟨pos, X1, fun k => ?_⟩
  rw [mX, eX, hr k, Int.toNat_natCast, show m - 4503599627370496 + 4503599627370496 = m from by omega]
  clear kX mX eX hF hr
  congr 1
  omega

theorem Ldexp_int (n k : Int) (n0 : 0 ≤ n) (n1 : n ≤ 9007199254740992) (k0 : -90000 ≤ k) (k1 : k ≤ 90000) (w : World) :
    Calls Tryz.prog 131 #[.float .f64 (FloatKind.f64.nearest n), .int .i64 k] w fun e w' => e = .returned (.float .f64 (rung n.toNat k)) ∧ w' = w := by
  rw [nearest_rung n n0]
  by_cases c : n = 0
  · subst c
    have e1 : rung (0 : Int).toNat 0 = 0 := rung_zero' 0
    have e2 : rung (0 : Int).toNat k = 0 := rung_zero' k
    rw [e1, e2]
    exact Ldexp_zero k w
  · obtain ⟨F, hF⟩ : ∃ F : Int, F = ((rung n.toNat 0 : Nat) : Int) := ⟨_, rfl⟩
    obtain ⟨f0, f1, fr⟩ := whole_word n.toNat (by omega) (by omega) F hF
    have hT : rung n.toNat 0 = F.toNat := by rw [hF, Int.toNat_natCast]
    rw [hT, ← fr k]
    exact Ldexp_any F k f0 f1 k0 k1 w

end Go.Proofs.YtpejebohekcfoaaGreatDoor
/- The walks of the document's Near, case by case. -/
namespace Go.Proofs.YtpejebohekcfoaaGreatDoor
open Go.RowKit

set_option maxHeartbeats 1000000 in
theorem refnear_b_zero (man exp X B L C : Int) (w : World) (_m0 : man = 0)
    (HX : Hid (Brought 5000 exp X)) (_x0 : -5000 ≤ X) (_x1 : X ≤ 5000)
    (cb : ∀ w : World, Calls Tryz.prog 130 #[.int .u64 man] w fun e w' => e = .returned (.int .i64 B) ∧ w' = w) (_b0 : 0 ≤ B) (_b1 : B ≤ 64)
    (HL : Hid ((X + B - 53 ≤ -1074 ∧ L = -1074) ∨ (-1074 ≤ X + B - 53 ∧ L = X + B - 53))) (_l0 : -1074 ≤ L) (_l1 : L ≤ 6000)
    (hC : L - X = C)  :
    Calls Tryz.prog 89 #[.int .u64 man, .int .i64 exp, .bool false] w fun e w' => e = .returned (.int .u64 0) ∧ w' = w := by
  subst _m0
  go_enter Tryz.func89, Tryz.ntmps89
  go_upto_region 1 with fail
  go_cut [1] from 12 to 15 (fun e wx => e = .int .i64 X ∧ wx = w)
  case first =>
    go_wp2_with fail
    all_goals (go_meet; exact ⟨congrArg (Value.int .i64) (by have h := HX.out; unfold Brought at h; omega), rfl⟩)
  case rest =>
  obtain ⟨rfl, rfl⟩ := hcut
  go_upto_region 6 with fail
  go_cut [7] from 25 to 31 (fun e wx => e = .int .i64 L ∧ wx = wc)
  case first =>
    go_wp2_with fail
    refine (cb _).mono ?_
    rintro e w1 ⟨rfl, hw⟩
    subst hw
    go_wp2_with fail
    all_goals (go_meet; exact ⟨congrArg (Value.int .i64) (by have h := HL.out; omega), rfl⟩)
  case rest =>
  obtain ⟨rfl, rfl⟩ := hcut
  go_wp2
  go_ret
  exact ⟨rfl, rfl⟩

set_option maxHeartbeats 1000000 in
theorem refnear_a1_far (man exp X B L C : Int) (w : World) (_m0 : 0 ≤ man) (_m1 : man < 9223372036854775808)
    (HX : Hid (Brought 5000 exp X)) (_x0 : -5000 ≤ X) (_x1 : X ≤ 5000)
    (cb : ∀ w : World, Calls Tryz.prog 130 #[.int .u64 (2 * man + 1)] w fun e w' => e = .returned (.int .i64 B) ∧ w' = w) (_b0 : 0 ≤ B) (_b1 : B ≤ 64)
    (HL : Hid (((X - 1) + B - 53 ≤ -1074 ∧ L = -1074) ∨ (-1074 ≤ (X - 1) + B - 53 ∧ L = (X - 1) + B - 53))) (_l0 : -1074 ≤ L) (_l1 : L ≤ 6000)
    (hC : L - (X - 1) = C) (_c : 64 < C) :
    Calls Tryz.prog 89 #[.int .u64 man, .int .i64 exp, .bool true] w fun e w' => e = .returned (.int .u64 0) ∧ w' = w := by
  have b0 : ((2 * man + 1) == 0) = false := by rw [beq_eq_false_iff_ne]; omega
  go_enter Tryz.func89, Tryz.ntmps89
  go_upto_region 1 with fail
  go_cut [1] from 12 to 15 (fun e wx => e = .int .i64 X ∧ wx = w)
  case first =>
    go_wp2_with fail
    all_goals (go_meet; exact ⟨congrArg (Value.int .i64) (by have h := HX.out; unfold Brought at h; omega), rfl⟩)
  case rest =>
  obtain ⟨rfl, rfl⟩ := hcut
  go_upto_region 6 with fail
  go_cut [7] from 25 to 31 (fun e wx => e = .int .i64 L ∧ wx = wc)
  case first =>
    go_wp2_with fail
    refine (cb _).mono ?_
    rintro e w1 ⟨rfl, hw⟩
    subst hw
    go_wp2_with fail
    all_goals (go_meet; exact ⟨congrArg (Value.int .i64) (by have h := HL.out; omega), rfl⟩)
  case rest =>
  obtain ⟨rfl, rfl⟩ := hcut
  go_wp2
  go_ret
  exact ⟨rfl, rfl⟩

set_option maxHeartbeats 1000000 in
theorem refnear_a1_low (man exp X B L C R : Int) (w : World) (_m0 : 0 ≤ man) (_m1 : man < 9223372036854775808)
    (HX : Hid (Brought 5000 exp X)) (_x0 : -5000 ≤ X) (_x1 : X ≤ 5000)
    (cb : ∀ w : World, Calls Tryz.prog 130 #[.int .u64 (2 * man + 1)] w fun e w' => e = .returned (.int .i64 B) ∧ w' = w) (_b0 : 0 ≤ B) (_b1 : B ≤ 64)
    (HL : Hid (((X - 1) + B - 53 ≤ -1074 ∧ L = -1074) ∨ (-1074 ≤ (X - 1) + B - 53 ∧ L = (X - 1) + B - 53))) (_l0 : -1074 ≤ L) (_l1 : L ≤ 6000)
    (hC : L - (X - 1) = C) (_c : C ≤ 0)
    (ld : ∀ w : World, Calls Tryz.prog 131 #[.float .f64 (floatOfInt .f64 (2 * man + 1)), .int .i64 (X - 1)] w fun e w' => e = .returned (.float .f64 R.toNat) ∧ w' = w)
    (co : ∀ w : World, Calls Tryz.prog 17 #[.float .f64 R.toNat] w fun e w' => e = .returned (.int .u64 R) ∧ w' = w) :
    Calls Tryz.prog 89 #[.int .u64 man, .int .i64 exp, .bool true] w fun e w' => e = .returned (.int .u64 R) ∧ w' = w := by
  have b0 : ((2 * man + 1) == 0) = false := by rw [beq_eq_false_iff_ne]; omega
  go_enter Tryz.func89, Tryz.ntmps89
  go_upto_region 1 with fail
  go_cut [1] from 12 to 15 (fun e wx => e = .int .i64 X ∧ wx = w)
  case first =>
    go_wp2_with fail
    all_goals (go_meet; exact ⟨congrArg (Value.int .i64) (by have h := HX.out; unfold Brought at h; omega), rfl⟩)
  case rest =>
  obtain ⟨rfl, rfl⟩ := hcut
  go_upto_region 6 with fail
  go_cut [7] from 25 to 31 (fun e wx => e = .int .i64 L ∧ wx = wc)
  case first =>
    go_wp2_with fail
    refine (cb _).mono ?_
    rintro e w1 ⟨rfl, hw⟩
    subst hw
    go_wp2_with fail
    all_goals (go_meet; exact ⟨congrArg (Value.int .i64) (by have h := HL.out; omega), rfl⟩)
  case rest =>
  obtain ⟨rfl, rfl⟩ := hcut
  go_wp2_with fail
  refine (ld _).mono ?_
  rintro e w1 ⟨rfl, hw⟩
  subst hw
  go_wp2_with fail
  refine (co _).mono ?_
  rintro e w1 ⟨rfl, hw⟩
  subst hw
  go_wp2
  go_ret
  exact ⟨rfl, rfl⟩

set_option maxHeartbeats 1000000 in
theorem refnear_a1_mid (man exp X B L C R : Int) (F : Int → Nat) (G : Int → Int) (w : World) (_m0 : 0 ≤ man) (_m1 : man < 9223372036854775808)
    (HX : Hid (Brought 5000 exp X)) (_x0 : -5000 ≤ X) (_x1 : X ≤ 5000)
    (cb : ∀ w : World, Calls Tryz.prog 130 #[.int .u64 (2 * man + 1)] w fun e w' => e = .returned (.int .i64 B) ∧ w' = w) (_b0 : 0 ≤ B) (_b1 : B ≤ 64)
    (HL : Hid (((X - 1) + B - 53 ≤ -1074 ∧ L = -1074) ∨ (-1074 ≤ (X - 1) + B - 53 ∧ L = (X - 1) + B - 53))) (_l0 : -1074 ≤ L) (_l1 : L ≤ 6000)
    (hC : L - (X - 1) = C) (_c0 : 0 < C) (_c1 : C < 64) (K T S : Int)
    (hK : (2 * man + 1) / 2 ^ C.toNat = K) (hT : IntKind.u64.wrap (K * 2 ^ C.toNat) = T) (_k0 : 0 ≤ K) (_k1 : K ≤ 9007199254740991) (hS : (2 * man + 1) - T = S) (_s0 : 0 ≤ S) (_s1 : S < 18446744073709551616) (D : Int) (hD : IntKind.u64.wrap (2 ^ (C.toNat - 1)) = D)
    (ld : ∀ (n : Int) (w : World), 0 ≤ n → n ≤ 9007199254740992 → Calls Tryz.prog 131 #[.float .f64 (floatOfInt .f64 n), .int .i64 L] w fun e w' => e = .returned (.float .f64 (F n)) ∧ w' = w)
    (co : ∀ (n : Int) (w : World), 0 ≤ n → n ≤ 9007199254740992 → Calls Tryz.prog 17 #[.float .f64 (F n)] w fun e w' => e = .returned (.int .u64 (G n)) ∧ w' = w)
    (HU : Hid (D < S ∨ (S = D ∧ K % 2 = 1) → G (K + 1) = R)) (HD : Hid (¬ (D < S ∨ (S = D ∧ K % 2 = 1)) → G K = R)) :
    Calls Tryz.prog 89 #[.int .u64 man, .int .i64 exp, .bool true] w fun e w' => e = .returned (.int .u64 R) ∧ w' = w := by
  have b0 : ((2 * man + 1) == 0) = false := by rw [beq_eq_false_iff_ne]; omega
  go_enter Tryz.func89, Tryz.ntmps89
  go_upto_region 1 with fail
  go_cut [1] from 12 to 15 (fun e wx => e = .int .i64 X ∧ wx = w)
  case first =>
    go_wp2_with fail
    all_goals (go_meet; exact ⟨congrArg (Value.int .i64) (by have h := HX.out; unfold Brought at h; omega), rfl⟩)
  case rest =>
  obtain ⟨rfl, rfl⟩ := hcut
  go_upto_region 6 with fail
  go_cut [7] from 25 to 31 (fun e wx => e = .int .i64 L ∧ wx = wc)
  case first =>
    go_wp2_with fail
    refine (cb _).mono ?_
    rintro e w1 ⟨rfl, hw⟩
    subst hw
    go_wp2_with fail
    all_goals (go_meet; exact ⟨congrArg (Value.int .i64) (by have h := HL.out; omega), rfl⟩)
  case rest =>
  obtain ⟨rfl, rfl⟩ := hcut
  go_wp2_with fail
  all_goals
    refine (ld _ _ (by omega) (by omega)).mono ?_
    rintro e w1 ⟨rfl, hw⟩
    subst hw
    go_wp2_with fail
    refine (co _ _ (by omega) (by omega)).mono ?_
    rintro e w1 ⟨rfl, hw⟩
    subst hw
    go_wp2
    go_ret
    rename_i hq
    exact ⟨ret_int (by first | exact HU.out (by omega) | exact HD.out (by omega) | exact HU.out (Or.inr ⟨by omega, eq_of_beq hq⟩) | exact HD.out (by have q := beq_eq_false_iff_ne.1 hq; omega)), rfl⟩

set_option maxHeartbeats 1000000 in
theorem refnear_a1_top (man exp X B L C R : Int) (F : Int → Nat) (G : Int → Int) (w : World) (_m0 : 0 ≤ man) (_m1 : man < 9223372036854775808)
    (HX : Hid (Brought 5000 exp X)) (_x0 : -5000 ≤ X) (_x1 : X ≤ 5000)
    (cb : ∀ w : World, Calls Tryz.prog 130 #[.int .u64 (2 * man + 1)] w fun e w' => e = .returned (.int .i64 B) ∧ w' = w) (_b0 : 0 ≤ B) (_b1 : B ≤ 64)
    (HL : Hid (((X - 1) + B - 53 ≤ -1074 ∧ L = -1074) ∨ (-1074 ≤ (X - 1) + B - 53 ∧ L = (X - 1) + B - 53))) (_l0 : -1074 ≤ L) (_l1 : L ≤ 6000)
    (hC : L - (X - 1) = C) (_c0 : C = 64)
    (ld : ∀ (n : Int) (w : World), 0 ≤ n → n ≤ 9007199254740992 → Calls Tryz.prog 131 #[.float .f64 (floatOfInt .f64 n), .int .i64 L] w fun e w' => e = .returned (.float .f64 (F n)) ∧ w' = w)
    (co : ∀ (n : Int) (w : World), 0 ≤ n → n ≤ 9007199254740992 → Calls Tryz.prog 17 #[.float .f64 (F n)] w fun e w' => e = .returned (.int .u64 (G n)) ∧ w' = w)
    (HU : Hid (9223372036854775808 < (2 * man + 1) ∨ ((2 * man + 1) = 9223372036854775808 ∧ 0 % 2 = 1) → G (0 + 1) = R)) (HD : Hid (¬ (9223372036854775808 < (2 * man + 1) ∨ ((2 * man + 1) = 9223372036854775808 ∧ 0 % 2 = 1)) → G 0 = R)) :
    Calls Tryz.prog 89 #[.int .u64 man, .int .i64 exp, .bool true] w fun e w' => e = .returned (.int .u64 R) ∧ w' = w := by
  have b0 : ((2 * man + 1) == 0) = false := by rw [beq_eq_false_iff_ne]; omega
  go_enter Tryz.func89, Tryz.ntmps89
  go_upto_region 1 with fail
  go_cut [1] from 12 to 15 (fun e wx => e = .int .i64 X ∧ wx = w)
  case first =>
    go_wp2_with fail
    all_goals (go_meet; exact ⟨congrArg (Value.int .i64) (by have h := HX.out; unfold Brought at h; omega), rfl⟩)
  case rest =>
  obtain ⟨rfl, rfl⟩ := hcut
  go_upto_region 6 with fail
  go_cut [7] from 25 to 31 (fun e wx => e = .int .i64 L ∧ wx = wc)
  case first =>
    go_wp2_with fail
    refine (cb _).mono ?_
    rintro e w1 ⟨rfl, hw⟩
    subst hw
    go_wp2_with fail
    all_goals (go_meet; exact ⟨congrArg (Value.int .i64) (by have h := HL.out; omega), rfl⟩)
  case rest =>
  obtain ⟨rfl, rfl⟩ := hcut
  go_wp2_with fail
  all_goals
    refine (ld _ _ (by omega) (by omega)).mono ?_
    rintro e w1 ⟨rfl, hw⟩
    subst hw
    go_wp2_with fail
    refine (co _ _ (by omega) (by omega)).mono ?_
    rintro e w1 ⟨rfl, hw⟩
    subst hw
    go_wp2
    go_ret
    rename_i hq
    exact ⟨ret_int (by first | exact HU.out (by omega) | exact HD.out (by omega) | exact HU.out (Or.inr ⟨by omega, eq_of_beq hq⟩) | exact HD.out (by have q := beq_eq_false_iff_ne.1 hq; omega)), rfl⟩

set_option maxHeartbeats 1000000 in
theorem refnear_a2_far (man exp X B L C : Int) (w : World) (_m0 : 9223372036854775808 ≤ man) (_m1 : man < 18446744073709551616)
    (HX : Hid (Brought 5000 exp X)) (_x0 : -5000 ≤ X) (_x1 : X ≤ 5000)
    (cb : ∀ w : World, Calls Tryz.prog 130 #[.int .u64 man] w fun e w' => e = .returned (.int .i64 B) ∧ w' = w) (_b0 : 0 ≤ B) (_b1 : B ≤ 64)
    (HL : Hid ((X + B - 53 ≤ -1074 ∧ L = -1074) ∨ (-1074 ≤ X + B - 53 ∧ L = X + B - 53))) (_l0 : -1074 ≤ L) (_l1 : L ≤ 6000)
    (hC : L - X = C) (_c : 64 < C) :
    Calls Tryz.prog 89 #[.int .u64 man, .int .i64 exp, .bool true] w fun e w' => e = .returned (.int .u64 0) ∧ w' = w := by
  have b0 : (man == 0) = false := by rw [beq_eq_false_iff_ne]; omega
  go_enter Tryz.func89, Tryz.ntmps89
  go_upto_region 1 with fail
  go_cut [1] from 12 to 15 (fun e wx => e = .int .i64 X ∧ wx = w)
  case first =>
    go_wp2_with fail
    all_goals (go_meet; exact ⟨congrArg (Value.int .i64) (by have h := HX.out; unfold Brought at h; omega), rfl⟩)
  case rest =>
  obtain ⟨rfl, rfl⟩ := hcut
  go_upto_region 6 with fail
  go_cut [7] from 25 to 31 (fun e wx => e = .int .i64 L ∧ wx = wc)
  case first =>
    go_wp2_with fail
    refine (cb _).mono ?_
    rintro e w1 ⟨rfl, hw⟩
    subst hw
    go_wp2_with fail
    all_goals (go_meet; exact ⟨congrArg (Value.int .i64) (by have h := HL.out; omega), rfl⟩)
  case rest =>
  obtain ⟨rfl, rfl⟩ := hcut
  go_wp2
  go_ret
  exact ⟨rfl, rfl⟩

set_option maxHeartbeats 1000000 in
theorem refnear_a2_mid (man exp X B L C R : Int) (F : Int → Nat) (G : Int → Int) (w : World) (_m0 : 9223372036854775808 ≤ man) (_m1 : man < 18446744073709551616)
    (HX : Hid (Brought 5000 exp X)) (_x0 : -5000 ≤ X) (_x1 : X ≤ 5000)
    (cb : ∀ w : World, Calls Tryz.prog 130 #[.int .u64 man] w fun e w' => e = .returned (.int .i64 B) ∧ w' = w) (_b0 : 0 ≤ B) (_b1 : B ≤ 64)
    (HL : Hid ((X + B - 53 ≤ -1074 ∧ L = -1074) ∨ (-1074 ≤ X + B - 53 ∧ L = X + B - 53))) (_l0 : -1074 ≤ L) (_l1 : L ≤ 6000)
    (hC : L - X = C) (_c0 : 0 < C) (_c1 : C < 64) (K T S : Int)
    (hK : man / 2 ^ C.toNat = K) (hT : IntKind.u64.wrap (K * 2 ^ C.toNat) = T) (_k0 : 0 ≤ K) (_k1 : K ≤ 9007199254740991) (hS : man - T = S) (_s0 : 0 ≤ S) (_s1 : S < 18446744073709551616) (D : Int) (hD : IntKind.u64.wrap (2 ^ (C.toNat - 1)) = D)
    (ld : ∀ (n : Int) (w : World), 0 ≤ n → n ≤ 9007199254740992 → Calls Tryz.prog 131 #[.float .f64 (floatOfInt .f64 n), .int .i64 L] w fun e w' => e = .returned (.float .f64 (F n)) ∧ w' = w)
    (co : ∀ (n : Int) (w : World), 0 ≤ n → n ≤ 9007199254740992 → Calls Tryz.prog 17 #[.float .f64 (F n)] w fun e w' => e = .returned (.int .u64 (G n)) ∧ w' = w)
    (HU : Hid (D < S ∨ S = D → G (K + 1) = R)) (HD : Hid (¬ (D < S ∨ S = D) → G K = R)) :
    Calls Tryz.prog 89 #[.int .u64 man, .int .i64 exp, .bool true] w fun e w' => e = .returned (.int .u64 R) ∧ w' = w := by
  have b0 : (man == 0) = false := by rw [beq_eq_false_iff_ne]; omega
  go_enter Tryz.func89, Tryz.ntmps89
  go_upto_region 1 with fail
  go_cut [1] from 12 to 15 (fun e wx => e = .int .i64 X ∧ wx = w)
  case first =>
    go_wp2_with fail
    all_goals (go_meet; exact ⟨congrArg (Value.int .i64) (by have h := HX.out; unfold Brought at h; omega), rfl⟩)
  case rest =>
  obtain ⟨rfl, rfl⟩ := hcut
  go_upto_region 6 with fail
  go_cut [7] from 25 to 31 (fun e wx => e = .int .i64 L ∧ wx = wc)
  case first =>
    go_wp2_with fail
    refine (cb _).mono ?_
    rintro e w1 ⟨rfl, hw⟩
    subst hw
    go_wp2_with fail
    all_goals (go_meet; exact ⟨congrArg (Value.int .i64) (by have h := HL.out; omega), rfl⟩)
  case rest =>
  obtain ⟨rfl, rfl⟩ := hcut
  go_wp2_with fail
  all_goals
    refine (ld _ _ (by omega) (by omega)).mono ?_
    rintro e w1 ⟨rfl, hw⟩
    subst hw
    go_wp2_with fail
    refine (co _ _ (by omega) (by omega)).mono ?_
    rintro e w1 ⟨rfl, hw⟩
    subst hw
    go_wp2
    go_ret
    rename_i hq
    exact ⟨ret_int (by first | exact HU.out (by omega) | exact HD.out (by omega) | exact HU.out (Or.inr ⟨by omega, eq_of_beq hq⟩) | exact HD.out (by have q := beq_eq_false_iff_ne.1 hq; omega)), rfl⟩

set_option maxHeartbeats 1000000 in
theorem refnear_a2_top (man exp X B L C R : Int) (F : Int → Nat) (G : Int → Int) (w : World) (_m0 : 9223372036854775808 ≤ man) (_m1 : man < 18446744073709551616)
    (HX : Hid (Brought 5000 exp X)) (_x0 : -5000 ≤ X) (_x1 : X ≤ 5000)
    (cb : ∀ w : World, Calls Tryz.prog 130 #[.int .u64 man] w fun e w' => e = .returned (.int .i64 B) ∧ w' = w) (_b0 : 0 ≤ B) (_b1 : B ≤ 64)
    (HL : Hid ((X + B - 53 ≤ -1074 ∧ L = -1074) ∨ (-1074 ≤ X + B - 53 ∧ L = X + B - 53))) (_l0 : -1074 ≤ L) (_l1 : L ≤ 6000)
    (hC : L - X = C) (_c0 : C = 64)
    (ld : ∀ (n : Int) (w : World), 0 ≤ n → n ≤ 9007199254740992 → Calls Tryz.prog 131 #[.float .f64 (floatOfInt .f64 n), .int .i64 L] w fun e w' => e = .returned (.float .f64 (F n)) ∧ w' = w)
    (co : ∀ (n : Int) (w : World), 0 ≤ n → n ≤ 9007199254740992 → Calls Tryz.prog 17 #[.float .f64 (F n)] w fun e w' => e = .returned (.int .u64 (G n)) ∧ w' = w)
    (HU : Hid (9223372036854775808 < man ∨ man = 9223372036854775808 → G (0 + 1) = R)) :
    Calls Tryz.prog 89 #[.int .u64 man, .int .i64 exp, .bool true] w fun e w' => e = .returned (.int .u64 R) ∧ w' = w := by
  have b0 : (man == 0) = false := by rw [beq_eq_false_iff_ne]; omega
  go_enter Tryz.func89, Tryz.ntmps89
  go_upto_region 1 with fail
  go_cut [1] from 12 to 15 (fun e wx => e = .int .i64 X ∧ wx = w)
  case first =>
    go_wp2_with fail
    all_goals (go_meet; exact ⟨congrArg (Value.int .i64) (by have h := HX.out; unfold Brought at h; omega), rfl⟩)
  case rest =>
  obtain ⟨rfl, rfl⟩ := hcut
  go_upto_region 6 with fail
  go_cut [7] from 25 to 31 (fun e wx => e = .int .i64 L ∧ wx = wc)
  case first =>
    go_wp2_with fail
    refine (cb _).mono ?_
    rintro e w1 ⟨rfl, hw⟩
    subst hw
    go_wp2_with fail
    all_goals (go_meet; exact ⟨congrArg (Value.int .i64) (by have h := HL.out; omega), rfl⟩)
  case rest =>
  obtain ⟨rfl, rfl⟩ := hcut
  go_wp2_with fail
  all_goals
    refine (ld _ _ (by omega) (by omega)).mono ?_
    rintro e w1 ⟨rfl, hw⟩
    subst hw
    go_wp2_with fail
    refine (co _ _ (by omega) (by omega)).mono ?_
    rintro e w1 ⟨rfl, hw⟩
    subst hw
    go_wp2
    go_ret
    rename_i hq
    exact ⟨ret_int (by first | exact HU.out (by omega) | exact HD.out (by omega) | exact HU.out (Or.inr ⟨by omega, eq_of_beq hq⟩) | exact HD.out (by have q := beq_eq_false_iff_ne.1 hq; omega)), rfl⟩

set_option maxHeartbeats 1000000 in
theorem refnear_b_far (man exp X B L C : Int) (w : World) (_m0 : 0 ≤ man) (_m1 : man < 18446744073709551616)
    (HX : Hid (Brought 5000 exp X)) (_x0 : -5000 ≤ X) (_x1 : X ≤ 5000)
    (cb : ∀ w : World, Calls Tryz.prog 130 #[.int .u64 man] w fun e w' => e = .returned (.int .i64 B) ∧ w' = w) (_b0 : 0 ≤ B) (_b1 : B ≤ 64)
    (HL : Hid ((X + B - 53 ≤ -1074 ∧ L = -1074) ∨ (-1074 ≤ X + B - 53 ∧ L = X + B - 53))) (_l0 : -1074 ≤ L) (_l1 : L ≤ 6000)
    (hC : L - X = C) (_mz : 0 < man) (_c : 64 < C) :
    Calls Tryz.prog 89 #[.int .u64 man, .int .i64 exp, .bool false] w fun e w' => e = .returned (.int .u64 0) ∧ w' = w := by
  have b0 : (man == 0) = false := by rw [beq_eq_false_iff_ne]; omega
  go_enter Tryz.func89, Tryz.ntmps89
  go_upto_region 1 with fail
  go_cut [1] from 12 to 15 (fun e wx => e = .int .i64 X ∧ wx = w)
  case first =>
    go_wp2_with fail
    all_goals (go_meet; exact ⟨congrArg (Value.int .i64) (by have h := HX.out; unfold Brought at h; omega), rfl⟩)
  case rest =>
  obtain ⟨rfl, rfl⟩ := hcut
  go_upto_region 6 with fail
  go_cut [7] from 25 to 31 (fun e wx => e = .int .i64 L ∧ wx = wc)
  case first =>
    go_wp2_with fail
    refine (cb _).mono ?_
    rintro e w1 ⟨rfl, hw⟩
    subst hw
    go_wp2_with fail
    all_goals (go_meet; exact ⟨congrArg (Value.int .i64) (by have h := HL.out; omega), rfl⟩)
  case rest =>
  obtain ⟨rfl, rfl⟩ := hcut
  go_wp2
  go_ret
  exact ⟨rfl, rfl⟩

set_option maxHeartbeats 1000000 in
theorem refnear_b_low (man exp X B L C R : Int) (w : World) (_m0 : 0 ≤ man) (_m1 : man < 18446744073709551616)
    (HX : Hid (Brought 5000 exp X)) (_x0 : -5000 ≤ X) (_x1 : X ≤ 5000)
    (cb : ∀ w : World, Calls Tryz.prog 130 #[.int .u64 man] w fun e w' => e = .returned (.int .i64 B) ∧ w' = w) (_b0 : 0 ≤ B) (_b1 : B ≤ 64)
    (HL : Hid ((X + B - 53 ≤ -1074 ∧ L = -1074) ∨ (-1074 ≤ X + B - 53 ∧ L = X + B - 53))) (_l0 : -1074 ≤ L) (_l1 : L ≤ 6000)
    (hC : L - X = C) (_mz : 0 < man) (_c : C ≤ 0)
    (ld : ∀ w : World, Calls Tryz.prog 131 #[.float .f64 (floatOfInt .f64 man), .int .i64 X] w fun e w' => e = .returned (.float .f64 R.toNat) ∧ w' = w)
    (co : ∀ w : World, Calls Tryz.prog 17 #[.float .f64 R.toNat] w fun e w' => e = .returned (.int .u64 R) ∧ w' = w) :
    Calls Tryz.prog 89 #[.int .u64 man, .int .i64 exp, .bool false] w fun e w' => e = .returned (.int .u64 R) ∧ w' = w := by
  have b0 : (man == 0) = false := by rw [beq_eq_false_iff_ne]; omega
  go_enter Tryz.func89, Tryz.ntmps89
  go_upto_region 1 with fail
  go_cut [1] from 12 to 15 (fun e wx => e = .int .i64 X ∧ wx = w)
  case first =>
    go_wp2_with fail
    all_goals (go_meet; exact ⟨congrArg (Value.int .i64) (by have h := HX.out; unfold Brought at h; omega), rfl⟩)
  case rest =>
  obtain ⟨rfl, rfl⟩ := hcut
  go_upto_region 6 with fail
  go_cut [7] from 25 to 31 (fun e wx => e = .int .i64 L ∧ wx = wc)
  case first =>
    go_wp2_with fail
    refine (cb _).mono ?_
    rintro e w1 ⟨rfl, hw⟩
    subst hw
    go_wp2_with fail
    all_goals (go_meet; exact ⟨congrArg (Value.int .i64) (by have h := HL.out; omega), rfl⟩)
  case rest =>
  obtain ⟨rfl, rfl⟩ := hcut
  go_wp2_with fail
  refine (ld _).mono ?_
  rintro e w1 ⟨rfl, hw⟩
  subst hw
  go_wp2_with fail
  refine (co _).mono ?_
  rintro e w1 ⟨rfl, hw⟩
  subst hw
  go_wp2
  go_ret
  exact ⟨rfl, rfl⟩

set_option maxHeartbeats 1000000 in
theorem refnear_b_mid (man exp X B L C R : Int) (F : Int → Nat) (G : Int → Int) (w : World) (_m0 : 0 ≤ man) (_m1 : man < 18446744073709551616)
    (HX : Hid (Brought 5000 exp X)) (_x0 : -5000 ≤ X) (_x1 : X ≤ 5000)
    (cb : ∀ w : World, Calls Tryz.prog 130 #[.int .u64 man] w fun e w' => e = .returned (.int .i64 B) ∧ w' = w) (_b0 : 0 ≤ B) (_b1 : B ≤ 64)
    (HL : Hid ((X + B - 53 ≤ -1074 ∧ L = -1074) ∨ (-1074 ≤ X + B - 53 ∧ L = X + B - 53))) (_l0 : -1074 ≤ L) (_l1 : L ≤ 6000)
    (hC : L - X = C) (_mz : 0 < man) (_c0 : 0 < C) (_c1 : C < 64) (K T S : Int)
    (hK : man / 2 ^ C.toNat = K) (hT : IntKind.u64.wrap (K * 2 ^ C.toNat) = T) (_k0 : 0 ≤ K) (_k1 : K ≤ 9007199254740991) (hS : man - T = S) (_s0 : 0 ≤ S) (_s1 : S < 18446744073709551616) (D : Int) (hD : IntKind.u64.wrap (2 ^ (C.toNat - 1)) = D)
    (ld : ∀ (n : Int) (w : World), 0 ≤ n → n ≤ 9007199254740992 → Calls Tryz.prog 131 #[.float .f64 (floatOfInt .f64 n), .int .i64 L] w fun e w' => e = .returned (.float .f64 (F n)) ∧ w' = w)
    (co : ∀ (n : Int) (w : World), 0 ≤ n → n ≤ 9007199254740992 → Calls Tryz.prog 17 #[.float .f64 (F n)] w fun e w' => e = .returned (.int .u64 (G n)) ∧ w' = w)
    (HU : Hid (D < S ∨ (S = D ∧ K % 2 = 1) → G (K + 1) = R)) (HD : Hid (¬ (D < S ∨ (S = D ∧ K % 2 = 1)) → G K = R)) :
    Calls Tryz.prog 89 #[.int .u64 man, .int .i64 exp, .bool false] w fun e w' => e = .returned (.int .u64 R) ∧ w' = w := by
  have b0 : (man == 0) = false := by rw [beq_eq_false_iff_ne]; omega
  go_enter Tryz.func89, Tryz.ntmps89
  go_upto_region 1 with fail
  go_cut [1] from 12 to 15 (fun e wx => e = .int .i64 X ∧ wx = w)
  case first =>
    go_wp2_with fail
    all_goals (go_meet; exact ⟨congrArg (Value.int .i64) (by have h := HX.out; unfold Brought at h; omega), rfl⟩)
  case rest =>
  obtain ⟨rfl, rfl⟩ := hcut
  go_upto_region 6 with fail
  go_cut [7] from 25 to 31 (fun e wx => e = .int .i64 L ∧ wx = wc)
  case first =>
    go_wp2_with fail
    refine (cb _).mono ?_
    rintro e w1 ⟨rfl, hw⟩
    subst hw
    go_wp2_with fail
    all_goals (go_meet; exact ⟨congrArg (Value.int .i64) (by have h := HL.out; omega), rfl⟩)
  case rest =>
  obtain ⟨rfl, rfl⟩ := hcut
  go_wp2_with fail
  all_goals
    refine (ld _ _ (by omega) (by omega)).mono ?_
    rintro e w1 ⟨rfl, hw⟩
    subst hw
    go_wp2_with fail
    refine (co _ _ (by omega) (by omega)).mono ?_
    rintro e w1 ⟨rfl, hw⟩
    subst hw
    go_wp2
    go_ret
    rename_i hq
    exact ⟨ret_int (by first | exact HU.out (by omega) | exact HD.out (by omega) | exact HU.out (Or.inr ⟨by omega, eq_of_beq hq⟩) | exact HD.out (by have q := beq_eq_false_iff_ne.1 hq; omega)), rfl⟩

set_option maxHeartbeats 1000000 in
theorem refnear_b_top (man exp X B L C R : Int) (F : Int → Nat) (G : Int → Int) (w : World) (_m0 : 0 ≤ man) (_m1 : man < 18446744073709551616)
    (HX : Hid (Brought 5000 exp X)) (_x0 : -5000 ≤ X) (_x1 : X ≤ 5000)
    (cb : ∀ w : World, Calls Tryz.prog 130 #[.int .u64 man] w fun e w' => e = .returned (.int .i64 B) ∧ w' = w) (_b0 : 0 ≤ B) (_b1 : B ≤ 64)
    (HL : Hid ((X + B - 53 ≤ -1074 ∧ L = -1074) ∨ (-1074 ≤ X + B - 53 ∧ L = X + B - 53))) (_l0 : -1074 ≤ L) (_l1 : L ≤ 6000)
    (hC : L - X = C) (_mz : 0 < man) (_c0 : C = 64)
    (ld : ∀ (n : Int) (w : World), 0 ≤ n → n ≤ 9007199254740992 → Calls Tryz.prog 131 #[.float .f64 (floatOfInt .f64 n), .int .i64 L] w fun e w' => e = .returned (.float .f64 (F n)) ∧ w' = w)
    (co : ∀ (n : Int) (w : World), 0 ≤ n → n ≤ 9007199254740992 → Calls Tryz.prog 17 #[.float .f64 (F n)] w fun e w' => e = .returned (.int .u64 (G n)) ∧ w' = w)
    (HU : Hid (9223372036854775808 < man ∨ (man = 9223372036854775808 ∧ 0 % 2 = 1) → G (0 + 1) = R)) (HD : Hid (¬ (9223372036854775808 < man ∨ (man = 9223372036854775808 ∧ 0 % 2 = 1)) → G 0 = R)) :
    Calls Tryz.prog 89 #[.int .u64 man, .int .i64 exp, .bool false] w fun e w' => e = .returned (.int .u64 R) ∧ w' = w := by
  have b0 : (man == 0) = false := by rw [beq_eq_false_iff_ne]; omega
  go_enter Tryz.func89, Tryz.ntmps89
  go_upto_region 1 with fail
  go_cut [1] from 12 to 15 (fun e wx => e = .int .i64 X ∧ wx = w)
  case first =>
    go_wp2_with fail
    all_goals (go_meet; exact ⟨congrArg (Value.int .i64) (by have h := HX.out; unfold Brought at h; omega), rfl⟩)
  case rest =>
  obtain ⟨rfl, rfl⟩ := hcut
  go_upto_region 6 with fail
  go_cut [7] from 25 to 31 (fun e wx => e = .int .i64 L ∧ wx = wc)
  case first =>
    go_wp2_with fail
    refine (cb _).mono ?_
    rintro e w1 ⟨rfl, hw⟩
    subst hw
    go_wp2_with fail
    all_goals (go_meet; exact ⟨congrArg (Value.int .i64) (by have h := HL.out; omega), rfl⟩)
  case rest =>
  obtain ⟨rfl, rfl⟩ := hcut
  go_wp2_with fail
  all_goals
    refine (ld _ _ (by omega) (by omega)).mono ?_
    rintro e w1 ⟨rfl, hw⟩
    subst hw
    go_wp2_with fail
    refine (co _ _ (by omega) (by omega)).mono ?_
    rintro e w1 ⟨rfl, hw⟩
    subst hw
    go_wp2
    go_ret
    rename_i hq
    exact ⟨ret_int (by first | exact HU.out (by omega) | exact HD.out (by omega) | exact HU.out (Or.inr ⟨by omega, eq_of_beq hq⟩) | exact HD.out (by have q := beq_eq_false_iff_ne.1 hq; omega)), rfl⟩

end Go.Proofs.YtpejebohekcfoaaGreatDoor
/- The document's Near is the number nearest to man, and a half, times a power of two; both Nears are the same. -/
namespace Go.Proofs.YtpejebohekcfoaaGreatDoor
open Go.RowKit

theorem kept_lt (M : Nat) (X L : Int) (C : Nat) (hL : lastPlace M X = L) (hC : L - X = C) : M / 2 ^ C ≤ 9007199254740991 := by
  have h2 := lt_two_log2 M
  have hl : X + M.log2 - 52 ≤ L := by rw [← hL]; unfold lastPlace; omega
  have a : 2 ^ (M.log2 + 1) ≤ 2 ^ (53 + C) := Nat.pow_le_pow_right (by decide) (by omega)
  have b : M < 2 ^ 53 * 2 ^ C := by rw [← Nat.pow_add]; omega
  have c : M / 2 ^ C < 2 ^ 53 := (Nat.div_lt_iff_lt_mul (Nat.two_pow_pos C)).2 b
  have d : M / 2 ^ C < 9007199254740992 := c
  omega

theorem last_form (M : Nat) (X : Int) (hM : M ≠ 0) :
    (X + ((blen M : Nat) : Int) - 53 ≤ -1074 ∧ lastPlace M X = -1074) ∨ (-1074 ≤ X + ((blen M : Nat) : Int) - 53 ∧ lastPlace M X = X + ((blen M : Nat) : Int) - 53) := by
  unfold lastPlace blen
  rw [if_neg hM]
  omega

theorem last_le (M : Nat) (X : Int) (hM : M < 18446744073709551616) (hX : X ≤ 5000) : lastPlace M X ≤ 6000 := by
  unfold lastPlace
  by_cases hz : M = 0
  · subst hz
    have : Nat.log2 0 = 0 := by decide
    rw [this]; omega
  · have := log2_64 M hM hz
    omega

theorem low_small (M : Nat) (X : Int) (h : lastPlace M X - X ≤ 0) : M ≤ 9007199254740992 := by
  have h2 := lt_two_log2 M
  have hl : M.log2 ≤ 52 := by unfold lastPlace at h; omega
  have a : 2 ^ (M.log2 + 1) ≤ 2 ^ 53 := Nat.pow_le_pow_right (by decide) (by omega)
  have b : 2 ^ (M.log2 + 1) ≤ 9007199254740992 := a
  omega

/-- what is rounded of a whole number by Ldexp -/
theorem ld_int (L : Int) (l0 : -90000 ≤ L) (l1 : L ≤ 90000) (n : Int) (w : World) (n0 : 0 ≤ n) (n1 : n ≤ 9007199254740992) :
    Calls Tryz.prog 131 #[.float .f64 (floatOfInt .f64 n), .int .i64 L] w fun e w' => e = .returned (.float .f64 (rung n.toNat L)) ∧ w' = w :=
  Ldexp_int n L n0 n1 l0 l1 w

theorem co_int (L n : Int) (w : World) :
    Calls Tryz.prog 17 #[.float .f64 (rung n.toNat L)] w fun e w' => e = .returned (.int .u64 ((rung n.toNat L : Nat) : Int)) ∧ w' = w :=
  of_rung _ (rung_le _ _) w

theorem refnear_b (man exp X : Int) (w : World) (m0 : 0 ≤ man) (m1 : man < 18446744073709551616) (hX : Brought 5000 exp X) (x0 : -5000 ≤ X) (x1 : X ≤ 5000) :
    Calls Tryz.prog 89 #[.int .u64 man, .int .i64 exp, .bool false] w fun e w' => e = .returned (.int .u64 ((rung man.toNat X : Nat) : Int)) ∧ w' = w := by
  obtain ⟨M, rfl⟩ := Int.eq_ofNat_of_zero_le m0
  have M1 : M < 18446744073709551616 := by omega
  have cb := fun w => refbits_any ((M : Nat) : Int) w m0 m1
  rw [Int.toNat_natCast] at cb ⊢
  have B1 := blen_le M M1
  by_cases hz : M = 0
  · subst hz
    have e : rung 0 X = 0 := rung_zero' X
    have b : blen 0 = 0 := rfl
    rw [e]
    rw [b] at cb
    by_cases c : X - 53 ≤ -1074
    · exact refnear_b_zero _ exp X _ (-1074) _ w rfl hX x0 x1 cb (by omega) (by omega) (Or.inl ⟨by omega, rfl⟩) (by omega) (by omega) rfl
    · exact refnear_b_zero _ exp X _ (X - 53) _ w rfl hX x0 x1 cb (by omega) (by omega) (Or.inr ⟨by omega, by omega⟩) (by omega) (by omega) rfl
  have HL := last_form M X hz
  have L0 := last_ge M X
  have L1 := last_le M X M1 x1
  have low := low_small M X
  have gone := fun C => rung_gone M X C M1
  have shed := fun C => rung_shed M X (lastPlace M X) C hz rfl
  have klt := fun C => kept_lt M X (lastPlace M X) C rfl
  generalize lastPlace M X = L at *
  generalize blen M = B at *
  have pos : (0 : Int) < ((M : Nat) : Int) := by omega
  by_cases c1 : 64 < L - X
  · rw [gone (L - X).toNat (by omega) (by omega)]
    exact refnear_b_far _ exp X _ L _ w m0 m1 hX x0 x1 cb (by omega) (by omega) HL L0 L1 rfl pos c1
  by_cases c2 : L - X ≤ 0
  · have ld := fun w => ld_int X (by omega) (by omega) ((M : Nat) : Int) w m0 (by have := low c2; omega)
    have co := fun w => co_int X ((M : Nat) : Int) w
    rw [Int.toNat_natCast] at ld co
    generalize rung M X = R at *
    exact refnear_b_low _ exp X _ L _ ((R : Nat) : Int) w m0 m1 hX x0 x1 cb (by omega) (by omega) HL L0 L1 rfl pos c2 ld co
  obtain ⟨C, hC⟩ : ∃ C : Nat, L - X = ((C : Nat) : Int) := ⟨(L - X).toNat, by omega⟩
  have C1 : 1 ≤ C := by omega
  have ld := fun (n : Int) (w : World) => ld_int L (by omega) (by omega) n w
  have co := fun (n : Int) (w : World) (_ : 0 ≤ n) (_ : n ≤ 9007199254740992) => co_int L n w
  rw [shed C hC]
  by_cases c3 : C < 64
  · obtain ⟨e1, e2, e3, e4⟩ := shift_parts M C M1 C1 c3
    obtain ⟨u, d⟩ := rne_by M C _ _ _ C1 rfl rfl rfl
    have kk := klt C hC
    have S1 : M % 2 ^ C ≤ M := Nat.mod_le _ _
    clear shed klt low gone
    generalize M / 2 ^ C = K at *
    generalize M % 2 ^ C = S at *
    refine refnear_b_mid _ exp X _ L _ _ (fun n => rung n.toNat L) (fun n => ((rung n.toNat L : Nat) : Int)) w m0 m1 hX x0 x1 cb (by omega) (by omega) HL L0 L1 hC pos (by omega) (by omega)
      ((K : Nat) : Int) ((K * 2 ^ C : Nat) : Int) ((S : Nat) : Int) (by rw [Int.toNat_natCast]; exact e1) (by rw [Int.toNat_natCast, IntKind.wrap_u64]; exact e2) (by omega) (by omega) e3 (by omega) (by omega) ((2 ^ (C - 1) : Nat) : Int) (by rw [Int.toNat_natCast, IntKind.wrap_u64]; exact e4) ld co ?_ ?_
    · intro h
      have := u (by omega)
      show ((rung (((K : Nat) : Int) + 1).toNat L : Nat) : Int) = _
      rw [this, show (((K : Nat) : Int) + 1).toNat = K + 1 from by omega]
    · intro h
      have := d (by omega)
      show ((rung (((K : Nat) : Int)).toNat L : Nat) : Int) = _
      rw [this, Int.toNat_natCast]
  · have C64 : C = 64 := by omega
    subst C64
    obtain ⟨u, d⟩ := rne_by M 64 _ _ _ (by omega) rfl rfl rfl
    have k0 : M / 2 ^ 64 = 0 := Nat.div_eq_of_lt (by show M < 18446744073709551616; omega)
    have s0 : M % 2 ^ 64 = M := Nat.mod_eq_of_lt (by show M < 18446744073709551616; omega)
    have d0 : 2 ^ (64 - 1) = 9223372036854775808 := rfl
    rw [k0, s0, d0] at u d
    clear shed klt low gone k0 s0 d0
    refine refnear_b_top _ exp X _ L _ _ (fun n => rung n.toNat L) (fun n => ((rung n.toNat L : Nat) : Int)) w m0 m1 hX x0 x1 cb (by omega) (by omega) HL L0 L1 hC pos rfl ld co ?_ ?_
    · intro h
      have := u (by omega)
      show ((rung ((0 : Int) + 1).toNat L : Nat) : Int) = _
      rw [this]
      rfl
    · intro h
      have := d (by omega)
      show ((rung (0 : Int).toNat L : Nat) : Int) = _
      rw [this]
      rfl

theorem refnear_a1 (man exp X : Int) (w : World) (m0 : 0 ≤ man) (m1 : man < 9223372036854775808) (hX : Brought 5000 exp X) (x0 : -5000 ≤ X) (x1 : X ≤ 5000) :
    Calls Tryz.prog 89 #[.int .u64 man, .int .i64 exp, .bool true] w fun e w' => e = .returned (.int .u64 ((rung (2 * man.toNat + 1) (X - 1) : Nat) : Int)) ∧ w' = w := by
  obtain ⟨N, rfl⟩ := Int.eq_ofNat_of_zero_le m0
  obtain ⟨M, hM⟩ : ∃ M : Nat, M = 2 * N + 1 := ⟨_, rfl⟩
  have M1 : M < 18446744073709551616 := by omega
  have cb := fun w => refbits_any ((M : Nat) : Int) w (by omega) (by omega)
  rw [Int.toNat_natCast] at cb ⊢
  rw [← hM]
  have hI : ((M : Nat) : Int) = 2 * ((N : Nat) : Int) + 1 := by omega
  have B1 := blen_le M M1
  have hz : M ≠ 0 := by omega
  have HL := last_form M (X - 1) hz
  have L0 := last_ge M (X - 1)
  have L1 := last_le M (X - 1) M1 (by omega)
  have low := low_small M (X - 1)
  have gone := fun C => rung_gone M (X - 1) C M1
  have shed := fun C => rung_shed M (X - 1) (lastPlace M (X - 1)) C hz rfl
  have klt := fun C => kept_lt M (X - 1) (lastPlace M (X - 1)) C rfl
  generalize lastPlace M (X - 1) = L at *
  generalize blen M = B at *
  rw [hI] at cb
  by_cases c1 : 64 < L - (X - 1)
  · rw [gone (L - (X - 1)).toNat (by omega) (by omega)]
    exact refnear_a1_far _ exp X _ L _ w m0 m1 hX x0 x1 cb (by omega) (by omega) HL L0 L1 rfl c1
  by_cases c2 : L - (X - 1) ≤ 0
  · have ld := fun w => ld_int (X - 1) (by omega) (by omega) ((M : Nat) : Int) w (by omega) (by have := low c2; omega)
    have co := fun w => co_int (X - 1) ((M : Nat) : Int) w
    rw [Int.toNat_natCast] at ld co
    generalize rung M (X - 1) = R at *
    rw [hI] at ld
    exact refnear_a1_low _ exp X _ L _ ((R : Nat) : Int) w m0 m1 hX x0 x1 cb (by omega) (by omega) HL L0 L1 rfl c2 ld co
  obtain ⟨C, hC⟩ : ∃ C : Nat, L - (X - 1) = ((C : Nat) : Int) := ⟨(L - (X - 1)).toNat, by omega⟩
  have C1 : 1 ≤ C := by omega
  have ld := fun (n : Int) (w : World) => ld_int L (by omega) (by omega) n w
  have co := fun (n : Int) (w : World) (_ : 0 ≤ n) (_ : n ≤ 9007199254740992) => co_int L n w
  rw [shed C hC]
  by_cases c3 : C < 64
  · obtain ⟨e1, e2, e3, e4⟩ := shift_parts M C M1 C1 c3
    obtain ⟨u, d⟩ := rne_by M C _ _ _ C1 rfl rfl rfl
    have kk := klt C hC
    have S1 : M % 2 ^ C ≤ M := Nat.mod_le _ _
    clear shed klt low gone
    generalize M / 2 ^ C = K at *
    generalize M % 2 ^ C = S at *
    rw [hI] at e1 e3
    refine refnear_a1_mid _ exp X _ L _ _ (fun n => rung n.toNat L) (fun n => ((rung n.toNat L : Nat) : Int)) w m0 m1 hX x0 x1 cb (by omega) (by omega) HL L0 L1 hC (by omega) (by omega)
      ((K : Nat) : Int) ((K * 2 ^ C : Nat) : Int) ((S : Nat) : Int) (by rw [Int.toNat_natCast]; exact e1) (by rw [Int.toNat_natCast, IntKind.wrap_u64]; exact e2) (by omega) (by omega) e3 (by omega) (by omega) ((2 ^ (C - 1) : Nat) : Int) (by rw [Int.toNat_natCast, IntKind.wrap_u64]; exact e4) ld co ?_ ?_
    · intro h
      have := u (by omega)
      show ((rung (((K : Nat) : Int) + 1).toNat L : Nat) : Int) = _
      rw [this, show (((K : Nat) : Int) + 1).toNat = K + 1 from by omega]
    · intro h
      have := d (by omega)
      show ((rung (((K : Nat) : Int)).toNat L : Nat) : Int) = _
      rw [this, Int.toNat_natCast]
  · have C64 : C = 64 := by omega
    subst C64
    obtain ⟨u, d⟩ := rne_by M 64 _ _ _ (by omega) rfl rfl rfl
    have k0 : M / 2 ^ 64 = 0 := Nat.div_eq_of_lt (by show M < 18446744073709551616; omega)
    have s0 : M % 2 ^ 64 = M := Nat.mod_eq_of_lt (by show M < 18446744073709551616; omega)
    have d0 : 2 ^ (64 - 1) = 9223372036854775808 := rfl
    rw [k0, s0, d0] at u d
    clear shed klt low gone k0 s0 d0
    refine refnear_a1_top _ exp X _ L _ _ (fun n => rung n.toNat L) (fun n => ((rung n.toNat L : Nat) : Int)) w m0 m1 hX x0 x1 cb (by omega) (by omega) HL L0 L1 hC rfl ld co ?_ ?_
    · intro h
      have := u (by omega)
      show ((rung ((0 : Int) + 1).toNat L : Nat) : Int) = _
      rw [this]
      rfl
    · intro h
      have := d (by omega)
      show ((rung (0 : Int).toNat L : Nat) : Int) = _
      rw [this]
      rfl

theorem refnear_a2 (man exp X : Int) (w : World) (m0 : 9223372036854775808 ≤ man) (m1 : man < 18446744073709551616) (hX : Brought 5000 exp X) (x0 : -5000 ≤ X) (x1 : X ≤ 5000) :
    Calls Tryz.prog 89 #[.int .u64 man, .int .i64 exp, .bool true] w fun e w' => e = .returned (.int .u64 ((rung (2 * man.toNat + 1) (X - 1) : Nat) : Int)) ∧ w' = w := by
  obtain ⟨M, rfl⟩ := Int.eq_ofNat_of_zero_le (show 0 ≤ man by omega)
  have M1 : M < 18446744073709551616 := by omega
  have cb := fun w => refbits_any ((M : Nat) : Int) w (by omega) (by omega)
  rw [Int.toNat_natCast] at cb ⊢
  have B1 := blen_le M M1
  have hz : M ≠ 0 := by omega
  have HL := last_form M X hz
  have L0 := last_ge M X
  have L1 := last_le M X M1 (by omega)
  have big : 11 ≤ lastPlace M X - X := by
    have := log2_word M (by omega) M1
    unfold lastPlace; rw [this]; omega
  have gone := fun C => rung_gone_half M X C hz M1
  have shed := fun C => rung_shed_half M X (lastPlace M X) C hz rfl
  have klt := fun C => kept_lt M X (lastPlace M X) C rfl
  generalize lastPlace M X = L at *
  generalize blen M = B at *
  by_cases c1 : 64 < L - X
  · rw [gone (L - X).toNat (by omega) (by omega)]
    exact refnear_a2_far _ exp X _ L _ w m0 m1 hX x0 x1 cb (by omega) (by omega) HL L0 L1 rfl c1
  obtain ⟨C, hC⟩ : ∃ C : Nat, L - X = ((C : Nat) : Int) := ⟨(L - X).toNat, by omega⟩
  have C1 : 1 ≤ C := by omega
  have ld := fun (n : Int) (w : World) => ld_int L (by omega) (by omega) n w
  have co := fun (n : Int) (w : World) (_ : 0 ≤ n) (_ : n ≤ 9007199254740992) => co_int L n w
  rw [shed C hC C1]
  by_cases c3 : C < 64
  · obtain ⟨e1, e2, e3, e4⟩ := shift_parts M C M1 C1 c3
    obtain ⟨u, d⟩ := rneH_by M C _ _ _ C1 rfl rfl rfl
    have kk := klt C hC
    have S1 : M % 2 ^ C ≤ M := Nat.mod_le _ _
    clear shed klt gone
    generalize M / 2 ^ C = K at *
    generalize M % 2 ^ C = S at *
    refine refnear_a2_mid _ exp X _ L _ _ (fun n => rung n.toNat L) (fun n => ((rung n.toNat L : Nat) : Int)) w m0 m1 hX x0 x1 cb (by omega) (by omega) HL L0 L1 hC (by omega) (by omega)
      ((K : Nat) : Int) ((K * 2 ^ C : Nat) : Int) ((S : Nat) : Int) (by rw [Int.toNat_natCast]; exact e1) (by rw [Int.toNat_natCast, IntKind.wrap_u64]; exact e2) (by omega) (by omega) e3 (by omega) (by omega) ((2 ^ (C - 1) : Nat) : Int) (by rw [Int.toNat_natCast, IntKind.wrap_u64]; exact e4) ld co ?_ ?_
    · intro h
      have := u (by omega)
      show ((rung (((K : Nat) : Int) + 1).toNat L : Nat) : Int) = _
      rw [this, show (((K : Nat) : Int) + 1).toNat = K + 1 from by omega]
    · intro h
      have := d (by omega)
      show ((rung (((K : Nat) : Int)).toNat L : Nat) : Int) = _
      rw [this, Int.toNat_natCast]
  · have C64 : C = 64 := by omega
    subst C64
    obtain ⟨u, _⟩ := rneH_by M 64 _ _ _ (by omega) rfl rfl rfl
    have k0 : M / 2 ^ 64 = 0 := Nat.div_eq_of_lt (by show M < 18446744073709551616; omega)
    have s0 : M % 2 ^ 64 = M := Nat.mod_eq_of_lt (by show M < 18446744073709551616; omega)
    have d0 : 2 ^ (64 - 1) = 9223372036854775808 := rfl
    rw [k0, s0, d0] at u
    clear shed klt gone k0 s0 d0
    refine refnear_a2_top _ exp X _ L _ _ (fun n => rung n.toNat L) (fun n => ((rung n.toNat L : Nat) : Int)) w m0 m1 hX x0 x1 cb (by omega) (by omega) HL L0 L1 hC rfl ld co ?_
    intro h
    have := u (by omega)
    show ((rung ((0 : Int) + 1).toNat L : Nat) : Int) = _
    rw [this]
    rfl

theorem nmag_n (man : Int) : nmag man false = man.toNat := by unfold nmag; rw [if_neg (by decide)]
theorem nmag_h (man : Int) : nmag man true = 2 * man.toNat + 1 := by unfold nmag; rw [if_pos rfl]
theorem npl_n (c e : Int) : npl c e false = clampI c e := by unfold npl; rw [if_neg (by decide)]
theorem npl_h (c e : Int) : npl c e true = clampI c e - 1 := by unfold npl; rw [if_pos rfl]

theorem refnear_any (man exp : Int) (half : Bool) (h0 : 0 ≤ man) (h1 : man < 18446744073709551616) (w : World) :
    Calls Tryz.prog 89 #[.int .u64 man, .int .i64 exp, .bool half] w fun e w' => e = .returned (.int .u64 (nearI 5000 man exp half)) ∧ w' = w := by
  have hX := brought 5000 exp (by omega)
  obtain ⟨b0, b1⟩ := clamp_bd 5000 exp (by omega)
  unfold nearI
  cases half
  · rw [nmag_n, npl_n]
    exact refnear_b man exp _ w h0 h1 hX b0 b1
  · rw [nmag_h, npl_h]
    by_cases c : man < 9223372036854775808
    · exact refnear_a1 man exp _ w h0 c hX b0 b1
    · exact refnear_a2 man exp _ w (by omega) h1 hX b0 b1

theorem npl_bd (c e : Int) (half : Bool) : clampI c e - 1 ≤ npl c e half ∧ npl c e half ≤ clampI c e := by
  cases half
  · rw [npl_n]; omega
  · rw [npl_h]; omega

theorem near_same (man exp : Int) (half : Bool) (h1 : man < 18446744073709551616) : nearI 5000 man exp half = nearI 2000 man exp half := by
  have hm : nmag man half < 36893488147419103232 := by unfold nmag; split <;> omega
  have c5 := brought 5000 exp (by omega)
  have c2 := brought 2000 exp (by omega)
  obtain ⟨p5, q5⟩ := npl_bd 5000 exp half
  obtain ⟨p2, q2⟩ := npl_bd 2000 exp half
  unfold Brought at c5 c2
  unfold nearI
  generalize nmag man half = M at *
  by_cases c : exp < -2000
  · rw [rung_lo M (npl 5000 exp half) hm (by omega), rung_lo M (npl 2000 exp half) hm (by omega)]
  by_cases c2 : 2000 < exp
  · by_cases z : M = 0
    · subst z; rw [rung_zero', rung_zero']
    · rw [rung_hi M (npl 5000 exp half) z (by omega), rung_hi M (npl 2000 exp half) z (by omega)]
  · have e : npl 5000 exp half = npl 2000 exp half := by
      cases half
      · rw [npl_n, npl_n]; omega
      · rw [npl_h, npl_h]; omega
    rw [e]

end Go.Proofs.YtpejebohekcfoaaGreatDoor
/- The walk of near10, of more than 800 digits, where something is lost. -/
namespace Go.Proofs.YtpejebohekcfoaaGreatDoor.V32
open Go.RowKit
set_option linter.unusedVariables false

set_option maxHeartbeats 4000000 in
set_option maxRecDepth 100000 in
theorem near10_long1 (A : List UInt8) (p : Int) (w : World) (hA : ∀ z ∈ A, isDig z = true) (hl : A.length ≤ 1000000) (p0 : -2199023255554 ≤ p) (p1 : p ≤ 2199023255554) (hne : nodz A ≠ []) (hL : 800 < (nodz A).length) (hlost : ((nodz A).drop 800).any (fun c => c != 48) = true) (hp : ((nodz A).length : Int) + p ≤ 310) (hp2 : -330 ≤ ((nodz A).length : Int) + p) :
    Calls Tryz.prog 91 #[.string (bs A), .int .i64 p] w fun e w' => e = .returned (.int .u64 (valD ((nodz A).take 800 ++ [49]) (((nodz A).length : Int) + p) : Nat)) ∧ w.grownBy w' none := by
  have H0 : Hid (Ld w w A (.string (bs A))) := ⟨A, rfl, ⟨rfl, Nat.le_refl _, hA⟩, grown_refl w⟩
  clear hA
  go_enter Tryz.func91, Tryz.ntmps91
  go_wp2_with fail
  go_loopw [0] (fun dv wr => Ld w wr A dv) (fun dv _ => match dv with | .string X => X.size | _ => 0)
  case atStart => exact H0.out
  case round =>
    clear H0
    obtain ⟨D, rfl, hD, hg⟩ := hrel
    have dl := hD.len
    cases D with
    | nil =>
      have hDe := led_end _ _ hD (by intro x r h; cases h)
      exact absurd hDe.symm hne
    | cons x r =>
      obtain ⟨X, hX⟩ : ∃ X, X = bs (x :: r) := ⟨_, rfl⟩
      have xs : X.size = r.length + 1 := by rw [hX, bs_size]; rfl
      have xp : 0 < X.size := by omega
      have x0 : X[0] = x := by subst hX; rfl
      have HX : Hid (X = bs (x :: r)) := hX
      rw [← hX]
      clear hX
      have rl : r.length ≤ 1000000 := by simp at dl; omega
      by_cases h48 : x = 48
      · subst h48
        have HN : Hid (Ld w wr A (.string (X.extract 1 (r.length + 1)))) := ⟨r, by rw [HX.out, ext_one], led_next _ _ hD, hg⟩
        have x48 : X[0].toNat = 48 := by rw [x0]; rfl
        clear hD dl x0 hg
        go_wp2_with fail
        obtain ⟨D', q3, q5, q6⟩ := HN.out
        refine ⟨⟨D', q3, q5, by first | exact q6 | exact grown_drew q6 | exact grown_drew (grown_drew q6)⟩, ?_⟩
        show (X.extract 1 (r.length + 1)).size < X.size
        rw [ByteArray.size_extract]; omega
      · have hDe := led_end _ _ hD (by intro y t h; cases h; exact h48)
        have n48 : ¬ X[0].toNat = 48 := by rw [x0]; intro h; exact h48 (UInt8.toNat_inj.1 h)
        have L0 : 800 < r.length + 1 := by rw [← hDe] at hL; simp at hL; omega
        have PP0 : -330 ≤ ((r.length : Int) + 1) + p := by rw [← hDe] at hp2; simp at hp2; exact hp2
        have PP1 : ((r.length : Int) + 1) + p ≤ 310 := by rw [← hDe] at hp; simp at hp; exact hp
        have HLOST : Hid (((x :: r).drop 800).any (fun c => c != 48) = true) := by show _ = _; rw [hDe]; exact hlost
        have HDE : Hid (x :: r = nodz A) := hDe
        have HDG0 : Hid (∀ z ∈ x :: r, isDig z = true) := hD.sub
        have HXZ : Hid (x ≠ 48) := h48
        have HAT0 : Hid (∀ k (h : k < X.size), (x :: r)[k]? = some X[k]) := by
          have := HX.out
          subst this
          exact fun k h => bs_at _ k h
        have HGW : Hid (w.grownBy wr none) := hg
        have nb48 : (((X[0].toNat : Nat) : Int) == 48) = false := by simp; omega
        have nb800 : decide (800 < ((r.length : Int) + 1)) = true := decide_eq_true (by omega)
        clear hD hDe dl hL hp hp2 hne x0 h48 hg n48 hlost
        go_wp2_with fail
        go_loopw [5, 6] (fun lv iv w2 => ∃ k : Nat, 800 ≤ k ∧ k ≤ r.length + 1 ∧ iv = .int .i64 k ∧ lv = .bool ((((x :: r).take k).drop 800).any (fun c => c != 48)) ∧ w.grownBy w2 none) (fun _ iv _ => r.length + 1 - (intOf iv).toNat)
        case atStart => exact ⟨800, Nat.le_refl _, by omega, rfl, by rw [List.drop_of_length_le (by simp; omega)]; rfl, HGW.out⟩
        case round =>
          clear HGW
          obtain ⟨k, hk0, hk, rfl, rfl, hg⟩ := hrel
          rcases Nat.lt_or_ge k (r.length + 1) with hlt | hge
          · have hks : k < X.size := by omega
            have ak := HAT0.out k hks
            have e2 : (((x :: r).take (k + 1)).drop 800).any (fun c => c != 48) = ((((x :: r).take k).drop 800).any (fun c => c != 48) || (X[k] != 48)) := by
              rw [List.take_add_one, ak]
              show (((x :: r).take k ++ [X[k]]).drop 800).any _ = _
              rw [List.drop_append_of_le_length (by rw [List.length_take]; simp; omega), List.any_append]
              simp
            have HE : Hid (((k + 1 : Nat) : Int) = (k : Int) + 1) := by show _ = _; omega
            have HE2 : Hid ((((x :: r).take (k + 1)).drop 800).any (fun c => c != 48) = ((((x :: r).take k).drop 800).any (fun c => c != 48) || (X[k] != 48))) := e2
            have HG : Hid (w.grownBy _ none) := hg
            generalize hbb : (((x :: r).take k).drop 800).any (fun c => c != 48) = bb at *
            have bx : ((((X[k]).toNat : Nat) : Int) != 48) = (X[k] != 48) := by
              rw [Bool.eq_iff_iff]
              simp only [bne_iff_ne, ne_eq]
              constructor
              · intro h1 h2; rw [h2] at h1; exact h1 rfl
              · intro h1 h2; exact h1 (UInt8.toNat_inj.1 (by show _ = 48; omega))
            clear e2 ak hg hbb
            cases bb with
            | true =>
              clear bx
              go_wp2_with fail
              refine ⟨⟨k + 1, by omega, by omega, by rw [HE.out], by rw [HE2.out]; rfl, by first | exact HG.out | exact grown_drew HG.out⟩, ?_⟩
              first | (simp [intOf]; done) | (simp [intOf]; omega)
            | false =>
              go_wp2_with fail
              all_goals (refine ⟨⟨k + 1, by omega, by omega, by rw [HE.out], by rw [HE2.out]; first | rfl | simp_all, by first | exact HG.out | exact grown_drew HG.out⟩, ?_⟩; first | (simp [intOf]; done) | (simp [intOf]; omega))
          · have hkk : k = r.length + 1 := by omega
            subst hkk
            rw [List.take_of_length_le (by simp), HLOST.out, show ((r.length + 1 : Nat) : Int) = (r.length : Int) + 1 from by omega]
            have HGW : Hid (w.grownBy _ none) := hg
            clear hg hk hk0 hge HLOST
            obtain ⟨r2, hr2⟩ : ∃ r2, r2 = r.take 799 ++ [49] := ⟨_, rfl⟩
            obtain ⟨X2, hX2⟩ : ∃ X2, X2 = X.extract 0 800 ++ ByteArray.mk #[49] := ⟨_, rfl⟩
            obtain ⟨p2, hp2⟩ : ∃ p2 : Int, p + ((r.length : Int) + 1) - 800 - 1 = p2 := ⟨_, rfl⟩
            have rz : r2.length + 1 = 801 := by rw [hr2]; simp; omega
            have HX2 : Hid (X2 = bs (x :: r2)) := by
              show X2 = _
              rw [hX2, HX.out, ext_take, hr2]
              apply ByteArray.ext
              unfold bs
              simp [ByteArray.data_append]
            have xs2 : X2.size = r2.length + 1 := by rw [HX2.out, bs_size]; rfl
            have XZ : (X.extract 0 800).size = 800 := by rw [ByteArray.size_extract]; omega
            have L1 : ((r2.length : Int) + 1) + p2 ≤ 310 := by omega
            have L3 : -330 ≤ ((r2.length : Int) + 1) + p2 := by omega
            have L2 : r2.length + 1 ≤ 801 := by omega
            have e1 : X2.toList.isEmpty = false := by rw [HX2.out, bs_toList]; rfl
            have HDG : Hid (∀ z ∈ x :: r2, isDig z = true) := by
              intro z hz
              rw [hr2] at hz
              rcases List.mem_cons.1 hz with h | h
              · exact HDG0.out z (by rw [h]; simp)
              · rcases List.mem_append.1 h with h | h
                · exact HDG0.out z (List.mem_cons_of_mem _ (List.mem_of_mem_take h))
                · simp at h
                  rw [h]
                  rfl
            have HAT : Hid (∀ k (h : k < X2.size), (x :: r2)[k]? = some X2[k]) := by
              have := HX2.out
              subst this
              exact fun k h => bs_at _ k h
            have HFIN : Hid (valD ((nodz A).take 800 ++ [49]) (((nodz A).length : Int) + p) = valD (x :: r2) (((x :: r2).length : Int) + p2)) := by
              show _ = _
              rw [← HDE.out, hr2]
              have hl2 : ((x :: r).length : Int) + p = (((x :: (r.take 799 ++ [49])).length : Nat) : Int) + p2 := by simp; omega
              rw [hl2]
              rfl
            have hX2' : X.extract 0 800 ++ ByteArray.mk #[49] = X2 := hX2.symm
            clear HDE
            clear hX2 hr2
            go_wp2_with fail
            have N0 : N32 (wr.alloc (.cells #[] 139)) (.slice (some ⟨wr.heap.size, 0, none⟩) 0 0) 0 := by
              refine ⟨wr.heap.size, ?_, by show wr.heap.size < (wr.heap.push _).size; simp⟩
              rw [wds_zero]
              exact ⟨0, rfl, rfl, .inr ⟨wr.heap.size, 0, #[], rfl, Nat.le_refl _, by show (wr.heap.push _)[wr.heap.size]? = _; simp, Nat.le_refl _, by decide, rfl, rfl⟩⟩
            have HG1 : Hid (w.grownBy (wr.alloc (.cells #[] 139)) none) := grown_tr HGW.out (grown_alloc _ _)
            have HN0 : Hid (N32 (wr.alloc (.cells #[] 139)) (.slice (some ⟨wr.heap.size, 0, none⟩) 0 0) 0) := N0
            clear N0
            generalize wr.alloc (.cells #[] 139) = wa at *
            go_loopw [7, 8] (fun nv iv w2 => ∃ k : Nat, k ≤ r2.length + 1 ∧ iv = .int .i64 k ∧ N32 w2 nv (decN ((x :: r2).take k)) ∧ w.grownBy w2 none) (fun _ iv _ => r2.length + 1 - (intOf iv).toNat)
            case atStart => exact ⟨0, by omega, rfl, HN0.out, HG1.out⟩
            case round =>
              clear HN0 HG1
              obtain ⟨k, hk, rfl, hN, hg⟩ := hrel
              have HLEN : Hid (∀ j, (wds (decN ((x :: r2).take j))).length ≤ 200) := by
                intro j
                exact big_len _ (fun z hz => HDG.out z (List.mem_of_mem_take hz)) (by rw [List.length_take]; simp; omega)
              rcases Nat.lt_or_ge k (r2.length + 1) with hlt | hge
              · have hks : k < X2.size := by omega
                have ak := HAT.out k hks
                have dz := HDG.out _ (List.mem_of_getElem? ak)
                have dz' : 48 ≤ (X2[k]).toNat ∧ (X2[k]).toNat ≤ 57 := by unfold isDig at dz; simpa using dz
                have cc := times_any _ _ _ 10 ((X2[k]).toNat - 48) hN (by decide) (by omega) (by have := HLEN.out k; omega)
                have e2 : decN ((x :: r2).take k) * 10 + ((X2[k]).toNat - 48) = decN ((x :: r2).take (k + 1)) := by
                  rw [List.take_add_one, ak]
                  exact (decN_snoc _ _).symm
                rw [e2] at cc
                have HG : Hid (w.grownBy _ none) := hg
                obtain ⟨z0, z1⟩ := dz'
                generalize hzz : (X2[k]).toNat = z at *
                have ez : ((z - 48 : Nat) : Int) = (z : Int) - 48 := by omega
                rw [ez] at cc
                have HE : Hid (((k + 1 : Nat) : Int) = (k : Int) + 1) := by show _ = _; omega
                clear hN hg ak dz e2 ez HLEN
                go_wp2_with fail
                refine cc.mono ?_
                rintro e w3 ⟨v', rfl, h1, h2⟩
                have HH1 : Hid (N32 w3 v' (decN ((x :: r2).take (k + 1)))) := h1
                have HH2 : Hid (w.grownBy w3 none) := grown_tr HG.out h2
                clear h1 h2
                go_wp2_with fail
                refine ⟨⟨k + 1, by omega, by rw [HE.out], HH1.out, HH2.out⟩, ?_⟩
                first | (simp [intOf]; done) | (simp [intOf]; omega)
              · have hkk : k = r2.length + 1 := by omega
                subst hkk
                rw [List.take_of_length_le (by simp)] at hN
                have HG : Hid (w.grownBy _ none) := hg
                obtain ⟨K, hK⟩ : ∃ K : Nat, K = 200 := ⟨_, rfl⟩
                have K1 : K ≤ 1000 := by omega
                have HK1 : Hid (∀ n : Nat, n ≤ 310 → decN (x :: r2) * 10 ^ n < 4294967296 ^ K) := by
                  intro n hn
                  rw [hK]
                  exact big_dig _ HDG.out (by simp; omega) n hn
                have HK2 : Hid (∀ n : Nat, n ≤ 1140 → 1 * 10 ^ n < 4294967296 ^ K) := by
                  intro n hn
                  rw [hK]
                  exact big_ten n hn
                have HKK : Hid (K = 200) := hK
                clear hK
                have HDP : Hid (0 < decN (x :: r2)) := by
                  have := decN_ge (x :: r2) x r2 rfl (HDG.out x (by simp)) HXZ.out
                  have q : 0 < 10 ^ ((x :: r2).length - 1) := Nat.pow_pos (by decide)
                  show 0 < decN (x :: r2)
                  omega
                clear hg HLEN
                have c1 := tens_any _ _ _ (max p2 0).toNat K hN (by omega) (HK1.out (max p2 0).toNat (by omega)) (by omega)
                have q1 : (((max p2 0).toNat : Nat) : Int) = max p2 0 := by omega
                rw [q1] at c1
                clear q1 hN
                go_wp2_with fail
                refine c1.mono ?_
                rintro e wb ⟨vo, rfl, hO, g1⟩
                have c2 := nat_any wb 1 (by omega) (by omega)
                go_wp2_with fail
                refine c2.mono ?_
                rintro e wc ⟨v1, rfl, hu1, g2⟩
                have c3 := tens_any wc v1 1 (max (-p2) 0).toNat K hu1 (by omega) (HK2.out (max (-p2) 0).toNat (by omega)) (by omega)
                have q1 : (((max (-p2) 0).toNat : Nat) : Int) = max (-p2) 0 := by omega
                rw [q1] at c3
                clear q1 hu1
                go_wp2_with fail
                refine c3.mono ?_
                rintro e wd ⟨vu, rfl, hU, g3⟩
                have hO := (hO.keep g2).keep g3
                have hG := grown_tr HG.out (grown_tr g1 (grown_tr g2 g3))
                clear g1 g2 g3
                rw [Nat.one_mul] at hU
                have HOP : Hid (0 < decN (x :: r2) * 10 ^ (max p2 0).toNat) := Nat.mul_pos HDP.out (Nat.pow_pos (by decide))
                have HUP : Hid (0 < 10 ^ (max (-p2) 0).toNat) := Nat.pow_pos (by decide)
                have HOB : Hid (∀ n : Nat, n ≤ 1280 → decN (x :: r2) * 10 ^ (max p2 0).toNat * 2 ^ n < 4294967296 ^ (K + 40)) := fun n hn => up_bound (HK1.out _ (by omega)) n hn
                have HUB : Hid (∀ n : Nat, n ≤ 1280 → 10 ^ (max (-p2) 0).toNat * 2 ^ n < 4294967296 ^ (K + 40)) := fun n hn => up_bound (by have := HK2.out (max (-p2) 0).toNat (by omega); rw [Nat.one_mul] at this; exact this) n hn
                have HVAL : Hid (valD ((nodz A).take 800 ++ [49]) (((nodz A).length : Int) + p) = nearQ (decN (x :: r2) * 10 ^ (max p2 0).toNat) (10 ^ (max (-p2) 0).toNat)) := by
                  show _ = _
                  rw [HFIN.out]
                  unfold valD
                  have hl1 : (((x :: r2).length : Nat) : Int) = (r2.length : Int) + 1 := by simp
                  rw [if_neg (fun h => h.elim (fun h => absurd h (by simp)) (fun h => by omega)), if_neg (by omega)]
                  rw [show (((x :: r2).length : Nat) + p2 - ((x :: r2).length : Nat)).toNat = (max p2 0).toNat from by omega, show ((((x :: r2).length : Nat) : Int) - (((x :: r2).length : Nat) + p2)).toNat = (max (-p2) 0).toNat from by omega]
                generalize decN (x :: r2) * 10 ^ (max p2 0).toNat = O at *
                generalize 10 ^ (max (-p2) 0).toNat = U at *
                have HOO : Hid (N32 wd vo O) := hO
                have HUU : Hid (N32 wd vu U) := hU
                have HGG : Hid (w.grownBy wd none) := hG
                obtain ⟨u, hu⟩ : ∃ u : Nat, u = 1074 := ⟨_, rfl⟩
                have HU1 : Hid (u = 1074) := hu
                have HS0 : Hid (Seek (O * 2 ^ u) U 0 63) := ⟨by decide, by rw [valN_zero, Nat.zero_mul]; exact Nat.zero_le _, Or.inl (by decide)⟩
                clear hO hU hG hu
                go_wp2_with fail
                go_loopw [11, 12] (fun av bv w2 => ∃ a s : Nat, av = .int .u64 (a : Int) ∧ bv = .int .u64 ((2 ^ s / 2 : Nat) : Int) ∧ s ≤ 63 ∧ Seek (O * 2 ^ u) U a s ∧ wd.grownBy w2 none) (fun _ bv _ => (intOf bv).toNat)
                case atStart => exact ⟨0, 63, rfl, by rfl, by omega, HS0.out, grown_refl _⟩
                case round =>
                  clear HS0
                  obtain ⟨a, s, rfl, rfl, hs, hk, hg⟩ := hrel
                  have al := hk.lt
                  have fm : ∀ (m e : Int) (b n : Bool) (w : World), (Instr.field 92 (.agg #[.int .u64 m, .int .i64 e, .bool b, .bool n]) 0).run Tryz.prog w = .ok (.int .u64 m) w := field_man
                  have fe : ∀ (m e : Int) (b n : Bool) (w : World), (Instr.field 92 (.agg #[.int .u64 m, .int .i64 e, .bool b, .bool n]) 1).run Tryz.prog w = .ok (.int .i64 e) w := field_exp
                  have fv : ∀ (m e : Int) (b n : Bool) (w : World), (Instr.field 92 (.agg #[.int .u64 m, .int .i64 e, .bool b, .bool n]) 2).run Tryz.prog w = .ok (.bool b) w := field_even
                  cases s with
                  | zero =>
                    have HSK : Hid (Seek (O * 2 ^ u) U a 0) := hk
                    have pt := parts_any a al
                    have pb : plaR a ≤ 2100 := by unfold plaR; omega
                    have ml : manR a < 9007199254740992 := by unfold manR; split <;> omega
                    have em : ((2 * manR a + 1 : Nat) : Int) = 2 * ((manR a : Nat) : Int) + 1 := by omega
                    have ag := fun wq (h1 : N32 wq vo O) (h2 : N32 wq vu U) => against_any wq vo vu O U (2 * ((manR a : Nat) : Int) + 1) ((plaR a : Int) - 1074 - 1) (K + 40) h1 h2 (by omega) (by omega) (by omega) (by omega) (by omega) (HOB.out _ (by omega)) (HUB.out _ (by omega))
                    have HEND : Hid (∀ rr : Int, CmpIs rr (O * 2 ^ (max (-((plaR a : Int) - 1074 - 1)) 0).toNat) (U * 2 ^ (max ((plaR a : Int) - 1074 - 1) 0).toNat * (2 * ((manR a : Nat) : Int) + 1).toNat) → nearQ O U = if 0 < rr ∨ (rr = 0 ∧ a % 2 = 1) then a + 1 else a) := by
                      intro rr h
                      refine seek_end O U a u rr HU1.out HSK.out HOP.out HUP.out (cmp_unit (u := u + 1) (e := (plaR a : Int) - 1074 - 1) (by have := HU1.out; omega) ?_)
                      rw [show (2 * ((manR a : Nat) : Int) + 1).toNat = 2 * manR a + 1 from by omega] at h
                      exact h
                    have HGL : Hid (wd.grownBy wr none) := hg
                    have q0 : ((2 ^ 0 / 2 : Nat) : Int) = 0 := rfl
                    rw [q0]
                    obtain ⟨ai, hai⟩ : ∃ ai : Int, (a : Int) = ai := ⟨_, rfl⟩
                    have a0 : 0 ≤ ai := by omega
                    have a1 : ai < 9218868437227405312 := by omega
                    have m0 : 0 ≤ ((manR a : Nat) : Int) := by omega
                    have m1 : ((manR a : Nat) : Int) < 9007199254740992 := by omega
                    have x0 : -1074 ≤ (plaR a : Int) - 1074 := by omega
                    have x1 : (plaR a : Int) - 1074 ≤ 1100 := by omega
                    have HAI : Hid ((a : Int) = ai) := hai
                    rw [hai] at pt ⊢
                    have HPAR : Hid ((a % 2 == 0) = false ↔ a % 2 = 1) := by show _ ↔ _; simp
                    clear hk hg hs al ml em pb hai q0
                    generalize ((manR a : Nat) : Int) = mm at *
                    generalize ((plaR a : Int) - 1074) = ee at *
                    generalize hev : (a % 2 == 0) = ev at *
                    have HEV : Hid ((a % 2 == 0) = ev) := hev
                    clear hev
                    go_wp2_with fail
                    refine (pt _).mono ?_
                    rintro e w3 ⟨⟨n1, rfl⟩, g3⟩
                    have HX4 : Hid ((w3.alloc (.cells #[.int .u64 mm, .int .i64 ee, .bool ev, .bool n1] 92)).cell? ⟨w3.heap.size, 2, none⟩ = some (.bool ev)) := by
                      show _ = _
                      have hb : (w3.alloc (.cells #[.int .u64 mm, .int .i64 ee, .bool ev, .bool n1] 92)).heap[w3.heap.size]? = some (.cells #[.int .u64 mm, .int .i64 ee, .bool ev, .bool n1] 92 (0, 0)) := by
                        show (w3.heap.push _)[w3.heap.size]? = _
                        simp
                      simp only [World.cell?, hb]
                      rfl
                    have gq := grown_tr (grown_tr HGL.out g3) (grown_alloc w3 (.cells #[.int .u64 mm, .int .i64 ee, .bool ev, .bool n1] 92))
                    have cg := ag (w3.alloc (.cells #[.int .u64 mm, .int .i64 ee, .bool ev, .bool n1] 92)) (HOO.out.keep gq) (HUU.out.keep gq)
                    clear g3
                    go_wp2_with fail
                    refine cg.mono ?_
                    rintro e w5 ⟨rr, rfl, hr, g5⟩
                    have EN := HEND.out rr hr
                    have c5 : w5.cell? ⟨w3.heap.size, 2, none⟩ = some (.bool ev) := g5.cell HX4.out (by simp)
                    have HG5 : Hid (w.grownBy w5 none) := grown_tr HGG.out (grown_tr gq g5)
                    have HRES : Hid (valD ((nodz A).take 800 ++ [49]) (((nodz A).length : Int) + p) = if 0 < rr ∨ (rr = 0 ∧ a % 2 = 1) then a + 1 else a) := HVAL.out.trans EN
                    clear EN hr g5 gq cg ag pt
                    rcases Int.lt_trichotomy rr 0 with k | k | k
                    · have FV : Hid (((valD ((nodz A).take 800 ++ [49]) (((nodz A).length : Int) + p) : Nat) : Int) = ai) := by
                        show _ = _
                        rw [HRES.out, if_neg (by omega), HAI.out]
                      go_wp2_with fail
                      go_ret
                      exact ⟨by rw [FV.out]; rfl, HG5.out⟩
                    · subst k
                      cases ev with
                      | true =>
                        have FV : Hid (((valD ((nodz A).take 800 ++ [49]) (((nodz A).length : Int) + p) : Nat) : Int) = ai) := by
                          have hp := HEV.out
                          simp at hp
                          show _ = _
                          rw [HRES.out, if_neg (by omega), HAI.out]
                        go_wp2_with fail
                        go_ret
                        exact ⟨by rw [FV.out]; rfl, HG5.out⟩
                      | false =>
                        have FV : Hid (((valD ((nodz A).take 800 ++ [49]) (((nodz A).length : Int) + p) : Nat) : Int) = ai + 1) := by
                          have hp := HEV.out
                          simp at hp
                          have := HAI.out
                          show _ = _
                          rw [HRES.out, if_pos (by omega)]
                          omega
                        go_wp2_with fail
                        go_ret
                        exact ⟨by rw [FV.out]; rfl, HG5.out⟩
                    · have FV : Hid (((valD ((nodz A).take 800 ++ [49]) (((nodz A).length : Int) + p) : Nat) : Int) = ai + 1) := by
                        have := HAI.out
                        show _ = _
                        rw [HRES.out, if_pos (by omega)]
                        omega
                      go_wp2_with fail
                      go_ret
                      exact ⟨by rw [FV.out]; rfl, HG5.out⟩
                  | succ s =>
                    have eb : 2 ^ (s + 1) / 2 = 2 ^ s := by rw [Nat.pow_succ]; omega
                    have sb : 2 ^ s ≤ 4611686018427387904 := Nat.le_trans (Nat.pow_le_pow_right (by decide) (show s ≤ 62 by omega)) (by decide)
                    have sp : 0 < 2 ^ s := Nat.two_pow_pos s
                    rw [eb]
                    have HY : Hid (a + 2 ^ s < 9218868437227405312 → valN (a + 2 ^ s) * U ≤ O * 2 ^ u → Seek (O * 2 ^ u) U (a + 2 ^ s) s) := fun h1 h2 => seek_yes hk h1 h2
                    have HNO : Hid ((9218868437227405312 ≤ a + 2 ^ s ∨ O * 2 ^ u < valN (a + 2 ^ s) * U) → Seek (O * 2 ^ u) U a s) := fun h1 => seek_no hk h1
                    generalize hB : 2 ^ s = B at *
                    have HB : Hid (2 ^ s = B) := hB
                    clear hB eb hk
                    obtain ⟨bi, hbi⟩ : ∃ bi : Int, (B : Int) = bi := ⟨_, rfl⟩
                    obtain ⟨ai, hai⟩ : ∃ ai : Int, (a : Int) = ai := ⟨_, rfl⟩
                    have b0 : 0 < bi := by omega
                    have b1 : bi ≤ 4611686018427387904 := by omega
                    have a0 : 0 ≤ ai := by omega
                    have a1 : ai < 9218868437227405312 := by omega
                    have HHF : Hid (((B / 2 : Nat) : Int) = bi / 2) := by show _ = _; omega
                    have HAI : Hid ((a : Int) = ai ∧ (B : Int) = bi) := ⟨hai, hbi⟩
                    rcases Nat.lt_or_ge (a + B) 9218868437227405312 with hlt | hge
                    · have pt := parts_any (a + B) hlt
                      have t1 : ai + bi < 9218868437227405312 := by omega
                      have es : ((a + B : Nat) : Int) = ai + bi := by omega
                      rw [es] at pt
                      have pb : plaR (a + B) ≤ 2100 := by unfold plaR; omega
                      have ml : manR (a + B) < 18446744073709551616 := by unfold manR; split <;> omega
                      have ag := fun wq (h1 : N32 wq vo O) (h2 : N32 wq vu U) => against_any wq vo vu O U (manR (a + B) : Nat) ((plaR (a + B) : Int) - 1074) (K + 40) h1 h2 (by omega) (by omega) (by omega) (by omega) (by omega) (HOB.out _ (by omega)) (HUB.out _ (by omega))
                      have HCM : Hid (∀ rr : Int, CmpIs rr (O * 2 ^ (max (-((plaR (a + B) : Int) - 1074)) 0).toNat) (U * 2 ^ (max ((plaR (a + B) : Int) - 1074) 0).toNat * ((manR (a + B) : Nat) : Int).toNat) → CmpIs rr (O * 2 ^ u) (valN (a + B) * U)) := by
                        intro rr h
                        rw [valN_parts]
                        exact cmp_unit (by rw [HU1.out]) (by rw [show (((manR (a + B) : Nat) : Int)).toNat = manR (a + B) from by omega] at h; exact h)
                      have HGL : Hid (wd.grownBy wr none) := hg
                      rw [hai, hbi]
                      have hs2 : s ≤ 62 := by omega
                      clear al sb sp hs hlt hai hbi es hg
                      generalize ((manR (a + B) : Nat) : Int) = mm at *
                      generalize ((plaR (a + B) : Int) - 1074) = ee at *
                      go_wp2_with fail
                      refine (pt _).mono ?_
                      rintro e w3 ⟨⟨n1, rfl⟩, g3⟩
                      go_wp2_with fail
                      refine (pt _).mono ?_
                      rintro e w4 ⟨⟨n2, rfl⟩, g4⟩
                      have gq := grown_tr HGL.out (grown_tr g3 g4)
                      have cg := ag w4 (HOO.out.keep gq) (HUU.out.keep gq)
                      clear g3 g4
                      go_wp2_with fail
                      refine cg.mono ?_
                      rintro e w5 ⟨rr, rfl, hr, g5⟩
                      have CM := HCM.out rr hr
                      have HG5 : Hid (wd.grownBy w5 none) := grown_tr gq g5
                      have LT : a + B < 9218868437227405312 := by have := HAI.out; omega
                      rcases Int.lt_or_le rr 0 with rn | rn
                      · have NX : Seek (O * 2 ^ u) U a s := HNO.out (Or.inr (CM.1.1 rn))
                        have HNX : Hid (Seek (O * 2 ^ u) U a s) := NX
                        clear NX CM hr g5 gq pt ag cg LT
                        go_wp2_with fail
                        refine ⟨⟨a, s, by rw [HAI.out.1], by rw [HB.out, HHF.out], by omega, HNX.out, HG5.out⟩, ?_⟩
                        simp [intOf]; omega
                      · have NX : Seek (O * 2 ^ u) U (a + B) s := HY.out LT (by
                          have n1 : ¬ O * 2 ^ u < valN (a + B) * U := fun h => by have := CM.1.2 h; omega
                          omega)
                        have HNX : Hid (Seek (O * 2 ^ u) U (a + B) s) := NX
                        have HSS : Hid (((a + B : Nat) : Int) = ai + bi) := by show _ = _; have := HAI.out; omega
                        clear NX CM hr g5 gq pt ag cg LT
                        go_wp2_with fail
                        refine ⟨⟨a + B, s, by rw [HSS.out], by rw [HB.out, HHF.out], by omega, HNX.out, HG5.out⟩, ?_⟩
                        simp [intOf]; omega
                    · have HNX : Hid (Seek (O * 2 ^ u) U a s) := HNO.out (Or.inl hge)
                      have t1 : ¬ ai + bi < 9218868437227405312 := by omega
                      have HGL : Hid (wd.grownBy wr none) := hg
                      rw [hai, hbi]
                      have hs2 : s ≤ 62 := by omega
                      clear al sb sp hs hge hai hbi hg fm fe fv
                      go_wp2_with fail
                      refine ⟨⟨a, s, by rw [HAI.out.1], by rw [HB.out, HHF.out], by omega, HNX.out, HGL.out⟩, ?_⟩
                      simp [intOf]; omega

end Go.Proofs.YtpejebohekcfoaaGreatDoor.V32
/- The walk of near10, of more than 800 digits, too small or too great. -/
namespace Go.Proofs.YtpejebohekcfoaaGreatDoor.V32
open Go.RowKit
set_option linter.unusedVariables false

set_option maxHeartbeats 4000000 in
set_option maxRecDepth 100000 in
theorem near10_low0 (A : List UInt8) (p : Int) (w : World) (hA : ∀ z ∈ A, isDig z = true) (hl : A.length ≤ 1000000) (p0 : -2199023255554 ≤ p) (p1 : p ≤ 2199023255554) (hne : nodz A ≠ []) (hL : 800 < (nodz A).length) (hlost : ((nodz A).drop 800).any (fun c => c != 48) = false) (hp : ((nodz A).length : Int) + p < -330) :
    Calls Tryz.prog 91 #[.string (bs A), .int .i64 p] w fun e w' => e = .returned (.int .u64 0) ∧ w.grownBy w' none := by
  have H0 : Hid (Ld w w A (.string (bs A))) := ⟨A, rfl, ⟨rfl, Nat.le_refl _, hA⟩, grown_refl w⟩
  clear hA
  go_enter Tryz.func91, Tryz.ntmps91
  go_wp2_with fail
  go_loopw [0] (fun dv wr => Ld w wr A dv) (fun dv _ => match dv with | .string X => X.size | _ => 0)
  case atStart => exact H0.out
  case round =>
    clear H0
    obtain ⟨D, rfl, hD, hg⟩ := hrel
    have dl := hD.len
    cases D with
    | nil =>
      have hDe := led_end _ _ hD (by intro x r h; cases h)
      exact absurd hDe.symm hne
    | cons x r =>
      obtain ⟨X, hX⟩ : ∃ X, X = bs (x :: r) := ⟨_, rfl⟩
      have xs : X.size = r.length + 1 := by rw [hX, bs_size]; rfl
      have xp : 0 < X.size := by omega
      have x0 : X[0] = x := by subst hX; rfl
      have HX : Hid (X = bs (x :: r)) := hX
      rw [← hX]
      clear hX
      have rl : r.length ≤ 1000000 := by simp at dl; omega
      by_cases h48 : x = 48
      · subst h48
        have HN : Hid (Ld w wr A (.string (X.extract 1 (r.length + 1)))) := ⟨r, by rw [HX.out, ext_one], led_next _ _ hD, hg⟩
        have x48 : X[0].toNat = 48 := by rw [x0]; rfl
        clear hD dl x0 hg
        go_wp2_with fail
        obtain ⟨D', q3, q5, q6⟩ := HN.out
        refine ⟨⟨D', q3, q5, by first | exact q6 | exact grown_drew q6 | exact grown_drew (grown_drew q6)⟩, ?_⟩
        show (X.extract 1 (r.length + 1)).size < X.size
        rw [ByteArray.size_extract]; omega
      · have hDe := led_end _ _ hD (by intro y t h; cases h; exact h48)
        have n48 : ¬ X[0].toNat = 48 := by rw [x0]; intro h; exact h48 (UInt8.toNat_inj.1 h)
        have L0 : 800 < r.length + 1 := by rw [← hDe] at hL; simp at hL; omega
        have PP0 : ((r.length : Int) + 1) + p < -330 := by rw [← hDe] at hp; simp at hp; exact hp
        have HLOST : Hid (((x :: r).drop 800).any (fun c => c != 48) = false) := by show _ = _; rw [hDe]; exact hlost
        have HDE : Hid (x :: r = nodz A) := hDe
        have HDG0 : Hid (∀ z ∈ x :: r, isDig z = true) := hD.sub
        have HXZ : Hid (x ≠ 48) := h48
        have HAT0 : Hid (∀ k (h : k < X.size), (x :: r)[k]? = some X[k]) := by
          have := HX.out
          subst this
          exact fun k h => bs_at _ k h
        have HGW : Hid (w.grownBy wr none) := hg
        have nb48 : (((X[0].toNat : Nat) : Int) == 48) = false := by simp; omega
        have nb800 : decide (800 < ((r.length : Int) + 1)) = true := decide_eq_true (by omega)
        clear hD hDe dl hL hp hne x0 h48 hg n48 hlost
        go_wp2_with fail
        go_loopw [5, 6] (fun lv iv w2 => ∃ k : Nat, 800 ≤ k ∧ k ≤ r.length + 1 ∧ iv = .int .i64 k ∧ lv = .bool ((((x :: r).take k).drop 800).any (fun c => c != 48)) ∧ w.grownBy w2 none) (fun _ iv _ => r.length + 1 - (intOf iv).toNat)
        case atStart => exact ⟨800, Nat.le_refl _, by omega, rfl, by rw [List.drop_of_length_le (by simp; omega)]; rfl, HGW.out⟩
        case round =>
          clear HGW
          obtain ⟨k, hk0, hk, rfl, rfl, hg⟩ := hrel
          rcases Nat.lt_or_ge k (r.length + 1) with hlt | hge
          · have hks : k < X.size := by omega
            have ak := HAT0.out k hks
            have e2 : (((x :: r).take (k + 1)).drop 800).any (fun c => c != 48) = ((((x :: r).take k).drop 800).any (fun c => c != 48) || (X[k] != 48)) := by
              rw [List.take_add_one, ak]
              show (((x :: r).take k ++ [X[k]]).drop 800).any _ = _
              rw [List.drop_append_of_le_length (by rw [List.length_take]; simp; omega), List.any_append]
              simp
            have HE : Hid (((k + 1 : Nat) : Int) = (k : Int) + 1) := by show _ = _; omega
            have HE2 : Hid ((((x :: r).take (k + 1)).drop 800).any (fun c => c != 48) = ((((x :: r).take k).drop 800).any (fun c => c != 48) || (X[k] != 48))) := e2
            have HG : Hid (w.grownBy _ none) := hg
            generalize hbb : (((x :: r).take k).drop 800).any (fun c => c != 48) = bb at *
            have bx : ((((X[k]).toNat : Nat) : Int) != 48) = (X[k] != 48) := by
              rw [Bool.eq_iff_iff]
              simp only [bne_iff_ne, ne_eq]
              constructor
              · intro h1 h2; rw [h2] at h1; exact h1 rfl
              · intro h1 h2; exact h1 (UInt8.toNat_inj.1 (by show _ = 48; omega))
            clear e2 ak hg hbb
            cases bb with
            | true =>
              clear bx
              go_wp2_with fail
              refine ⟨⟨k + 1, by omega, by omega, by rw [HE.out], by rw [HE2.out]; rfl, by first | exact HG.out | exact grown_drew HG.out⟩, ?_⟩
              first | (simp [intOf]; done) | (simp [intOf]; omega)
            | false =>
              go_wp2_with fail
              all_goals (refine ⟨⟨k + 1, by omega, by omega, by rw [HE.out], by rw [HE2.out]; first | rfl | simp_all, by first | exact HG.out | exact grown_drew HG.out⟩, ?_⟩; first | (simp [intOf]; done) | (simp [intOf]; omega))
          · have hkk : k = r.length + 1 := by omega
            subst hkk
            rw [List.take_of_length_le (by simp), HLOST.out, show ((r.length + 1 : Nat) : Int) = (r.length : Int) + 1 from by omega]
            have HGW : Hid (w.grownBy _ none) := hg
            clear hg hk hk0 hge HLOST
            obtain ⟨r2, hr2⟩ : ∃ r2, r2 = r.take 799 := ⟨_, rfl⟩
            obtain ⟨X2, hX2⟩ : ∃ X2, X2 = X.extract 0 800 := ⟨_, rfl⟩
            obtain ⟨p2, hp2⟩ : ∃ p2 : Int, p + ((r.length : Int) + 1) - 800 = p2 := ⟨_, rfl⟩
            have rz : r2.length + 1 = 800 := by rw [hr2]; simp; omega
            have HX2 : Hid (X2 = bs (x :: r2)) := by
              show X2 = _
              rw [hX2, HX.out, ext_take, hr2]
              rfl
            have xs2 : X2.size = r2.length + 1 := by rw [HX2.out, bs_size]; rfl
            have XZ : (X.extract 0 800).size = 800 := by rw [ByteArray.size_extract]; omega
            have L1 : ((r2.length : Int) + 1) + p2 < -330 := by omega
            have L2 : r2.length + 1 ≤ 801 := by omega
            have e1 : X2.toList.isEmpty = false := by rw [HX2.out, bs_toList]; rfl
            have hX2' : X.extract 0 800 = X2 := hX2.symm
            clear HDE
            clear hX2 hr2
            go_wp2_with fail
            go_ret
            exact ⟨rfl, by first | exact HGW.out | exact grown_drew HGW.out⟩

set_option maxHeartbeats 4000000 in
set_option maxRecDepth 100000 in
theorem near10_high0 (A : List UInt8) (p : Int) (w : World) (hA : ∀ z ∈ A, isDig z = true) (hl : A.length ≤ 1000000) (p0 : -2199023255554 ≤ p) (p1 : p ≤ 2199023255554) (hne : nodz A ≠ []) (hL : 800 < (nodz A).length) (hlost : ((nodz A).drop 800).any (fun c => c != 48) = false) (hp : 310 < ((nodz A).length : Int) + p) :
    Calls Tryz.prog 91 #[.string (bs A), .int .i64 p] w fun e w' => e = .returned (.int .u64 9218868437227405312) ∧ w.grownBy w' none := by
  have H0 : Hid (Ld w w A (.string (bs A))) := ⟨A, rfl, ⟨rfl, Nat.le_refl _, hA⟩, grown_refl w⟩
  clear hA
  go_enter Tryz.func91, Tryz.ntmps91
  go_wp2_with fail
  go_loopw [0] (fun dv wr => Ld w wr A dv) (fun dv _ => match dv with | .string X => X.size | _ => 0)
  case atStart => exact H0.out
  case round =>
    clear H0
    obtain ⟨D, rfl, hD, hg⟩ := hrel
    have dl := hD.len
    cases D with
    | nil =>
      have hDe := led_end _ _ hD (by intro x r h; cases h)
      exact absurd hDe.symm hne
    | cons x r =>
      obtain ⟨X, hX⟩ : ∃ X, X = bs (x :: r) := ⟨_, rfl⟩
      have xs : X.size = r.length + 1 := by rw [hX, bs_size]; rfl
      have xp : 0 < X.size := by omega
      have x0 : X[0] = x := by subst hX; rfl
      have HX : Hid (X = bs (x :: r)) := hX
      rw [← hX]
      clear hX
      have rl : r.length ≤ 1000000 := by simp at dl; omega
      by_cases h48 : x = 48
      · subst h48
        have HN : Hid (Ld w wr A (.string (X.extract 1 (r.length + 1)))) := ⟨r, by rw [HX.out, ext_one], led_next _ _ hD, hg⟩
        have x48 : X[0].toNat = 48 := by rw [x0]; rfl
        clear hD dl x0 hg
        go_wp2_with fail
        obtain ⟨D', q3, q5, q6⟩ := HN.out
        refine ⟨⟨D', q3, q5, by first | exact q6 | exact grown_drew q6 | exact grown_drew (grown_drew q6)⟩, ?_⟩
        show (X.extract 1 (r.length + 1)).size < X.size
        rw [ByteArray.size_extract]; omega
      · have hDe := led_end _ _ hD (by intro y t h; cases h; exact h48)
        have n48 : ¬ X[0].toNat = 48 := by rw [x0]; intro h; exact h48 (UInt8.toNat_inj.1 h)
        have L0 : 800 < r.length + 1 := by rw [← hDe] at hL; simp at hL; omega
        have PP0 : 310 < ((r.length : Int) + 1) + p := by rw [← hDe] at hp; simp at hp; exact hp
        have HLOST : Hid (((x :: r).drop 800).any (fun c => c != 48) = false) := by show _ = _; rw [hDe]; exact hlost
        have HDE : Hid (x :: r = nodz A) := hDe
        have HDG0 : Hid (∀ z ∈ x :: r, isDig z = true) := hD.sub
        have HXZ : Hid (x ≠ 48) := h48
        have HAT0 : Hid (∀ k (h : k < X.size), (x :: r)[k]? = some X[k]) := by
          have := HX.out
          subst this
          exact fun k h => bs_at _ k h
        have HGW : Hid (w.grownBy wr none) := hg
        have nb48 : (((X[0].toNat : Nat) : Int) == 48) = false := by simp; omega
        have nb800 : decide (800 < ((r.length : Int) + 1)) = true := decide_eq_true (by omega)
        clear hD hDe dl hL hp hne x0 h48 hg n48 hlost
        go_wp2_with fail
        go_loopw [5, 6] (fun lv iv w2 => ∃ k : Nat, 800 ≤ k ∧ k ≤ r.length + 1 ∧ iv = .int .i64 k ∧ lv = .bool ((((x :: r).take k).drop 800).any (fun c => c != 48)) ∧ w.grownBy w2 none) (fun _ iv _ => r.length + 1 - (intOf iv).toNat)
        case atStart => exact ⟨800, Nat.le_refl _, by omega, rfl, by rw [List.drop_of_length_le (by simp; omega)]; rfl, HGW.out⟩
        case round =>
          clear HGW
          obtain ⟨k, hk0, hk, rfl, rfl, hg⟩ := hrel
          rcases Nat.lt_or_ge k (r.length + 1) with hlt | hge
          · have hks : k < X.size := by omega
            have ak := HAT0.out k hks
            have e2 : (((x :: r).take (k + 1)).drop 800).any (fun c => c != 48) = ((((x :: r).take k).drop 800).any (fun c => c != 48) || (X[k] != 48)) := by
              rw [List.take_add_one, ak]
              show (((x :: r).take k ++ [X[k]]).drop 800).any _ = _
              rw [List.drop_append_of_le_length (by rw [List.length_take]; simp; omega), List.any_append]
              simp
            have HE : Hid (((k + 1 : Nat) : Int) = (k : Int) + 1) := by show _ = _; omega
            have HE2 : Hid ((((x :: r).take (k + 1)).drop 800).any (fun c => c != 48) = ((((x :: r).take k).drop 800).any (fun c => c != 48) || (X[k] != 48))) := e2
            have HG : Hid (w.grownBy _ none) := hg
            generalize hbb : (((x :: r).take k).drop 800).any (fun c => c != 48) = bb at *
            have bx : ((((X[k]).toNat : Nat) : Int) != 48) = (X[k] != 48) := by
              rw [Bool.eq_iff_iff]
              simp only [bne_iff_ne, ne_eq]
              constructor
              · intro h1 h2; rw [h2] at h1; exact h1 rfl
              · intro h1 h2; exact h1 (UInt8.toNat_inj.1 (by show _ = 48; omega))
            clear e2 ak hg hbb
            cases bb with
            | true =>
              clear bx
              go_wp2_with fail
              refine ⟨⟨k + 1, by omega, by omega, by rw [HE.out], by rw [HE2.out]; rfl, by first | exact HG.out | exact grown_drew HG.out⟩, ?_⟩
              first | (simp [intOf]; done) | (simp [intOf]; omega)
            | false =>
              go_wp2_with fail
              all_goals (refine ⟨⟨k + 1, by omega, by omega, by rw [HE.out], by rw [HE2.out]; first | rfl | simp_all, by first | exact HG.out | exact grown_drew HG.out⟩, ?_⟩; first | (simp [intOf]; done) | (simp [intOf]; omega))
          · have hkk : k = r.length + 1 := by omega
            subst hkk
            rw [List.take_of_length_le (by simp), HLOST.out, show ((r.length + 1 : Nat) : Int) = (r.length : Int) + 1 from by omega]
            have HGW : Hid (w.grownBy _ none) := hg
            clear hg hk hk0 hge HLOST
            obtain ⟨r2, hr2⟩ : ∃ r2, r2 = r.take 799 := ⟨_, rfl⟩
            obtain ⟨X2, hX2⟩ : ∃ X2, X2 = X.extract 0 800 := ⟨_, rfl⟩
            obtain ⟨p2, hp2⟩ : ∃ p2 : Int, p + ((r.length : Int) + 1) - 800 = p2 := ⟨_, rfl⟩
            have rz : r2.length + 1 = 800 := by rw [hr2]; simp; omega
            have HX2 : Hid (X2 = bs (x :: r2)) := by
              show X2 = _
              rw [hX2, HX.out, ext_take, hr2]
              rfl
            have xs2 : X2.size = r2.length + 1 := by rw [HX2.out, bs_size]; rfl
            have XZ : (X.extract 0 800).size = 800 := by rw [ByteArray.size_extract]; omega
            have L1 : 310 < ((r2.length : Int) + 1) + p2 := by omega
            have L2 : r2.length + 1 ≤ 801 := by omega
            have e1 : X2.toList.isEmpty = false := by rw [HX2.out, bs_toList]; rfl
            have hX2' : X.extract 0 800 = X2 := hX2.symm
            clear HDE
            clear hX2 hr2
            go_wp2_with fail
            go_ret
            exact ⟨rfl, by first | exact HGW.out | exact grown_drew HGW.out⟩

set_option maxHeartbeats 4000000 in
set_option maxRecDepth 100000 in
theorem near10_low1 (A : List UInt8) (p : Int) (w : World) (hA : ∀ z ∈ A, isDig z = true) (hl : A.length ≤ 1000000) (p0 : -2199023255554 ≤ p) (p1 : p ≤ 2199023255554) (hne : nodz A ≠ []) (hL : 800 < (nodz A).length) (hlost : ((nodz A).drop 800).any (fun c => c != 48) = true) (hp : ((nodz A).length : Int) + p < -330) :
    Calls Tryz.prog 91 #[.string (bs A), .int .i64 p] w fun e w' => e = .returned (.int .u64 0) ∧ w.grownBy w' none := by
  have H0 : Hid (Ld w w A (.string (bs A))) := ⟨A, rfl, ⟨rfl, Nat.le_refl _, hA⟩, grown_refl w⟩
  clear hA
  go_enter Tryz.func91, Tryz.ntmps91
  go_wp2_with fail
  go_loopw [0] (fun dv wr => Ld w wr A dv) (fun dv _ => match dv with | .string X => X.size | _ => 0)
  case atStart => exact H0.out
  case round =>
    clear H0
    obtain ⟨D, rfl, hD, hg⟩ := hrel
    have dl := hD.len
    cases D with
    | nil =>
      have hDe := led_end _ _ hD (by intro x r h; cases h)
      exact absurd hDe.symm hne
    | cons x r =>
      obtain ⟨X, hX⟩ : ∃ X, X = bs (x :: r) := ⟨_, rfl⟩
      have xs : X.size = r.length + 1 := by rw [hX, bs_size]; rfl
      have xp : 0 < X.size := by omega
      have x0 : X[0] = x := by subst hX; rfl
      have HX : Hid (X = bs (x :: r)) := hX
      rw [← hX]
      clear hX
      have rl : r.length ≤ 1000000 := by simp at dl; omega
      by_cases h48 : x = 48
      · subst h48
        have HN : Hid (Ld w wr A (.string (X.extract 1 (r.length + 1)))) := ⟨r, by rw [HX.out, ext_one], led_next _ _ hD, hg⟩
        have x48 : X[0].toNat = 48 := by rw [x0]; rfl
        clear hD dl x0 hg
        go_wp2_with fail
        obtain ⟨D', q3, q5, q6⟩ := HN.out
        refine ⟨⟨D', q3, q5, by first | exact q6 | exact grown_drew q6 | exact grown_drew (grown_drew q6)⟩, ?_⟩
        show (X.extract 1 (r.length + 1)).size < X.size
        rw [ByteArray.size_extract]; omega
      · have hDe := led_end _ _ hD (by intro y t h; cases h; exact h48)
        have n48 : ¬ X[0].toNat = 48 := by rw [x0]; intro h; exact h48 (UInt8.toNat_inj.1 h)
        have L0 : 800 < r.length + 1 := by rw [← hDe] at hL; simp at hL; omega
        have PP0 : ((r.length : Int) + 1) + p < -330 := by rw [← hDe] at hp; simp at hp; exact hp
        have HLOST : Hid (((x :: r).drop 800).any (fun c => c != 48) = true) := by show _ = _; rw [hDe]; exact hlost
        have HDE : Hid (x :: r = nodz A) := hDe
        have HDG0 : Hid (∀ z ∈ x :: r, isDig z = true) := hD.sub
        have HXZ : Hid (x ≠ 48) := h48
        have HAT0 : Hid (∀ k (h : k < X.size), (x :: r)[k]? = some X[k]) := by
          have := HX.out
          subst this
          exact fun k h => bs_at _ k h
        have HGW : Hid (w.grownBy wr none) := hg
        have nb48 : (((X[0].toNat : Nat) : Int) == 48) = false := by simp; omega
        have nb800 : decide (800 < ((r.length : Int) + 1)) = true := decide_eq_true (by omega)
        clear hD hDe dl hL hp hne x0 h48 hg n48 hlost
        go_wp2_with fail
        go_loopw [5, 6] (fun lv iv w2 => ∃ k : Nat, 800 ≤ k ∧ k ≤ r.length + 1 ∧ iv = .int .i64 k ∧ lv = .bool ((((x :: r).take k).drop 800).any (fun c => c != 48)) ∧ w.grownBy w2 none) (fun _ iv _ => r.length + 1 - (intOf iv).toNat)
        case atStart => exact ⟨800, Nat.le_refl _, by omega, rfl, by rw [List.drop_of_length_le (by simp; omega)]; rfl, HGW.out⟩
        case round =>
          clear HGW
          obtain ⟨k, hk0, hk, rfl, rfl, hg⟩ := hrel
          rcases Nat.lt_or_ge k (r.length + 1) with hlt | hge
          · have hks : k < X.size := by omega
            have ak := HAT0.out k hks
            have e2 : (((x :: r).take (k + 1)).drop 800).any (fun c => c != 48) = ((((x :: r).take k).drop 800).any (fun c => c != 48) || (X[k] != 48)) := by
              rw [List.take_add_one, ak]
              show (((x :: r).take k ++ [X[k]]).drop 800).any _ = _
              rw [List.drop_append_of_le_length (by rw [List.length_take]; simp; omega), List.any_append]
              simp
            have HE : Hid (((k + 1 : Nat) : Int) = (k : Int) + 1) := by show _ = _; omega
            have HE2 : Hid ((((x :: r).take (k + 1)).drop 800).any (fun c => c != 48) = ((((x :: r).take k).drop 800).any (fun c => c != 48) || (X[k] != 48))) := e2
            have HG : Hid (w.grownBy _ none) := hg
            generalize hbb : (((x :: r).take k).drop 800).any (fun c => c != 48) = bb at *
            have bx : ((((X[k]).toNat : Nat) : Int) != 48) = (X[k] != 48) := by
              rw [Bool.eq_iff_iff]
              simp only [bne_iff_ne, ne_eq]
              constructor
              · intro h1 h2; rw [h2] at h1; exact h1 rfl
              · intro h1 h2; exact h1 (UInt8.toNat_inj.1 (by show _ = 48; omega))
            clear e2 ak hg hbb
            cases bb with
            | true =>
              clear bx
              go_wp2_with fail
              refine ⟨⟨k + 1, by omega, by omega, by rw [HE.out], by rw [HE2.out]; rfl, by first | exact HG.out | exact grown_drew HG.out⟩, ?_⟩
              first | (simp [intOf]; done) | (simp [intOf]; omega)
            | false =>
              go_wp2_with fail
              all_goals (refine ⟨⟨k + 1, by omega, by omega, by rw [HE.out], by rw [HE2.out]; first | rfl | simp_all, by first | exact HG.out | exact grown_drew HG.out⟩, ?_⟩; first | (simp [intOf]; done) | (simp [intOf]; omega))
          · have hkk : k = r.length + 1 := by omega
            subst hkk
            rw [List.take_of_length_le (by simp), HLOST.out, show ((r.length + 1 : Nat) : Int) = (r.length : Int) + 1 from by omega]
            have HGW : Hid (w.grownBy _ none) := hg
            clear hg hk hk0 hge HLOST
            obtain ⟨r2, hr2⟩ : ∃ r2, r2 = r.take 799 ++ [49] := ⟨_, rfl⟩
            obtain ⟨X2, hX2⟩ : ∃ X2, X2 = X.extract 0 800 ++ ByteArray.mk #[49] := ⟨_, rfl⟩
            obtain ⟨p2, hp2⟩ : ∃ p2 : Int, p + ((r.length : Int) + 1) - 800 - 1 = p2 := ⟨_, rfl⟩
            have rz : r2.length + 1 = 801 := by rw [hr2]; simp; omega
            have HX2 : Hid (X2 = bs (x :: r2)) := by
              show X2 = _
              rw [hX2, HX.out, ext_take, hr2]
              apply ByteArray.ext
              unfold bs
              simp [ByteArray.data_append]
            have xs2 : X2.size = r2.length + 1 := by rw [HX2.out, bs_size]; rfl
            have XZ : (X.extract 0 800).size = 800 := by rw [ByteArray.size_extract]; omega
            have L1 : ((r2.length : Int) + 1) + p2 < -330 := by omega
            have L2 : r2.length + 1 ≤ 801 := by omega
            have e1 : X2.toList.isEmpty = false := by rw [HX2.out, bs_toList]; rfl
            have hX2' : X.extract 0 800 ++ ByteArray.mk #[49] = X2 := hX2.symm
            clear HDE
            clear hX2 hr2
            go_wp2_with fail
            go_ret
            exact ⟨rfl, by first | exact HGW.out | exact grown_drew HGW.out⟩

set_option maxHeartbeats 4000000 in
set_option maxRecDepth 100000 in
theorem near10_high1 (A : List UInt8) (p : Int) (w : World) (hA : ∀ z ∈ A, isDig z = true) (hl : A.length ≤ 1000000) (p0 : -2199023255554 ≤ p) (p1 : p ≤ 2199023255554) (hne : nodz A ≠ []) (hL : 800 < (nodz A).length) (hlost : ((nodz A).drop 800).any (fun c => c != 48) = true) (hp : 310 < ((nodz A).length : Int) + p) :
    Calls Tryz.prog 91 #[.string (bs A), .int .i64 p] w fun e w' => e = .returned (.int .u64 9218868437227405312) ∧ w.grownBy w' none := by
  have H0 : Hid (Ld w w A (.string (bs A))) := ⟨A, rfl, ⟨rfl, Nat.le_refl _, hA⟩, grown_refl w⟩
  clear hA
  go_enter Tryz.func91, Tryz.ntmps91
  go_wp2_with fail
  go_loopw [0] (fun dv wr => Ld w wr A dv) (fun dv _ => match dv with | .string X => X.size | _ => 0)
  case atStart => exact H0.out
  case round =>
    clear H0
    obtain ⟨D, rfl, hD, hg⟩ := hrel
    have dl := hD.len
    cases D with
    | nil =>
      have hDe := led_end _ _ hD (by intro x r h; cases h)
      exact absurd hDe.symm hne
    | cons x r =>
      obtain ⟨X, hX⟩ : ∃ X, X = bs (x :: r) := ⟨_, rfl⟩
      have xs : X.size = r.length + 1 := by rw [hX, bs_size]; rfl
      have xp : 0 < X.size := by omega
      have x0 : X[0] = x := by subst hX; rfl
      have HX : Hid (X = bs (x :: r)) := hX
      rw [← hX]
      clear hX
      have rl : r.length ≤ 1000000 := by simp at dl; omega
      by_cases h48 : x = 48
      · subst h48
        have HN : Hid (Ld w wr A (.string (X.extract 1 (r.length + 1)))) := ⟨r, by rw [HX.out, ext_one], led_next _ _ hD, hg⟩
        have x48 : X[0].toNat = 48 := by rw [x0]; rfl
        clear hD dl x0 hg
        go_wp2_with fail
        obtain ⟨D', q3, q5, q6⟩ := HN.out
        refine ⟨⟨D', q3, q5, by first | exact q6 | exact grown_drew q6 | exact grown_drew (grown_drew q6)⟩, ?_⟩
        show (X.extract 1 (r.length + 1)).size < X.size
        rw [ByteArray.size_extract]; omega
      · have hDe := led_end _ _ hD (by intro y t h; cases h; exact h48)
        have n48 : ¬ X[0].toNat = 48 := by rw [x0]; intro h; exact h48 (UInt8.toNat_inj.1 h)
        have L0 : 800 < r.length + 1 := by rw [← hDe] at hL; simp at hL; omega
        have PP0 : 310 < ((r.length : Int) + 1) + p := by rw [← hDe] at hp; simp at hp; exact hp
        have HLOST : Hid (((x :: r).drop 800).any (fun c => c != 48) = true) := by show _ = _; rw [hDe]; exact hlost
        have HDE : Hid (x :: r = nodz A) := hDe
        have HDG0 : Hid (∀ z ∈ x :: r, isDig z = true) := hD.sub
        have HXZ : Hid (x ≠ 48) := h48
        have HAT0 : Hid (∀ k (h : k < X.size), (x :: r)[k]? = some X[k]) := by
          have := HX.out
          subst this
          exact fun k h => bs_at _ k h
        have HGW : Hid (w.grownBy wr none) := hg
        have nb48 : (((X[0].toNat : Nat) : Int) == 48) = false := by simp; omega
        have nb800 : decide (800 < ((r.length : Int) + 1)) = true := decide_eq_true (by omega)
        clear hD hDe dl hL hp hne x0 h48 hg n48 hlost
        go_wp2_with fail
        go_loopw [5, 6] (fun lv iv w2 => ∃ k : Nat, 800 ≤ k ∧ k ≤ r.length + 1 ∧ iv = .int .i64 k ∧ lv = .bool ((((x :: r).take k).drop 800).any (fun c => c != 48)) ∧ w.grownBy w2 none) (fun _ iv _ => r.length + 1 - (intOf iv).toNat)
        case atStart => exact ⟨800, Nat.le_refl _, by omega, rfl, by rw [List.drop_of_length_le (by simp; omega)]; rfl, HGW.out⟩
        case round =>
          clear HGW
          obtain ⟨k, hk0, hk, rfl, rfl, hg⟩ := hrel
          rcases Nat.lt_or_ge k (r.length + 1) with hlt | hge
          · have hks : k < X.size := by omega
            have ak := HAT0.out k hks
            have e2 : (((x :: r).take (k + 1)).drop 800).any (fun c => c != 48) = ((((x :: r).take k).drop 800).any (fun c => c != 48) || (X[k] != 48)) := by
              rw [List.take_add_one, ak]
              show (((x :: r).take k ++ [X[k]]).drop 800).any _ = _
              rw [List.drop_append_of_le_length (by rw [List.length_take]; simp; omega), List.any_append]
              simp
            have HE : Hid (((k + 1 : Nat) : Int) = (k : Int) + 1) := by show _ = _; omega
            have HE2 : Hid ((((x :: r).take (k + 1)).drop 800).any (fun c => c != 48) = ((((x :: r).take k).drop 800).any (fun c => c != 48) || (X[k] != 48))) := e2
            have HG : Hid (w.grownBy _ none) := hg
            generalize hbb : (((x :: r).take k).drop 800).any (fun c => c != 48) = bb at *
            have bx : ((((X[k]).toNat : Nat) : Int) != 48) = (X[k] != 48) := by
              rw [Bool.eq_iff_iff]
              simp only [bne_iff_ne, ne_eq]
              constructor
              · intro h1 h2; rw [h2] at h1; exact h1 rfl
              · intro h1 h2; exact h1 (UInt8.toNat_inj.1 (by show _ = 48; omega))
            clear e2 ak hg hbb
            cases bb with
            | true =>
              clear bx
              go_wp2_with fail
              refine ⟨⟨k + 1, by omega, by omega, by rw [HE.out], by rw [HE2.out]; rfl, by first | exact HG.out | exact grown_drew HG.out⟩, ?_⟩
              first | (simp [intOf]; done) | (simp [intOf]; omega)
            | false =>
              go_wp2_with fail
              all_goals (refine ⟨⟨k + 1, by omega, by omega, by rw [HE.out], by rw [HE2.out]; first | rfl | simp_all, by first | exact HG.out | exact grown_drew HG.out⟩, ?_⟩; first | (simp [intOf]; done) | (simp [intOf]; omega))
          · have hkk : k = r.length + 1 := by omega
            subst hkk
            rw [List.take_of_length_le (by simp), HLOST.out, show ((r.length + 1 : Nat) : Int) = (r.length : Int) + 1 from by omega]
            have HGW : Hid (w.grownBy _ none) := hg
            clear hg hk hk0 hge HLOST
            obtain ⟨r2, hr2⟩ : ∃ r2, r2 = r.take 799 ++ [49] := ⟨_, rfl⟩
            obtain ⟨X2, hX2⟩ : ∃ X2, X2 = X.extract 0 800 ++ ByteArray.mk #[49] := ⟨_, rfl⟩
            obtain ⟨p2, hp2⟩ : ∃ p2 : Int, p + ((r.length : Int) + 1) - 800 - 1 = p2 := ⟨_, rfl⟩
            have rz : r2.length + 1 = 801 := by rw [hr2]; simp; omega
            have HX2 : Hid (X2 = bs (x :: r2)) := by
              show X2 = _
              rw [hX2, HX.out, ext_take, hr2]
              apply ByteArray.ext
              unfold bs
              simp [ByteArray.data_append]
            have xs2 : X2.size = r2.length + 1 := by rw [HX2.out, bs_size]; rfl
            have XZ : (X.extract 0 800).size = 800 := by rw [ByteArray.size_extract]; omega
            have L1 : 310 < ((r2.length : Int) + 1) + p2 := by omega
            have L2 : r2.length + 1 ≤ 801 := by omega
            have e1 : X2.toList.isEmpty = false := by rw [HX2.out, bs_toList]; rfl
            have hX2' : X.extract 0 800 ++ ByteArray.mk #[49] = X2 := hX2.symm
            clear HDE
            clear hX2 hr2
            go_wp2_with fail
            go_ret
            exact ⟨rfl, by first | exact HGW.out | exact grown_drew HGW.out⟩

end Go.Proofs.YtpejebohekcfoaaGreatDoor.V32
/- near10 of every row of digits. -/
namespace Go.Proofs.YtpejebohekcfoaaGreatDoor.V32
open Go.RowKit
set_option linter.unusedVariables false

theorem all_drop (l : List UInt8) (h : ∀ z ∈ l, z = 48) : l.dropWhile (· == 48) = [] := by
  induction l with
  | nil => rfl
  | cons c r ih =>
    have hc := h c (by simp)
    subst hc
    simpa using ih (fun z hz => h z (by simp [hz]))

theorem drop_all (l : List UInt8) (h : l.dropWhile (· == 48) = []) : ∀ z ∈ l, z = 48 := by
  induction l with
  | nil => intro z hz; simp at hz
  | cons c r ih =>
    intro z hz
    rw [List.dropWhile_cons] at h
    split at h
    · rename_i hc
      rcases List.mem_cons.1 hz with rfl | hz
      · simpa using hc
      · exact ih h z hz
    · cases h

/-- nothing but noughts -/
theorem trimB_nil (l : List UInt8) : Lib.trimB l 48 = [] ↔ l.any (fun c => c != 48) = false := by
  unfold Lib.trimB Lib.trimLeftB Lib.trimRightB
  rw [List.any_eq_false]
  constructor
  · intro h z hz
    have h1 := drop_all _ h
    have e : ∀ m : List UInt8, (∀ z ∈ (m.dropWhile (· == 48)).reverse, z = 48) → ∀ z ∈ m, z = 48 := by
      intro m
      induction m with
      | nil => intro _ z hz; simp at hz
      | cons c r ih =>
        intro hm z hz
        rw [List.dropWhile_cons] at hm
        split at hm
        · rename_i hc
          rcases List.mem_cons.1 hz with rfl | hz
          · simpa using hc
          · exact ih hm z hz
        · exact hm z (List.mem_reverse.2 hz)
    have := e l.reverse h1 z (List.mem_reverse.2 hz)
    simp [this]
  · intro h
    have h1 : ∀ z ∈ l, z = 48 := by
      intro z hz
      have := h z hz
      simpa using this
    rw [all_drop l.reverse (fun z hz => h1 z (List.mem_reverse.1 hz))]
    rfl

/-- NEAR10 OF EVERY ROW OF DIGITS -/
theorem near10_any (A : List UInt8) (p : Int) (w : World) (hA : ∀ z ∈ A, isDig z = true) (hl : A.length ≤ 1000000) (p0 : -2199023255554 ≤ p) (p1 : p ≤ 2199023255554) :
    Calls Tryz.prog 91 #[.string (bs A), .int .i64 p] w fun e w' => e = .returned (.int .u64 (valD (sigD A) (((nodz A).length : Int) + p) : Nat)) ∧ w.grownBy w' none := by
  have v0 : ∀ (D : List UInt8) (q : Int), q < -330 → valD D q = 0 := fun D q h => by unfold valD; rw [if_pos (Or.inr h)]
  have v1 : ∀ (D : List UInt8) (q : Int), D ≠ [] → 310 < q → valD D q = 9218868437227405312 := fun D q hd h => by
    unfold valD; rw [if_neg (by rintro (k | k); exact hd k; omega), if_pos h]
  by_cases hn : nodz A = []
  · have s : sigD A = [] := by unfold sigD; rw [hn]; rfl
    have e : valD (sigD A) (((nodz A).length : Int) + p) = 0 := by rw [s]; unfold valD; rw [if_pos (Or.inl rfl)]
    rw [e]
    exact near10_nil A p w hA hl p0 p1 hn
  · rcases Nat.lt_or_ge 800 (nodz A).length with hL | hL
    · have ne : ∀ t : List UInt8, (nodz A).take 800 ++ t ≠ [] := by
        intro t h
        have := congrArg List.length h
        rw [List.length_append, List.length_take, Nat.min_eq_left (by omega), List.length_nil] at this
        omega
      cases hb : ((nodz A).drop 800).any (fun c => c != 48) with
      | false =>
        have s : sigD A = (nodz A).take 800 := by unfold sigD; rw [if_neg (by omega), if_pos ((trimB_nil _).2 hb), List.append_nil]
        have ne0 : (nodz A).take 800 ≠ [] := by have := ne []; rwa [List.append_nil] at this
        rw [s]
        rcases Int.lt_or_le (((nodz A).length : Int) + p) (-330) with c | c
        · rw [v0 _ _ c]; exact near10_low0 A p w hA hl p0 p1 hn hL hb c
        · rcases Int.lt_or_le 310 (((nodz A).length : Int) + p) with d | d
          · rw [v1 _ _ ne0 d]; exact near10_high0 A p w hA hl p0 p1 hn hL hb d
          · exact near10_long0 A p w hA hl p0 p1 hn hL hb d c
      | true =>
        have s : sigD A = (nodz A).take 800 ++ [49] := by
          unfold sigD
          rw [if_neg (by omega), if_neg (fun h => by have := (trimB_nil _).1 h; rw [hb] at this; cases this)]
        rw [s]
        rcases Int.lt_or_le (((nodz A).length : Int) + p) (-330) with c | c
        · rw [v0 _ _ c]; exact near10_low1 A p w hA hl p0 p1 hn hL hb c
        · rcases Int.lt_or_le 310 (((nodz A).length : Int) + p) with d | d
          · rw [v1 _ _ (ne _) d]; exact near10_high1 A p w hA hl p0 p1 hn hL hb d
          · exact near10_long1 A p w hA hl p0 p1 hn hL hb d c
    · have s : sigD A = nodz A := by unfold sigD; rw [if_pos hL]
      rw [s]
      rcases Int.lt_or_le (((nodz A).length : Int) + p) (-330) with c | c
      · rw [v0 _ _ c]; exact near10_low A p w hA hl p0 p1 hn hL c
      · rcases Int.lt_or_le 310 (((nodz A).length : Int) + p) with d | d
        · rw [v1 _ _ hn d]; exact near10_high A p w hA hl p0 p1 hn hL d
        · exact near10_main A p w hA hl p0 p1 hn hL d c

end Go.Proofs.YtpejebohekcfoaaGreatDoor.V32
/- The walks of the document's Decimal. -/
namespace Go.Proofs.YtpejebohekcfoaaGreatDoor.V32
open Go.RowKit
set_option linter.unusedVariables false

theorem digits_same (s : ByteArray) (w : World) (hs : s.size ≤ 1000000) :
    Calls Tryz.prog 90 #[.string s] w fun e w' => e = .returned (.int .i64 (cnt s.data.toList : Nat)) ∧ w' = w := by
  go_enter Tryz.func90, Tryz.ntmps90
  go_wp2_with fail
  go_loop [3] (fun i => ∃ k : Nat, k ≤ cnt s.data.toList ∧ i = .int .i64 k) (fun i => cnt s.data.toList - (intOf i).toNat)
  case atStart => exact ⟨0, Nat.zero_le _, rfl⟩
  case round =>
    obtain ⟨k, hk, rfl⟩ := hrel
    have cl := cnt_le s.data.toList
    rw [← size_len] at cl
    by_cases c : k < s.size
    · have ak := at_k s k c
      by_cases d : 48 ≤ (s[k]).toNat
      · by_cases d2 : (s[k]).toNat ≤ 57
        · have nx := cnt_yes _ k _ hk ak (by simp [isDig, d, d2])
          go_wp2
          refine ⟨⟨k + 1, nx, by go_num⟩, ?_⟩
          simp [intOf]; omega
        · have HX : Hid (k = cnt s.data.toList) := cnt_no _ k _ hk ak (by simp [isDig, d2])
          have ki : (k : Int) ≤ s.size := by omega
          clear hk cl ak
          go_wp2
          go_ret
          exact ⟨by rw [← HX.out]; rfl, rfl⟩
      · have HX : Hid (k = cnt s.data.toList) := cnt_no _ k _ hk ak (by simp [isDig, d])
        have ki : (k : Int) ≤ s.size := by omega
        clear hk cl ak
        go_wp2
        go_ret
        exact ⟨by rw [← HX.out]; rfl, rfl⟩
    · have HX : Hid (k = cnt s.data.toList) := by show _ = _; omega
      have ki : (k : Int) ≤ s.size := by omega
      clear hk cl
      go_wp2
      go_ret
      exact ⟨by rw [← HX.out]; rfl, rfl⟩

theorem hex_digit (c : Int) (w : World) (h0 : 0 ≤ c) (h1 : c ≤ 255) (hd : (48 ≤ c ∧ c ≤ 57) ∨ (97 ≤ c ∧ c ≤ 102) ∨ (65 ≤ c ∧ c ≤ 70)) :
    Calls Tryz.prog 88 #[.int .u8 c] w fun e w' => e = .returned (.int .u64 (if c ≤ 57 then c - 48 else if 97 ≤ c then c - 97 + 10 else c - 65 + 10)) ∧ w' = w := by
  rcases hd with ⟨a, b⟩ | ⟨a, b⟩ | ⟨a, b⟩
  · rw [if_pos b]
    go_enter Tryz.func88, Tryz.ntmps88
    go_wp2
    go_ret
    exact ⟨rfl, rfl⟩
  · rw [if_neg (by omega), if_pos a]
    go_enter Tryz.func88, Tryz.ntmps88
    go_wp2
    go_ret
    exact ⟨rfl, rfl⟩
  · rw [if_neg (by omega), if_neg (by omega)]
    go_enter Tryz.func88, Tryz.ntmps88
    go_wp2
    go_ret
    exact ⟨rfl, rfl⟩


/-- what a call of Digits says -/
def DigC (s : ByteArray) (n : Nat) : Prop := ∀ w : World, Calls Tryz.prog 90 #[.string s] w fun e w' => e = .returned (.int .i64 (n : Int)) ∧ w' = w


set_option maxHeartbeats 4000000 in
theorem dec_a1 (s s1 : ByteArray) (A : Nat) (w : World) (zs : s.size ≤ 1000000) (z1 : s1.size ≤ 1000000)
    (c1 : DigC s A) (hA : A ≤ s.size) (h1 : s.extract A s.size = s1) (hd : s1.size = 0)
    (hz : ((A : Int) == 0) = true) :
    Calls Tryz.prog 41 #[.string s] w fun e w' => e = .returned (.tuple #[.int .i64 ((0 : Nat) : Int), .int .i64 ((0 : Nat) : Int), .bool false, .bool false]) ∧ w' = w := by
  go_enter Tryz.func41, Tryz.ntmps41; go_wp2_with (first | (go_at_call_of 90 (Value.string s); refine (c1 _).mono ?_; rintro e w1 ⟨rfl, rfl⟩))
  exact bodyPost_ret (v := .tuple #[.int .i64 ((0 : Nat) : Int), .int .i64 ((0 : Nat) : Int), .bool false, .bool false]) (by simp [results, Tryz.results41, go_sem] <;> omega) rfl ⟨rfl, rfl⟩

set_option maxHeartbeats 4000000 in
theorem dec_a2 (s s1 : ByteArray) (A : Nat) (w : World) (zs : s.size ≤ 1000000) (z1 : s1.size ≤ 1000000)
    (c1 : DigC s A) (hA : A ≤ s.size) (h1 : s.extract A s.size = s1) (hd : s1.size = 0)
    (hz : 0 < A) :
    Calls Tryz.prog 41 #[.string s] w fun e w' => e = .returned (.tuple #[.int .i64 ((A : Nat) : Int), .int .i64 ((0 : Nat) : Int), .bool false, .bool true]) ∧ w' = w := by
  go_enter Tryz.func41, Tryz.ntmps41; go_wp2_with (first | (go_at_call_of 90 (Value.string s); refine (c1 _).mono ?_; rintro e w1 ⟨rfl, rfl⟩))
  exact bodyPost_ret (v := .tuple #[.int .i64 ((A : Nat) : Int), .int .i64 ((0 : Nat) : Int), .bool false, .bool true]) (by simp [results, Tryz.results41, go_sem] <;> omega) rfl ⟨rfl, rfl⟩

set_option maxHeartbeats 4000000 in
theorem dec_b1 (s s1 : ByteArray) (A : Nat) (w : World) (zs : s.size ≤ 1000000) (z1 : s1.size ≤ 1000000)
    (c1 : DigC s A) (hA : A ≤ s.size) (h1 : s.extract A s.size = s1) (hd : 0 < s1.size) (hd1 : (((s1[0]).toNat : Int) == 46) = false)
    (hz : ((A : Int) == 0) = true) :
    Calls Tryz.prog 41 #[.string s] w fun e w' => e = .returned (.tuple #[.int .i64 ((0 : Nat) : Int), .int .i64 ((0 : Nat) : Int), .bool false, .bool false]) ∧ w' = w := by
  go_enter Tryz.func41, Tryz.ntmps41; go_wp2_with (first | (go_at_call_of 90 (Value.string s); refine (c1 _).mono ?_; rintro e w1 ⟨rfl, rfl⟩))
  exact bodyPost_ret (v := .tuple #[.int .i64 ((0 : Nat) : Int), .int .i64 ((0 : Nat) : Int), .bool false, .bool false]) (by simp [results, Tryz.results41, go_sem] <;> omega) rfl ⟨rfl, rfl⟩

set_option maxHeartbeats 4000000 in
theorem dec_b3 (s s1 : ByteArray) (A : Nat) (w : World) (zs : s.size ≤ 1000000) (z1 : s1.size ≤ 1000000)
    (c1 : DigC s A) (hA : A ≤ s.size) (h1 : s.extract A s.size = s1) (hd : 0 < s1.size) (hd1 : (((s1[0]).toNat : Int) == 46) = false)
    (hz : 0 < A) (he : (((s1[0]).toNat : Int) != 101) = true) (he2 : (((s1[0]).toNat : Int) != 69) = true) :
    Calls Tryz.prog 41 #[.string s] w fun e w' => e = .returned (.tuple #[.int .i64 ((0 : Nat) : Int), .int .i64 ((0 : Nat) : Int), .bool false, .bool false]) ∧ w' = w := by
  go_enter Tryz.func41, Tryz.ntmps41; go_wp2_with (first | (go_at_call_of 90 (Value.string s); refine (c1 _).mono ?_; rintro e w1 ⟨rfl, rfl⟩))
  exact bodyPost_ret (v := .tuple #[.int .i64 ((0 : Nat) : Int), .int .i64 ((0 : Nat) : Int), .bool false, .bool false]) (by simp [results, Tryz.results41, go_sem] <;> omega) rfl ⟨rfl, rfl⟩

set_option maxHeartbeats 4000000 in
theorem dec_b4 (s s1 R1 R2 : ByteArray) (A N : Nat) (ok : Bool) (w : World) (zs : s.size ≤ 1000000) (z1 : s1.size ≤ 1000000) (zr1 : R1.size ≤ 1000000) (zr2 : R2.size ≤ 1000000)
    (c1 : DigC s A) (hA : A ≤ s.size) (h1 : s.extract A s.size = s1) (hd : 0 < s1.size) (hd1 : (((s1[0]).toNat : Int) == 46) = false)
    (hz : 0 < A) (he : (((s1[0]).toNat : Int) != 101) = false ∨ ((((s1[0]).toNat : Int) != 101) = true ∧ (((s1[0]).toNat : Int) != 69) = false)) (h3 : s1.extract 1 s1.size = R1) (hs : (R1.size = 0 ∧ R1 = R2) ∨ (∃ k : 0 < R1.size, (((R1[0]).toNat : Int) == 43) = false ∧ (((R1[0]).toNat : Int) == 45) = false ∧ R1 = R2) ∨ (∃ k : 0 < R1.size, (((R1[0]).toNat : Int) == 43) = true ∧ R1.extract 1 R1.size = R2) ∨ (∃ k : 0 < R1.size, (((R1[0]).toNat : Int) == 43) = false ∧ (((R1[0]).toNat : Int) == 45) = true ∧ R1.extract 1 R1.size = R2)) (c4 : DigC R2 N) (ho : (N = 0 ∧ ok = false) ∨ (0 < N ∧ N ≠ R2.size ∧ ok = false) ∨ (0 < N ∧ N = R2.size ∧ ok = true)) :
    Calls Tryz.prog 41 #[.string s] w fun e w' => e = .returned (.tuple #[.int .i64 ((A : Nat) : Int), .int .i64 ((0 : Nat) : Int), .bool false, .bool ok]) ∧ w' = w := by
  rcases he with he | ⟨he, he2⟩ <;> rcases hs with ⟨k0, rfl⟩ | ⟨k0, k1, k2, rfl⟩ | ⟨k0, k1, h4⟩ | ⟨k0, k1, k2, h4⟩ <;> rcases ho with ⟨n0, rfl⟩ | ⟨n0, n1, rfl⟩ | ⟨n0, n1, rfl⟩
  all_goals (go_enter Tryz.func41, Tryz.ntmps41; go_wp2_with (first | (go_at_call_of 90 (Value.string s); refine (c1 _).mono ?_; rintro e w1 ⟨rfl, rfl⟩) | (go_at_call 90; refine (c4 _).mono ?_; rintro e w1 ⟨rfl, rfl⟩)))
  all_goals first | exact bodyPost_ret (v := .tuple #[.int .i64 ((A : Nat) : Int), .int .i64 ((0 : Nat) : Int), .bool false, .bool false]) (by simp [results, Tryz.results41, go_sem] <;> omega) rfl ⟨rfl, rfl⟩ | exact bodyPost_ret (v := .tuple #[.int .i64 ((A : Nat) : Int), .int .i64 ((0 : Nat) : Int), .bool false, .bool true]) (by simp [results, Tryz.results41, go_sem] <;> omega) rfl ⟨rfl, rfl⟩

set_option maxHeartbeats 4000000 in
theorem dec_c1 (s s1 s2 R : ByteArray) (A B : Nat) (w : World) (zs : s.size ≤ 1000000) (z1 : s1.size ≤ 1000000) (zr : R.size ≤ 1000000)
    (c1 : DigC s A) (hA : A ≤ s.size) (h1 : s.extract A s.size = s1) (hd : 0 < s1.size) (hd1 : (((s1[0]).toNat : Int) == 46) = true) (h2 : s1.extract 1 s1.size = s2) (c2 : DigC s2 B) (hB : 1 + B ≤ s1.size) (hR : s1.extract (1 + B) s1.size = R)
    (hz : (((A : Int) + (B : Int)) == 0) = true) :
    Calls Tryz.prog 41 #[.string s] w fun e w' => e = .returned (.tuple #[.int .i64 ((0 : Nat) : Int), .int .i64 ((0 : Nat) : Int), .bool false, .bool false]) ∧ w' = w := by
  go_enter Tryz.func41, Tryz.ntmps41; go_wp2_with (first | (go_at_call_of 90 (Value.string s); refine (c1 _).mono ?_; rintro e w1 ⟨rfl, rfl⟩) | (go_at_call_of 90 (Value.string s2); refine (c2 _).mono ?_; rintro e w1 ⟨rfl, rfl⟩))
  exact bodyPost_ret (v := .tuple #[.int .i64 ((0 : Nat) : Int), .int .i64 ((0 : Nat) : Int), .bool false, .bool false]) (by simp [results, Tryz.results41, go_sem] <;> omega) rfl ⟨rfl, rfl⟩

set_option maxHeartbeats 4000000 in
theorem dec_c2 (s s1 s2 R : ByteArray) (A B : Nat) (w : World) (zs : s.size ≤ 1000000) (z1 : s1.size ≤ 1000000) (zr : R.size ≤ 1000000)
    (c1 : DigC s A) (hA : A ≤ s.size) (h1 : s.extract A s.size = s1) (hd : 0 < s1.size) (hd1 : (((s1[0]).toNat : Int) == 46) = true) (h2 : s1.extract 1 s1.size = s2) (c2 : DigC s2 B) (hB : 1 + B ≤ s1.size) (hR : s1.extract (1 + B) s1.size = R)
    (hz : 0 < A + B) (hr : R.size = 0) :
    Calls Tryz.prog 41 #[.string s] w fun e w' => e = .returned (.tuple #[.int .i64 ((A : Nat) : Int), .int .i64 ((B : Nat) : Int), .bool true, .bool true]) ∧ w' = w := by
  go_enter Tryz.func41, Tryz.ntmps41; go_wp2_with (first | (go_at_call_of 90 (Value.string s); refine (c1 _).mono ?_; rintro e w1 ⟨rfl, rfl⟩) | (go_at_call_of 90 (Value.string s2); refine (c2 _).mono ?_; rintro e w1 ⟨rfl, rfl⟩))
  exact bodyPost_ret (v := .tuple #[.int .i64 ((A : Nat) : Int), .int .i64 ((B : Nat) : Int), .bool true, .bool true]) (by simp [results, Tryz.results41, go_sem] <;> omega) rfl ⟨rfl, rfl⟩

set_option maxHeartbeats 4000000 in
theorem dec_c3 (s s1 s2 R : ByteArray) (A B : Nat) (w : World) (zs : s.size ≤ 1000000) (z1 : s1.size ≤ 1000000) (zr : R.size ≤ 1000000)
    (c1 : DigC s A) (hA : A ≤ s.size) (h1 : s.extract A s.size = s1) (hd : 0 < s1.size) (hd1 : (((s1[0]).toNat : Int) == 46) = true) (h2 : s1.extract 1 s1.size = s2) (c2 : DigC s2 B) (hB : 1 + B ≤ s1.size) (hR : s1.extract (1 + B) s1.size = R)
    (hz : 0 < A + B) (hr : 0 < R.size) (he : (((R[0]).toNat : Int) != 101) = true) (he2 : (((R[0]).toNat : Int) != 69) = true) :
    Calls Tryz.prog 41 #[.string s] w fun e w' => e = .returned (.tuple #[.int .i64 ((0 : Nat) : Int), .int .i64 ((0 : Nat) : Int), .bool false, .bool false]) ∧ w' = w := by
  go_enter Tryz.func41, Tryz.ntmps41; go_wp2_with (first | (go_at_call_of 90 (Value.string s); refine (c1 _).mono ?_; rintro e w1 ⟨rfl, rfl⟩) | (go_at_call_of 90 (Value.string s2); refine (c2 _).mono ?_; rintro e w1 ⟨rfl, rfl⟩))
  exact bodyPost_ret (v := .tuple #[.int .i64 ((0 : Nat) : Int), .int .i64 ((0 : Nat) : Int), .bool false, .bool false]) (by simp [results, Tryz.results41, go_sem] <;> omega) rfl ⟨rfl, rfl⟩

set_option maxHeartbeats 4000000 in
theorem dec_c4 (s s1 s2 R R1 R2 : ByteArray) (A B N : Nat) (ok : Bool) (w : World) (zs : s.size ≤ 1000000) (z1 : s1.size ≤ 1000000) (zr : R.size ≤ 1000000) (zr1 : R1.size ≤ 1000000) (zr2 : R2.size ≤ 1000000)
    (c1 : DigC s A) (hA : A ≤ s.size) (h1 : s.extract A s.size = s1) (hd : 0 < s1.size) (hd1 : (((s1[0]).toNat : Int) == 46) = true) (h2 : s1.extract 1 s1.size = s2) (c2 : DigC s2 B) (hB : 1 + B ≤ s1.size) (hR : s1.extract (1 + B) s1.size = R)
    (hz : 0 < A + B) (hr : 0 < R.size) (he : (((R[0]).toNat : Int) != 101) = false ∨ ((((R[0]).toNat : Int) != 101) = true ∧ (((R[0]).toNat : Int) != 69) = false)) (h3 : R.extract 1 R.size = R1) (hs : (R1.size = 0 ∧ R1 = R2) ∨ (∃ k : 0 < R1.size, (((R1[0]).toNat : Int) == 43) = false ∧ (((R1[0]).toNat : Int) == 45) = false ∧ R1 = R2) ∨ (∃ k : 0 < R1.size, (((R1[0]).toNat : Int) == 43) = true ∧ R1.extract 1 R1.size = R2) ∨ (∃ k : 0 < R1.size, (((R1[0]).toNat : Int) == 43) = false ∧ (((R1[0]).toNat : Int) == 45) = true ∧ R1.extract 1 R1.size = R2)) (c4 : DigC R2 N) (ho : (N = 0 ∧ ok = false) ∨ (0 < N ∧ N ≠ R2.size ∧ ok = false) ∨ (0 < N ∧ N = R2.size ∧ ok = true)) :
    Calls Tryz.prog 41 #[.string s] w fun e w' => e = .returned (.tuple #[.int .i64 ((A : Nat) : Int), .int .i64 ((B : Nat) : Int), .bool true, .bool ok]) ∧ w' = w := by
  rcases he with he | ⟨he, he2⟩ <;> rcases hs with ⟨k0, rfl⟩ | ⟨k0, k1, k2, rfl⟩ | ⟨k0, k1, h4⟩ | ⟨k0, k1, k2, h4⟩ <;> rcases ho with ⟨n0, rfl⟩ | ⟨n0, n1, rfl⟩ | ⟨n0, n1, rfl⟩
  all_goals (go_enter Tryz.func41, Tryz.ntmps41; go_wp2_with (first | (go_at_call_of 90 (Value.string s); refine (c1 _).mono ?_; rintro e w1 ⟨rfl, rfl⟩) | (go_at_call_of 90 (Value.string s2); refine (c2 _).mono ?_; rintro e w1 ⟨rfl, rfl⟩) | (go_at_call 90; refine (c4 _).mono ?_; rintro e w1 ⟨rfl, rfl⟩)))
  all_goals first | exact bodyPost_ret (v := .tuple #[.int .i64 ((A : Nat) : Int), .int .i64 ((B : Nat) : Int), .bool true, .bool false]) (by simp [results, Tryz.results41, go_sem] <;> omega) rfl ⟨rfl, rfl⟩ | exact bodyPost_ret (v := .tuple #[.int .i64 ((A : Nat) : Int), .int .i64 ((B : Nat) : Int), .bool true, .bool true]) (by simp [results, Tryz.results41, go_sem] <;> omega) rfl ⟨rfl, rfl⟩

end Go.Proofs.YtpejebohekcfoaaGreatDoor.V32
/- What the document's parsed says, plain. -/
namespace Go.Proofs.YtpejebohekcfoaaGreatDoor.V32
open Go.RowKit
set_option linter.unusedVariables false

def pstep (st : List UInt8 × Nat × Bool) (c : UInt8) : List UInt8 × Nat × Bool :=
  if c = 46 then (st.1, st.2.1, true) else (st.1 ++ [c], (if st.2.2 = true then st.2.1 + 1 else st.2.1), st.2.2)
def pst (l : List UInt8) : List UInt8 × Nat × Bool := l.foldl pstep ([], 0, false)

def qstep (st : Nat × Int) (c : UInt8) : Nat × Int :=
  if c = 45 then (st.1, -1) else if c = 43 then st else (min (10 * st.1 + (c.toNat - 48)) 1000000000, st.2)
def qst (l : List UInt8) : Nat × Int := l.foldl qstep (0, 1)

theorem pst_snoc (l : List UInt8) (c : UInt8) : pst (l ++ [c]) = pstep (pst l) c := by unfold pst; rw [List.foldl_append]; rfl
theorem qst_snoc (l : List UInt8) (c : UInt8) : qst (l ++ [c]) = qstep (qst l) c := by unfold qst; rw [List.foldl_append]; rfl

def clampC (C : Nat) (n : Nat) (d : List UInt8) : Nat := d.foldl (fun n c => min (10 * n + (c.toNat - 48)) C) n

theorem clampC_eq (C : Nat) (d : List UInt8) : ∀ n, clampC C (min n C) d = min (d.foldl (fun n c => 10 * n + (c.toNat - 48)) n) C := by
  unfold clampC
  induction d with
  | nil => intro n; rfl
  | cons c r ih =>
    intro n
    rw [List.foldl_cons, List.foldl_cons, ← ih]
    congr 1
    omega

theorem clampF_eq (d : List UInt8) : clampF 0 d = min (decN d) 1099511627776 := by
  have := clampC_eq 1099511627776 d 0
  rw [Nat.min_eq_left (by omega)] at this
  exact this

theorem clampG_eq (d : List UInt8) : clampC 1000000000 0 d = min (decN d) 1000000000 := by
  have := clampC_eq 1000000000 d 0
  rw [Nat.min_eq_left (by omega)] at this
  exact this

theorem dig_ne (c : UInt8) (h : isDig c = true) : c ≠ 46 ∧ c ≠ 45 ∧ c ≠ 43 ∧ c ≠ 101 ∧ c ≠ 69 := by
  refine ⟨?_, ?_, ?_, ?_, ?_⟩ <;> (rintro rfl; revert h; decide)

theorem qfold_dig (d : List UInt8) (h : ∀ c ∈ d, isDig c = true) : ∀ st : Nat × Int, d.foldl qstep st = (clampC 1000000000 st.1 d, st.2) := by
  induction d with
  | nil => intro st; rfl
  | cons c r ih =>
    intro st
    have hc := dig_ne c (h c (by simp))
    rw [List.foldl_cons, ih (fun z hz => h z (by simp [hz]))]
    unfold qstep
    rw [if_neg hc.2.1, if_neg hc.2.2.1]
    rfl

theorem qst_dig (d : List UInt8) (h : ∀ c ∈ d, isDig c = true) : qst d = (min (decN d) 1000000000, 1) := by
  unfold qst; rw [qfold_dig d h, clampG_eq]

theorem qst_minus (d : List UInt8) (h : ∀ c ∈ d, isDig c = true) : qst (45 :: d) = (min (decN d) 1000000000, -1) := by
  unfold qst; rw [List.foldl_cons, qfold_dig d h]; unfold qstep; rw [if_pos rfl, clampG_eq]

theorem qst_plus (d : List UInt8) (h : ∀ c ∈ d, isDig c = true) : qst (43 :: d) = (min (decN d) 1000000000, 1) := by
  unfold qst; rw [List.foldl_cons, qfold_dig d h]; unfold qstep; rw [if_neg (by decide), if_pos rfl, clampG_eq]

theorem pfold_dig (d : List UInt8) (h : ∀ c ∈ d, isDig c = true) : ∀ st : List UInt8 × Nat × Bool, d.foldl pstep st = (st.1 ++ d, (if st.2.2 = true then st.2.1 + d.length else st.2.1), st.2.2) := by
  induction d with
  | nil => intro st; obtain ⟨a, b, c⟩ := st; simp
  | cons c r ih =>
    intro st
    have hc := dig_ne c (h c (by simp))
    rw [List.foldl_cons, ih (fun z hz => h z (by simp [hz]))]
    obtain ⟨a, b, p⟩ := st
    unfold pstep
    rw [if_neg hc.1]
    cases p
    · simp
    · simp; omega

theorem pst_dig (W : List UInt8) (h : ∀ c ∈ W, isDig c = true) : pst W = (W, 0, false) := by
  unfold pst; rw [pfold_dig W h]; simp

theorem pst_dot (W F : List UInt8) (h : ∀ c ∈ W, isDig c = true) (g : ∀ c ∈ F, isDig c = true) : pst (W ++ 46 :: F) = (W ++ F, F.length, true) := by
  unfold pst; rw [List.foldl_append, pfold_dig W h, List.foldl_cons, pfold_dig F g]; unfold pstep; rw [if_pos rfl]; simp

/-- what stands ahead of the exponent -/
def sM (l : List UInt8) : List UInt8 := if (rst l).head? = some 46 then sW l ++ 46 :: sF l else sW l

theorem digs_rst (l : List UInt8) : digs l ++ rst l = l := by unfold digs rst; exact List.takeWhile_append_dropWhile

theorem sM_sR (l : List UInt8) : sM l ++ sR l = l := by
  unfold sM sR sF sW
  by_cases h : (rst l).head? = some 46
  · rw [if_pos h, if_pos h, if_pos h]
    have e : rst l = 46 :: (rst l).tail := by
      cases hr : rst l with
      | nil => rw [hr] at h; simp at h
      | cons a r => rw [hr] at h; simp at h; rw [h]; rfl
    have e2 := digs_rst (rst l).tail
    rw [List.append_assoc, List.cons_append, e2, ← e, digs_rst]
  · rw [if_neg h, if_neg h, digs_rst]

theorem pst_sM (l : List UInt8) : pst (sM l) = (sW l ++ sF l, (sF l).length, decide ((rst l).head? = some 46)) := by
  unfold sM
  have g := sWF_dig l
  by_cases h : (rst l).head? = some 46
  · rw [if_pos h, pst_dot _ _ (fun c hc => g c (by simp [hc])) (fun c hc => g c (by simp [hc])), decide_eq_true h]
  · have f : sF l = [] := by unfold sF; rw [if_neg h]
    rw [if_neg h, pst_dig _ (fun c hc => g c (by simp [hc])), f, decide_eq_false h]
    simp

theorem sM_no (l : List UInt8) : ∀ c ∈ sM l, c ≠ 101 ∧ c ≠ 69 := by
  intro c hc
  have g := sWF_dig l
  unfold sM at hc
  by_cases h : (rst l).head? = some 46
  · rw [if_pos h] at hc
    rcases List.mem_append.1 hc with k | k
    · exact (dig_ne c (g c (by simp [k]))).2.2.2
    · rcases List.mem_cons.1 k with rfl | k
      · decide
      · exact (dig_ne c (g c (by simp [k]))).2.2.2
  · rw [if_neg h] at hc
    exact (dig_ne c (g c (by simp [hc]))).2.2.2

/-- what stands behind the e, and that it is an exponent -/
theorem exp_form (l : List UInt8) (hne : l ≠ []) (h : (expP l).2 = true) :
    ∃ c r d, l = c :: r ∧ (c = 101 ∨ c = 69) ∧ (∀ z ∈ d, isDig z = true) ∧ (∀ z ∈ r, z = 45 ∨ z = 43 ∨ isDig z = true) ∧
      ∃ sg : Int, (sg = 1 ∨ sg = -1) ∧ (expP l).1 = sg * ((min (decN d) 1099511627776 : Nat) : Int) ∧ qst r = (min (decN d) 1000000000, sg) := by
  cases l with
  | nil => exact absurd rfl hne
  | cons c r =>
    have hh : (c :: r).head? = some 101 ∨ (c :: r).head? = some 69 := by
      by_cases k : (c :: r).head? = some 101 ∨ (c :: r).head? = some 69
      · exact k
      · unfold expP at h; rw [if_neg k] at h; simp at h
    have hc : c = 101 ∨ c = 69 := by simpa using hh
    unfold expP at h ⊢
    rw [if_pos hh] at h ⊢
    rw [List.tail_cons] at h ⊢
    by_cases k : digs (unsign r) = [] ∨ rst (unsign r) ≠ []
    · rw [if_pos k] at h; simp at h
    · rw [if_neg k]
      have k1 : rst (unsign r) = [] := by
        by_cases z : rst (unsign r) = []
        · exact z
        · exact absurd (Or.inr z) k
      have e : digs (unsign r) = unsign r := by have := digs_rst (unsign r); rw [k1, List.append_nil] at this; exact this
      have dg : ∀ z ∈ unsign r, isDig z = true := by intro z hz; rw [← e] at hz; exact digs_dig _ z hz
      refine ⟨c, r, unsign r, rfl, hc, dg, ?_⟩
      rw [e, clampF_eq]
      by_cases s1 : r.head? = some 45
      · have er : r = 45 :: r.tail := by
          cases r with
          | nil => simp at s1
          | cons a b => simp at s1; rw [s1]; rfl
        have eu : unsign r = r.tail := by unfold unsign; rw [if_pos (Or.inl s1)]
        rw [eu] at dg ⊢
        refine ⟨?_, -1, Or.inr rfl, ?_, ?_⟩
        · intro z hz; rw [er] at hz
          rcases List.mem_cons.1 hz with rfl | hz
          · exact Or.inl rfl
          · exact Or.inr (Or.inr (dg z hz))
        · unfold signOf; rw [if_pos s1]
        · have := qst_minus r.tail dg; rw [← er] at this; exact this
      · have sg : signOf r = 1 := by unfold signOf; rw [if_neg s1]
        by_cases s2 : r.head? = some 43
        · have er : r = 43 :: r.tail := by
            cases r with
            | nil => simp at s2
            | cons a b => simp at s2; rw [s2]; rfl
          have eu : unsign r = r.tail := by unfold unsign; rw [if_pos (Or.inr s2)]
          rw [eu] at dg ⊢
          refine ⟨?_, 1, Or.inl rfl, ?_, ?_⟩
          · intro z hz; rw [er] at hz
            rcases List.mem_cons.1 hz with rfl | hz
            · exact Or.inr (Or.inl rfl)
            · exact Or.inr (Or.inr (dg z hz))
          · rw [sg]
          · have := qst_plus r.tail dg; rw [← er] at this; exact this
        · have eu : unsign r = r := by unfold unsign; rw [if_neg (by rintro (k | k); exact s1 k; exact s2 k)]
          rw [eu] at dg ⊢
          refine ⟨fun z hz => Or.inr (Or.inr (dg z hz)), 1, Or.inl rfl, ?_, qst_dig r dg⟩
          rw [sg]

theorem val_far (D : List UInt8) (p q : Int) (h : (p < -330 ∧ q < -330) ∨ (310 < p ∧ 310 < q)) : valD D p = valD D q := by
  unfold valD
  rcases h with ⟨a, b⟩ | ⟨a, b⟩
  · rw [if_pos (Or.inr a), if_pos (Or.inr b)]
  · by_cases d : D = []
    · rw [if_pos (Or.inl d), if_pos (Or.inl d)]
    · rw [if_neg (by rintro (k | k); exact d k; omega), if_pos a, if_neg (by rintro (k | k); exact d k; omega), if_pos b]

/-- both exponents say the same number -/
theorem val_both (W F d : List UInt8) (sg : Int) (hs : sg = 1 ∨ sg = -1) (hl : (W ++ F).length ≤ 5000) :
    valD (sigD (W ++ F)) (sigP W (W ++ F) (sg * ((min (decN d) 1099511627776 : Nat) : Int))) = valD (sigD (W ++ F)) (((nodz (W ++ F)).length : Int) + (sg * ((min (decN d) 1000000000 : Nat) : Int) - (F.length : Int))) := by
  have nl := nodz_len (W ++ F)
  have la : (W ++ F).length = W.length + F.length := List.length_append
  unfold sigP
  generalize decN d = n at *
  by_cases c : n ≤ 1000000000
  · rw [Nat.min_eq_left c, Nat.min_eq_left (by omega)]
    congr 1
    omega
  · apply val_far
    have a : (1000000000 : Int) ≤ ((min n 1099511627776 : Nat) : Int) := by omega
    have b : (1000000000 : Int) ≤ ((min n 1000000000 : Nat) : Int) := by omega
    generalize ((min n 1099511627776 : Nat) : Int) = x at *
    generalize ((min n 1000000000 : Nat) : Int) = y at *
    rcases hs with rfl | rfl
    · right; omega
    · left; omega

end Go.Proofs.YtpejebohekcfoaaGreatDoor.V32
/- The walk of the document's parsed. -/
namespace Go.Proofs.YtpejebohekcfoaaGreatDoor.V32
open Go.RowKit
set_option linter.unusedVariables false

structure PAt (M : List UInt8) (k : Nat) (D : List UInt8) (b : Nat) (p : Bool) : Prop where
  st : pst (M.take k) = (D, b, p)
  bl : b ≤ k
  dl : D.length ≤ k

theorem pat_dot (M : List UInt8) (k : Nat) (D : List UInt8) (b : Nat) (p : Bool) (h : PAt M k D b p) (hk : M[k]? = some 46) : PAt M (k + 1) D b true := by
  have := h.bl; have := h.dl
  refine ⟨?_, by omega, by omega⟩
  rw [take_next M k 46 hk, pst_snoc, h.st]
  unfold pstep
  rw [if_pos rfl]

theorem pat_dig (M : List UInt8) (k : Nat) (D : List UInt8) (b : Nat) (p : Bool) (c : UInt8) (h : PAt M k D b p) (hk : M[k]? = some c) (hc : c ≠ 46) : PAt M (k + 1) (D ++ [c]) (if p = true then b + 1 else b) p := by
  have := h.bl; have := h.dl
  refine ⟨?_, by split <;> omega, by simp; omega⟩
  rw [take_next M k c hk, pst_snoc, h.st]
  unfold pstep
  rw [if_neg hc]

def P1 (M : List UInt8) (dv bv pv iv : Value) : Prop :=
  ∃ (k : Nat) (D : List UInt8) (b : Nat) (p : Bool), k ≤ M.length ∧ iv = .int .i64 (k : Int) ∧ dv = .string (bs D) ∧ bv = .int .i64 (b : Int) ∧ pv = .bool p ∧ PAt M k D b p

structure QAt (r : List UInt8) (j pw : Nat) (wy : Int) : Prop where
  st : qst (r.take j) = (pw, wy)
  hi : pw ≤ 1000000000
  wy : wy = 1 ∨ wy = -1

theorem qat_minus (r : List UInt8) (j pw : Nat) (wy : Int) (h : QAt r j pw wy) (hk : r[j]? = some 45) : QAt r (j + 1) pw (-1) := by
  have := h.hi
  refine ⟨?_, this, Or.inr rfl⟩
  rw [take_next r j 45 hk, qst_snoc, h.st]
  unfold qstep
  rw [if_pos rfl]

theorem qat_plus (r : List UInt8) (j pw : Nat) (wy : Int) (h : QAt r j pw wy) (hk : r[j]? = some 43) : QAt r (j + 1) pw wy := by
  refine ⟨?_, h.hi, h.wy⟩
  rw [take_next r j 43 hk, qst_snoc, h.st]
  unfold qstep
  rw [if_neg (by decide), if_pos rfl]

theorem qat_dig (r : List UInt8) (j pw : Nat) (wy : Int) (c : UInt8) (h : QAt r j pw wy) (hk : r[j]? = some c) (hc : c ≠ 45 ∧ c ≠ 43) : QAt r (j + 1) (min (10 * pw + (c.toNat - 48)) 1000000000) wy := by
  refine ⟨?_, by omega, h.wy⟩
  rw [take_next r j c hk, qst_snoc, h.st]
  unfold qstep
  rw [if_neg hc.1, if_neg hc.2]

def Q1 (m : Nat) (r : List UInt8) (iv pv yv : Value) : Prop :=
  ∃ (j pw : Nat) (wy : Int), j ≤ r.length ∧ iv = .int .i64 ((m : Int) + 1 + (j : Int)) ∧ pv = .int .i64 (pw : Int) ∧ yv = .int .i64 wy ∧ QAt r j pw wy

theorem bs_at2 (l : List UInt8) (k : Nat) (h : k < (bs l).size) : l[k]? = some ((bs l)[k]) := by
  have := at_k (bs l) k h
  rw [← ByteArray.toList_eq, bs_toList] at this
  exact this

theorem one_ext (l : List UInt8) (k : Nat) (c : UInt8) (h : l[k]? = some c) : (bs l).extract k (k + 1) = bs [c] := by
  rw [bs_extract]
  congr 1
  rw [take_next l k c h, List.drop_append_of_le_length (by rw [List.length_take]; have := (List.getElem?_eq_some_iff.1 h).1; omega)]
  rw [List.drop_of_length_le (by rw [List.length_take]; omega)]
  rfl

set_option maxHeartbeats 4000000 in
theorem parsed_walk (M R : List UInt8) (w : World) (hl : (M ++ R).length ≤ 5000) (hM : ∀ c ∈ M, c ≠ 101 ∧ c ≠ 69)
    (hR : R = [] ∨ ∃ c r, R = c :: r ∧ (c = 101 ∨ c = 69) ∧ ∀ z ∈ r, z = 45 ∨ z = 43 ∨ isDig z = true)
    (D0 : List UInt8) (b0 : Nat) (p0 : Bool) (hp : pst M = (D0, b0, p0)) (pw0 : Nat) (wy0 : Int) (hq : qst R.tail = (pw0, wy0)) (V : Int)
    (c : ∀ (x : Int) (w : World), x = wy0 * (pw0 : Int) - (b0 : Int) → Calls Tryz.prog 91 #[.string (bs D0), .int .i64 x] w fun e w' => e = .returned (.int .u64 V) ∧ w.grownBy w' none) :
    Calls Tryz.prog 42 #[.string (bs (M ++ R))] w fun e w' => e = .returned (.int .u64 V) ∧ Below w.heap.size w w' := by
  obtain ⟨s, hs⟩ : ∃ s, s = bs (M ++ R) := ⟨_, rfl⟩
  have HS : Hid (s.size = M.length + R.length) := by show _ = _; rw [hs, bs_size, List.length_append]
  have HX : Hid (∀ k z, (M ++ R)[k]? = some z → s.extract k (k + 1) = bs [z]) := by show ∀ k z, _; intro k z h; rw [hs]; exact one_ext _ k z h
  have HAT : Hid (∀ k (h : k < s.size), (M ++ R)[k]? = some s[k]) := by subst hs; exact fun k h => bs_at2 _ k h
  have hss : s.size ≤ 5000 := by rw [hs, bs_size]; exact hl
  have HM : Hid (∀ c ∈ M, c ≠ 101 ∧ c ≠ 69) := hM
  have HR : Hid (R = [] ∨ ∃ c r, R = c :: r ∧ (c = 101 ∨ c = 69) ∧ ∀ z ∈ r, z = 45 ∨ z = 43 ∨ isDig z = true) := hR
  have HP : Hid (pst M = (D0, b0, p0)) := hp
  have HQ : Hid (qst R.tail = (pw0, wy0)) := hq
  rw [← hs]
  clear hs hM hR hp hq hl
  go_enter Tryz.func42, Tryz.ntmps42
  go_wp2_with fail
  go_loop [3, 4, 5, 6] (fun dv bv pv iv => P1 M dv bv pv iv) (fun _ _ _ iv => M.length + 1 - (intOf iv).toNat)
  case atStart => exact ⟨0, [], 0, false, by omega, rfl, rfl, rfl, rfl, ⟨rfl, by omega, by simp⟩⟩
  case round =>
    obtain ⟨k, D, b, p, hk, rfl, rfl, rfl, rfl, hat⟩ := hrel
    have hbl := hat.bl
    have hdl := hat.dl
    rcases Nat.lt_or_ge k M.length with c1 | c1
    · have ks : k < s.size := by rw [HS.out]; omega
      have ak := HAT.out k ks
      rw [List.getElem?_append_left c1] at ak
      have nn := HM.out _ (List.mem_of_getElem? ak)
      have e1 : (((s[k]).toNat : Int) != 101) = true := by
        simp only [bne_iff_ne, ne_eq]; intro h; exact nn.1 (UInt8.toNat_inj.1 (by simpa using (by omega : (s[k]).toNat = 101)))
      have e2 : (((s[k]).toNat : Int) != 69) = true := by
        simp only [bne_iff_ne, ne_eq]; intro h; exact nn.2 (UInt8.toNat_inj.1 (by simpa using (by omega : (s[k]).toNat = 69)))
      by_cases d : s[k] = 46
      · have HN : Hid (P1 M (.string (bs D)) (.int .i64 (b : Int)) (.bool true) (.int .i64 ((k : Int) + 1))) :=
          ⟨k + 1, D, b, true, c1, by simp, rfl, rfl, rfl, pat_dot M k D b p hat (by rw [ak, d])⟩
        have e3 : (((s[k]).toNat : Int) == 46) = true := by rw [d]; rfl
        clear ak nn d hat
        go_wp2_with fail
        refine ⟨HN.out, ?_⟩
        simp only [intOf]; omega
      · have hx := HX.out k (s[k]) (by rw [List.getElem?_append_left c1]; exact ak)
        have e3 : (((s[k]).toNat : Int) == 46) = false := by
          simp only [beq_eq_false_iff_ne, ne_eq]; intro h; exact d (UInt8.toNat_inj.1 (by simpa using (by omega : (s[k]).toNat = 46)))
        have nx := pat_dig M k D b p _ hat ak d
        have HN : Hid (P1 M (.string (bs D ++ bs [s[k]])) (.int .i64 (((if p = true then b + 1 else b : Nat)) : Int)) (.bool p) (.int .i64 ((k : Int) + 1))) :=
          ⟨k + 1, D ++ [s[k]], _, p, c1, by simp, by rw [bs_append], rfl, rfl, nx⟩
        have z1 : (bs D).size = D.length := bs_size D
        have z2 : (bs [s[k]]).size = 1 := rfl
        clear ak nn d hat nx
        generalize bs [s[k]] = Y at *
        generalize bs D = X at *
        cases p with
        | true =>
          rw [if_pos rfl, Int.natCast_add] at HN
          go_wp2_with fail
          refine ⟨HN.out, ?_⟩
          simp only [intOf]; omega
        | false =>
          rw [if_neg (by decide)] at HN
          go_wp2_with fail
          refine ⟨HN.out, ?_⟩
          simp only [intOf]; omega
    · have km : k = M.length := by omega
      subst km
      have st := hat.st
      rw [List.take_length, HP.out] at st
      obtain ⟨rfl, rfl, rfl⟩ : D0 = D ∧ b0 = b ∧ p0 = p := by simpa using st
      have HT : Hid (∀ j (h : M.length + 1 + j < s.size), R.tail[j]? = some (s[M.length + 1 + j])) := by
        show ∀ j h, _
        intro j h
        have a := HAT.out (M.length + 1 + j) h
        rw [List.getElem?_append_right (by omega)] at a
        rw [← a, ← List.drop_one, List.getElem?_drop]
        congr 1
        omega
      have HZ : Hid (∀ z ∈ R.tail, z = 45 ∨ z = 43 ∨ isDig z = true) := by
        show ∀ z ∈ R.tail, _
        rcases HR.out with h | ⟨c0, r0, h, _, h2⟩
        · rw [h]; intro z hz; simp at hz
        · rw [h]; exact h2
      have HW : Hid ((s.size = M.length ∧ R.tail.length = 0) ∨ s.size = M.length + 1 + R.tail.length) := by
        show _ ∨ _
        rw [HS.out]
        rcases HR.out with h | ⟨c0, r0, h, _, h2⟩
        · left; rw [h]; exact ⟨rfl, rfl⟩
        · right; rw [h]; simp; omega
      have hexit : s.size ≤ M.length ∨ (∃ k : M.length < s.size, ((((s[M.length]).toNat : Int) != 101) = false ∨ ((((s[M.length]).toNat : Int) != 101) = true ∧ (((s[M.length]).toNat : Int) != 69) = false))) := by
        rcases HR.out with h | ⟨c0, r0, h, h1, h2⟩
        · left; rw [HS.out, h]; simp
        · right
          have ks : M.length < s.size := by rw [HS.out, h]; simp
          refine ⟨ks, ?_⟩
          have a := HAT.out _ ks
          rw [List.getElem?_append_right (by omega), h, Nat.sub_self] at a
          simp only [List.getElem?_cons_zero, Option.some.injEq] at a
          rw [← a]
          rcases h1 with rfl | rfl
          · left; rfl
          · right; exact ⟨rfl, rfl⟩
      clear st hat hk c1
      generalize M.length = m at *
      generalize hrt : R.tail = r at *
      clear hrt
      have ml : (m : Int) ≤ 5000 := by have := HW.out; omega
      rcases hexit with hx | ⟨hx, hx2 | ⟨hx2, hx3⟩⟩
      all_goals
        go_wp2_with fail
        go_loop [6, 7, 8] (fun iv pv yv => Q1 m r iv pv yv) (fun iv _ _ => m + 1 + r.length - (intOf iv).toNat)
        case atStart => exact ⟨0, 0, 1, by omega, by simp, rfl, rfl, ⟨rfl, by omega, Or.inl rfl⟩⟩
        case round =>
          obtain ⟨j, pw, wy, hj, rfl, rfl, rfl, hq⟩ := hrel
          have hpw := hq.hi
          by_cases cj : m + 1 + j < s.size
          · have rl : m + 1 + r.length = s.size := by have := HW.out; omega
            have aj := HT.out j cj
            have zz := HZ.out _ (List.mem_of_getElem? aj)
            have hi1 : ((m : Int) + 1 + (j : Int)) = ((m + 1 + j : Nat) : Int) := by omega
            rw [hi1]
            have jl : j < r.length := by omega
            generalize hK : m + 1 + j = K at *
            by_cases d1 : s[K] = 45
            · have HN : Hid (Q1 m r (.int .i64 ((K : Int) + 1)) (.int .i64 (pw : Int)) (.int .i64 (-1))) :=
                ⟨j + 1, pw, -1, by omega, by congr 1; omega, rfl, rfl, qat_minus r j pw wy hq (by rw [aj, d1])⟩
              have e1 : (((s[K]).toNat : Int) == 45) = true := by rw [d1]; rfl
              clear aj zz hq d1
              go_wp2_with fail
              refine ⟨HN.out, ?_⟩
              simp only [intOf]; omega
            · have e1 : (((s[K]).toNat : Int) == 45) = false := by
                simp only [beq_eq_false_iff_ne, ne_eq]; intro h; exact d1 (UInt8.toNat_inj.1 (by simpa using (by omega : (s[K]).toNat = 45)))
              by_cases d2 : s[K] = 43
              · have HN : Hid (Q1 m r (.int .i64 ((K : Int) + 1)) (.int .i64 (pw : Int)) (.int .i64 wy)) :=
                  ⟨j + 1, pw, wy, by omega, by congr 1; omega, rfl, rfl, qat_plus r j pw wy hq (by rw [aj, d2])⟩
                have e2 : (((s[K]).toNat : Int) != 43) = false := by rw [d2]; rfl
                clear aj zz hq d1 d2
                go_wp2_with fail
                refine ⟨HN.out, ?_⟩
                simp only [intOf]; omega
              · have e2 : (((s[K]).toNat : Int) != 43) = true := by
                  simp only [bne_iff_ne, ne_eq]; intro h; exact d2 (UInt8.toNat_inj.1 (by simpa using (by omega : (s[K]).toNat = 43)))
                have dg : isDig s[K] = true := by rcases zz with z | z | z; exact absurd z d1; exact absurd z d2; exact z
                have g1 : 48 ≤ (s[K]).toNat := by unfold isDig at dg; simp at dg; omega
                have g2 : (s[K]).toNat ≤ 57 := by unfold isDig at dg; simp at dg; omega
                have HN : Hid (Q1 m r (.int .i64 ((K : Int) + 1)) (.int .i64 ((min (10 * pw + ((s[K]).toNat - 48)) 1000000000 : Nat) : Int)) (.int .i64 wy)) :=
                  ⟨j + 1, _, wy, by omega, by congr 1; omega, rfl, rfl, qat_dig r j pw wy _ hq aj ⟨d1, d2⟩⟩
                have hmin : min (10 * (pw : Int) + (((s[K]).toNat : Int) - 48)) 1000000000 = ((min (10 * pw + ((s[K]).toNat - 48)) 1000000000 : Nat) : Int) := by omega
                clear aj zz hq d1 d2 dg
                go_wp2_with fail
                refine ⟨HN.out, ?_⟩
                simp only [intOf]; omega
          · have je : j = r.length := by have := HW.out; omega
            have st := hq.st
            rw [je, List.take_length, HQ.out] at st
            obtain ⟨rfl, rfl⟩ : pw0 = pw ∧ wy0 = wy := by simpa using st
            have hwy := hq.wy
            have hiv : (s.size : Int) ≤ (m : Int) + 1 + (j : Int) := by omega
            have HC := c
            clear st hq hj je c
            rcases hwy with hwy | hwy
            all_goals
              subst hwy
              go_wp2_with fail
              refine (HC _ _ (by omega)).mono ?_
              rintro e w1 ⟨rfl, hg⟩
              go_wp2
              go_ret
              exact ⟨rfl, Below.grown (Below.refl _ _) hg (Nat.le_refl _) (by intro k h; cases h)⟩

end Go.Proofs.YtpejebohekcfoaaGreatDoor.V32
/- What the document's Read says, plain: blanks. -/
namespace Go.Proofs.YtpejebohekcfoaaGreatDoor.V32
open Go.RowKit
set_option linter.unusedVariables false

theorem trimS_first (c : UInt8) (m : List UInt8) (h : blankS.contains c = true) : Lib.trimS (c :: m) blankS = Lib.trimS m blankS := by
  unfold Lib.trimS Lib.trimRightS Lib.trimLeftS
  rw [List.reverse_cons, List.dropWhile_append]
  by_cases k : (m.reverse.dropWhile (blankS.contains ·)).isEmpty = true
  · rw [if_pos k]
    have e : m.reverse.dropWhile (blankS.contains ·) = [] := by simpa using k
    rw [e, List.dropWhile_cons, if_pos h]
    rfl
  · rw [if_neg k, List.reverse_append, List.reverse_singleton, List.singleton_append, List.dropWhile_cons, if_pos h]

theorem trimS_last (c : UInt8) (m : List UInt8) (h : blankS.contains c = true) : Lib.trimS (m ++ [c]) blankS = Lib.trimS m blankS := by
  unfold Lib.trimS Lib.trimRightS Lib.trimLeftS
  rw [List.reverse_append, List.reverse_singleton, List.singleton_append, List.dropWhile_cons, if_pos h]

theorem trimS_none (a b : UInt8) (m : List UInt8) (h : m.head? = some a) (g : m.getLast? = some b) (ha : blankS.contains a = false) (hb : blankS.contains b = false) : Lib.trimS m blankS = m := by
  unfold Lib.trimS Lib.trimRightS Lib.trimLeftS
  have e : m.reverse.dropWhile (blankS.contains ·) = m.reverse := by
    have : m.reverse.head? = some b := by rw [List.head?_reverse]; exact g
    cases hm : m.reverse with
    | nil => rfl
    | cons x r =>
      rw [hm] at this
      simp only [List.head?_cons, Option.some.injEq] at this
      subst this
      rw [List.dropWhile_cons, if_neg (by rw [hb]; decide)]
  rw [e, List.reverse_reverse]
  cases hm : m with
  | nil => rfl
  | cons x r =>
    rw [hm] at h
    simp only [List.head?_cons, Option.some.injEq] at h
    subst h
    rw [List.dropWhile_cons, if_neg (by rw [ha]; decide)]

theorem trimS_nil : Lib.trimS [] blankS = [] := rfl

theorem blank_iff (c : UInt8) : blankS.contains c = true ↔ c.toNat = 9 ∨ c.toNat = 10 ∨ c.toNat = 32 := by
  unfold blankS
  rw [List.contains_iff_mem]
  simp only [List.mem_cons, List.not_mem_nil, or_false]
  constructor
  · rintro (rfl | rfl | rfl) <;> decide
  · rintro (h | h | h)
    · left; exact UInt8.toNat_inj.1 h
    · right; left; exact UInt8.toNat_inj.1 h
    · right; right; exact UInt8.toNat_inj.1 h

theorem hexI_nil : hexI [] = (0, false) := by
  unfold hexI
  rw [if_pos (by rfl)]
  have : nearI 2000 ((hexS []).1 : Nat) ((hexS []).2.1 : Nat) (hexS []).2.2 = 0 := by
    unfold nearI
    have e : nmag (((hexS []).1 : Nat) : Int) (hexS []).2.2 = 0 := rfl
    rw [e]
    rfl
  rw [this]
  rfl

/-- the sign in front of what is read -/
theorem neg_uns (l : List UInt8) : negI (unsI l : Nat) = if unsI l = 9221120237041090560 then 9221120237041090560 else (unsI l : Int) + 9223372036854775808 := by
  have h := unsI_lt l
  by_cases c : unsI l = 9221120237041090560
  · rw [if_pos c, c]
    decide +kernel
  · rw [if_neg c]
    have hi : unsI l ≤ 9218868437227405312 := by
      unfold unsI at c ⊢
      split
      · omega
      · rename_i k
        rw [if_neg k] at c
        split
        · exact valD_le _ _
        · rename_i k2
          rw [if_neg k2] at c
          exact absurd rfl c
    have hk : kindI ((unsI l : Nat) : Int) ≠ 3 := by
      intro k
      unfold kindI at k
      rw [Int.toNat_natCast] at k
      generalize unsI l = u at *
      unfold fldN frcN at k
      split at k
      · rename_i f
        split at k
        · omega
        · rename_i g
          apply g
          omega
      · split at k <;> omega
    unfold negI
    rw [if_neg hk]
    omega

end Go.Proofs.YtpejebohekcfoaaGreatDoor.V32
/- The walk of the document's Hexadecimal. -/
namespace Go.Proofs.YtpejebohekcfoaaGreatDoor.V32
open Go.RowKit
set_option linter.unusedVariables false

theorem hex_v (c : Nat) (w : World) (hc : c ≤ 255) (hk : hexOk c = true) :
    Calls Tryz.prog 88 #[.int .u8 (c : Int)] w fun e w' => e = .returned (.int .u64 ((hexV c : Nat) : Int)) ∧ w' = w := by
  have h : (48 ≤ (c : Int) ∧ (c : Int) ≤ 57) ∨ (97 ≤ (c : Int) ∧ (c : Int) ≤ 102) ∨ (65 ≤ (c : Int) ∧ (c : Int) ≤ 70) := by
    unfold hexOk at hk
    simp at hk
    omega
  have := hex_digit (c : Int) w (by omega) (by omega) h
  refine this.mono ?_
  rintro e w' ⟨rfl, hw⟩
  refine ⟨?_, hw⟩
  congr 2
  unfold hexV
  rcases h with ⟨a, b⟩ | ⟨a, b⟩ | ⟨a, b⟩
  · rw [if_pos b, if_pos (by omega)]; omega
  · rw [if_neg (by omega), if_pos a, if_neg (by omega), if_pos (by omega)]; omega
  · rw [if_neg (by omega), if_neg (by omega), if_neg (by omega), if_neg (by omega), if_pos (by omega)]; omega

def HexAll (l : List UInt8) (i : Value) : Prop := ∃ k : Nat, k ≤ l.length ∧ i = .int .i64 (k : Int) ∧ ∀ c ∈ l.take k, hexOk c.toNat = true

def HexAt2 (l : List UInt8) (m x b i : Value) : Prop :=
  ∃ k : Nat, k ≤ l.length ∧ i = .int .i64 (k : Int) ∧ m = .int .u64 ((hexS (l.take k)).1 : Nat) ∧ (hexS (l.take k)).1 < 18446744073709551616 ∧
    x = .int .i64 ((hexS (l.take k)).2.1 : Nat) ∧ (hexS (l.take k)).2.1 ≤ 4 * k ∧ b = .bool (hexS (l.take k)).2.2

theorem hexAt2_next (l : List UInt8) (k : Nat) (c : UInt8) (hk : l[k]? = some c) (hm : (hexS (l.take k)).1 < 18446744073709551616) (hx : (hexS (l.take k)).2.1 ≤ 4 * k) :
    HexAt2 l (.int .u64 ((hexStep (hexS (l.take k)) c).1 : Nat)) (.int .i64 ((hexStep (hexS (l.take k)) c).2.1 : Nat)) (.bool (hexStep (hexS (l.take k)) c).2.2) (.int .i64 ((k + 1 : Nat) : Int)) := by
  have e := take_next l k c hk
  have hkl := (List.getElem?_eq_some_iff.1 hk).1
  refine ⟨k + 1, by omega, rfl, ?_, ?_, ?_, ?_, ?_⟩
  · rw [e, hexS_snoc]
  · rw [e, hexS_snoc]; exact hexStep_lt _ _ hm
  · rw [e, hexS_snoc]
  · rw [e, hexS_snoc]; unfold hexStep; split <;> simp only <;> omega
  · rw [e, hexS_snoc]

theorem hex_no (c : Nat) (h : hexOk c = false) : ((c < 48 ∨ 57 < c) ∧ (c < 97 ∨ 102 < c)) ∧ (c < 65 ∨ 70 < c) := by
  unfold hexOk at h
  simp at h
  omega

theorem hex_yes (c : Nat) (h : hexOk c = true) : (48 ≤ c ∧ c ≤ 57) ∨ (97 ≤ c ∧ c ≤ 102) ∨ (65 ≤ c ∧ c ≤ 70) := by
  unfold hexOk at h
  simp at h
  omega

set_option maxHeartbeats 4000000 in
theorem hexad_any (l : List UInt8) (w : World) (hl : l.length ≤ 1000000) :
    Calls Tryz.prog 40 #[.string (bs l)] w fun e w' => e = .returned (.tuple #[.int .u64 (hexI l).1, .bool (hexI l).2]) ∧ w' = w := by
  obtain ⟨s, hs⟩ : ∃ s, s = bs l := ⟨_, rfl⟩
  have hsz : s.size = l.length := by rw [hs, bs_size]
  have hsd : s.toList = l := by rw [hs, bs_toList]
  have hat : ∀ k (h : k < s.size), l[k]? = some s[k] := by
    intro k h
    have := at_k s k h
    rw [← ByteArray.toList_eq, hsd] at this
    exact this
  obtain ⟨R1, R2, hR⟩ : ∃ R1 R2, hexI l = (R1, R2) := ⟨_, _, rfl⟩
  rw [← hs, hR]
  have HS : Hid (s.size = l.length ∧ s.toList = l ∧ hexI l = (R1, R2)) := ⟨hsz, hsd, hR⟩
  have HAT : Hid (∀ k (h : k < s.size), l[k]? = some s[k]) := hat
  have hss : s.size ≤ 1000000 := by omega
  clear hs hsz hsd hl hR hat
  go_enter Tryz.func40, Tryz.ntmps40
  go_wp2_with fail
  go_loop [4] (fun i => HexAll l i) (fun i => s.size - (intOf i).toNat)
  case atStart => exact ⟨0, Nat.zero_le _, rfl, by intro c hc; simp at hc⟩
  case round =>
    obtain ⟨k, hk, rfl, hok⟩ := hrel
    have hkl : k ≤ s.size := by rw [HS.out.1]; exact hk
    by_cases hlt : k < s.size
    · have ak := HAT.out k hlt
      by_cases hc : hexOk (s[k]).toNat = true
      · have HN : Hid (HexAll l (.int .i64 ((k : Int) + 1))) := by
          refine ⟨k + 1, by rw [← HS.out.1]; omega, by simp, ?_⟩
          rw [take_next l k _ ak]
          intro d hd
          rcases List.mem_append.1 hd with hd | hd
          · exact hok d hd
          · simp at hd; subst hd; exact hc
        have hy := hex_yes _ hc
        clear ak hok hk hc
        rcases hy with ⟨y1, y2⟩ | ⟨y1, y2⟩ | ⟨y1, y2⟩
        · go_wp2_with fail
          refine ⟨HN.out, ?_⟩
          simp [intOf]; omega
        · go_wp2_with fail
          refine ⟨HN.out, ?_⟩
          simp [intOf]; omega
        · go_wp2_with fail
          refine ⟨HN.out, ?_⟩
          simp [intOf]; omega
      · have hc' : hexOk (s[k]).toNat = false := by simpa using hc
        have hall := allTake l k _ ak hc'
        have e : hexI l = (0, false) := by unfold hexI; rw [if_neg (by rw [hall]; simp)]
        have e2 := HS.out.2.2.symm.trans e
        obtain ⟨rfl, rfl⟩ : R1 = 0 ∧ R2 = false := by simpa using e2
        obtain ⟨⟨n1, n2⟩, n3⟩ := hex_no _ hc'
        clear e e2 hall ak hok hk hc hc'
        rcases n1 with n1 | n1 <;> rcases n2 with n2 | n2 <;> rcases n3 with n3 | n3 <;> (try (exfalso; omega))
        all_goals
          go_wp2_with fail
          go_ret2
          exact ⟨rfl, rfl⟩
    · have hke : l.take k = l := by rw [List.take_of_length_le]; rw [← HS.out.1]; omega
      rw [hke] at hok
      have hall : (l.all fun c => hexOk c.toNat) = true := by rw [List.all_eq_true]; exact hok
      by_cases hn : l = []
      · have e : hexI l = (0, false) := by rw [hn]; exact hexI_nil
        have e2 := HS.out.2.2.symm.trans e
        obtain ⟨rfl, rfl⟩ : R1 = 0 ∧ R2 = false := by simpa using e2
        have st : s.toList = [] := by rw [HS.out.2.1]; exact hn
        clear e e2 hall hok hk hke hn
        go_wp2_with fail
        go_ret2
        exact ⟨rfl, rfl⟩
      · have e : hexI l = (nearI 2000 ((hexS l).1 : Nat) ((hexS l).2.1 : Nat) (hexS l).2.2, true) := by unfold hexI; rw [if_pos hall, decide_eq_true hn]
        have e2 := HS.out.2.2.symm.trans e
        obtain ⟨h1, rfl⟩ : R1 = nearI 2000 ((hexS l).1 : Nat) ((hexS l).2.1 : Nat) (hexS l).2.2 ∧ R2 = true := by simpa using e2
        have st : s.toList.isEmpty = false := by rw [HS.out.2.1]; exact empty_of _ hn
        have HOK : Hid (∀ c ∈ l, hexOk c.toNat = true) := hok
        have HR1 : Hid (R1 = nearI 2000 ((hexS l).1 : Nat) ((hexS l).2.1 : Nat) (hexS l).2.2) := h1
        clear e e2 hall hok hk hke hn h1
        go_wp2_with fail
        go_loop [6, 7, 8, 9] (fun m x b i => HexAt2 l m x b i) (fun _ _ _ i => s.size - (intOf i).toNat)
        case atStart => exact ⟨0, Nat.zero_le _, rfl, rfl, by simp [hexS], rfl, by simp [hexS], rfl⟩
        case round =>
          obtain ⟨k, hk, rfl, rfl, hm, rfl, hx, rfl⟩ := hrel
          have hkl : k ≤ s.size := by rw [HS.out.1]; exact hk
          by_cases hlt : k < s.size
          · have ak := HAT.out k hlt
            have hc : hexOk (s[k]).toNat = true := HOK.out _ (List.mem_of_getElem? ak)
            have hd := fun w => hex_v (s[k]).toNat w (by have := (s[k]).toNat_lt; omega) hc
            have v16 := hexV_lt (s[k]).toNat
            have nx := hexAt2_next l k _ ak hm hx
            by_cases h60 : (hexS (l.take k)).1 < 1152921504606846976
            · rw [hexStep_a _ _ h60] at nx
              simp only at nx
              generalize (hexS (l.take k)).1 = M at *
              generalize (hexS (l.take k)).2.1 = X at *
              generalize (hexS (l.take k)).2.2 = b1 at *
              generalize hexV (s[k]).toNat = hv at *
              obtain ⟨mi, hmi⟩ : ∃ mi : Int, (M : Int) = mi := ⟨_, rfl⟩
              have m0 : 0 ≤ mi := by omega
              have m1 : mi < 1152921504606846976 := by omega
              have HN : Hid (HexAt2 l (.int .u64 (16 * mi + hv)) (.int .i64 X) (.bool b1) (.int .i64 ((k : Int) + 1))) := by
                have e1 : ((16 * M + hv : Nat) : Int) = 16 * mi + hv := by omega
                have e2 : ((k + 1 : Nat) : Int) = (k : Int) + 1 := by omega
                rw [e1, e2] at nx
                exact nx
              rw [hmi]
              clear nx ak hm hk hc h60 hmi
              go_wp2_with (go_at_call 88; refine (hd _).mono ?_; rintro e w1 ⟨rfl, rfl⟩)
              refine ⟨HN.out, ?_⟩
              simp [intOf]; omega
            · rw [hexStep_b _ _ h60] at nx
              simp only at nx
              generalize (hexS (l.take k)).1 = M at *
              generalize (hexS (l.take k)).2.1 = X at *
              generalize (hexS (l.take k)).2.2 = b1 at *
              generalize hexV (s[k]).toNat = hv at *
              obtain ⟨mi, hmi⟩ : ∃ mi : Int, (M : Int) = mi := ⟨_, rfl⟩
              have m1 : (1152921504606846976 : Int) ≤ mi := by omega
              have e1 : ((X + 4 : Nat) : Int) = (X : Int) + 4 := by omega
              have e2 : ((k + 1 : Nat) : Int) = (k : Int) + 1 := by omega
              rw [hmi, e1, e2] at nx
              rw [hmi]
              have x4 : X ≤ 4000000 := by omega
              cases b1 with
              | true =>
                have HN : Hid (HexAt2 l (.int .u64 mi) (.int .i64 ((X : Int) + 4)) (.bool true) (.int .i64 ((k : Int) + 1))) := nx
                clear nx ak hm hk hc h60 hmi e1 e2
                go_wp2_with (go_at_call 88; refine (hd _).mono ?_; rintro e w1 ⟨rfl, rfl⟩)
                refine ⟨HN.out, ?_⟩
                simp [intOf]; omega
              | false =>
                by_cases h0 : hv = 0
                · have HN0 : HexAt2 l (.int .u64 mi) (.int .i64 ((X : Int) + 4)) (.bool false) (.int .i64 ((k : Int) + 1)) := by simpa [h0] using nx
                  have HN : Hid (HexAt2 l (.int .u64 mi) (.int .i64 ((X : Int) + 4)) (.bool false) (.int .i64 ((k : Int) + 1))) := HN0
                  subst h0
                  clear nx ak hm hk hc h60 hmi e1 e2 HN0
                  go_wp2_with (go_at_call 88; refine (hd _).mono ?_; rintro e w1 ⟨rfl, rfl⟩)
                  refine ⟨HN.out, ?_⟩
                  simp [intOf]; omega
                · have HN0 : HexAt2 l (.int .u64 mi) (.int .i64 ((X : Int) + 4)) (.bool true) (.int .i64 ((k : Int) + 1)) := by simpa [h0] using nx
                  have HN : Hid (HexAt2 l (.int .u64 mi) (.int .i64 ((X : Int) + 4)) (.bool true) (.int .i64 ((k : Int) + 1))) := HN0
                  have hb : (0 : Int) < ((hv : Nat) : Int) := by omega
                  clear nx ak hm hk hc h60 hmi e1 e2 HN0
                  go_wp2_with (go_at_call 88; refine (hd _).mono ?_; rintro e w1 ⟨rfl, rfl⟩)
                  refine ⟨by rw [show decide (0 < hv) = true from decide_eq_true (by omega)]; exact HN.out, ?_⟩
                  simp [intOf]; omega
          · have hke : l.take k = l := by rw [List.take_of_length_le]; rw [← HS.out.1]; omega
            rw [hke] at hm hx ⊢
            have nr := fun w => refnear_any ((hexS l).1 : Nat) ((hexS l).2.1 : Nat) (hexS l).2.2 (by omega) (by omega) w
            rw [near_same _ _ _ (by omega), ← HR1.out] at nr
            clear hm hx hk hke
            generalize ((hexS l).1 : Int) = m1 at *
            generalize ((hexS l).2.1 : Int) = x1 at *
            generalize (hexS l).2.2 = b1 at *
            go_wp2_with (go_at_call 89; refine (nr _).mono ?_; rintro e w1 ⟨rfl, rfl⟩)
            go_ret2
            exact ⟨rfl, rfl⟩

end Go.Proofs.YtpejebohekcfoaaGreatDoor.V32
/- The document's Decimal, parsed and Literal of every text. -/
namespace Go.Proofs.YtpejebohekcfoaaGreatDoor.V32
open Go.RowKit
set_option linter.unusedVariables false

theorem dig_bs (l : List UInt8) (hl : l.length ≤ 1000000) : DigC (bs l) (cnt l) := by
  intro w
  have := digits_same (bs l) w (by rw [bs_size]; exact hl)
  rw [bs_data] at this
  exact this

theorem bs_from (l : List UInt8) (a : Nat) : (bs l).extract a (bs l).size = bs (l.drop a) := by
  rw [bs_extract, bs_size, List.take_length]

theorem at_head (l : List UInt8) (n : UInt8) (h : 0 < (bs l).size) : ((((bs l)[0]).toNat : Int) == (n.toNat : Int)) = decide (l.head? = some n) := head_eq l n h
theorem at_head_ne (l : List UInt8) (n : UInt8) (h : 0 < (bs l).size) : ((((bs l)[0]).toNat : Int) != (n.toNat : Int)) = !decide (l.head? = some n) := by
  rw [← head_eq l n h]; rfl

theorem cnt_zero (l : List UInt8) : cnt l = 0 ↔ digs l = [] := by unfold cnt digs; exact List.length_eq_zero_iff
theorem cnt_digs (l : List UInt8) : cnt l = (digs l).length := rfl
theorem cnt_all (l : List UInt8) : cnt l = l.length ↔ rst l = [] := by
  have := digs_rst l
  have h2 := congrArg List.length this
  rw [List.length_append] at h2
  rw [cnt_digs]
  constructor
  · intro h; exact List.length_eq_zero_iff.1 (by omega)
  · intro h; rw [h] at h2; simpa using h2

/-- the tail of Decimal: behind the digits -/
theorem dec_tail (R : List UInt8) (hR : R ≠ []) :
    ((((bs R)[0]'(by rw [bs_size]; exact List.length_pos_iff.2 hR)).toNat : Int) != 101) = true ∧ ((((bs R)[0]'(by rw [bs_size]; exact List.length_pos_iff.2 hR)).toNat : Int) != 69) = true ∧ (expP R).2 = false ∨
    (((((bs R)[0]'(by rw [bs_size]; exact List.length_pos_iff.2 hR)).toNat : Int) != 101) = false ∨ ((((bs R)[0]'(by rw [bs_size]; exact List.length_pos_iff.2 hR)).toNat : Int) != 101) = true ∧ ((((bs R)[0]'(by rw [bs_size]; exact List.length_pos_iff.2 hR)).toNat : Int) != 69) = false) ∧
      (expP R).2 = decide (0 < cnt (unsign R.tail) ∧ cnt (unsign R.tail) = (unsign R.tail).length) := by
  have p : 0 < (bs R).size := by rw [bs_size]; exact List.length_pos_iff.2 hR
  have a := at_head_ne R 101 p
  have b := at_head_ne R 69 p
  have ea : ((101 : UInt8).toNat : Int) = 101 := rfl
  have eb : ((69 : UInt8).toNat : Int) = 69 := rfl
  rw [ea] at a
  rw [eb] at b
  by_cases h1 : R.head? = some 101
  · right
    rw [decide_eq_true h1] at a
    refine ⟨Or.inl a, ?_⟩
    unfold expP
    rw [if_pos (Or.inl h1)]
    by_cases k : digs (unsign R.tail) = [] ∨ rst (unsign R.tail) ≠ []
    · rw [if_pos k]
      symm
      apply decide_eq_false
      rintro ⟨k1, k2⟩
      rcases k with k | k
      · have := (cnt_zero _).2 k; omega
      · exact k ((cnt_all _).1 k2)
    · rw [if_neg k]
      symm
      apply decide_eq_true
      refine ⟨?_, ?_⟩
      · rcases Nat.eq_zero_or_pos (cnt (unsign R.tail)) with z | z
        · exact absurd (Or.inl ((cnt_zero _).1 z)) k
        · exact z
      · apply (cnt_all _).2
        by_cases z : rst (unsign R.tail) = []
        · exact z
        · exact absurd (Or.inr z) k
  · by_cases h2 : R.head? = some 69
    · right
      rw [decide_eq_false h1] at a
      rw [decide_eq_true h2] at b
      refine ⟨Or.inr ⟨a, b⟩, ?_⟩
      unfold expP
      rw [if_pos (Or.inr h2)]
      by_cases k : digs (unsign R.tail) = [] ∨ rst (unsign R.tail) ≠ []
      · rw [if_pos k]
        symm
        apply decide_eq_false
        rintro ⟨k1, k2⟩
        rcases k with k | k
        · have := (cnt_zero _).2 k; omega
        · exact k ((cnt_all _).1 k2)
      · rw [if_neg k]
        symm
        apply decide_eq_true
        refine ⟨?_, ?_⟩
        · rcases Nat.eq_zero_or_pos (cnt (unsign R.tail)) with z | z
          · exact absurd (Or.inl ((cnt_zero _).1 z)) k
          · exact z
        · apply (cnt_all _).2
          by_cases z : rst (unsign R.tail) = []
          · exact z
          · exact absurd (Or.inr z) k
    · left
      rw [decide_eq_false h1] at a
      rw [decide_eq_false h2] at b
      refine ⟨a, b, ?_⟩
      unfold expP
      rw [if_neg (by rintro (k | k); exact h1 k; exact h2 k)]

/-- the sign behind the e -/
theorem sign_form (r : List UInt8) :
    ((bs r).size = 0 ∧ bs r = bs (unsign r)) ∨ (∃ k : 0 < (bs r).size, ((((bs r)[0]).toNat : Int) == 43) = false ∧ ((((bs r)[0]).toNat : Int) == 45) = false ∧ bs r = bs (unsign r)) ∨
    (∃ k : 0 < (bs r).size, ((((bs r)[0]).toNat : Int) == 43) = true ∧ (bs r).extract 1 (bs r).size = bs (unsign r)) ∨
    (∃ k : 0 < (bs r).size, ((((bs r)[0]).toNat : Int) == 43) = false ∧ ((((bs r)[0]).toNat : Int) == 45) = true ∧ (bs r).extract 1 (bs r).size = bs (unsign r)) := by
  by_cases h : r = []
  · left
    subst h
    exact ⟨rfl, rfl⟩
  · right
    have p : 0 < (bs r).size := by rw [bs_size]; exact List.length_pos_iff.2 h
    have a := at_head r 43 p
    have b := at_head r 45 p
    have ea : ((43 : UInt8).toNat : Int) = 43 := rfl
    have eb : ((45 : UInt8).toNat : Int) = 45 := rfl
    rw [ea] at a
    rw [eb] at b
    by_cases h1 : r.head? = some 43
    · right; left
      rw [decide_eq_true h1] at a
      refine ⟨p, a, ?_⟩
      rw [bs_tail]; unfold unsign; rw [if_pos (Or.inr h1)]
    · rw [decide_eq_false h1] at a
      by_cases h2 : r.head? = some 45
      · right; right
        rw [decide_eq_true h2] at b
        refine ⟨p, a, b, ?_⟩
        rw [bs_tail]; unfold unsign; rw [if_pos (Or.inl h2)]
      · left
        rw [decide_eq_false h2] at b
        refine ⟨p, a, b, ?_⟩
        unfold unsign; rw [if_neg (by rintro (k | k); exact h2 k; exact h1 k)]

theorem out_form (N z : Nat) : ∃ ok : Bool, ok = decide (0 < N ∧ N = z) ∧ ((N = 0 ∧ ok = false) ∨ (0 < N ∧ N ≠ z ∧ ok = false) ∨ (0 < N ∧ N = z ∧ ok = true)) := by
  refine ⟨_, rfl, ?_⟩
  by_cases a : 0 < N
  · by_cases b : N = z
    · right; right; exact ⟨a, b, decide_eq_true ⟨a, b⟩⟩
    · right; left; exact ⟨a, b, decide_eq_false (fun k => b k.2)⟩
  · left; exact ⟨by omega, decide_eq_false (fun k => a k.1)⟩

theorem unsign_len (r : List UInt8) : (unsign r).length ≤ r.length := by unfold unsign; split <;> simp

theorem drop_rst (x : List UInt8) : x.drop (1 + cnt x.tail) = rst x.tail := by
  rw [← rst_eq x.tail, ← List.drop_one, List.drop_drop]

/-- DECIMAL OF EVERY TEXT -/
theorem decimal_any (l : List UInt8) (w : World) (hl : l.length ≤ 1000000) :
    Calls Tryz.prog 41 #[.string (bs l)] w fun e w' => ∃ (a b : Nat) (p : Bool), e = .returned (.tuple #[.int .i64 (a : Int), .int .i64 (b : Int), .bool p, .bool (scanOk l)]) ∧ (scanOk l = true → a = (sW l).length ∧ b = (sF l).length ∧ p = sDot l) ∧ w' = w := by
  have c1 := dig_bs l hl
  have hA : cnt l ≤ (bs l).size := by rw [bs_size]; exact cnt_le l
  have h1 : (bs l).extract (cnt l) (bs l).size = bs (rst l) := by rw [bs_from, rst_eq]
  have rl := rst_len l
  have zs : (bs l).size ≤ 1000000 := by rw [bs_size]; exact hl
  have z1 : (bs (rst l)).size ≤ 1000000 := by rw [bs_size]; omega
  by_cases hd : (rst l).head? = some 46
  · have eF : sF l = digs (rst l).tail := by unfold sF; rw [if_pos hd]
    have eR : sR l = rst (rst l).tail := by unfold sR; rw [if_pos hd]
    have eD : sDot l = true := by unfold sDot; exact decide_eq_true hd
    have ne : rst l ≠ [] := by intro h; rw [h] at hd; simp at hd
    have p : 0 < (bs (rst l)).size := by rw [bs_size]; exact List.length_pos_iff.2 ne
    have d1 := at_head (rst l) 46 p
    rw [decide_eq_true hd] at d1
    have d2 : ((((bs (rst l))[0]).toNat : Int) == 46) = true := d1
    have tl : (rst l).tail.length ≤ 1000000 := by rw [List.length_tail]; omega
    have c2 := dig_bs (rst l).tail tl
    have hB : 1 + cnt (rst l).tail ≤ (bs (rst l)).size := by
      have := cnt_le (rst l).tail
      rw [bs_size]
      rw [bs_size] at p
      rw [List.length_tail] at this
      omega
    have hR : (bs (rst l)).extract (1 + cnt (rst l).tail) (bs (rst l)).size = bs (sR l) := by
      rw [bs_from, eR, drop_rst]
    have zr : (bs (sR l)).size ≤ 1000000 := by rw [bs_size, eR]; have := rst_len (rst l).tail; omega
    have eA : cnt l = (sW l).length := rfl
    have eB : cnt (rst l).tail = (sF l).length := by rw [eF]; rfl
    by_cases hn : sW l = [] ∧ sF l = []
    · have e : scanOk l = false := by unfold scanOk; rw [if_pos hn]
      rw [e]
      refine (dec_c1 (bs l) _ _ _ _ _ w zs z1 zr c1 hA h1 p d2 (bs_tail _) c2 hB hR (by rw [eA, eB, hn.1, hn.2]; rfl)).mono ?_
      rintro e w' ⟨rfl, hw⟩
      exact ⟨0, 0, false, rfl, fun k => by simp at k, hw⟩
    · have hz : 0 < cnt l + cnt (rst l).tail := by
        rw [eA, eB]
        rcases Nat.eq_zero_or_pos ((sW l).length + (sF l).length) with z | z
        · exact absurd ⟨List.length_eq_zero_iff.1 (by omega), List.length_eq_zero_iff.1 (by omega)⟩ hn
        · exact z
      by_cases hr : sR l = []
      · have e : scanOk l = true := by unfold scanOk; rw [if_neg hn, if_pos hr]
        rw [e]
        refine (dec_c2 (bs l) _ _ _ _ _ w zs z1 zr c1 hA h1 p d2 (bs_tail _) c2 hB hR hz (by rw [bs_size, hr]; rfl)).mono ?_
        rintro e w' ⟨rfl, hw⟩
        exact ⟨_, _, true, rfl, fun _ => ⟨eA, eB, eD.symm⟩, hw⟩
      · have e : scanOk l = (expP (sR l)).2 := by unfold scanOk; rw [if_neg hn, if_neg hr]
        rw [e]
        have pr : 0 < (bs (sR l)).size := by rw [bs_size]; exact List.length_pos_iff.2 hr
        rcases dec_tail (sR l) hr with ⟨t1, t2, t3⟩ | ⟨t1, t3⟩
        · rw [t3]
          refine (dec_c3 (bs l) _ _ _ _ _ w zs z1 zr c1 hA h1 p d2 (bs_tail _) c2 hB hR hz pr t1 t2).mono ?_
          rintro e w' ⟨rfl, hw⟩
          exact ⟨0, 0, false, rfl, fun k => by simp at k, hw⟩
        · obtain ⟨ok, o1, o2⟩ := out_form (cnt (unsign (sR l).tail)) (unsign (sR l).tail).length
          rw [t3, ← o1]
          have u := unsign_len (sR l).tail
          have tt : (sR l).tail.length ≤ 1000000 := by rw [List.length_tail]; rw [bs_size] at zr; omega
          refine (dec_c4 (bs l) _ _ _ _ _ _ _ _ ok w zs z1 zr (by rw [bs_size]; exact tt) (by rw [bs_size]; omega) c1 hA h1 p d2 (bs_tail _) c2 hB hR hz pr t1 (bs_tail _) (sign_form _) (dig_bs _ (by omega)) (by rw [bs_size]; exact o2)).mono ?_
          rintro e w' ⟨rfl, hw⟩
          exact ⟨_, _, true, rfl, fun _ => ⟨eA, eB, eD.symm⟩, hw⟩
  · have eF : sF l = [] := by unfold sF; rw [if_neg hd]
    have eR : sR l = rst l := by unfold sR; rw [if_neg hd]
    have eD : sDot l = false := by unfold sDot; exact decide_eq_false hd
    have eA : cnt l = (sW l).length := rfl
    have eB : 0 = (sF l).length := by rw [eF]; rfl
    have hnn : (sW l = [] ∧ sF l = []) ↔ cnt l + 0 = 0 := by
      rw [eA, eF]
      constructor
      · rintro ⟨k, _⟩; rw [k]; rfl
      · intro k; exact ⟨List.length_eq_zero_iff.1 (by omega), rfl⟩
    by_cases ne : rst l = []
    · have p : (bs (rst l)).size = 0 := by rw [bs_size, ne]; rfl
      by_cases hn : sW l = [] ∧ sF l = []
      · have e : scanOk l = false := by unfold scanOk; rw [if_pos hn]
        rw [e]
        refine (dec_a1 (bs l) _ _ w zs z1 c1 hA h1 p (by rw [show cnt l = 0 from by have := hnn.1 hn; omega]; rfl)).mono ?_
        rintro e w' ⟨rfl, hw⟩
        exact ⟨0, 0, false, rfl, fun k => by simp at k, hw⟩
      · have e : scanOk l = true := by unfold scanOk; rw [if_neg hn, if_pos (by rw [eR]; exact ne)]
        rw [e]
        refine (dec_a2 (bs l) _ _ w zs z1 c1 hA h1 p (by rcases Nat.eq_zero_or_pos (cnt l + 0) with z | z; exact absurd (hnn.2 z) hn; exact z)).mono ?_
        rintro e w' ⟨rfl, hw⟩
        exact ⟨_, _, false, rfl, fun _ => ⟨eA, eB, eD.symm⟩, hw⟩
    · have p : 0 < (bs (rst l)).size := by rw [bs_size]; exact List.length_pos_iff.2 ne
      have d1 := at_head (rst l) 46 p
      rw [decide_eq_false hd] at d1
      have d2 : ((((bs (rst l))[0]).toNat : Int) == 46) = false := d1
      by_cases hn : sW l = [] ∧ sF l = []
      · have e : scanOk l = false := by unfold scanOk; rw [if_pos hn]
        rw [e]
        refine (dec_b1 (bs l) _ _ w zs z1 c1 hA h1 p d2 (by rw [show cnt l = 0 from by have := hnn.1 hn; omega]; rfl)).mono ?_
        rintro e w' ⟨rfl, hw⟩
        exact ⟨0, 0, false, rfl, fun k => by simp at k, hw⟩
      · have hz : 0 < cnt l + 0 := by rcases Nat.eq_zero_or_pos (cnt l + 0) with z | z; exact absurd (hnn.2 z) hn; exact z
        have e : scanOk l = (expP (rst l)).2 := by unfold scanOk; rw [if_neg hn, if_neg (by rw [eR]; exact ne), eR]
        rw [e]
        rcases dec_tail (rst l) ne with ⟨t1, t2, t3⟩ | ⟨t1, t3⟩
        · rw [t3]
          refine (dec_b3 (bs l) _ _ w zs z1 c1 hA h1 p d2 hz t1 t2).mono ?_
          rintro e w' ⟨rfl, hw⟩
          exact ⟨0, 0, false, rfl, fun k => by simp at k, hw⟩
        · obtain ⟨ok, o1, o2⟩ := out_form (cnt (unsign (rst l).tail)) (unsign (rst l).tail).length
          rw [t3, ← o1]
          have u := unsign_len (rst l).tail
          have tt : (rst l).tail.length ≤ 1000000 := by rw [List.length_tail]; rw [bs_size] at z1; omega
          refine (dec_b4 (bs l) _ _ _ _ _ ok w zs z1 (by rw [bs_size]; exact tt) (by rw [bs_size]; omega) c1 hA h1 p d2 hz t1 (bs_tail _) (sign_form _) (dig_bs _ (by omega)) (by rw [bs_size]; exact o2)).mono ?_
          rintro e w' ⟨rfl, hw⟩
          exact ⟨_, _, false, rfl, fun _ => ⟨eA, eB, eD.symm⟩, hw⟩

/-- PARSED OF EVERY DECIMAL -/
theorem parsed_any (l : List UInt8) (w : World) (hl : l.length ≤ 5000) (ho : scanOk l = true) :
    Calls Tryz.prog 42 #[.string (bs l)] w fun e w' => e = .returned (.int .u64 (valD (sigD (sW l ++ sF l)) (sigP (sW l) (sW l ++ sF l) (scanX l)) : Nat)) ∧ Below w.heap.size w w' := by
  have wf := sWF_len l
  have ex : ∃ (d : List UInt8) (sg : Int), (sg = 1 ∨ sg = -1) ∧ scanX l = sg * ((min (decN d) 1099511627776 : Nat) : Int) ∧ qst (sR l).tail = (min (decN d) 1000000000, sg) ∧ (sR l = [] ∨ ∃ c r, sR l = c :: r ∧ (c = 101 ∨ c = 69) ∧ ∀ z ∈ r, z = 45 ∨ z = 43 ∨ isDig z = true) := by
    by_cases hr : sR l = []
    · refine ⟨[], 1, Or.inl rfl, ?_, ?_, Or.inl hr⟩
      · unfold scanX; rw [if_pos hr]; rfl
      · rw [hr]; rfl
    · have hn : ¬ (sW l = [] ∧ sF l = []) := by intro k; unfold scanOk at ho; rw [if_pos k] at ho; cases ho
      have h2 : (expP (sR l)).2 = true := by unfold scanOk at ho; rw [if_neg hn, if_neg hr] at ho; exact ho
      obtain ⟨c, r, d, e1, e2, e3, e4, sg, e5, e6, e7⟩ := exp_form (sR l) hr h2
      refine ⟨d, sg, e5, ?_, ?_, Or.inr ⟨c, r, e1, e2, e4⟩⟩
      · unfold scanX; rw [if_neg hr]; exact e6
      · rw [e1]; exact e7
  obtain ⟨d, sg, hs, hx, hq, hR⟩ := ex
  rw [hx, val_both _ _ _ _ hs (by omega)]
  have pm := pst_sM l
  have hnn : ((min (decN d) 1000000000 : Nat) : Int) ≤ 1000000000 := by omega
  have hbd : -1000010000 ≤ sg * ((min (decN d) 1000000000 : Nat) : Int) - ((sF l).length : Int) ∧ sg * ((min (decN d) 1000000000 : Nat) : Int) - ((sF l).length : Int) ≤ 1000010000 := by
    have : (sF l).length ≤ 5000 := by rw [List.length_append] at wf; omega
    have : (0 : Int) ≤ ((min (decN d) 1000000000 : Nat) : Int) := by omega
    generalize ((min (decN d) 1000000000 : Nat) : Int) = y at *
    rcases hs with rfl | rfl <;> omega
  have key := parsed_walk (sM l) (sR l) w (by rw [sM_sR]; exact hl) (sM_no l) hR _ _ _ pm _ _ hq
    ((valD (sigD (sW l ++ sF l)) (((nodz (sW l ++ sF l)).length : Int) + (sg * ((min (decN d) 1000000000 : Nat) : Int) - ((sF l).length : Int))) : Nat) : Int)
    (fun x w hx => by subst hx; exact near10_any (sW l ++ sF l) _ w (sWF_dig l) (by omega) (by omega) (by omega))
  rw [sM_sR] at key
  exact key

/-- what Literal asks of its callees -/
theorem rl_hex (s t x : ByteArray) (R : Int) (ok : Bool) (w : World) (zs : s.size ≤ 1000000) (h2 : 2 ≤ s.size) (ht : s.extract 0 2 = t) (hb : t.toList = [48, 120]) (hx : s.extract 2 s.size = x)
    (c : ∀ w : World, Calls Tryz.prog 40 #[.string x] w fun e w' => e = .returned (.tuple #[.int .u64 R, .bool ok]) ∧ w' = w) :
    Calls Tryz.prog 13 #[.string s] w fun e w' => e = .returned (.tuple #[.int .u64 R, .bool ok]) ∧ Below w.heap.size w w' := by
  go_enter Tryz.func13, Tryz.ntmps13
  go_wp2_with (go_at_call 40; refine (c _).mono ?_; rintro e w1 ⟨rfl, rfl⟩)
  go_ret2
  exact ⟨rfl, Below.refl _ _⟩

theorem rl_no (s t : ByteArray) (w : World) (zs : s.size ≤ 1000000) (hn : s.size < 2 ∨ (2 ≤ s.size ∧ s.extract 0 2 = t ∧ (t.toList == [48, 120]) = false))
    (A B : Nat) (p ok : Bool)
    (c : ∀ w : World, Calls Tryz.prog 41 #[.string s] w fun e w' => ∃ (a b : Nat) (q : Bool), e = .returned (.tuple #[.int .i64 (a : Int), .int .i64 (b : Int), .bool q, .bool ok]) ∧ (ok = true → a = A ∧ b = B ∧ q = p) ∧ w' = w)
    (ho : ok = false ∨ (ok = true ∧ A = 0) ∨ (ok = true ∧ 0 < A ∧ p = true ∧ B = 0) ∨ (∃ k : 0 < s.size, ok = true ∧ 1 < A ∧ (p = false ∨ (p = true ∧ 0 < B)) ∧ (((s[0]).toNat : Int) == 48) = true)) :
    Calls Tryz.prog 13 #[.string s] w fun e w' => e = .returned (.tuple #[.int .u64 0, .bool false]) ∧ Below w.heap.size w w' := by
  rcases hn with hn | ⟨h2, ht, hn⟩ <;> rcases ho with rfl | ⟨rfl, a0⟩ | ⟨rfl, a0, rfl, b0⟩ | ⟨k, rfl, a0, rfl | ⟨rfl, b0⟩, k2⟩
  · go_enter Tryz.func13, Tryz.ntmps13
    go_wp2_with (go_at_call 41; refine (c _).mono ?_; rintro e w1 ⟨a, b, q, rfl, _, rfl⟩)
    go_ret2
    exact ⟨rfl, Below.refl _ _⟩
  · go_enter Tryz.func13, Tryz.ntmps13
    go_wp2_with (go_at_call 41; refine (c _).mono ?_; rintro e w1 ⟨a, b, q, rfl, hq, rfl⟩; obtain ⟨rfl, rfl, rfl⟩ := hq rfl)
    go_ret2
    exact ⟨rfl, Below.refl _ _⟩
  · go_enter Tryz.func13, Tryz.ntmps13
    go_wp2_with (go_at_call 41; refine (c _).mono ?_; rintro e w1 ⟨a, b, q, rfl, hq, rfl⟩; obtain ⟨rfl, rfl, rfl⟩ := hq rfl)
    go_ret2
    exact ⟨rfl, Below.refl _ _⟩
  · go_enter Tryz.func13, Tryz.ntmps13
    go_wp2_with (go_at_call 41; refine (c _).mono ?_; rintro e w1 ⟨a, b, q, rfl, hq, rfl⟩; obtain ⟨rfl, rfl, rfl⟩ := hq rfl)
    go_ret2
    exact ⟨rfl, Below.refl _ _⟩
  · go_enter Tryz.func13, Tryz.ntmps13
    go_wp2_with (go_at_call 41; refine (c _).mono ?_; rintro e w1 ⟨a, b, q, rfl, hq, rfl⟩; obtain ⟨rfl, rfl, rfl⟩ := hq rfl)
    go_ret2
    exact ⟨rfl, Below.refl _ _⟩
  · go_enter Tryz.func13, Tryz.ntmps13
    go_wp2_with (go_at_call 41; refine (c _).mono ?_; rintro e w1 ⟨a, b, q, rfl, _, rfl⟩)
    go_ret2
    exact ⟨rfl, Below.refl _ _⟩
  · go_enter Tryz.func13, Tryz.ntmps13
    go_wp2_with (go_at_call 41; refine (c _).mono ?_; rintro e w1 ⟨a, b, q, rfl, hq, rfl⟩; obtain ⟨rfl, rfl, rfl⟩ := hq rfl)
    go_ret2
    exact ⟨rfl, Below.refl _ _⟩
  · go_enter Tryz.func13, Tryz.ntmps13
    go_wp2_with (go_at_call 41; refine (c _).mono ?_; rintro e w1 ⟨a, b, q, rfl, hq, rfl⟩; obtain ⟨rfl, rfl, rfl⟩ := hq rfl)
    go_ret2
    exact ⟨rfl, Below.refl _ _⟩
  · go_enter Tryz.func13, Tryz.ntmps13
    go_wp2_with (go_at_call 41; refine (c _).mono ?_; rintro e w1 ⟨a, b, q, rfl, hq, rfl⟩; obtain ⟨rfl, rfl, rfl⟩ := hq rfl)
    go_ret2
    exact ⟨rfl, Below.refl _ _⟩
  · go_enter Tryz.func13, Tryz.ntmps13
    go_wp2_with (go_at_call 41; refine (c _).mono ?_; rintro e w1 ⟨a, b, q, rfl, hq, rfl⟩; obtain ⟨rfl, rfl, rfl⟩ := hq rfl)
    go_ret2
    exact ⟨rfl, Below.refl _ _⟩

theorem rl_yes (s t : ByteArray) (w : World) (zs : s.size ≤ 1000000) (hn : s.size < 2 ∨ (2 ≤ s.size ∧ s.extract 0 2 = t ∧ (t.toList == [48, 120]) = false))
    (A B : Nat) (p : Bool) (V : Int)
    (c : ∀ w : World, Calls Tryz.prog 41 #[.string s] w fun e w' => e = .returned (.tuple #[.int .i64 (A : Int), .int .i64 (B : Int), .bool p, .bool true]) ∧ w' = w)
    (c2 : ∀ w : World, Calls Tryz.prog 42 #[.string s] w fun e w' => e = .returned (.int .u64 V) ∧ Below w.heap.size w w')
    (a0 : 0 < A) (hp : p = false ∨ (p = true ∧ 0 < B)) (ha : A = 1 ∨ (1 < A ∧ ∃ k : 0 < s.size, (((s[0]).toNat : Int) == 48) = false)) :
    Calls Tryz.prog 13 #[.string s] w fun e w' => e = .returned (.tuple #[.int .u64 V, .bool true]) ∧ Below w.heap.size w w' := by
  have a2 : ((A : Int) == 0) = false := by rw [beq_eq_false_iff_ne]; omega
  rcases hn with hn | ⟨h2, ht, hn⟩ <;> rcases hp with rfl | ⟨rfl, b0⟩ <;> rcases ha with rfl | ⟨a1, k, k2⟩
  all_goals
    have b2 : 0 < B → ((B : Int) == 0) = false := by intro h; rw [beq_eq_false_iff_ne]; omega
    try have b3 := b2 b0
    clear b2
    go_enter Tryz.func13, Tryz.ntmps13
    go_wp2_with (first | (go_at_call 41; refine (c _).mono ?_; rintro e w1 ⟨rfl, rfl⟩) | (go_at_call 42; refine (c2 _).mono ?_; rintro e w2 ⟨rfl, hb⟩))
    go_ret2
    exact ⟨rfl, hb⟩

/-- LITERAL OF EVERY TEXT -/
theorem reflit_any (l : List UInt8) (w : World) (hl : l.length ≤ 5000) :
    Calls Tryz.prog 13 #[.string (bs l)] w fun e w' => e = .returned (.tuple #[.int .u64 (litI l).1, .bool (litI l).2]) ∧ Below w.heap.size w w' := by
  have zs : (bs l).size ≤ 1000000 := by rw [bs_size]; omega
  have ez : (bs l).extract 0 2 = bs (l.take 2) := by rw [bs_extract]; rfl
  by_cases h : Lib.hasPrefix l [48, 120] = true
  · have hp := h
    unfold Lib.hasPrefix at hp
    rw [List.isPrefixOf_iff_prefix] at hp
    obtain ⟨r, hr⟩ := hp
    have e : litI l = hexI (Lib.trimPrefix l [48, 120]) := by unfold litI; rw [if_pos h]
    have et : Lib.trimPrefix l [48, 120] = l.drop 2 := by unfold Lib.trimPrefix; rw [if_pos h]; rfl
    rw [e, et]
    refine rl_hex (bs l) _ _ _ _ w zs ?_ ez ?_ (bs_from l 2) (fun w => hexad_any _ w (by rw [List.length_drop]; omega))
    · rw [bs_size, ← hr]; simp
    · rw [bs_toList, ← hr]; rfl
  · have hn : (bs l).size < 2 ∨ (2 ≤ (bs l).size ∧ (bs l).extract 0 2 = bs (l.take 2) ∧ ((bs (l.take 2)).toList == [48, 120]) = false) := by
      rcases Nat.lt_or_ge (bs l).size 2 with k | k
      · exact Or.inl k
      · refine Or.inr ⟨k, ez, ?_⟩
        rw [bs_toList, beq_eq_false_iff_ne]
        intro k2
        apply h
        unfold Lib.hasPrefix
        rw [List.isPrefixOf_iff_prefix]
        exact ⟨l.drop 2, by rw [← k2]; exact List.take_append_drop 2 l⟩
    have hh : sW l ≠ [] → ∃ k : 0 < (bs l).size, ((((bs l)[0]).toNat : Int) == 48) = decide ((sW l).head? = some 48) := by
      intro hw
      have hd : (sW l).head? = l.head? := by
        have := digs_rst l
        unfold sW at hw ⊢
        cases hdl : digs l with
        | nil => exact absurd hdl hw
        | cons a b => rw [← this, hdl]; rfl
      have p : 0 < (bs l).size := by
        rw [bs_size]
        apply List.length_pos_iff.2
        intro k; apply hw; rw [k]; rfl
      refine ⟨p, ?_⟩
      rw [hd]
      exact at_head l 48 p
    have dc := fun w => decimal_any l w (by omega)
    by_cases ho : scanOk l = true
    · rw [ho] at dc
      by_cases hb : litB (sW l) (sF l) (sDot l) = true
      · have e : litI l = (((valD (sigD (sW l ++ sF l)) (sigP (sW l) (sW l ++ sF l) (scanX l)) : Nat) : Int), true) := by unfold litI; rw [if_neg h, if_pos ⟨ho, hb⟩]
        rw [e]
        have dc2 : ∀ w : World, Calls Tryz.prog 41 #[.string (bs l)] w fun e w' => e = .returned (.tuple #[.int .i64 (((sW l).length : Nat) : Int), .int .i64 (((sF l).length : Nat) : Int), .bool (sDot l), .bool true]) ∧ w' = w := by
          intro w
          refine (dc w).mono ?_
          rintro e w' ⟨a, b, q, rfl, hq, hw⟩
          obtain ⟨rfl, rfl, rfl⟩ := hq rfl
          exact ⟨rfl, hw⟩
        have hw : sW l ≠ [] := by intro k; unfold litB at hb; rw [if_pos k] at hb; cases hb
        have hf : ¬ (sDot l = true ∧ sF l = []) := by intro k; unfold litB at hb; rw [if_neg hw, if_pos k] at hb; cases hb
        have h3 : 1 < (sW l).length → decide ((sW l).head? = some 48) = false := by
          intro k
          unfold litB at hb
          rw [if_neg hw, if_neg hf, if_pos k] at hb
          simpa using hb
        have lp := List.length_pos_iff.2 hw
        refine rl_yes (bs l) _ w zs hn _ _ _ _ dc2 (fun w => parsed_any l w hl ho) lp ?_ ?_
        · cases hp : sDot l with
          | false => exact Or.inl rfl
          | true => exact Or.inr ⟨rfl, List.length_pos_iff.2 (fun k => hf ⟨hp, k⟩)⟩
        · rcases Nat.lt_or_ge 1 (sW l).length with k | k
          · obtain ⟨p, hp⟩ := hh hw
            exact Or.inr ⟨k, p, by rw [hp]; exact h3 k⟩
          · exact Or.inl (by omega)
      · have e : litI l = (0, false) := by unfold litI; rw [if_neg h, if_neg (fun k => hb k.2)]
        rw [e]
        refine rl_no (bs l) _ w zs hn (sW l).length (sF l).length (sDot l) true dc ?_
        right
        unfold litB at hb
        by_cases hw : sW l = []
        · exact Or.inl ⟨rfl, by rw [hw]; rfl⟩
        · rw [if_neg hw] at hb
          have lp := List.length_pos_iff.2 hw
          right
          by_cases hf : sDot l = true ∧ sF l = []
          · exact Or.inl ⟨rfl, lp, hf.1, by rw [hf.2]; rfl⟩
          · rw [if_neg hf] at hb
            by_cases k : 1 < (sW l).length
            · rw [if_pos k] at hb
              obtain ⟨p, hp⟩ := hh hw
              refine Or.inr ⟨p, rfl, k, ?_, ?_⟩
              · cases hp : sDot l with
                | false => exact Or.inl rfl
                | true => exact Or.inr ⟨rfl, List.length_pos_iff.2 (fun k => hf ⟨hp, k⟩)⟩
              · rw [hp]
                apply decide_eq_true
                by_cases z : (sW l).head? = some 48
                · exact z
                · exact absurd (decide_eq_true z) hb
            · rw [if_neg k] at hb
              exact absurd rfl hb
    · have ho' : scanOk l = false := by simpa using ho
      have e : litI l = (0, false) := by unfold litI; rw [if_neg h, if_neg (fun k => ho k.1)]
      rw [e]
      rw [ho'] at dc
      exact rl_no (bs l) _ w zs hn 0 0 false false (fun w => (dc w).mono (by rintro e w' ⟨a, b, q, h1, _, h3⟩; exact ⟨a, b, q, h1, fun k => (by cases k), h3⟩)) (Or.inl rfl)

end Go.Proofs.YtpejebohekcfoaaGreatDoor.V32
/- The document's Read of every text. -/
namespace Go.Proofs.YtpejebohekcfoaaGreatDoor.V32
open Go.RowKit
set_option linter.unusedVariables false

def strLen : Value → Nat | .string s => s.size | _ => 0

/-- what stands behind the sign -/
def Uns (u : ByteArray) (mi V : Int) : Prop :=
  (u.toList = [73, 110, 102, 105, 110, 105, 116, 121] ∧ mi + 9218868437227405312 = V) ∨
  ((u.toList == [73, 110, 102, 105, 110, 105, 116, 121]) = false ∧ (∀ w : World, Calls Tryz.prog 41 #[.string u] w fun e w' => ∃ (a b : Nat) (q : Bool), e = .returned (.tuple #[.int .i64 (a : Int), .int .i64 (b : Int), .bool q, .bool false]) ∧ w' = w) ∧ 9221120237041090560 = V) ∨
  (∃ P : Int, (u.toList == [73, 110, 102, 105, 110, 105, 116, 121]) = false ∧ (∀ w : World, Calls Tryz.prog 41 #[.string u] w fun e w' => ∃ (a b : Nat) (q : Bool), e = .returned (.tuple #[.int .i64 (a : Int), .int .i64 (b : Int), .bool q, .bool true]) ∧ w' = w) ∧ (∀ w : World, Calls Tryz.prog 42 #[.string u] w fun e w' => e = .returned (.int .u64 P) ∧ Below w.heap.size w w') ∧ 0 ≤ P ∧ P ≤ 9218868437227405312 ∧ mi + P = V)

def NotHex (T : ByteArray) : Prop := T.size < 2 ∨ (∃ k : 2 ≤ T.size, (((T[0]).toNat : Int) == 48) = false) ∨ (∃ k : 2 ≤ T.size, (((T[0]).toNat : Int) == 48) = true ∧ (((T[1]).toNat : Int) == 120) = false ∧ (((T[1]).toNat : Int) == 88) = false)

def Core (T : ByteArray) (V : Int) : Prop :=
  (T.toList = [] ∧ V = 0) ∨
  (∃ (x : ByteArray) (R : Int) (ok : Bool) (k : 2 ≤ T.size), T.toList.isEmpty = false ∧ (((T[0]).toNat : Int) == 48) = true ∧ ((((T[1]).toNat : Int) == 120) = true ∨ ((((T[1]).toNat : Int) == 120) = false ∧ (((T[1]).toNat : Int) == 88) = true)) ∧
    T.extract 2 T.size = x ∧ (∀ w : World, Calls Tryz.prog 40 #[.string x] w fun e w' => e = .returned (.tuple #[.int .u64 R, .bool ok]) ∧ w' = w) ∧ ((ok = true ∧ R = V) ∨ (ok = false ∧ 9221120237041090560 = V))) ∨
  (∃ (u : ByteArray) (k : 0 < T.size), T.toList.isEmpty = false ∧ NotHex T ∧ (((T[0]).toNat : Int) == 43) = true ∧ (((T[0]).toNat : Int) == 45) = false ∧ T.extract 1 T.size = u ∧ Uns u 0 V) ∨
  (∃ (u : ByteArray) (k : 0 < T.size), T.toList.isEmpty = false ∧ NotHex T ∧ (((T[0]).toNat : Int) == 43) = false ∧ (((T[0]).toNat : Int) == 45) = true ∧ T.extract 1 T.size = u ∧ Uns u 9223372036854775808 V) ∨
  (∃ (k : 0 < T.size), T.toList.isEmpty = false ∧ NotHex T ∧ (((T[0]).toNat : Int) == 43) = false ∧ (((T[0]).toNat : Int) == 45) = false ∧ Uns T 0 V)

theorem is_blank (c : UInt8) : (blankS.contains c = true ∧ (((c.toNat : Int) == 9) = true ∨ (((c.toNat : Int) == 9) = false ∧ ((c.toNat : Int) == 10) = true) ∨ (((c.toNat : Int) == 9) = false ∧ ((c.toNat : Int) == 10) = false ∧ ((c.toNat : Int) == 32) = true))) ∨
    (blankS.contains c = false ∧ ((c.toNat : Int) == 9) = false ∧ ((c.toNat : Int) == 10) = false ∧ ((c.toNat : Int) == 32) = false) := by
  have h := blank_iff c
  cases hb : blankS.contains c with
  | true =>
    left
    refine ⟨rfl, ?_⟩
    have := h.1 hb
    simp only [beq_iff_eq, beq_eq_false_iff_ne]
    omega
  | false =>
    right
    refine ⟨rfl, ?_⟩
    have : ¬ (c.toNat = 9 ∨ c.toNat = 10 ∨ c.toNat = 32) := fun k => by rw [h.2 k] at hb; cases hb
    simp only [beq_eq_false_iff_ne]
    omega

theorem last_of (X : ByteArray) (r : List UInt8) (c : UInt8) (h : X = bs (r ++ [c])) (hz : X.size - 1 < X.size) : X[X.size - 1] = c := by
  subst h
  have a := bs_at2 (r ++ [c]) _ hz
  have e : (r ++ [c])[(bs (r ++ [c])).size - 1]? = some c := by rw [bs_size]; simp
  exact Option.some.inj (a.symm.trans e)

theorem first_at (m : List UInt8) (c : UInt8) : (bs (c :: m))[0]'(by rw [bs_size]; simp) = c := rfl

set_option maxHeartbeats 8000000 in
theorem read_walk (l : List UInt8) (V : Int) (w : World) (hl : l.length ≤ 5000) (hC : Core (bs (Lib.trimS l blankS)) V) :
    Calls Tryz.prog 15 #[.string (bs l)] w fun e w' => e = .returned (.int .u64 V) ∧ Below w.heap.size w w' := by
  have HC : Hid (Core (bs (Lib.trimS l blankS)) V) := hC
  have HL : Hid (l.length ≤ 5000) := hl
  clear hC hl
  go_enter Tryz.func15, Tryz.ntmps15
  go_upto_block 0 with fail
  go_cut [0] from 10 to 29 (fun sv wx => (∃ m : List UInt8, sv = .string (bs m) ∧ Lib.trimS m blankS = Lib.trimS l blankS ∧ m.length ≤ l.length ∧ ∀ c, m.head? = some c → blankS.contains c = false) ∧ wx = w)
  case first =>
    go_wp2_with fail
    go_loop [0] (fun sv => ∃ m : List UInt8, sv = .string (bs m) ∧ Lib.trimS m blankS = Lib.trimS l blankS ∧ m.length ≤ l.length) (fun sv => strLen sv)
    case atStart => exact ⟨l, rfl, rfl, Nat.le_refl _⟩
    case round =>
      obtain ⟨m, rfl, h1, h2⟩ := hrel
      have HH : Hid (Lib.trimS m blankS = Lib.trimS l blankS ∧ m.length ≤ l.length) := ⟨h1, h2⟩
      clear h1 h2
      cases m with
      | nil =>
        have z : (bs ([] : List UInt8)).size = 0 := rfl
        have HM : Hid ((bs ([] : List UInt8)) = bs []) := rfl
        generalize hX : bs ([] : List UInt8) = X at *
        go_wp2_with fail
        go_meet
        exact ⟨⟨[], by rw [hX], HH.out.1, HH.out.2, fun c h => by simp at h⟩, rfl⟩
      | cons c r =>
        have z : 0 < (bs (c :: r)).size := by rw [bs_size]; simp
        have zl : (bs (c :: r)).size ≤ 5000 := by rw [bs_size]; have := HH.out.2; have := HL.out; omega
        have e0 : (bs (c :: r))[0]'z = c := rfl
        have ex : (bs (c :: r)).extract 1 (bs (c :: r)).size = bs r := bs_tail _
        have es : Hid ((bs (c :: r)).size = (bs r).size + 1) := by show _ = _; rw [bs_size, bs_size]; rfl
        rcases is_blank c with ⟨hb, hk⟩ | ⟨hb, k1, k2, k3⟩
        · have HN : Hid (∃ m : List UInt8, Value.string (bs r) = .string (bs m) ∧ Lib.trimS m blankS = Lib.trimS l blankS ∧ m.length ≤ l.length) :=
            ⟨r, rfl, by rw [← trimS_first c r hb]; exact HH.out.1, by have := HH.out.2; simp at this; omega⟩
          generalize hX : bs (c :: r) = X at *
          generalize hY : bs r = Y at *
          rw [← e0] at hk
          clear hX hY HH e0 hb
          rcases hk with k1 | ⟨k1, k2⟩ | ⟨k1, k2, k3⟩
          all_goals
            go_wp2_with fail
            refine ⟨HN.out, ?_⟩
            have es := es.out
            simp only [strLen]
            omega
        · have HN : Hid ((∃ m : List UInt8, Value.string (bs (c :: r)) = .string (bs m) ∧ Lib.trimS m blankS = Lib.trimS l blankS ∧ m.length ≤ l.length ∧ ∀ c, m.head? = some c → blankS.contains c = false)) :=
            ⟨c :: r, rfl, HH.out.1, HH.out.2, fun d hd => by simp at hd; subst hd; exact hb⟩
          generalize hX : bs (c :: r) = X at *
          rw [← e0] at k1 k2 k3
          clear hX HH e0 hb ex es
          go_wp2_with fail
          go_meet
          exact ⟨HN.out, rfl⟩
  case rest =>
  obtain ⟨⟨m0, rfl, t1, t2, t3⟩, rfl⟩ := hcut
  have HT : Hid (Lib.trimS m0 blankS = Lib.trimS l blankS ∧ m0.length ≤ l.length ∧ ∀ c, m0.head? = some c → blankS.contains c = false) := ⟨t1, t2, t3⟩
  clear t1 t2 t3
  go_upto_block 2 with fail
  go_cut [0] from 30 to 61 (fun sv wx => sv = .string (bs (Lib.trimS l blankS)) ∧ wx = wc)
  case first =>
    go_wp2_with fail
    go_loop [0] (fun sv => ∃ m : List UInt8, sv = .string (bs m) ∧ Lib.trimS m blankS = Lib.trimS l blankS ∧ m.length ≤ l.length ∧ ∀ c, m.head? = some c → blankS.contains c = false) (fun sv => strLen sv)
    case atStart => exact ⟨m0, rfl, HT.out⟩
    case round =>
      obtain ⟨m, rfl, h1⟩ := hrel
      have HH : Hid (Lib.trimS m blankS = Lib.trimS l blankS ∧ m.length ≤ l.length ∧ ∀ c, m.head? = some c → blankS.contains c = false) := h1
      clear h1
      rcases List.eq_nil_or_concat m with hm | ⟨r, c, hm⟩
      · subst hm
        have z : (bs ([] : List UInt8)).size = 0 := rfl
        have HE : Hid (Lib.trimS l blankS = []) := by show _ = _; rw [← HH.out.1]; rfl
        generalize hX : bs ([] : List UInt8) = X at *
        go_wp2_with fail
        go_meet
        exact ⟨by rw [HE.out, hX], rfl⟩
      · rw [List.concat_eq_append] at hm
        subst hm
        obtain ⟨X, hX⟩ : ∃ X, X = bs (r ++ [c]) := ⟨_, rfl⟩
        obtain ⟨Y, hY⟩ : ∃ Y, Y = bs r := ⟨_, rfl⟩
        have es : Hid (X.size = Y.size + 1) := by show _ = _; rw [hX, hY, bs_size, bs_size]; simp
        have z : 0 < X.size := by have := es.out; omega
        have zl : X.size ≤ 5000 := by rw [hX, bs_size]; have := HH.out.2.1; have := HL.out; omega
        have e0 := last_of X r c hX (by omega)
        have ex : X.extract 0 (X.size - 1) = Y := by
          rw [hX, hY, bs_extract, bs_size]
          simp
        rw [← hX]
        rcases is_blank c with ⟨hb, hk⟩ | ⟨hb, k1, k2, k3⟩
        · have HN : Hid (∃ m : List UInt8, Value.string Y = .string (bs m) ∧ Lib.trimS m blankS = Lib.trimS l blankS ∧ m.length ≤ l.length ∧ ∀ c, m.head? = some c → blankS.contains c = false) := by
            refine ⟨r, by rw [hY], by rw [← trimS_last c r hb]; exact HH.out.1, by have := HH.out.2.1; simp at this; omega, ?_⟩
            intro d hd
            apply HH.out.2.2 d
            cases r with
            | nil => simp at hd
            | cons a b => simpa using hd
          rw [← e0] at hk
          clear hX hY HH e0 hb
          rcases hk with k1 | ⟨k1, k2⟩ | ⟨k1, k2, k3⟩
          all_goals
            go_wp2_with fail
            refine ⟨HN.out, ?_⟩
            have es := es.out
            simp only [strLen]
            omega
        · have HN : Hid (Value.string X = .string (bs (Lib.trimS l blankS))) := by
            show _ = _
            rw [← HH.out.1, hX]
            congr 2
            cases hr : (r ++ [c]).head? with
            | none => cases r <;> simp at hr
            | some a => exact (trimS_none a c _ hr (by simp) (HH.out.2.2 a hr) hb).symm
          rw [← e0] at k1 k2 k3
          clear hX hY HH e0 hb ex es
          go_wp2_with fail
          go_meet
          exact ⟨HN.out, rfl⟩
  case rest =>
  obtain ⟨rfl, rfl⟩ := hcut
  have zT : (bs (Lib.trimS l blankS)).size ≤ 5000 := by rw [bs_size]; have := trimS_len l blankS; have := HL.out; omega
  have C := HC.out
  clear HC HT HL
  generalize bs (Lib.trimS l blankS) = T at *
  unfold Core Uns at C
  rcases C with ⟨h, rfl⟩ | ⟨x, R, ok, k, ne, a, b, hx, c, hV⟩ | ⟨u, k, ne, nh, a, a2, hu, U⟩ | ⟨u, k, ne, nh, a, b, hu, U⟩ | ⟨k, ne, nh, a, b, U⟩
  · go_wp2_with fail
    go_ret
    exact ⟨rfl, Below.refl _ _⟩
  · rcases b with b | ⟨b, b2⟩ <;> rcases hV with ⟨rfl, rfl⟩ | ⟨rfl, rfl⟩
    all_goals
      go_wp2_with (go_at_call 40; refine (c _).mono ?_; rintro e w1 ⟨rfl, rfl⟩)
      go_ret
      exact ⟨rfl, Below.refl _ _⟩
  · unfold NotHex at nh
    rcases nh with n1 | ⟨n1, n2⟩ | ⟨n1, n2, n3, n4⟩ <;> rcases U with ⟨hi, rfl⟩ | ⟨hi, c, rfl⟩ | ⟨P, hi, c, c2, p0, p1, rfl⟩
    all_goals
      go_wp2_with (first | (go_at_call 41; refine (c _).mono ?_; rintro e w1 ⟨a, b, q, rfl, rfl⟩) | (go_at_call 42; refine (c2 _).mono ?_; rintro e w2 ⟨rfl, hb⟩))
      go_ret
      first | exact ⟨rfl, Below.refl _ _⟩ | exact ⟨rfl, hb⟩ | exact ⟨by rw [Int.zero_add]; rfl, hb⟩ | exact ⟨by rw [Int.zero_add]; rfl, Below.refl _ _⟩
  · unfold NotHex at nh
    rcases nh with n1 | ⟨n1, n2⟩ | ⟨n1, n2, n3, n4⟩ <;> rcases U with ⟨hi, rfl⟩ | ⟨hi, c, rfl⟩ | ⟨P, hi, c, c2, p0, p1, rfl⟩
    all_goals
      go_wp2_with (first | (go_at_call 41; refine (c _).mono ?_; rintro e w1 ⟨a, b, q, rfl, rfl⟩) | (go_at_call 42; refine (c2 _).mono ?_; rintro e w2 ⟨rfl, hb⟩))
      go_ret
      first | exact ⟨rfl, Below.refl _ _⟩ | exact ⟨rfl, hb⟩ | exact ⟨by rw [Int.zero_add]; rfl, hb⟩ | exact ⟨by rw [Int.zero_add]; rfl, Below.refl _ _⟩
  · unfold NotHex at nh
    rcases nh with n1 | ⟨n1, n2⟩ | ⟨n1, n2, n3, n4⟩ <;> rcases U with ⟨hi, rfl⟩ | ⟨hi, c, rfl⟩ | ⟨P, hi, c, c2, p0, p1, rfl⟩
    all_goals
      go_wp2_with (first | (go_at_call 41; refine (c _).mono ?_; rintro e w1 ⟨a, b, q, rfl, rfl⟩) | (go_at_call 42; refine (c2 _).mono ?_; rintro e w2 ⟨rfl, hb⟩))
      go_ret
      first | exact ⟨rfl, Below.refl _ _⟩ | exact ⟨rfl, hb⟩ | exact ⟨by rw [Int.zero_add]; rfl, hb⟩ | exact ⟨by rw [Int.zero_add]; rfl, Below.refl _ _⟩

end Go.Proofs.YtpejebohekcfoaaGreatDoor.V32
/- NumtextReads: both Reads, both Literals, the walk. -/
namespace Go.Proofs.YtpejebohekcfoaaGreatDoor.V32
open Go.RowKit
set_option linter.unusedVariables false

theorem uns_form (u : List UInt8) (hl : u.length ≤ 5000) : Uns (bs u) 0 ((unsI u : Nat) : Int) ∧ Uns (bs u) 9223372036854775808 (negI ((unsI u : Nat) : Int)) := by
  have dc := fun w => decimal_any u w (by omega)
  rw [neg_uns]
  by_cases hi : u = infTxt
  · have e : unsI u = 9218868437227405312 := by unfold unsI; rw [if_pos hi]
    have h : (bs u).toList = [73, 110, 102, 105, 110, 105, 116, 121] := by rw [bs_toList, hi]; rfl
    rw [e, if_neg (by omega)]
    exact ⟨Or.inl ⟨h, by omega⟩, Or.inl ⟨h, by omega⟩⟩
  · have h : ((bs u).toList == [73, 110, 102, 105, 110, 105, 116, 121]) = false := by
      rw [bs_toList, beq_eq_false_iff_ne]
      exact hi
    by_cases ho : scanOk u = true
    · have e : unsI u = valD (sigD (sW u ++ sF u)) (sigP (sW u) (sW u ++ sF u) (scanX u)) := by unfold unsI; rw [if_neg hi, if_pos ho]
      have pc := fun w => parsed_any u w hl ho
      rw [← e] at pc
      have le : unsI u ≤ 9218868437227405312 := by rw [e]; exact valD_le _ _
      rw [ho] at dc
      have dc2 : ∀ w : World, Calls Tryz.prog 41 #[.string (bs u)] w fun e w' => ∃ (a b : Nat) (q : Bool), e = .returned (.tuple #[.int .i64 (a : Int), .int .i64 (b : Int), .bool q, .bool true]) ∧ w' = w := by
        intro w
        refine (dc w).mono ?_
        rintro e w' ⟨a, b, q, h1, _, h3⟩
        exact ⟨a, b, q, h1, h3⟩
      rw [if_neg (by omega)]
      exact ⟨Or.inr (Or.inr ⟨_, h, dc2, pc, by omega, by omega, by omega⟩), Or.inr (Or.inr ⟨_, h, dc2, pc, by omega, by omega, by omega⟩)⟩
    · have ho' : scanOk u = false := by simpa using ho
      have e : unsI u = 9221120237041090560 := by unfold unsI; rw [if_neg hi, if_neg ho]
      rw [ho'] at dc
      have dc2 : ∀ w : World, Calls Tryz.prog 41 #[.string (bs u)] w fun e w' => ∃ (a b : Nat) (q : Bool), e = .returned (.tuple #[.int .i64 (a : Int), .int .i64 (b : Int), .bool q, .bool false]) ∧ w' = w := by
        intro w
        refine (dc w).mono ?_
        rintro e w' ⟨a, b, q, h1, _, h3⟩
        exact ⟨a, b, q, h1, h3⟩
      rw [e, if_pos rfl]
      exact ⟨Or.inr (Or.inl ⟨h, dc2, rfl⟩), Or.inr (Or.inl ⟨h, dc2, rfl⟩)⟩

theorem cutX_x (r : List UInt8) : cutX (48 :: 120 :: r) = (r, true) := by
  unfold cutX
  rw [if_pos (by simp [Lib.hasPrefix])]
  unfold Lib.trimPrefix
  rw [if_pos (by simp [Lib.hasPrefix])]
  rfl

theorem cutX_X (r : List UInt8) : cutX (48 :: 88 :: r) = (r, true) := by
  unfold cutX
  rw [if_neg (by simp [Lib.hasPrefix])]
  unfold Lib.trimPrefix
  rw [if_pos (by simp [Lib.hasPrefix])]
  simp [Lib.hasPrefix]

theorem cutX_else (t : List UInt8) (h : ∀ r, t ≠ 48 :: 120 :: r) (g : ∀ r, t ≠ 48 :: 88 :: r) : (cutX t).2 = false := by
  unfold cutX
  have a : Lib.hasPrefix t [48, 120] = false := by
    cases hb : Lib.hasPrefix t [48, 120] with
    | false => rfl
    | true =>
      unfold Lib.hasPrefix at hb
      rw [List.isPrefixOf_iff_prefix] at hb
      obtain ⟨r, hr⟩ := hb
      exact absurd hr.symm (h r)
  have b : Lib.hasPrefix t [48, 88] = false := by
    cases hb : Lib.hasPrefix t [48, 88] with
    | false => rfl
    | true =>
      unfold Lib.hasPrefix at hb
      rw [List.isPrefixOf_iff_prefix] at hb
      obtain ⟨r, hr⟩ := hb
      exact absurd hr.symm (g r)
  rw [a, b]
  rfl

theorem ne_int (c n : UInt8) (h : c ≠ n) : ((c.toNat : Int) == (n.toNat : Int)) = false := by
  rw [beq_eq_false_iff_ne]
  intro k
  exact h (UInt8.toNat_inj.1 (by omega))

theorem not_hex (t : List UInt8) (h : ∀ r, t ≠ 48 :: 120 :: r) (g : ∀ r, t ≠ 48 :: 88 :: r) : NotHex (bs t) := by
  unfold NotHex
  cases t with
  | nil => left; decide
  | cons a t =>
    cases t with
    | nil => left; show 1 < 2; omega
    | cons b t =>
      right
      have k : 2 ≤ (bs (a :: b :: t)).size := by rw [bs_size]; simp
      by_cases ha : a = 48
      · right
        subst ha
        refine ⟨k, rfl, ?_, ?_⟩
        · exact ne_int b 120 (fun e => h t (by rw [e]))
        · exact ne_int b 88 (fun e => g t (by rw [e]))
      · left
        exact ⟨k, ne_int a 48 ha⟩

theorem core_any (t : List UInt8) (hl : t.length ≤ 5000) : Core (bs t) (coreI t) := by
  by_cases h0 : t = []
  · subst h0
    exact Or.inl ⟨bs_toList [], rfl⟩
  · have ne : (bs t).toList.isEmpty = false := by rw [bs_toList]; exact empty_of _ h0
    have p : 0 < (bs t).size := by rw [bs_size]; exact List.length_pos_iff.2 h0
    by_cases hx : (∃ r, t = 48 :: 120 :: r) ∨ (∃ r, t = 48 :: 88 :: r)
    · obtain ⟨c, r, ht, hc⟩ : ∃ c r, t = 48 :: c :: r ∧ (c = 120 ∨ c = 88) := by
        rcases hx with ⟨r, h⟩ | ⟨r, h⟩
        · exact ⟨120, r, h, Or.inl rfl⟩
        · exact ⟨88, r, h, Or.inr rfl⟩
      have ce : cutX t = (r, true) := by
        rcases hc with rfl | rfl
        · rw [ht]; exact cutX_x r
        · rw [ht]; exact cutX_X r
      have k : 2 ≤ (bs t).size := by rw [ht, bs_size]; simp
      have ev : coreI t = if (hexI r).2 = true then (hexI r).1 else 9221120237041090560 := by
        unfold coreI
        rw [if_neg h0, if_pos (by rw [ce]), ce]
      subst ht
      refine Or.inr (Or.inl ⟨bs r, (hexI r).1, (hexI r).2, k, ne, rfl, ?_, ?_, (fun w => hexad_any r w (by simp at hl; omega)), ?_⟩)
      · rcases hc with rfl | rfl
        · left; rfl
        · right; exact ⟨rfl, rfl⟩
      · rw [bs_from]; rfl
      · rw [ev]
        cases hb : (hexI r).2 with
        | true => left; exact ⟨rfl, by rw [if_pos rfl]⟩
        | false => right; exact ⟨rfl, by rw [if_neg (by decide)]⟩
    · have n1 : ∀ r, t ≠ 48 :: 120 :: r := fun r h => hx (Or.inl ⟨r, h⟩)
      have n2 : ∀ r, t ≠ 48 :: 88 :: r := fun r h => hx (Or.inr ⟨r, h⟩)
      have nh := not_hex t n1 n2
      have cx := cutX_else t n1 n2
      have a := at_head t 43 p
      have b := at_head t 45 p
      have tl : t.tail.length ≤ 5000 := by rw [List.length_tail]; omega
      by_cases s1 : t.head? = some 43
      · have ev : coreI t = ((unsI t.tail : Nat) : Int) := by unfold coreI; rw [if_neg h0, if_neg (by rw [cx]; decide), if_pos s1]
        rw [decide_eq_true s1] at a
        rw [decide_eq_false (by rw [s1]; decide)] at b
        rw [ev]
        exact Or.inr (Or.inr (Or.inl ⟨bs t.tail, p, ne, nh, a, b, bs_tail t, (uns_form t.tail tl).1⟩))
      · rw [decide_eq_false s1] at a
        by_cases s2 : t.head? = some 45
        · have ev : coreI t = negI ((unsI t.tail : Nat) : Int) := by unfold coreI; rw [if_neg h0, if_neg (by rw [cx]; decide), if_neg s1, if_pos s2]
          rw [decide_eq_true s2] at b
          rw [ev]
          exact Or.inr (Or.inr (Or.inr (Or.inl ⟨bs t.tail, p, ne, nh, a, b, bs_tail t, (uns_form t.tail tl).2⟩)))
        · have ev : coreI t = ((unsI t : Nat) : Int) := by unfold coreI; rw [if_neg h0, if_neg (by rw [cx]; decide), if_neg s1, if_neg s2]
          rw [decide_eq_false s2] at b
          rw [ev]
          exact Or.inr (Or.inr (Or.inr (Or.inr ⟨p, ne, nh, a, b, (uns_form t hl).1⟩)))

/-- READ OF EVERY TEXT -/
theorem refread_any (l : List UInt8) (w : World) (hl : l.length ≤ 5000) :
    Calls Tryz.prog 15 #[.string (bs l)] w fun e w' => e = .returned (.int .u64 (readI l)) ∧ Below w.heap.size w w' :=
  read_walk l (readI l) w hl (core_any _ (by have := trimS_len l blankS; omega))

end Go.Proofs.YtpejebohekcfoaaGreatDoor.V32
namespace Go.Proofs.YtpejebohekcfoaaGreatDoor.numtextReads
open Go.ChangeShapes Go.WideShapes Go.ChangeAt Go.RowKit
open Go.ChangeMaps (open_string shut_string)
set_option linter.unusedVariables false

theorem own : ownKnob Tryz.prog.godebug = none := by kernel_rfl
theorem laidOut : laidOutB Tryz.prog = true := by kernel_rfl

theorem reads_big (s : ByteArray) (w : World) (h : 4096 < s.size) (hs : s.size ≤ maxLen)
    (al : ∀ w : World, Calls Tryz.prog 9 #[] w fun e w' => e = .returned (.bool true) ∧ Below w.heap.size w w') :
    Calls Tryz.prog 4 #[.string s] w fun e w' => e = .returned (.bool true) ∧ Below w.heap.size w w' := by
  unfold maxLen at hs
  go_enter Tryz.func4, Tryz.ntmps4
  go_wp2_with fail
  refine (al _).mono ?_
  rintro e w1 ⟨rfl, hb1⟩
  go_wp2
  go_ret
  exact ⟨rfl, hb1⟩

theorem reads_small (s : ByteArray) (L R : Int) (ok : Bool) (w : World) (h : s.size ≤ 4096)
    (al : ∀ w : World, Calls Tryz.prog 9 #[] w fun e w' => e = .returned (.bool true) ∧ Below w.heap.size w w')
    (c1 : ∀ w : World, Calls Tryz.prog 12 #[.string s] w fun e w' => e = .returned (.tuple #[.int .u64 L, .bool ok]) ∧ Below w.heap.size w w')
    (c2 : ∀ w : World, Calls Tryz.prog 13 #[.string s] w fun e w' => e = .returned (.tuple #[.int .u64 L, .bool ok]) ∧ Below w.heap.size w w')
    (c3 : ∀ w : World, Calls Tryz.prog 14 #[.string s] w fun e w' => e = .returned (.int .u64 R) ∧ Below w.heap.size w w')
    (c4 : ∀ w : World, Calls Tryz.prog 15 #[.string s] w fun e w' => e = .returned (.int .u64 R) ∧ Below w.heap.size w w') :
    Calls Tryz.prog 4 #[.string s] w fun e w' => e = .returned (.bool true) ∧ Below w.heap.size w w' := by
  go_enter Tryz.func4, Tryz.ntmps4
  go_wp2_with (first | (go_at_call 12; refine (c1 _).mono ?_; rintro e w1 ⟨rfl, hb1⟩) | (go_at_call 13; refine (c2 _).mono ?_; rintro e w2 ⟨rfl, hb2⟩) | (go_at_call 9; refine (al _).mono ?_; rintro e w3 ⟨rfl, hb3⟩) | (go_at_call 14; refine (c3 _).mono ?_; rintro e w4 ⟨rfl, hb4⟩) | (go_at_call 15; refine (c4 _).mono ?_; rintro e w5 ⟨rfl, hb5⟩))
  go_ret
  have a2 := hb1.trans (hb2.mono hb1.size)
  have a3 := a2.trans (hb3.mono a2.size)
  have a4 := a3.trans (hb4.mono a3.size)
  exact ⟨rfl, a4.trans (hb5.mono a4.size)⟩

theorem walk (a0 : ByteArray) (w : World) (w0 : a0.size ≤ maxLen) :
    Calls Tryz.prog 4 #[.string a0] w fun e w' => e = .returned (.bool true) ∧ Below w.heap.size w w' := by
  by_cases c : 4096 < a0.size
  · exact reads_big a0 w c w0 alive_any
  · obtain ⟨l, rfl⟩ : ∃ l, a0 = bs l := ⟨_, bs_of a0⟩
    have hl : l.length ≤ 4096 := by rw [bs_size] at c; omega
    exact reads_small (bs l) _ _ _ w (by omega) alive_any (fun w => literal_read l w (by omega)) (fun w => V32.reflit_any l w (by omega)) (fun w => read_any l w (by omega)) (fun w => V32.refread_any l w (by omega))

set_option maxRecDepth 100000 in
theorem lifted (os : Os) (started : os.Started) (H : Type) (enc : TypeId × Value → H) :
    ReturnsInHanded {} Tryz.checked os 4 .any (fun w args => (Rows.numtextReadsSpec.pre enc Tryz.prog Tryz.f4 Rows.numtextReadsRow.domain false w args ∧ laidMetH Tryz.prog Rows.numtextReadsRow.laid w) ∧ sizedMet enc Tryz.prog Tryz.f4 (OpenSpec.ofChange Rows.numtextReadsSpec) false w args)
      (Rows.numtextReadsSpec.post enc Tryz.prog Tryz.f4 false true false false) := by
  refine returnsInHanded_of_change_and (C := Tryz.checked) (X := fun w _ => laidMetH Tryz.prog Rows.numtextReadsRow.laid w) (fun _ _ _ hh h => h.of_heap hh) own started (by kernel_rfl) Tryz.func4
    (ChangeSpec.witness_shaped (enc := enc) (C := Tryz.checked) (os := os) (X := fun w _ => laidMetH Tryz.prog Rows.numtextReadsRow.laid w) false (World.laidAll Tryz.prog os Rows.numtextReadsRow.laid) #[.string ByteArray.empty] 8 (World.laidAll_os _ _ _)
      (World.shaped_of_ZipB (by kernel_rfl) (by kernel_rfl)) (by kernel_rfl) (by kernel_rfl) (by kernel_rfl)
      (by rw [MakeChecks.laidMetH_plain _ _ _ (by kernel_rfl)]; exact laidMet_laidAll _ (by kernel_rfl) (by kernel_rfl))) ?_
  intro W base args ds gs before hval0 hW hc _ hL _
  have hval : ∀ (j : Nat) t v, Tryz.f4.params[j]? = some t → args[j]? = some v → Value.okWide Tryz.prog W .any base t v := hval0
  have hW' := hW
  obtain ⟨p, q, hA0, hV, rfl, hfz, hnd⟩ := hW
  have hA : DataW.TrodAll enc Tryz.prog W 0 (fun _ => true) true Tryz.f4.params.toList args.toList ds p := hA0
  rw [Tryz.params4] at hA hval
  obtain ⟨v0, vs0, d0, ds0, p0, q0, hargs, rfl, rfl, h0, r0⟩ := trodAll_cons hA
  obtain ⟨rfl, rfl, rfl⟩ := trodAll_nil r0
  obtain rfl : args = #[v0] := by cases args; simp_all
  obtain ⟨rfl, rfl⟩ := trodVars_none hV
  obtain ⟨a0, rfl, rfl, rfl, w0⟩ := open_string Tryz.underlying9 (hval 0 9 v0 rfl rfl) h0
  clear hA0 hval0
  refine (walk a0 W w0).mono fun e W' ⟨he, bel⟩ => ?_
  subst he
  exact ⟨_, rfl, _, _, _, [], _, [], hW', trodAll_mk1 (shut_bool Tryz.underlying4 _), (trodAll_cons_mk (shut_string Tryz.underlying9 w0) trodAll_mk0), rfl, bel.frame _, fun h => by cases h⟩

theorem holds : Rows.NumtextReadsSaid :=
  OpenClaim.holds_of_wide 4 Tryz.f4 rfl rfl rfl rfl rfl rfl rfl ⟨rfl, rfl, rfl, rfl, rfl⟩ rfl rfl rfl rfl rfl (by kernel_rfl) Tryz.func4 (by kernel_rfl)
    (of_decide_eq_true (by kernel_rfl)) (by unfold Func.isWrapper; first | (rw [if_pos (by decide +kernel)]; kernel_rfl) | (rw [if_neg (by decide +kernel)]; exact ⟨rfl, rfl⟩))
    (fun os started H enc _ => lifted os started H enc)

end Go.Proofs.YtpejebohekcfoaaGreatDoor.numtextReads
namespace Go.Proofs.YtpejebohekcfoaaGreatDoor
set_option linter.unusedVariables false

/-- THE TIED CARD: what every text of at most 4,096 bytes is as a number, and whether it may stand in a program as one. -/
theorem numtextReads_holds : Rows.NumtextReadsCardSaid :=
  Claim7.holds_tied_plain_at .later [] [.data, .data, .data, .data, .pinned] true (true, "e4cf7513d61566c0801be9b83f472623bea16ca537fac71333b6bf3760e030dd") true numtextReads.holds (fun _ h => by cases h) (by kernel_rfl) (fun _ h => by cases h) numtextReads_row_tie rfl ⟨rfl, rfl⟩ (by kernel_rfl) rfl
    (fun f fn hf hfn => by
      obtain rfl : f = 4 := Option.some.inj ((show Tryz.prog.funcNamed "brazier/brazierlaw02.NumtextReads" = some 4 by kernel_rfl).symm.trans hf) |>.symm
      obtain rfl : fn = Tryz.f4 := (Option.some.inj (Tryz.func4.symm.trans hfn)).symm
      exact ⟨by kernel_rfl, fun j t ht => by
        rw [Tryz.params4] at ht
        have hm : t ∈ [9] := by simpa using Array.mem_of_getElem? ht
        have hall : ([9].all fun u => !Tryz.prog.wantsStandIn u) = true := by kernel_rfl
        exact (show Tryz.prog.wantsStandIn t = false by simpa using List.all_eq_true.1 hall t hm)⟩)
    (by kernel_rfl)
#print axioms numtextReads_holds
end Go.Proofs.YtpejebohekcfoaaGreatDoor
