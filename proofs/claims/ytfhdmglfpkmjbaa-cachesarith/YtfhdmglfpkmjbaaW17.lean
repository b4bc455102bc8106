/- math.Ldexp of a finite number above 0: the number times a power of two, rounded once. -/
import Derived.Test.YtfhdmglfpkmjbaaW13
namespace Go.Proofs.Ytfhdmglfpkmjbaa
open Go.RowKit

theorem rung_zero' (e : Int) : rung 0 e = 0 := by simp [rung]

set_option maxHeartbeats 400000 in
theorem mathNaN_any (a : Int) (w : World) (h0 : 0 ≤ a) (h1 : a < 18446744073709551616) :
    Calls Try.prog 64 #[.float .f64 a.toNat] w fun e w' => e = .returned (.bool (kindI a == 3)) ∧ w' = w := by
  have hn := nan_order a h0 h1
  generalize (kindI a == 3) = K at *
  generalize a.toNat = x at *
  go_enter Try.func64, Try.ntmps64
  go_wp2
  go_ret
  exact ⟨rfl, rfl⟩

set_option maxHeartbeats 400000 in
theorem copysign0 (x : Nat) (w : World) (hz : bits .and .u64 (x : Int) 9223372036854775808 = 0) (h0 : bits .andNot .u64 0 9223372036854775808 = 0) (h1 : bits .or .u64 0 0 = 0) :
    Calls Try.prog 69 #[.float .f64 0, .float .f64 x] w fun e w' => e = .returned (.float .f64 0) ∧ w' = w := by
  have hx := tobits_run
  have hy := frombits_run
  go_enter Try.func69, Try.ntmps69
  go_wp2
  go_ret
  exact ⟨rfl, rfl⟩

/-- a product of two finite ones, by the language -/
theorem mul_run (a b : Int) (h0 : 0 ≤ a) (h1 : a < 18446744073709551616) (h2 : 0 ≤ b) (h3 : b < 18446744073709551616) (ka : kindI a < 2) (kb : kindI b < 2) (w : World) :
    (binOp .mul 63 (.float .f64 a.toNat) (.float .f64 b.toNat)).run Try.prog w = .ok (.float .f64 (mulI a b).toNat) w := by
  obtain ⟨m, i, ra⟩ := read_num a h0 h1 ka
  obtain ⟨n, j, rb⟩ := read_num b h2 h3 kb
  have h : Ieee.double.mul a.toNat b.toNat = some (mulI a b).toNat := by
    unfold mulI Ieee.Format.mul
    rw [ra, rb]
    simp only [Ieee.Datum.product]
    rw [Option.map_some, opI_some, Int.toNat_natCast]
  exact run_float_arith w .mul 23 .f64 _ _ _ h

/-- the product of two finite ones above 0 -/
theorem mulI_pos (a b : Int) (h0 : 0 ≤ a) (h1 : a < 9223372036854775808) (h2 : 0 ≤ b) (h3 : b < 9223372036854775808) (ka : kindI a = 1) (kb : kindI b = 1) :
    mulI a b = (rung ((manI a).toNat * (manI b).toNat) (expI a + expI b) : Nat) := by
  unfold mulI Ieee.Format.mul
  obtain ⟨ra, _, _⟩ := read_fin a h0 (by omega) ka
  obtain ⟨rb, _, _⟩ := read_fin b h2 (by omega) kb
  rw [ra, rb]
  simp only [Ieee.Datum.product]
  have na : negB a.toNat = false := decide_eq_false (by omega)
  have nb : negB b.toNat = false := decide_eq_false (by omega)
  rw [Option.map_some, write_num, opI_some, word_int, na, nb]
  simp [sb]

/-- the word of a field and a fraction -/
theorem parts_of (q f : Nat) (hq0 : 1 ≤ q) (hq : q ≤ 2046) (hf : f < 4503599627370496) (X : Int) (hX : X = ((q * 4503599627370496 + f : Nat) : Int)) :
    0 ≤ X ∧ X < 9218868437227405312 ∧ kindI X = 1 ∧ manI X = ((f + 4503599627370496 : Nat) : Int) ∧ expI X = (q : Int) - 1075 := by
  subst hX
  have e1 : fldN (((q * 4503599627370496 + f : Nat) : Int)).toNat = q := by unfold fldN; omega
  have e2 : frcN (((q * 4503599627370496 + f : Nat) : Int)).toNat = f := by unfold frcN; omega
  have k : kindI ((q * 4503599627370496 + f : Nat) : Int) = 1 := by unfold kindI; rw [e1, e2, if_neg (by omega), if_neg (by omega)]
  refine ⟨by omega, by omega, k, ?_, ?_⟩
  · unfold manI manN; rw [if_pos k, e1, e2, if_neg (by omega)]
  · unfold expI; rw [if_pos k, e1]; omega

/-- a positive word's own field and fraction -/
theorem own_parts (F : Int) (h0 : 0 < F) (h1 : F < 9218868437227405312) : F = ((fldN F.toNat * 4503599627370496 + frcN F.toNat : Nat) : Int) ∧ fldN F.toNat ≤ 2046 ∧ frcN F.toNat < 4503599627370496 ∧ kindI F = 1 := by
  have a1 : fldN F.toNat = F.toNat / 4503599627370496 := by unfold fldN; omega
  have a2 : frcN F.toNat = F.toNat % 4503599627370496 := rfl
  refine ⟨by rw [a1, a2]; omega, by rw [a1]; omega, by rw [a2]; omega, ?_⟩
  unfold kindI
  rw [if_neg (by rw [a1]; omega), if_neg (by rw [a1, a2]; omega)]

/-- what normalize makes of it: a number that has its highest bit, and by how many places it was moved -/
def normI (F : Int) : Int := if F < 4503599627370496 then mulI F 4841369599423283200 else F
def nexpI (F : Int) : Int := if F < 4503599627370496 then -52 else 0

theorem c52 : kindI 4841369599423283200 = 1 ∧ manI 4841369599423283200 = 4503599627370496 ∧ expI 4841369599423283200 = 0 := by decide +kernel

theorem norm_parts (F : Int) (h0 : 0 < F) (h1 : F < 9218868437227405312) :
    ∃ q f : Nat, 1 ≤ q ∧ q ≤ 2046 ∧ f < 4503599627370496 ∧ normI F = ((q * 4503599627370496 + f : Nat) : Int) ∧
      ∀ k : Int, rung (f + 4503599627370496) ((q : Int) - 1075 + nexpI F + k) = rung (manI F).toNat (expI F + k) := by
  obtain ⟨e, hq, hf, kF⟩ := own_parts F h0 h1
  unfold normI nexpI
  by_cases c : F < 4503599627370496
  · rw [if_pos c, if_pos c]
    obtain ⟨c1, c2, c3⟩ := c52
    have f0 : fldN F.toNat = 0 := by unfold fldN; omega
    have r0 : frcN F.toNat = F.toNat := by unfold frcN; omega
    have mF : manI F = F := by unfold manI manN; rw [if_pos kF, f0, if_pos rfl, r0]; omega
    have eF : expI F = -1074 := by unfold expI; rw [if_pos kF, f0]; rfl
    rw [mulI_pos F 4841369599423283200 (by omega) (by omega) (by omega) (by omega) kF c1, mF, eF, c2, c3]
    have hn : (4503599627370496 : Int).toNat = 2 ^ 52 := rfl
    rw [hn, rung_scale]
    obtain ⟨n, rfl⟩ := Int.eq_ofNat_of_zero_le (show 0 ≤ F by omega)
    rw [Int.toNat_natCast]
    -- n times 2^(52 - log2 n) has 53 bits
    have hz : n ≠ 0 := by omega
    have l1 := Nat.log2_self_le hz
    have l2 := lt_two_log2 n
    have l3 : n.log2 < 52 := (Nat.log2_lt hz).2 (show n < 2 ^ 52 by show n < 4503599627370496; omega)
    obtain ⟨d, hd⟩ : ∃ d, d = 52 - n.log2 := ⟨_, rfl⟩
    have p := Nat.two_pow_pos d
    have b1 : 4503599627370496 ≤ n * 2 ^ d := by
      have := Nat.mul_le_mul_right (2 ^ d) l1
      rw [← Nat.pow_add, show n.log2 + d = 52 from by omega] at this
      exact this
    have b2 : n * 2 ^ d < 9007199254740992 := by
      have := (Nat.mul_lt_mul_right p).2 l2
      rw [← Nat.pow_add, show n.log2 + 1 + d = 53 from by omega] at this
      exact this
    have sc : ∀ x : Int, rung n x = rung (n * 2 ^ d) (x - d) := fun x => by rw [rung_scale]; congr 1; omega
    have own := rung_own (n * 2 ^ d) (-1022 - d) ⟨by omega, by omega, by omega, by omega, fun _ => by omega⟩
    refine ⟨(-1022 - (d : Int) + 1074).toNat + 1, n * 2 ^ d - 4503599627370496, by omega, by omega, by omega, ?_, ?_⟩
    · rw [show (-1074 + 0 + ((52 : Nat) : Int)) = -1022 from rfl, sc, own]
      generalize n * 2 ^ d = z at *
      omega
    · intro k
      rw [sc, show n * 2 ^ d - 4503599627370496 + 4503599627370496 = n * 2 ^ d from by omega]
      congr 1
      omega
  · rw [if_neg c, if_neg c]
    have hq1 : 1 ≤ fldN F.toNat := by unfold fldN; omega
    obtain ⟨_, _, _, m1, e1⟩ := parts_of (fldN F.toNat) (frcN F.toNat) hq1 hq hf F e
    refine ⟨fldN F.toNat, frcN F.toNat, hq1, hq, hf, e, ?_⟩
    intro k
    rw [m1, e1, Int.toNat_natCast]
    congr 1
    omega

theorem lss_small (F : Int) (h0 : 0 < F) (h1 : F < 9218868437227405312) : (FloatKind.f64.format.order F.toNat 4503599627370496 == some Ordering.lt) = decide (F < 4503599627370496) := by
  have := less_order F 4503599627370496 (by omega) (by omega) (by omega) (by omega)
  have hn : (4503599627370496 : Int).toNat = 4503599627370496 := rfl
  rw [hn] at this
  rw [this]
  obtain ⟨_, _, _, k⟩ := own_parts F h0 h1
  unfold lessI
  have k2 : kindI 4503599627370496 = 1 := by decide +kernel
  have r1 : rankI F = F := by unfold rankI; rw [if_pos (by omega)]
  have r2 : rankI 4503599627370496 = 4503599627370496 := by decide +kernel
  rw [k, k2, r1, r2]
  simp

end Go.Proofs.Ytfhdmglfpkmjbaa
