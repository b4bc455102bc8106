/- The walks: split, either, IsNaN, IsInf, rank, Less, Equal, Neg. -/
import Derived.Test.YtfhdmglfpkmjbaaProg
import Derived.Test.YtfhdmglfpkmjbaaM7
import Derived.WalkKit
import Derived.WalkSpells
import Derived.WalkLawsBesides
import Derived.BigQuiet
namespace Go.Proofs.Ytfhdmglfpkmjbaa
open Go.RowKit

set_option maxHeartbeats 400000 in
theorem split_3 (a S M E : Int) (w : World) (hS : bits .and .u64 a 9223372036854775808 = S) (hM : bits .and .u64 a 4503599627370495 = M) (hE : bits .and .u64 (a / 4503599627370496) 2047 = E)
    (e0 : E = 2047) (m0 : (M != 0) = true) :
    Calls Try.prog 53 #[.int .u64 a] w fun e w' => e = .returned (.agg #[.int .i64 3, .int .u64 S, .int .u64 M, .int .i64 0]) ∧ Below w.heap.size w w' := by
  subst e0
  go_enter Try.func53, Try.ntmps53
  go_wp2
  exact bodyPost_ret (v := .agg #[.int .i64 3, .int .u64 S, .int .u64 M, .int .i64 0]) (by simp [results, Try.results53, go_sem]) rfl ⟨rfl, ((Below.refl _ _).alloc (Nat.le_refl _) _).alloc (by simp) _⟩

set_option maxHeartbeats 400000 in
theorem split_2 (a S : Int) (w : World) (hS : bits .and .u64 a 9223372036854775808 = S) (hM : bits .and .u64 a 4503599627370495 = 0) (hE : bits .and .u64 (a / 4503599627370496) 2047 = 2047) :
    Calls Try.prog 53 #[.int .u64 a] w fun e w' => e = .returned (.agg #[.int .i64 2, .int .u64 S, .int .u64 0, .int .i64 0]) ∧ Below w.heap.size w w' := by
  go_enter Try.func53, Try.ntmps53
  go_wp2
  exact bodyPost_ret (v := .agg #[.int .i64 2, .int .u64 S, .int .u64 0, .int .i64 0]) (by simp [results, Try.results53, go_sem]) rfl ⟨rfl, ((Below.refl _ _).alloc (Nat.le_refl _) _).alloc (by simp) _⟩

set_option maxHeartbeats 400000 in
theorem split_0 (a S : Int) (w : World) (hS : bits .and .u64 a 9223372036854775808 = S) (hM : bits .and .u64 a 4503599627370495 = 0) (hE : bits .and .u64 (a / 4503599627370496) 2047 = 0) :
    Calls Try.prog 53 #[.int .u64 a] w fun e w' => e = .returned (.agg #[.int .i64 0, .int .u64 S, .int .u64 0, .int .i64 0]) ∧ Below w.heap.size w w' := by
  go_enter Try.func53, Try.ntmps53
  go_wp2
  exact bodyPost_ret (v := .agg #[.int .i64 0, .int .u64 S, .int .u64 0, .int .i64 0]) (by simp [results, Try.results53, go_sem]) rfl ⟨rfl, ((Below.refl _ _).alloc (Nat.le_refl _) _).alloc (by simp) _⟩

set_option maxHeartbeats 400000 in
theorem split_sub (a S M : Int) (w : World) (hS : bits .and .u64 a 9223372036854775808 = S) (hM : bits .and .u64 a 4503599627370495 = M) (hE : bits .and .u64 (a / 4503599627370496) 2047 = 0) (m0 : (M == 0) = false) :
    Calls Try.prog 53 #[.int .u64 a] w fun e w' => e = .returned (.agg #[.int .i64 1, .int .u64 S, .int .u64 M, .int .i64 (-1074)]) ∧ Below w.heap.size w w' := by
  go_enter Try.func53, Try.ntmps53
  go_wp2
  exact bodyPost_ret (v := .agg #[.int .i64 1, .int .u64 S, .int .u64 M, .int .i64 (-1074)]) (by simp [results, Try.results53, go_sem]) rfl ⟨rfl, ((Below.refl _ _).alloc (Nat.le_refl _) _).alloc (by simp) _⟩

set_option maxHeartbeats 400000 in
theorem split_1 (a S M E : Int) (w : World) (hS : bits .and .u64 a 9223372036854775808 = S) (hM : bits .and .u64 a 4503599627370495 = M) (hE : bits .and .u64 (a / 4503599627370496) 2047 = E)
    (_e0 : 0 < E) (_e1 : E < 2047) (hO : bits .or .u64 M 4503599627370496 = M + 4503599627370496) :
    Calls Try.prog 53 #[.int .u64 a] w fun e w' => e = .returned (.agg #[.int .i64 1, .int .u64 S, .int .u64 (M + 4503599627370496), .int .i64 (-1074 + E - 1)]) ∧ Below w.heap.size w w' := by
  have b1 : (E == 2047) = false := by simp; omega
  have b2 : (E == 0) = false := by simp; omega
  go_enter Try.func53, Try.ntmps53
  go_wp2
  exact bodyPost_ret (v := .agg #[.int .i64 1, .int .u64 S, .int .u64 (M + 4503599627370496), .int .i64 (-1074 + E - 1)]) (by simp [results, Try.results53, go_sem]) rfl ⟨rfl, ((Below.refl _ _).alloc (Nat.le_refl _) _).alloc (by simp) _⟩

/- the program's masks -/
theorem mask_sgn (a : Int) (h0 : 0 ≤ a) (h1 : a < 18446744073709551616) : bits .and .u64 a 9223372036854775808 = sgnI a := by
  rw [u64_and a _ h0 h1 (by omega) (by omega)]
  unfold sgnI sgnN
  have e := nat_bit 63 a.toNat
  simp only [show (2 : Nat) ^ 63 = 9223372036854775808 from rfl] at e
  have e2 : (9223372036854775808 : Int).toNat = 9223372036854775808 := rfl
  rw [e2, e]
  omega

theorem mask_frc (a : Int) (h0 : 0 ≤ a) (h1 : a < 18446744073709551616) : bits .and .u64 a 4503599627370495 = ((frcN a.toNat : Nat) : Int) := by
  rw [u64_and a _ h0 h1 (by omega) (by omega)]
  unfold frcN
  have e := Nat.and_two_pow_sub_one_eq_mod a.toNat 52
  simp only [show (2 : Nat) ^ 52 = 4503599627370496 from rfl] at e
  have e2 : (4503599627370495 : Int).toNat = 4503599627370496 - 1 := rfl
  rw [e2, e]

theorem mask_fld (a : Int) (h0 : 0 ≤ a) (h1 : a < 18446744073709551616) : bits .and .u64 (a / 4503599627370496) 2047 = ((fldN a.toNat : Nat) : Int) := by
  rw [u64_and _ _ (by omega) (by omega) (by omega) (by omega)]
  unfold fldN
  have e := Nat.and_two_pow_sub_one_eq_mod (a / 4503599627370496).toNat 11
  simp only [show (2 : Nat) ^ 11 = 2048 from rfl] at e
  have e2 : (2047 : Int).toNat = 2048 - 1 := rfl
  rw [e2, e]
  omega

theorem or_hidden (M : Int) (h0 : 0 ≤ M) (h1 : M < 4503599627370496) : bits .or .u64 M 4503599627370496 = M + 4503599627370496 := by
  rw [u64_or _ _ (by omega) (by omega) (by omega) (by omega)]
  have e := nat_join 52 4503599627370496 M.toNat (by decide) (by show M.toNat < 4503599627370496; omega)
  rw [Nat.or_comm] at e
  have e2 : (4503599627370496 : Int).toNat = 4503599627370496 := rfl
  rw [e2, e]
  omega

theorem split_any (a : Int) (w : World) (h0 : 0 ≤ a) (h1 : a < 18446744073709551616) :
    Calls Try.prog 53 #[.int .u64 a] w fun e w' => e = .returned (.agg #[.int .i64 (kindI a), .int .u64 (sgnI a), .int .u64 (manI a), .int .i64 (expI a)]) ∧ Below w.heap.size w w' := by
  have hS := mask_sgn a h0 h1
  have hM := mask_frc a h0 h1
  have hE := mask_fld a h0 h1
  have f1 := fld_lt a.toNat
  have f2 := frc_lt a.toNat
  by_cases c1 : fldN a.toNat = 2047
  · by_cases c2 : frcN a.toNat = 0
    · have k : kindI a = 2 := by unfold kindI; rw [if_pos c1, if_pos c2]
      have m : manI a = 0 := by unfold manI; rw [k, if_neg (by decide), c2]; rfl
      have e : expI a = 0 := by unfold expI; rw [k, if_neg (by decide)]
      rw [k, m, e]
      rw [c2] at hM; rw [c1] at hE
      exact split_2 a _ w hS hM hE
    · have k : kindI a = 3 := by unfold kindI; rw [if_pos c1, if_neg c2]
      have m : manI a = ((frcN a.toNat : Nat) : Int) := by unfold manI; rw [k, if_neg (by decide)]
      have e : expI a = 0 := by unfold expI; rw [k, if_neg (by decide)]
      rw [k, m, e]
      exact split_3 a _ _ _ w hS hM hE (by rw [c1]; rfl) (by rw [bne_iff_ne]; omega)
  · by_cases c3 : fldN a.toNat = 0
    · by_cases c2 : frcN a.toNat = 0
      · have k : kindI a = 0 := by unfold kindI; rw [if_neg c1, if_pos ⟨c3, c2⟩]
        have m : manI a = 0 := by unfold manI; rw [k, if_neg (by decide), c2]; rfl
        have e : expI a = 0 := by unfold expI; rw [k, if_neg (by decide)]
        rw [k, m, e]
        rw [c2] at hM; rw [c3] at hE
        exact split_0 a _ w hS hM hE
      · have k : kindI a = 1 := by unfold kindI; rw [if_neg c1, if_neg (fun h => c2 h.2)]
        have m : manI a = ((frcN a.toNat : Nat) : Int) := by unfold manI manN; rw [k, if_pos rfl, if_pos c3]
        have e : expI a = -1074 := by unfold expI; rw [k, if_pos rfl, c3]; rfl
        rw [k, m, e]
        rw [c3] at hE
        exact split_sub a _ _ w hS hM hE (by rw [beq_eq_false_iff_ne]; omega)
    · have k : kindI a = 1 := by unfold kindI; rw [if_neg c1, if_neg (fun h => c3 h.1)]
      have m : manI a = ((frcN a.toNat : Nat) : Int) + 4503599627370496 := by unfold manI manN; rw [k, if_pos rfl, if_neg c3]; omega
      have e : expI a = -1074 + ((fldN a.toNat : Nat) : Int) - 1 := by unfold expI; rw [k, if_pos rfl]; omega
      rw [k, m, e]
      exact split_1 a _ _ _ w hS hM hE (by omega) (by omega) (or_hidden _ (by omega) (by omega))

theorem field_kind (k s m e : Int) (w : World) : (Instr.field 77 (.agg #[.int .i64 k, .int .u64 s, .int .u64 m, .int .i64 e]) 0).run Try.prog w = .ok (.int .i64 k) w := by kernel_rfl

set_option maxHeartbeats 400000 in
theorem isNaN_any (a : Int) (w : World) (h0 : 0 ≤ a) (h1 : a < 18446744073709551616) :
    Calls Try.prog 48 #[.int .u64 a] w fun e w' => e = .returned (.bool (kindI a == 3)) ∧ Below w.heap.size w w' := by
  have hf := field_kind
  go_enter Try.func48, Try.ntmps48
  go_wp2_with (go_at_call 53; refine (split_any a _ h0 h1).mono ?_; rintro e w1 ⟨rfl, hb⟩)
  go_ret
  exact ⟨rfl, hb⟩

theorem mask_size (a : Int) (h0 : 0 ≤ a) (h1 : a < 18446744073709551616) : bits .andNot .u64 a 9223372036854775808 = a % 9223372036854775808 := by
  rw [u64_andNot a _ h0 h1 (by omega) (by omega)]
  have e := Nat.and_two_pow_sub_one_eq_mod a.toNat 63
  simp only [show (2 : Nat) ^ 63 = 9223372036854775808 from rfl] at e
  have e2 : 18446744073709551615 - (9223372036854775808 : Int).toNat = 9223372036854775808 - 1 := rfl
  rw [e2, e]
  omega

theorem bt {w w1 w2 : World} (h1 : Below w.heap.size w w1) (h2 : Below w1.heap.size w1 w2) : Below w.heap.size w w2 := h1.trans (h2.mono h1.size)

def lessI (a b : Int) : Bool := !(kindI a == 3) && !(kindI b == 3) && decide (rankI a < rankI b)
def equalI (a b : Int) : Bool := !(kindI a == 3) && !(kindI b == 3) && (rankI a == rankI b)
def negI (a : Int) : Int := if kindI a = 3 then 9221120237041090560 else (a + 9223372036854775808) % 18446744073709551616

theorem nat_flip (n : Nat) (h : n < 18446744073709551616) : n ^^^ 9223372036854775808 = if n < 9223372036854775808 then n + 9223372036854775808 else n - 9223372036854775808 := by
  split
  · rename_i c
    have e := nat_join 63 9223372036854775808 n (by decide) c
    rw [Nat.add_comm, ← e]
    apply Nat.eq_of_testBit_eq
    intro i
    rw [Nat.testBit_xor, Nat.testBit_or]
    by_cases hi : i = 63
    · subst hi
      have : n.testBit 63 = false := Nat.testBit_lt_two_pow c
      rw [this]; decide
    · have : (9223372036854775808 : Nat).testBit i = false := by
        rw [show (9223372036854775808 : Nat) = 2 ^ 63 from rfl, Nat.testBit_two_pow]; simp; omega
      rw [this]; simp
  · rename_i c
    have hm : n - 9223372036854775808 < 2 ^ 63 := by show _ < 9223372036854775808; omega
    have e := nat_join 63 9223372036854775808 (n - 9223372036854775808) (by decide) hm
    have en : n = 9223372036854775808 ||| (n - 9223372036854775808) := by rw [e]; omega
    generalize n - 9223372036854775808 = m at *
    rw [en]
    apply Nat.eq_of_testBit_eq
    intro i
    rw [Nat.testBit_xor, Nat.testBit_or]
    by_cases hi : i = 63
    · subst hi
      have : m.testBit 63 = false := Nat.testBit_lt_two_pow hm
      rw [this]; decide
    · have : (9223372036854775808 : Nat).testBit i = false := by
        rw [show (9223372036854775808 : Nat) = 2 ^ 63 from rfl, Nat.testBit_two_pow]; simp; omega
      rw [this]; simp

theorem flip_sign (a : Int) (h0 : 0 ≤ a) (h1 : a < 18446744073709551616) : bits .xor .u64 a 9223372036854775808 = (a + 9223372036854775808) % 18446744073709551616 := by
  rw [u64_xor a _ h0 h1 (by omega) (by omega)]
  have e2 : (9223372036854775808 : Int).toNat = 9223372036854775808 := rfl
  rw [e2, nat_flip _ (by omega)]
  split <;> omega

theorem frombits_run (a : Int) (w : World) : (callFunc 43 #[.int .u64 a]).run Try.prog w = .ok (.value (.float .f64 a.toNat)) w := by
  rw [run_callFunc_extern (e := Extern.MathFloatBits.float64frombits) Try.func43 (by kernel_rfl) (by kernel_rfl) (by kernel_rfl) (by kernel_rfl)]
  rfl
theorem tobits_run (n : Nat) (w : World) : (callFunc 60 #[.float .f64 n]).run Try.prog w = .ok (.value (.int .u64 n)) w := by
  rw [run_callFunc_extern (e := Extern.MathFloatBits.float64bits) Try.func60 (by kernel_rfl) (by kernel_rfl) (by kernel_rfl) (by kernel_rfl)]
  rfl

set_option maxHeartbeats 400000 in
theorem abs_any (n : Nat) (w : World) (z : Int) (hz : bits .andNot .u64 (n : Int) 9223372036854775808 = z) :
    Calls Try.prog 67 #[.float .f64 n] w fun e w' => e = .returned (.float .f64 z.toNat) ∧ w' = w := by
  have hx := tobits_run
  have hy := frombits_run
  go_enter Try.func67, Try.ntmps67
  go_wp2
  go_ret
  exact ⟨rfl, rfl⟩

end Go.Proofs.Ytfhdmglfpkmjbaa
