/- The walks: split, either, IsNaN, IsInf, rank, Less, Equal, Neg. -/
import Derived.Test.YtaikkmehmiiffaaGreatDoorProg
import Derived.Test.YtaikkmehmiiffaaGreatDoorMN
import Derived.WalkKit
import Derived.WalkSpells
import Derived.WalkLawsBesides
import Derived.BigQuiet
namespace Go.Proofs.YtaikkmehmiiffaaGreatDoor
open Go.RowKit
set_option linter.unusedVariables false

/- the program's masks -/
theorem mask_sgn (a : Int) (h0 : 0 ≤ a) (h1 : a < 18446744073709551616) : bits .and .u64 a 9223372036854775808 = sgnI a := by
  rw [u64_and a _ h0 h1 (by omega) (by omega)]
  unfold sgnI sgnN
  have e := nat_bit 63 a.toNat
  simp only [show (2 : Nat) ^ 63 = 9223372036854775808 from rfl] at e
  have e2 : (9223372036854775808 : Int).toNat = 9223372036854775808 := rfl
  rw [e2, e]
  omega

theorem mask_frc (a : Int) (h0 : 0 ≤ a) (h1 : a < 18446744073709551616) : bits .and .u64 a 4503599627370495 = ((frcN a.toNat : Nat) : Int) := by
  rw [u64_and a _ h0 h1 (by omega) (by omega)]
  unfold frcN
  have e := Nat.and_two_pow_sub_one_eq_mod a.toNat 52
  simp only [show (2 : Nat) ^ 52 = 4503599627370496 from rfl] at e
  have e2 : (4503599627370495 : Int).toNat = 4503599627370496 - 1 := rfl
  rw [e2, e]

theorem mask_fld (a : Int) (h0 : 0 ≤ a) (h1 : a < 18446744073709551616) : bits .and .u64 (a / 4503599627370496) 2047 = ((fldN a.toNat : Nat) : Int) := by
  rw [u64_and _ _ (by omega) (by omega) (by omega) (by omega)]
  unfold fldN
  have e := Nat.and_two_pow_sub_one_eq_mod (a / 4503599627370496).toNat 11
  simp only [show (2 : Nat) ^ 11 = 2048 from rfl] at e
  have e2 : (2047 : Int).toNat = 2048 - 1 := rfl
  rw [e2, e]
  omega

theorem or_hidden (M : Int) (h0 : 0 ≤ M) (h1 : M < 4503599627370496) : bits .or .u64 M 4503599627370496 = M + 4503599627370496 := by
  rw [u64_or _ _ (by omega) (by omega) (by omega) (by omega)]
  have e := nat_join 52 4503599627370496 M.toNat (by decide) (by show M.toNat < 4503599627370496; omega)
  rw [Nat.or_comm] at e
  have e2 : (4503599627370496 : Int).toNat = 4503599627370496 := rfl
  rw [e2, e]
  omega

theorem field_kind (k s m e : Int) (w : World) : (Instr.field 135 (.agg #[.int .i64 k, .int .u64 s, .int .u64 m, .int .i64 e]) 0).run Tryz.prog w = .ok (.int .i64 k) w := by kernel_rfl

theorem mask_size (a : Int) (h0 : 0 ≤ a) (h1 : a < 18446744073709551616) : bits .andNot .u64 a 9223372036854775808 = a % 9223372036854775808 := by
  rw [u64_andNot a _ h0 h1 (by omega) (by omega)]
  have e := Nat.and_two_pow_sub_one_eq_mod a.toNat 63
  simp only [show (2 : Nat) ^ 63 = 9223372036854775808 from rfl] at e
  have e2 : 18446744073709551615 - (9223372036854775808 : Int).toNat = 9223372036854775808 - 1 := rfl
  rw [e2, e]
  omega

theorem bt {w w1 w2 : World} (h1 : Below w.heap.size w w1) (h2 : Below w1.heap.size w1 w2) : Below w.heap.size w w2 := h1.trans (h2.mono h1.size)

def lessI (a b : Int) : Bool := !(kindI a == 3) && !(kindI b == 3) && decide (rankI a < rankI b)
def equalI (a b : Int) : Bool := !(kindI a == 3) && !(kindI b == 3) && (rankI a == rankI b)
def negI (a : Int) : Int := if kindI a = 3 then 9221120237041090560 else (a + 9223372036854775808) % 18446744073709551616

theorem nat_flip (n : Nat) (h : n < 18446744073709551616) : n ^^^ 9223372036854775808 = if n < 9223372036854775808 then n + 9223372036854775808 else n - 9223372036854775808 := by
  split
  · rename_i c
    have e := nat_join 63 9223372036854775808 n (by decide) c
    rw [Nat.add_comm, ← e]
    apply Nat.eq_of_testBit_eq
    intro i
    rw [Nat.testBit_xor, Nat.testBit_or]
    by_cases hi : i = 63
    · subst hi
      have : n.testBit 63 = false := Nat.testBit_lt_two_pow c
      rw [this]; decide
    · have : (9223372036854775808 : Nat).testBit i = false := by
        rw [show (9223372036854775808 : Nat) = 2 ^ 63 from rfl, Nat.testBit_two_pow]; simp; omega
      rw [this]; simp
  · rename_i c
    have hm : n - 9223372036854775808 < 2 ^ 63 := by show _ < 9223372036854775808; omega
    have e := nat_join 63 9223372036854775808 (n - 9223372036854775808) (by decide) hm
    have en : n = 9223372036854775808 ||| (n - 9223372036854775808) := by rw [e]; omega
    generalize n - 9223372036854775808 = m at *
    rw [en]
    apply Nat.eq_of_testBit_eq
    intro i
    rw [Nat.testBit_xor, Nat.testBit_or]
    by_cases hi : i = 63
    · subst hi
      have : m.testBit 63 = false := Nat.testBit_lt_two_pow hm
      rw [this]; decide
    · have : (9223372036854775808 : Nat).testBit i = false := by
        rw [show (9223372036854775808 : Nat) = 2 ^ 63 from rfl, Nat.testBit_two_pow]; simp; omega
      rw [this]; simp

theorem flip_sign (a : Int) (h0 : 0 ≤ a) (h1 : a < 18446744073709551616) : bits .xor .u64 a 9223372036854775808 = (a + 9223372036854775808) % 18446744073709551616 := by
  rw [u64_xor a _ h0 h1 (by omega) (by omega)]
  have e2 : (9223372036854775808 : Int).toNat = 9223372036854775808 := rfl
  rw [e2, nat_flip _ (by omega)]
  split <;> omega

theorem frombits_run (a : Int) (w : World) : (callFunc 104 #[.int .u64 a]).run Tryz.prog w = .ok (.value (.float .f64 a.toNat)) w := by
  rw [run_callFunc_extern (e := Extern.MathFloatBits.float64frombits) Tryz.func104 (by kernel_rfl) (by kernel_rfl) (by kernel_rfl) (by kernel_rfl)]
  rfl

theorem tobits_run (n : Nat) (w : World) : (callFunc 81 #[.float .f64 n]).run Tryz.prog w = .ok (.value (.int .u64 n)) w := by
  rw [run_callFunc_extern (e := Extern.MathFloatBits.float64bits) Tryz.func81 (by kernel_rfl) (by kernel_rfl) (by kernel_rfl) (by kernel_rfl)]
  rfl

set_option maxHeartbeats 400000 in
theorem of_num (n : Nat) (w : World) (hn : (FloatKind.f64.format.order n n != some Ordering.eq) = false) :
    Calls Tryz.prog 57 #[.float .f64 n] w fun e w' => e = .returned (.int .u64 n) ∧ w' = w := by
  have hx := tobits_run
  go_enter Tryz.func57, Tryz.ntmps57
  go_wp2
  go_ret
  exact ⟨rfl, rfl⟩

set_option maxHeartbeats 400000 in
theorem of_nan (n : Nat) (w : World) (hn : (FloatKind.f64.format.order n n != some Ordering.eq) = true) :
    Calls Tryz.prog 57 #[.float .f64 n] w fun e w' => e = .returned (.int .u64 9221120237041090560) ∧ w' = w := by
  go_enter Tryz.func57, Tryz.ntmps57
  go_wp2
  go_ret
  exact ⟨rfl, rfl⟩

set_option maxHeartbeats 400000 in
theorem abs_any (n : Nat) (w : World) (z : Int) (hz : bits .andNot .u64 (n : Int) 9223372036854775808 = z) :
    Calls Tryz.prog 118 #[.float .f64 n] w fun e w' => e = .returned (.float .f64 z.toNat) ∧ w' = w := by
  have hx := tobits_run
  have hy := frombits_run
  go_enter Tryz.func118, Tryz.ntmps118
  go_wp2
  go_ret
  exact ⟨rfl, rfl⟩

end Go.Proofs.YtaikkmehmiiffaaGreatDoor
