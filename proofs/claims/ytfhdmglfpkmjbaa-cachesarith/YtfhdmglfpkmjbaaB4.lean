/- math/bits.Div64 at a divisor whose highest bit is set. -/
import Derived.Test.YtfhdmglfpkmjbaaB2
import Derived.Test.YtfhdmglfpkmjbaaB3
import Derived.Test.YtfhdmglfpkmjbaaW8
namespace Go.Proofs.Ytfhdmglfpkmjbaa
open Go.RowKit

theorem start_rest (U y1 : Int) (u0 : 0 ≤ U) (u1 : U < 18446744073709551616) (hy : 0 < y1) : IntKind.u64.wrap (U - IntKind.u64.wrap (U / y1 * y1)) = U - U / y1 * y1 := by
  have hd := Int.mul_ediv_add_emod U y1
  have hm0 := Int.emod_nonneg U (show y1 ≠ 0 by omega)
  have hq0 : 0 ≤ U / y1 := Int.ediv_nonneg u0 (by omega)
  have hp : 0 ≤ U / y1 * y1 := Int.mul_nonneg hq0 (by omega)
  rw [Int.mul_comm] at hd
  rw [IntKind.wrap_u64, IntKind.wrap_u64]
  generalize U / y1 * y1 = x at *
  omega

theorem prod_digit (S y0 : Int) (s0 : 0 ≤ S) (h0 : 0 ≤ y0) (h1 : y0 < 4294967296) : ∃ P, IntKind.u64.wrap (S * y0) = P ∧ Hid (S < 4294967296 → P = S * y0) := by
  refine ⟨_, rfl, fun h => ?_⟩
  have p0 : 0 ≤ S * y0 := Int.mul_nonneg s0 h0
  have p1 : S * y0 ≤ 4294967296 * 4294967295 := Int.mul_le_mul (by omega) (by omega) h0 (by omega)
  rw [IntKind.wrap_u64]
  omega

theorem rest_digit (hi n y q : Int) (hq : q = (hi * 4294967296 + n) / y) (h0 : 0 ≤ hi) (h1 : hi < y) (_n0 : 0 ≤ n) (_n1 : n < 4294967296) (hy : y < 18446744073709551616) :
    ∃ U, IntKind.u64.wrap (IntKind.u64.wrap (IntKind.u64.wrap (hi * 4294967296) + n) - IntKind.u64.wrap (q * y)) = U ∧ 0 ≤ U ∧ U < y ∧ Hid (U = (hi * 4294967296 + n) % y) := by
  have hd := Int.mul_ediv_add_emod (hi * 4294967296 + n) y
  have hm0 := Int.emod_nonneg (hi * 4294967296 + n) (show y ≠ 0 by omega)
  have hm1 := Int.emod_lt_of_pos (hi * 4294967296 + n) (show 0 < y by omega)
  rw [← hq, Int.mul_comm] at hd
  refine ⟨(hi * 4294967296 + n) % y, ?_, hm0, hm1, rfl⟩
  rw [IntKind.wrap_u64, IntKind.wrap_u64, IntKind.wrap_u64, IntKind.wrap_u64]
  generalize (hi * 4294967296 + n) % y = r at *
  generalize q * y = x at *
  omega

theorem mask32 (a : Int) (h0 : 0 ≤ a) (h1 : a < 18446744073709551616) : bits .and .u64 a 4294967295 = a % 4294967296 := by
  rw [u64_and a _ h0 h1 (by omega) (by omega)]
  have e := Nat.and_two_pow_sub_one_eq_mod a.toNat 32
  simp only [show (2 : Nat) ^ 32 = 4294967296 from rfl] at e
  have e2 : (4294967295 : Int).toNat = 4294967296 - 1 := rfl
  rw [e2, e]
  omega

/-- quotient and rest of hi times 2^64 and lo by y -/
def quoI (hi lo y : Int) : Int := (hi * 18446744073709551616 + lo) / y
def remI (hi lo y : Int) : Int := (hi * 18446744073709551616 + lo) % y

end Go.Proofs.Ytfhdmglfpkmjbaa

/- The walk of Div at two finite ones. -/
namespace Go.Proofs.Ytfhdmglfpkmjbaa
open Go.RowKit

end Go.Proofs.Ytfhdmglfpkmjbaa
