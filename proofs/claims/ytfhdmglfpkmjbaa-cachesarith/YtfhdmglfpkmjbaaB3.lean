/- The walk of Mul at two finite ones. -/
import Derived.Test.YtfhdmglfpkmjbaaW8
import Derived.Test.YtfhdmglfpkmjbaaM8
namespace Go.Proofs.Ytfhdmglfpkmjbaa
open Go.RowKit

end Go.Proofs.Ytfhdmglfpkmjbaa

/- Plain: the school method of division by words of 32 bits (math/bits.Div64). -/
namespace Go.Proofs.Ytfhdmglfpkmjbaa

/-- the guess of a digit is not below it; what is left of the upper part -/
structure Guess (U N y y1 y0 Q R : Int) : Prop where
  nonneg : 0 ≤ Q
  top : Q ≤ 4294967297
  above : U * 4294967296 + N < (Q + 1) * y
  rest : R = U - Q * y1
  r0 : 0 ≤ R
  r1 : R < 4294967296

structure Divisor (U N y y1 y0 : Int) : Prop where
  u0 : 0 ≤ U
  u1 : U < y
  n0 : 0 ≤ N
  n1 : N < 4294967296
  hy : y = y1 * 4294967296 + y0
  hi : 2147483648 ≤ y1
  hi2 : y1 < 4294967296
  lo : 0 ≤ y0
  lo2 : y0 < 4294967296

theorem guess_start {U N y y1 y0 : Int} (h : Divisor U N y y1 y0) : Guess U N y y1 y0 (U / y1) (U - U / y1 * y1) := by
  obtain ⟨u0, u1, n0, n1, hy, hi, hi2, lo, lo2⟩ := h
  have hd := Int.mul_ediv_add_emod U y1
  have hm0 := Int.emod_nonneg U (show y1 ≠ 0 by omega)
  have hm1 := Int.emod_lt_of_pos U (show 0 < y1 by omega)
  have hq0 : 0 ≤ U / y1 := Int.ediv_nonneg u0 (by omega)
  rw [Int.mul_comm] at hd
  generalize U / y1 = Q at *
  generalize U % y1 = m at *
  have e1 : (Q + 1) * y = (Q * y1 + y1) * 4294967296 + (Q + 1) * y0 := by rw [hy]; grind
  have p0 : 0 ≤ (Q + 1) * y0 := Int.mul_nonneg (by omega) lo
  refine ⟨hq0, ?_, ?_, rfl, by omega, by omega⟩
  · by_cases c : Q ≤ 4294967297
    · exact c
    · exfalso
      have h2 : 4294967298 * y1 ≤ Q * y1 := Int.mul_le_mul_of_nonneg_right (by omega) (by omega)
      omega
  · rw [e1]
    generalize (Q + 1) * y0 = z at *
    generalize Q * y1 = x at *
    omega

theorem guess_done {U N y y1 y0 Q R : Int} (h : Divisor U N y y1 y0) (g : Guess U N y y1 y0 Q R) (c : Q * y0 ≤ 4294967296 * R + N) : Q = (U * 4294967296 + N) / y := by
  obtain ⟨u0, u1, n0, n1, hy, hi, hi2, lo, lo2⟩ := h
  obtain ⟨q0, q1, ha, hr, r0, r1⟩ := g
  have e : Q * y = Q * y1 * 4294967296 + Q * y0 := by rw [hy]; grind
  have le : Q * y ≤ U * 4294967296 + N := by rw [e]; omega
  have hy0 : 0 < y := by omega
  have h1 := (Int.le_ediv_iff_mul_le hy0).2 le
  have h2 := (Int.ediv_lt_iff_lt_mul hy0).2 ha
  omega

theorem guess_more {U N y y1 y0 Q R : Int} (h : Divisor U N y y1 y0) (g : Guess U N y y1 y0 Q R) (c : 4294967296 ≤ Q ∨ 4294967296 * R + N < Q * y0) :
    1 ≤ Q ∧ U * 4294967296 + N < (Q - 1 + 1) * y := by
  obtain ⟨u0, u1, n0, n1, hy, hi, hi2, lo, lo2⟩ := h
  obtain ⟨q0, q1, ha, hr, r0, r1⟩ := g
  have e : Q * y = Q * y1 * 4294967296 + Q * y0 := by rw [hy]; grind
  have lt : U * 4294967296 + N < Q * y := by
    rcases c with c | c
    · have : 4294967296 * y ≤ Q * y := Int.mul_le_mul_of_nonneg_right c (by omega)
      omega
    · rw [e]; omega
  refine ⟨?_, by rw [show Q - 1 + 1 = Q from by omega]; exact lt⟩
  by_cases c0 : 1 ≤ Q
  · exact c0
  · exfalso
    have : Q = 0 := by omega
    rw [this, Int.zero_mul] at lt
    omega

theorem guess_break {U N y y1 y0 Q R : Int} (h : Divisor U N y y1 y0) (g : Guess U N y y1 y0 Q R) (c : 4294967296 ≤ Q ∨ 4294967296 * R + N < Q * y0) (b : 4294967296 ≤ R + y1) :
    Q - 1 = (U * 4294967296 + N) / y := by
  obtain ⟨g1, g2⟩ := guess_more h g c
  obtain ⟨u0, u1, n0, n1, hy, hi, hi2, lo, lo2⟩ := h
  obtain ⟨q0, q1, ha, hr, r0, r1⟩ := g
  have e : (Q - 1) * y = (Q * y1 - y1) * 4294967296 + (Q - 1) * y0 := by rw [hy]; grind
  have p : (Q - 1) * y0 ≤ 4294967296 * 4294967295 := Int.mul_le_mul (by omega) (by omega) lo (by omega)
  have le : (Q - 1) * y ≤ U * 4294967296 + N := by
    rw [e]
    generalize (Q - 1) * y0 = z at *
    generalize Q * y1 = x at *
    omega
  have hy0 : 0 < y := by omega
  have h1 := (Int.le_ediv_iff_mul_le hy0).2 le
  have h2 := (Int.ediv_lt_iff_lt_mul hy0).2 g2
  omega

theorem guess_next {U N y y1 y0 Q R : Int} (h : Divisor U N y y1 y0) (g : Guess U N y y1 y0 Q R) (c : 4294967296 ≤ Q ∨ 4294967296 * R + N < Q * y0) (b : R + y1 < 4294967296) :
    Guess U N y y1 y0 (Q - 1) (R + y1) := by
  obtain ⟨g1, g2⟩ := guess_more h g c
  obtain ⟨u0, u1, n0, n1, hy, hi, hi2, lo, lo2⟩ := h
  obtain ⟨q0, q1, ha, hr, r0, r1⟩ := g
  exact ⟨by omega, by omega, g2, by rw [hr]; grind, by omega, b⟩

/-- both digits make the quotient -/
theorem two_digits (hi lo y : Int) (h0 : 0 ≤ hi) (h1 : hi < y) (_l0 : 0 ≤ lo) :
    let q1 := (hi * 4294967296 + lo / 4294967296) / y
    let u := (hi * 4294967296 + lo / 4294967296) % y
    let q0 := (u * 4294967296 + lo % 4294967296) / y
    q1 * 4294967296 + q0 = (hi * 18446744073709551616 + lo) / y ∧ (u * 4294967296 + lo % 4294967296) % y = (hi * 18446744073709551616 + lo) % y := by
  intro q1 u q0
  have hy : 0 < y := by omega
  have a1 := Int.mul_ediv_add_emod (hi * 4294967296 + lo / 4294967296) y
  have a2 := Int.mul_ediv_add_emod (u * 4294967296 + lo % 4294967296) y
  have b1 := Int.emod_nonneg (u * 4294967296 + lo % 4294967296) (show y ≠ 0 by omega)
  have b2 := Int.emod_lt_of_pos (u * 4294967296 + lo % 4294967296) hy
  change y * q1 + u = _ at a1
  change y * q0 + _ = _ at a2
  generalize (u * 4294967296 + lo % 4294967296) % y = r at *
  have key : hi * 18446744073709551616 + lo = r + (q1 * 4294967296 + q0) * y := by
    have e : (q1 * 4294967296 + q0) * y = y * q1 * 4294967296 + y * q0 := by grind
    rw [e]
    generalize y * q1 = A at *
    generalize y * q0 = B at *
    omega
  rw [key, Int.add_mul_ediv_right _ _ (by omega), Int.add_mul_emod_self_right, Int.ediv_eq_zero_of_lt b1 b2, Int.emod_eq_of_lt b1 b2]
  exact ⟨by omega, rfl⟩

end Go.Proofs.Ytfhdmglfpkmjbaa
