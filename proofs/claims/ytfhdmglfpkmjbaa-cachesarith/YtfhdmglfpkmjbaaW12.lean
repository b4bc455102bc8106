/- Mul and Div are the exact ones, rounded once. -/
import Derived.Test.YtfhdmglfpkmjbaaB3
import Derived.Test.YtfhdmglfpkmjbaaB4
namespace Go.Proofs.Ytfhdmglfpkmjbaa
open Go.RowKit

def mulI (a b : Int) : Int := opI (Ieee.double.mul a.toNat b.toNat)
def divI (a b : Int) : Int := opI (Ieee.double.div a.toNat b.toNat)

theorem xor_sb (s t : Bool) : bits .xor .u64 (sb s) (sb t) = sb (s ^^ t) := by
  rw [u64_xor _ _ (by cases s <;> decide) (by cases s <;> decide) (by cases t <;> decide) (by cases t <;> decide)]
  cases s <;> cases t <;> decide

theorem sb_cases (s : Bool) : sb s = 0 ∨ sb s = 9223372036854775808 := by cases s <;> simp [sb]

theorem or_inf (s : Bool) : bits .or .u64 (sb s) 9218868437227405312 = sb s + 9218868437227405312 := or_sign _ _ (sb_cases s) (by omega) (by omega)

theorem product_comm (x y : Ieee.Datum) : x.product y = y.product x := by
  cases x <;> cases y <;> simp only [Ieee.Datum.product]
  · rename_i s m i t n j
    rw [Bool.xor_comm, Nat.mul_comm, Int.add_comm]
  · rename_i s t
    rw [Bool.xor_comm]

theorem mulI_comm (a b : Int) : mulI a b = mulI b a := by unfold mulI Ieee.Format.mul; rw [product_comm]

section
variable (a b : Int)

theorem mulI_nan (h0 : 0 ≤ a) (h1 : a < 18446744073709551616) (k : kindI a = 3) : mulI a b = 9221120237041090560 := by
  unfold mulI Ieee.Format.mul
  rw [read_nan a h0 h1 k]
  rfl

theorem mulI_20 (h0 : 0 ≤ a) (h1 : a < 18446744073709551616) (h2 : 0 ≤ b) (h3 : b < 18446744073709551616) (k : kindI a = 2) (l : kindI b = 0) : mulI a b = 9221120237041090560 := by
  unfold mulI Ieee.Format.mul
  rw [(read_inf a h0 h1 k).1, (read_zero b h2 h3 l).1]
  rfl

theorem mulI_22 (h0 : 0 ≤ a) (h1 : a < 18446744073709551616) (h2 : 0 ≤ b) (h3 : b < 18446744073709551616) (k : kindI a = 2) (l : kindI b = 2) : mulI a b = sb (negB a.toNat ^^ negB b.toNat) + 9218868437227405312 := by
  unfold mulI Ieee.Format.mul
  rw [(read_inf a h0 h1 k).1, (read_inf b h2 h3 l).1]
  simp only [Ieee.Datum.product]
  rw [Option.map_some, write_inf, opI_some, word_int]
  rfl

theorem mulI_21 (h0 : 0 ≤ a) (h1 : a < 18446744073709551616) (h2 : 0 ≤ b) (h3 : b < 18446744073709551616) (k : kindI a = 2) (l : kindI b = 1) : mulI a b = sb (negB a.toNat ^^ negB b.toNat) + 9218868437227405312 := by
  unfold mulI Ieee.Format.mul
  obtain ⟨rb, fb, _⟩ := read_fin b h2 h3 l
  rw [(read_inf a h0 h1 k).1, rb]
  simp only [Ieee.Datum.product]
  rw [if_neg (by have := fb.pos; omega), Option.map_some, write_inf, opI_some, word_int]
  rfl

theorem rung_zero (e : Int) : rung 0 e = 0 := by simp [rung]

theorem mulI_0k (h0 : 0 ≤ a) (h1 : a < 18446744073709551616) (h2 : 0 ≤ b) (h3 : b < 18446744073709551616) (k : kindI a = 0) (l : kindI b < 2) : mulI a b = sb (negB a.toNat ^^ negB b.toNat) := by
  unfold mulI Ieee.Format.mul
  rw [(read_zero a h0 h1 k).1]
  have : ∃ n j, Ieee.double.read b.toNat = .number (negB b.toNat) n j := by
    rcases kind_cases b with c | c | c | c
    · exact ⟨_, _, (read_zero b h2 h3 c).1⟩
    · exact ⟨_, _, (read_fin b h2 h3 c).1⟩
    · omega
    · omega
  obtain ⟨n, j, rb⟩ := this
  rw [rb]
  simp only [Ieee.Datum.product]
  rw [Option.map_some, write_num, opI_some, word_int, Nat.zero_mul, rung_zero]
  simp

theorem scl_pair (m : Int) (e : Int) (h : Fin1 m e) : sclI m = ((m.toNat * 2 ^ (63 - m.toNat.log2) : Nat) : Int) ∧ clzI m = ((63 - m.toNat.log2 : Nat) : Int) := by
  have p := h.pos
  have q := h.lt
  refine ⟨scl_nat m p (by omega), ?_⟩
  have := log2_64 m.toNat (by omega) (by omega)
  unfold clzI
  omega

theorem mulI_11 (h0 : 0 ≤ a) (h1 : a < 18446744073709551616) (h2 : 0 ≤ b) (h3 : b < 18446744073709551616) (k : kindI a = 1) (l : kindI b = 1) :
    mulI a b = roundI (sb (negB a.toNat ^^ negB b.toNat)) (stickyI (hiI (sclI (manI a)) (sclI (manI b))) (loI (sclI (manI a)) (sclI (manI b)) != 0)) (expI a - clzI (manI a) + (expI b - clzI (manI b)) + 64) := by
  unfold mulI Ieee.Format.mul
  obtain ⟨ra, fa, _⟩ := read_fin a h0 h1 k
  obtain ⟨rb, fb, _⟩ := read_fin b h2 h3 l
  rw [ra, rb]
  simp only [Ieee.Datum.product]
  rw [Option.map_some, write_num, opI_some, word_int]
  unfold roundI
  congr 2
  obtain ⟨ea, ca⟩ := scl_pair _ _ fa
  obtain ⟨eb, cb⟩ := scl_pair _ _ fb
  have A := (scl_bd (manI a) fa.pos (by have := fa.lt; omega)).1
  have B := (scl_bd (manI b) fb.pos (by have := fb.lt; omega)).1
  have M := rung_product (manI a).toNat (manI b).toNat (63 - (manI a).toNat.log2) (63 - (manI b).toNat.log2) (expI a) (expI b) (by rw [ea] at A; omega) (by rw [eb] at B; omega)
  rw [← M, ca, cb]
  congr 1
  unfold stickyI hiI loI
  rw [ea, eb, Int.toNat_natCast, Int.toNat_natCast]
  generalize (manI a).toNat * 2 ^ (63 - (manI a).toNat.log2) * ((manI b).toNat * 2 ^ (63 - (manI b).toNat.log2)) = P
  unfold stk
  by_cases c : P % 18446744073709551616 = 0
  · rw [if_pos (show P % 2 ^ 64 = 0 from c), c, show (((0 : Nat) : Int) != 0) = false from rfl, if_neg (by simp), Int.toNat_natCast]
  · have c' : (((P % 18446744073709551616 : Nat) : Int) != 0) = true := by rw [bne_iff_ne]; omega
    rw [if_neg (show ¬ P % 2 ^ 64 = 0 from c), c', if_pos rfl, Int.toNat_natCast, Int.toNat_natCast]

end

theorem sticky_bd (m : Int) (l : Bool) (h0 : 0 ≤ m) (h1 : m < 18446744073709551616) : 0 ≤ stickyI m l ∧ stickyI m l < 18446744073709551616 := by
  unfold stickyI
  cases l
  · exact ⟨h0, h1⟩
  · simp only [if_true]
    rw [or_one]
    omega

theorem hi_bd (x y : Int) (x0 : 0 ≤ x) (x1 : x < 18446744073709551616) (y0 : 0 ≤ y) (y1 : y < 18446744073709551616) : 0 ≤ hiI x y ∧ hiI x y < 18446744073709551616 := by
  unfold hiI
  have : x.toNat * y.toNat / 18446744073709551616 < 18446744073709551616 := by
    rw [Nat.div_lt_iff_lt_mul (by decide)]
    exact Nat.lt_of_le_of_lt (Nat.mul_le_mul (show x.toNat ≤ 18446744073709551615 by omega) (show y.toNat ≤ 18446744073709551615 by omega)) (by decide)
  omega

theorem wrap_i64 (n : Int) (h0 : -9223372036854775808 ≤ n) (h1 : n < 9223372036854775808) : IntKind.i64.wrap n = n := by
  rw [IntKind.wrap_i64]; omega

theorem divI_nan_l (a b : Int) (h0 : 0 ≤ a) (h1 : a < 18446744073709551616) (k : kindI a = 3) : divI a b = 9221120237041090560 := by
  unfold divI Ieee.Format.div
  rw [read_nan a h0 h1 k]
  rfl

theorem divI_nan_r (a b : Int) (h2 : 0 ≤ b) (h3 : b < 18446744073709551616) (k : kindI b = 3) : divI a b = 9221120237041090560 := by
  unfold divI Ieee.Format.div
  rw [read_nan b h2 h3 k]
  cases Ieee.double.read a.toNat <;> rfl

theorem divI_22 (a b : Int) (h0 : 0 ≤ a) (h1 : a < 18446744073709551616) (h2 : 0 ≤ b) (h3 : b < 18446744073709551616) (k : kindI a = 2) (l : kindI b = 2) : divI a b = 9221120237041090560 := by
  unfold divI Ieee.Format.div
  rw [(read_inf a h0 h1 k).1, (read_inf b h2 h3 l).1]
  rfl

theorem read_num (b : Int) (h2 : 0 ≤ b) (h3 : b < 18446744073709551616) (l : kindI b < 2) : ∃ n j, Ieee.double.read b.toNat = .number (negB b.toNat) n j := by
  rcases kind_cases b with c | c | c | c
  · exact ⟨_, _, (read_zero b h2 h3 c).1⟩
  · exact ⟨_, _, (read_fin b h2 h3 c).1⟩
  · omega
  · omega

theorem divI_2k (a b : Int) (h0 : 0 ≤ a) (h1 : a < 18446744073709551616) (h2 : 0 ≤ b) (h3 : b < 18446744073709551616) (k : kindI a = 2) (l : kindI b < 2) : divI a b = sb (negB a.toNat ^^ negB b.toNat) + 9218868437227405312 := by
  unfold divI Ieee.Format.div
  obtain ⟨n, j, rb⟩ := read_num b h2 h3 l
  rw [(read_inf a h0 h1 k).1, rb]
  simp only [Ieee.Datum.quotient]
  rw [Option.map_some, write_inf, opI_some, word_int]
  rfl

theorem divI_k2 (a b : Int) (h0 : 0 ≤ a) (h1 : a < 18446744073709551616) (h2 : 0 ≤ b) (h3 : b < 18446744073709551616) (k : kindI a < 2) (l : kindI b = 2) : divI a b = sb (negB a.toNat ^^ negB b.toNat) := by
  unfold divI Ieee.Format.div
  obtain ⟨n, j, ra⟩ := read_num a h0 h1 k
  rw [(read_inf b h2 h3 l).1, ra]
  simp only [Ieee.Datum.quotient]
  rw [Option.map_some, write_num, opI_some, word_int, rung_zero]
  simp

theorem divI_00 (a b : Int) (h0 : 0 ≤ a) (h1 : a < 18446744073709551616) (h2 : 0 ≤ b) (h3 : b < 18446744073709551616) (k : kindI a = 0) (l : kindI b = 0) : divI a b = 9221120237041090560 := by
  unfold divI Ieee.Format.div
  rw [(read_zero a h0 h1 k).1, (read_zero b h2 h3 l).1]
  rfl

theorem divI_10 (a b : Int) (h0 : 0 ≤ a) (h1 : a < 18446744073709551616) (h2 : 0 ≤ b) (h3 : b < 18446744073709551616) (k : kindI a = 1) (l : kindI b = 0) : divI a b = sb (negB a.toNat ^^ negB b.toNat) + 9218868437227405312 := by
  unfold divI Ieee.Format.div
  obtain ⟨ra, fa, _⟩ := read_fin a h0 h1 k
  rw [ra, (read_zero b h2 h3 l).1]
  simp only [Ieee.Datum.quotient]
  rw [if_pos trivial, if_neg (by have := fa.pos; omega), Option.map_some, write_inf, opI_some, word_int]
  rfl

theorem divI_01 (a b : Int) (h0 : 0 ≤ a) (h1 : a < 18446744073709551616) (h2 : 0 ≤ b) (h3 : b < 18446744073709551616) (k : kindI a = 0) (l : kindI b = 1) : divI a b = sb (negB a.toNat ^^ negB b.toNat) := by
  unfold divI Ieee.Format.div
  obtain ⟨rb, fb, _⟩ := read_fin b h2 h3 l
  rw [rb, (read_zero a h0 h1 k).1]
  simp only [Ieee.Datum.quotient]
  rw [if_neg (by have := fb.pos; omega), Option.map_some, write_num, opI_some, word_int]
  simp [Nat.zero_shiftLeft, rung_zero]

theorem half_word (M : Int) (_h0 : 0 ≤ M) (_h1 : M < 18446744073709551616) : M / 2 * 18446744073709551616 + IntKind.u64.wrap (M * 9223372036854775808) = M * 9223372036854775808 := by
  rw [IntKind.wrap_u64]; omega

theorem divI_11 (a b : Int) (h0 : 0 ≤ a) (h1 : a < 18446744073709551616) (h2 : 0 ≤ b) (h3 : b < 18446744073709551616) (k : kindI a = 1) (l : kindI b = 1) :
    divI a b = roundI (sb (negB a.toNat ^^ negB b.toNat))
      (stickyI (quoI (sclI (manI a) / 2) (IntKind.u64.wrap (sclI (manI a) * 9223372036854775808)) (sclI (manI b))) (remI (sclI (manI a) / 2) (IntKind.u64.wrap (sclI (manI a) * 9223372036854775808)) (sclI (manI b)) != 0))
      (expI a - clzI (manI a) - (expI b - clzI (manI b)) - 63) := by
  unfold divI Ieee.Format.div
  obtain ⟨ra, fa, _⟩ := read_fin a h0 h1 k
  obtain ⟨rb, fb, _⟩ := read_fin b h2 h3 l
  rw [ra, rb]
  simp only [Ieee.Datum.quotient]
  have pa := fa.pos
  have pb := fb.pos
  have la := fa.lt
  have lb := fb.lt
  rw [if_neg (by omega), Option.map_some, write_num, opI_some, word_int]
  unfold roundI
  congr 2
  obtain ⟨ea, ca⟩ := scl_pair _ _ fa
  obtain ⟨eb, cb⟩ := scl_pair _ _ fb
  have A := scl_bd (manI a) pa (by omega)
  have B := scl_bd (manI b) pb (by omega)
  unfold quoI remI
  rw [half_word _ (by omega) A.2, ca, cb, ea, eb]
  have hf : Ieee.double.fractionBits + 2 = 54 := rfl
  rw [hf]
  have key := rung_quotient (manI a).toNat (manI b).toNat (expI a) (expI b) (by omega) (by omega) (by omega) (by omega) _ _ rfl rfl
  rw [ea] at A
  rw [eb] at B
  have Bp : 0 < (manI b).toNat * 2 ^ (63 - (manI b).toNat.log2) := by omega
  generalize hX : (manI a).toNat * 2 ^ (63 - (manI a).toNat.log2) = X at *
  generalize hY : (manI b).toNat * 2 ^ (63 - (manI b).toNat.log2) = Y at *
  have d1 : ((X : Nat) : Int) * 9223372036854775808 / ((Y : Nat) : Int) = ((X * 9223372036854775808 / Y : Nat) : Int) := by
    rw [Int.natCast_ediv, Int.natCast_mul]; rfl
  have d2 : ((X : Nat) : Int) * 9223372036854775808 % ((Y : Nat) : Int) = ((X * 9223372036854775808 % Y : Nat) : Int) := by
    rw [Int.natCast_emod, Int.natCast_mul]; rfl
  rw [d1, d2]
  generalize X * 9223372036854775808 / Y = q at *
  generalize X * 9223372036854775808 % Y = r at *
  have e3 : (stickyI ((q : Nat) : Int) (((r : Nat) : Int) != 0)).toNat = if decide (r ≠ 0) then q ||| 1 else q := by
    unfold stickyI
    by_cases c : r = 0
    · subst c; simp
    · have c' : (((r : Nat) : Int) != 0) = true := by rw [bne_iff_ne]; omega
      rw [c', decide_eq_true c, if_pos rfl, if_pos rfl, Int.toNat_natCast, Int.toNat_natCast]
  rw [e3, key]
  congr 1
  unfold quoN
  rw [Nat.shiftLeft_eq]
  congr 1
  generalize (manI a).toNat * 2 ^ (54 + (manI b).toNat.log2 - (manI a).toNat.log2) % (manI b).toNat = z
  by_cases c : z = 0
  · subst c; rfl
  · have c' : (z != 0) = true := by rw [bne_iff_ne]; exact c
    rw [c', if_neg c]; rfl

end Go.Proofs.Ytfhdmglfpkmjbaa
