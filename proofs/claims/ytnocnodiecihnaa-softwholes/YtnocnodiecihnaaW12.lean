/- Mul and Div are the exact ones, rounded once. -/
import Derived.Test.YtnocnodiecihnaaW9
import Derived.Test.YtnocnodiecihnaaW10
import Derived.Test.YtnocnodiecihnaaW11
namespace Go.Proofs.Ytnocnodiecihnaa
open Go.RowKit

def mulI (a b : Int) : Int := opI (Ieee.double.mul a.toNat b.toNat)
def divI (a b : Int) : Int := opI (Ieee.double.div a.toNat b.toNat)

theorem xor_sb (s t : Bool) : bits .xor .u64 (sb s) (sb t) = sb (s ^^ t) := by
  rw [u64_xor _ _ (by cases s <;> decide) (by cases s <;> decide) (by cases t <;> decide) (by cases t <;> decide)]
  cases s <;> cases t <;> decide

theorem sb_cases (s : Bool) : sb s = 0 ∨ sb s = 9223372036854775808 := by cases s <;> simp [sb]

theorem or_inf (s : Bool) : bits .or .u64 (sb s) 9218868437227405312 = sb s + 9218868437227405312 := or_sign _ _ (sb_cases s) (by omega) (by omega)

theorem product_comm (x y : Ieee.Datum) : x.product y = y.product x := by
  cases x <;> cases y <;> simp only [Ieee.Datum.product]
  · rename_i s m i t n j
    rw [Bool.xor_comm, Nat.mul_comm, Int.add_comm]
  · rename_i s t
    rw [Bool.xor_comm]

theorem mulI_comm (a b : Int) : mulI a b = mulI b a := by unfold mulI Ieee.Format.mul; rw [product_comm]

section
variable (a b : Int)

theorem mulI_nan (h0 : 0 ≤ a) (h1 : a < 18446744073709551616) (k : kindI a = 3) : mulI a b = 9221120237041090560 := by
  unfold mulI Ieee.Format.mul
  rw [read_nan a h0 h1 k]
  rfl

theorem mulI_20 (h0 : 0 ≤ a) (h1 : a < 18446744073709551616) (h2 : 0 ≤ b) (h3 : b < 18446744073709551616) (k : kindI a = 2) (l : kindI b = 0) : mulI a b = 9221120237041090560 := by
  unfold mulI Ieee.Format.mul
  rw [(read_inf a h0 h1 k).1, (read_zero b h2 h3 l).1]
  rfl

theorem mulI_22 (h0 : 0 ≤ a) (h1 : a < 18446744073709551616) (h2 : 0 ≤ b) (h3 : b < 18446744073709551616) (k : kindI a = 2) (l : kindI b = 2) : mulI a b = sb (negB a.toNat ^^ negB b.toNat) + 9218868437227405312 := by
  unfold mulI Ieee.Format.mul
  rw [(read_inf a h0 h1 k).1, (read_inf b h2 h3 l).1]
  simp only [Ieee.Datum.product]
  rw [Option.map_some, write_inf, opI_some, word_int]
  rfl

theorem mulI_21 (h0 : 0 ≤ a) (h1 : a < 18446744073709551616) (h2 : 0 ≤ b) (h3 : b < 18446744073709551616) (k : kindI a = 2) (l : kindI b = 1) : mulI a b = sb (negB a.toNat ^^ negB b.toNat) + 9218868437227405312 := by
  unfold mulI Ieee.Format.mul
  obtain ⟨rb, fb, _⟩ := read_fin b h2 h3 l
  rw [(read_inf a h0 h1 k).1, rb]
  simp only [Ieee.Datum.product]
  rw [if_neg (by have := fb.pos; omega), Option.map_some, write_inf, opI_some, word_int]
  rfl

theorem rung_zero (e : Int) : rung 0 e = 0 := by simp [rung]

theorem mulI_0k (h0 : 0 ≤ a) (h1 : a < 18446744073709551616) (h2 : 0 ≤ b) (h3 : b < 18446744073709551616) (k : kindI a = 0) (l : kindI b < 2) : mulI a b = sb (negB a.toNat ^^ negB b.toNat) := by
  unfold mulI Ieee.Format.mul
  rw [(read_zero a h0 h1 k).1]
  have : ∃ n j, Ieee.double.read b.toNat = .number (negB b.toNat) n j := by
    rcases kind_cases b with c | c | c | c
    · exact ⟨_, _, (read_zero b h2 h3 c).1⟩
    · exact ⟨_, _, (read_fin b h2 h3 c).1⟩
    · omega
    · omega
  obtain ⟨n, j, rb⟩ := this
  rw [rb]
  simp only [Ieee.Datum.product]
  rw [Option.map_some, write_num, opI_some, word_int, Nat.zero_mul, rung_zero]
  simp

theorem scl_pair (m : Int) (e : Int) (h : Fin1 m e) : sclI m = ((m.toNat * 2 ^ (63 - m.toNat.log2) : Nat) : Int) ∧ clzI m = ((63 - m.toNat.log2 : Nat) : Int) := by
  have p := h.pos
  have q := h.lt
  refine ⟨scl_nat m p (by omega), ?_⟩
  have := log2_64 m.toNat (by omega) (by omega)
  unfold clzI
  omega

theorem mulI_11 (h0 : 0 ≤ a) (h1 : a < 18446744073709551616) (h2 : 0 ≤ b) (h3 : b < 18446744073709551616) (k : kindI a = 1) (l : kindI b = 1) :
    mulI a b = roundI (sb (negB a.toNat ^^ negB b.toNat)) (stickyI (hiI (sclI (manI a)) (sclI (manI b))) (loI (sclI (manI a)) (sclI (manI b)) != 0)) (expI a - clzI (manI a) + (expI b - clzI (manI b)) + 64) := by
  unfold mulI Ieee.Format.mul
  obtain ⟨ra, fa, _⟩ := read_fin a h0 h1 k
  obtain ⟨rb, fb, _⟩ := read_fin b h2 h3 l
  rw [ra, rb]
  simp only [Ieee.Datum.product]
  rw [Option.map_some, write_num, opI_some, word_int]
  unfold roundI
  congr 2
  obtain ⟨ea, ca⟩ := scl_pair _ _ fa
  obtain ⟨eb, cb⟩ := scl_pair _ _ fb
  have A := (scl_bd (manI a) fa.pos (by have := fa.lt; omega)).1
  have B := (scl_bd (manI b) fb.pos (by have := fb.lt; omega)).1
  have M := rung_product (manI a).toNat (manI b).toNat (63 - (manI a).toNat.log2) (63 - (manI b).toNat.log2) (expI a) (expI b) (by rw [ea] at A; omega) (by rw [eb] at B; omega)
  rw [← M, ca, cb]
  congr 1
  unfold stickyI hiI loI
  rw [ea, eb, Int.toNat_natCast, Int.toNat_natCast]
  generalize (manI a).toNat * 2 ^ (63 - (manI a).toNat.log2) * ((manI b).toNat * 2 ^ (63 - (manI b).toNat.log2)) = P
  unfold stk
  by_cases c : P % 18446744073709551616 = 0
  · rw [if_pos (show P % 2 ^ 64 = 0 from c), c, show (((0 : Nat) : Int) != 0) = false from rfl, if_neg (by simp), Int.toNat_natCast]
  · have c' : (((P % 18446744073709551616 : Nat) : Int) != 0) = true := by rw [bne_iff_ne]; omega
    rw [if_neg (show ¬ P % 2 ^ 64 = 0 from c), c', if_pos rfl, Int.toNat_natCast, Int.toNat_natCast]

end

theorem sticky_bd (m : Int) (l : Bool) (h0 : 0 ≤ m) (h1 : m < 18446744073709551616) : 0 ≤ stickyI m l ∧ stickyI m l < 18446744073709551616 := by
  unfold stickyI
  cases l
  · exact ⟨h0, h1⟩
  · simp only [if_true]
    rw [or_one]
    omega

theorem hi_bd (x y : Int) (x0 : 0 ≤ x) (x1 : x < 18446744073709551616) (y0 : 0 ≤ y) (y1 : y < 18446744073709551616) : 0 ≤ hiI x y ∧ hiI x y < 18446744073709551616 := by
  unfold hiI
  have : x.toNat * y.toNat / 18446744073709551616 < 18446744073709551616 := by
    rw [Nat.div_lt_iff_lt_mul (by decide)]
    exact Nat.lt_of_le_of_lt (Nat.mul_le_mul (show x.toNat ≤ 18446744073709551615 by omega) (show y.toNat ≤ 18446744073709551615 by omega)) (by decide)
  omega

theorem wrap_i64 (n : Int) (h0 : -9223372036854775808 ≤ n) (h1 : n < 9223372036854775808) : IntKind.i64.wrap n = n := by
  rw [IntKind.wrap_i64]; omega

theorem mul_any (a b : Int) (w : World) (h0 : 0 ≤ a) (h1 : a < 18446744073709551616) (h2 : 0 ≤ b) (h3 : b < 18446744073709551616) :
    Calls Try.prog 14 #[.int .u64 a, .int .u64 b] w fun e w' => e = .returned (.int .u64 (mulI a b)) ∧ Below w.heap.size w w' := by
  have ca := fun w => split_any a w h0 h1
  have cb := fun w => split_any b w h2 h3
  have hx : bits .xor .u64 (sgnI a) (sgnI b) = sb (negB a.toNat ^^ negB b.toNat) := by rw [sgn_sb a h0 h1, sgn_sb b h2 h3, xor_sb]
  by_cases ka3 : kindI a = 3
  · rw [mulI_nan a b h0 h1 ka3]
    rw [ka3] at ca
    exact mul_nan_l a b _ _ _ _ _ _ _ _ w ca cb hx
  by_cases kb3 : kindI b = 3
  · rw [mulI_comm, mulI_nan b a h2 h3 kb3]
    rw [kb3] at cb
    exact mul_nan_r a b _ _ _ _ _ _ _ _ w ca cb hx
  by_cases ka2 : kindI a = 2
  · by_cases kb0 : kindI b = 0
    · rw [mulI_20 a b h0 h1 h2 h3 ka2 kb0]
      rw [ka2] at ca; rw [kb0] at cb
      exact mul_20 a b _ _ _ _ _ _ _ w ca cb hx
    · have : mulI a b = sb (negB a.toNat ^^ negB b.toNat) + 9218868437227405312 := by
        by_cases kb2 : kindI b = 2
        · exact mulI_22 a b h0 h1 h2 h3 ka2 kb2
        · exact mulI_21 a b h0 h1 h2 h3 ka2 (by rcases kind_cases b with c | c | c | c <;> simp_all)
      rw [this]
      rw [ka2] at ca
      exact mul_2k a b _ _ _ _ _ _ _ _ _ w ca cb hx (by simp [kb3]) (by simp [kb0]) (or_inf _)
  by_cases kb2 : kindI b = 2
  · by_cases ka0 : kindI a = 0
    · rw [mulI_comm, mulI_20 b a h2 h3 h0 h1 kb2 ka0]
      rw [ka0] at ca; rw [kb2] at cb
      exact mul_02 a b _ _ _ _ _ _ _ w ca cb hx
    · have ka1 : kindI a = 1 := by rcases kind_cases a with c | c | c | c <;> simp_all
      rw [mulI_comm, mulI_21 b a h2 h3 h0 h1 kb2 ka1, Bool.xor_comm]
      rw [ka1] at ca; rw [kb2] at cb
      exact mul_12 a b _ _ _ _ _ _ _ _ w ca cb hx (or_inf _)
  by_cases ka0 : kindI a = 0
  · rw [mulI_0k a b h0 h1 h2 h3 ka0 (by rcases kind_cases b with c | c | c | c <;> omega)]
    rw [ka0] at ca
    exact mul_0k a b _ _ _ _ _ _ _ _ w ca cb hx (by simp [kb3]) (by simp [kb2])
  have ka1 : kindI a = 1 := by rcases kind_cases a with c | c | c | c <;> simp_all
  by_cases kb0 : kindI b = 0
  · rw [mulI_comm, mulI_0k b a h2 h3 h0 h1 kb0 (by omega), Bool.xor_comm]
    rw [ka1] at ca; rw [kb0] at cb
    exact mul_10 a b _ _ _ _ _ _ _ w ca cb hx
  have kb1 : kindI b = 1 := by rcases kind_cases b with c | c | c | c <;> simp_all
  rw [mulI_11 a b h0 h1 h2 h3 ka1 kb1]
  obtain ⟨_, fa, _⟩ := read_fin a h0 h1 ka1
  obtain ⟨_, fb, _⟩ := read_fin b h2 h3 kb1
  obtain ⟨a1, a2, a3, a4, _⟩ := fa
  obtain ⟨b1, b2, b3, b4, _⟩ := fb
  obtain ⟨c1, c2⟩ := clz_bd (manI a) a1 (by omega)
  obtain ⟨d1, d2⟩ := clz_bd (manI b) b1 (by omega)
  obtain ⟨m1, m2⟩ := scl_bd (manI a) a1 (by omega)
  obtain ⟨n1, n2⟩ := scl_bd (manI b) b1 (by omega)
  rw [ka1] at ca; rw [kb1] at cb
  obtain ⟨i1, i2⟩ := hi_bd (sclI (manI a)) (sclI (manI b)) (by omega) m2 (by omega) n2
  obtain ⟨s1, s2⟩ := sticky_bd (hiI (sclI (manI a)) (sclI (manI b))) (loI (sclI (manI a)) (sclI (manI b)) != 0) i1 i2
  refine mul_11 a b _ _ _ _ _ _ _ _ _ _ _ _ _ _ _ w ca cb hx (fun w => scaled_any 1 _ _ _ w a1 (by omega) (by omega) (by omega)) (fun w => scaled_any 1 _ _ _ w b1 (by omega) (by omega) (by omega))
    (fun w => mul64_any _ _ (by omega) m2 (by omega) n2 w) (fun w => sticky_any _ _ w i1 i2) (fun w => ?_) (by omega) (by omega) (by omega) (by omega)
  rw [wrap_i64 (expI a - clzI (manI a) + (expI b - clzI (manI b))) (by omega) (by omega), wrap_i64 _ (by omega) (by omega)]
  exact round_any _ _ _ w (sb_cases _) s1 s2 (by omega) (by omega)

theorem divI_nan_l (a b : Int) (h0 : 0 ≤ a) (h1 : a < 18446744073709551616) (k : kindI a = 3) : divI a b = 9221120237041090560 := by
  unfold divI Ieee.Format.div
  rw [read_nan a h0 h1 k]
  rfl

theorem divI_nan_r (a b : Int) (h2 : 0 ≤ b) (h3 : b < 18446744073709551616) (k : kindI b = 3) : divI a b = 9221120237041090560 := by
  unfold divI Ieee.Format.div
  rw [read_nan b h2 h3 k]
  cases Ieee.double.read a.toNat <;> rfl

theorem divI_22 (a b : Int) (h0 : 0 ≤ a) (h1 : a < 18446744073709551616) (h2 : 0 ≤ b) (h3 : b < 18446744073709551616) (k : kindI a = 2) (l : kindI b = 2) : divI a b = 9221120237041090560 := by
  unfold divI Ieee.Format.div
  rw [(read_inf a h0 h1 k).1, (read_inf b h2 h3 l).1]
  rfl

theorem read_num (b : Int) (h2 : 0 ≤ b) (h3 : b < 18446744073709551616) (l : kindI b < 2) : ∃ n j, Ieee.double.read b.toNat = .number (negB b.toNat) n j := by
  rcases kind_cases b with c | c | c | c
  · exact ⟨_, _, (read_zero b h2 h3 c).1⟩
  · exact ⟨_, _, (read_fin b h2 h3 c).1⟩
  · omega
  · omega

theorem divI_2k (a b : Int) (h0 : 0 ≤ a) (h1 : a < 18446744073709551616) (h2 : 0 ≤ b) (h3 : b < 18446744073709551616) (k : kindI a = 2) (l : kindI b < 2) : divI a b = sb (negB a.toNat ^^ negB b.toNat) + 9218868437227405312 := by
  unfold divI Ieee.Format.div
  obtain ⟨n, j, rb⟩ := read_num b h2 h3 l
  rw [(read_inf a h0 h1 k).1, rb]
  simp only [Ieee.Datum.quotient]
  rw [Option.map_some, write_inf, opI_some, word_int]
  rfl

theorem divI_k2 (a b : Int) (h0 : 0 ≤ a) (h1 : a < 18446744073709551616) (h2 : 0 ≤ b) (h3 : b < 18446744073709551616) (k : kindI a < 2) (l : kindI b = 2) : divI a b = sb (negB a.toNat ^^ negB b.toNat) := by
  unfold divI Ieee.Format.div
  obtain ⟨n, j, ra⟩ := read_num a h0 h1 k
  rw [(read_inf b h2 h3 l).1, ra]
  simp only [Ieee.Datum.quotient]
  rw [Option.map_some, write_num, opI_some, word_int, rung_zero]
  simp

theorem divI_00 (a b : Int) (h0 : 0 ≤ a) (h1 : a < 18446744073709551616) (h2 : 0 ≤ b) (h3 : b < 18446744073709551616) (k : kindI a = 0) (l : kindI b = 0) : divI a b = 9221120237041090560 := by
  unfold divI Ieee.Format.div
  rw [(read_zero a h0 h1 k).1, (read_zero b h2 h3 l).1]
  rfl

theorem divI_10 (a b : Int) (h0 : 0 ≤ a) (h1 : a < 18446744073709551616) (h2 : 0 ≤ b) (h3 : b < 18446744073709551616) (k : kindI a = 1) (l : kindI b = 0) : divI a b = sb (negB a.toNat ^^ negB b.toNat) + 9218868437227405312 := by
  unfold divI Ieee.Format.div
  obtain ⟨ra, fa, _⟩ := read_fin a h0 h1 k
  rw [ra, (read_zero b h2 h3 l).1]
  simp only [Ieee.Datum.quotient]
  rw [if_pos trivial, if_neg (by have := fa.pos; omega), Option.map_some, write_inf, opI_some, word_int]
  rfl

theorem divI_01 (a b : Int) (h0 : 0 ≤ a) (h1 : a < 18446744073709551616) (h2 : 0 ≤ b) (h3 : b < 18446744073709551616) (k : kindI a = 0) (l : kindI b = 1) : divI a b = sb (negB a.toNat ^^ negB b.toNat) := by
  unfold divI Ieee.Format.div
  obtain ⟨rb, fb, _⟩ := read_fin b h2 h3 l
  rw [rb, (read_zero a h0 h1 k).1]
  simp only [Ieee.Datum.quotient]
  rw [if_neg (by have := fb.pos; omega), Option.map_some, write_num, opI_some, word_int]
  simp [Nat.zero_shiftLeft, rung_zero]

theorem half_word (M : Int) (_h0 : 0 ≤ M) (_h1 : M < 18446744073709551616) : M / 2 * 18446744073709551616 + IntKind.u64.wrap (M * 9223372036854775808) = M * 9223372036854775808 := by
  rw [IntKind.wrap_u64]; omega

theorem divI_11 (a b : Int) (h0 : 0 ≤ a) (h1 : a < 18446744073709551616) (h2 : 0 ≤ b) (h3 : b < 18446744073709551616) (k : kindI a = 1) (l : kindI b = 1) :
    divI a b = roundI (sb (negB a.toNat ^^ negB b.toNat))
      (stickyI (quoI (sclI (manI a) / 2) (IntKind.u64.wrap (sclI (manI a) * 9223372036854775808)) (sclI (manI b))) (remI (sclI (manI a) / 2) (IntKind.u64.wrap (sclI (manI a) * 9223372036854775808)) (sclI (manI b)) != 0))
      (expI a - clzI (manI a) - (expI b - clzI (manI b)) - 63) := by
  unfold divI Ieee.Format.div
  obtain ⟨ra, fa, _⟩ := read_fin a h0 h1 k
  obtain ⟨rb, fb, _⟩ := read_fin b h2 h3 l
  rw [ra, rb]
  simp only [Ieee.Datum.quotient]
  have pa := fa.pos
  have pb := fb.pos
  have la := fa.lt
  have lb := fb.lt
  rw [if_neg (by omega), Option.map_some, write_num, opI_some, word_int]
  unfold roundI
  congr 2
  obtain ⟨ea, ca⟩ := scl_pair _ _ fa
  obtain ⟨eb, cb⟩ := scl_pair _ _ fb
  have A := scl_bd (manI a) pa (by omega)
  have B := scl_bd (manI b) pb (by omega)
  unfold quoI remI
  rw [half_word _ (by omega) A.2, ca, cb, ea, eb]
  have hf : Ieee.double.fractionBits + 2 = 54 := rfl
  rw [hf]
  have key := rung_quotient (manI a).toNat (manI b).toNat (expI a) (expI b) (by omega) (by omega) (by omega) (by omega) _ _ rfl rfl
  rw [ea] at A
  rw [eb] at B
  have Bp : 0 < (manI b).toNat * 2 ^ (63 - (manI b).toNat.log2) := by omega
  generalize hX : (manI a).toNat * 2 ^ (63 - (manI a).toNat.log2) = X at *
  generalize hY : (manI b).toNat * 2 ^ (63 - (manI b).toNat.log2) = Y at *
  have d1 : ((X : Nat) : Int) * 9223372036854775808 / ((Y : Nat) : Int) = ((X * 9223372036854775808 / Y : Nat) : Int) := by
    rw [Int.natCast_ediv, Int.natCast_mul]; rfl
  have d2 : ((X : Nat) : Int) * 9223372036854775808 % ((Y : Nat) : Int) = ((X * 9223372036854775808 % Y : Nat) : Int) := by
    rw [Int.natCast_emod, Int.natCast_mul]; rfl
  rw [d1, d2]
  generalize X * 9223372036854775808 / Y = q at *
  generalize X * 9223372036854775808 % Y = r at *
  have e3 : (stickyI ((q : Nat) : Int) (((r : Nat) : Int) != 0)).toNat = if decide (r ≠ 0) then q ||| 1 else q := by
    unfold stickyI
    by_cases c : r = 0
    · subst c; simp
    · have c' : (((r : Nat) : Int) != 0) = true := by rw [bne_iff_ne]; omega
      rw [c', decide_eq_true c, if_pos rfl, if_pos rfl, Int.toNat_natCast, Int.toNat_natCast]
  rw [e3, key]
  congr 1
  unfold quoN
  rw [Nat.shiftLeft_eq]
  congr 1
  generalize (manI a).toNat * 2 ^ (54 + (manI b).toNat.log2 - (manI a).toNat.log2) % (manI b).toNat = z
  by_cases c : z = 0
  · subst c; rfl
  · have c' : (z != 0) = true := by rw [bne_iff_ne]; exact c
    rw [c', if_neg c]; rfl

theorem div_any (a b : Int) (w : World) (h0 : 0 ≤ a) (h1 : a < 18446744073709551616) (h2 : 0 ≤ b) (h3 : b < 18446744073709551616) :
    Calls Try.prog 15 #[.int .u64 a, .int .u64 b] w fun e w' => e = .returned (.int .u64 (divI a b)) ∧ Below w.heap.size w w' := by
  have ca := fun w => split_any a w h0 h1
  have cb := fun w => split_any b w h2 h3
  have hx : bits .xor .u64 (sgnI a) (sgnI b) = sb (negB a.toNat ^^ negB b.toNat) := by rw [sgn_sb a h0 h1, sgn_sb b h2 h3, xor_sb]
  by_cases ka3 : kindI a = 3
  · rw [divI_nan_l a b h0 h1 ka3]
    rw [ka3] at ca
    exact div_nan_l a b _ _ _ _ _ _ _ _ w ca cb hx
  by_cases kb3 : kindI b = 3
  · rw [divI_nan_r a b h2 h3 kb3]
    rw [kb3] at cb
    exact div_nan_r a b _ _ _ _ _ _ _ _ w ca cb hx
  by_cases ka2 : kindI a = 2
  · by_cases kb2 : kindI b = 2
    · rw [divI_22 a b h0 h1 h2 h3 ka2 kb2]
      rw [ka2] at ca; rw [kb2] at cb
      exact div_22 a b _ _ _ _ _ _ _ w ca cb hx
    · rw [divI_2k a b h0 h1 h2 h3 ka2 (by rcases kind_cases b with c | c | c | c <;> omega)]
      rw [ka2] at ca
      exact div_2k a b _ _ _ _ _ _ _ _ _ w ca cb hx (by simp [kb3]) (by rw [beq_eq_false_iff_ne]; omega) (or_inf _)
  have ka1' : kindI a < 2 := by rcases kind_cases a with c | c | c | c <;> omega
  by_cases ka0 : kindI a = 0
  · by_cases kb0 : kindI b = 0
    · rw [divI_00 a b h0 h1 h2 h3 ka0 kb0]
      rw [ka0] at ca; rw [kb0] at cb
      exact div_00 a b _ _ _ _ _ _ w ca cb
    · have : divI a b = sb (negB a.toNat ^^ negB b.toNat) := by
        by_cases kb2 : kindI b = 2
        · exact divI_k2 a b h0 h1 h2 h3 ka1' kb2
        · exact divI_01 a b h0 h1 h2 h3 ka0 (by rcases kind_cases b with c | c | c | c <;> simp_all)
      rw [this]
      rw [ka0] at ca
      exact div_0k a b _ _ _ _ _ _ _ _ w ca cb hx (by simp [kb3]) (by rw [beq_eq_false_iff_ne]; omega) (by simp [kb0])
  have ka1 : kindI a = 1 := by rcases kind_cases a with c | c | c | c <;> simp_all
  by_cases kb0 : kindI b = 0
  · rw [divI_10 a b h0 h1 h2 h3 ka1 kb0]
    rw [ka1] at ca; rw [kb0] at cb
    exact div_10 a b _ _ _ _ _ _ _ _ w ca cb hx (or_inf _)
  by_cases kb2 : kindI b = 2
  · rw [divI_k2 a b h0 h1 h2 h3 ka1' kb2]
    rw [ka1] at ca; rw [kb2] at cb
    exact div_12 a b _ _ _ _ _ _ _ w ca cb hx
  have kb1 : kindI b = 1 := by rcases kind_cases b with c | c | c | c <;> simp_all
  rw [divI_11 a b h0 h1 h2 h3 ka1 kb1]
  obtain ⟨_, fa, _⟩ := read_fin a h0 h1 ka1
  obtain ⟨_, fb, _⟩ := read_fin b h2 h3 kb1
  obtain ⟨a1, a2, a3, a4, _⟩ := fa
  obtain ⟨b1, b2, b3, b4, _⟩ := fb
  obtain ⟨c1, c2⟩ := clz_bd (manI a) a1 (by omega)
  obtain ⟨d1, d2⟩ := clz_bd (manI b) b1 (by omega)
  obtain ⟨m1, m2⟩ := scl_bd (manI a) a1 (by omega)
  obtain ⟨n1, n2⟩ := scl_bd (manI b) b1 (by omega)
  have lo0 : 0 ≤ IntKind.u64.wrap (sclI (manI a) * 9223372036854775808) ∧ IntKind.u64.wrap (sclI (manI a) * 9223372036854775808) < 18446744073709551616 := by rw [IntKind.wrap_u64]; omega
  have hw := half_word (sclI (manI a)) (by omega) m2
  rw [ka1] at ca; rw [kb1] at cb
  have i1 : 0 ≤ quoI (sclI (manI a) / 2) (IntKind.u64.wrap (sclI (manI a) * 9223372036854775808)) (sclI (manI b)) := by
    unfold quoI; rw [hw]; exact Int.ediv_nonneg (by omega) (by omega)
  have i2 : quoI (sclI (manI a) / 2) (IntKind.u64.wrap (sclI (manI a) * 9223372036854775808)) (sclI (manI b)) < 18446744073709551616 := by
    unfold quoI; rw [hw]; exact (Int.ediv_lt_iff_lt_mul (by omega)).2 (by omega)
  obtain ⟨s1, s2⟩ := sticky_bd _ (remI (sclI (manI a) / 2) (IntKind.u64.wrap (sclI (manI a) * 9223372036854775808)) (sclI (manI b)) != 0) i1 i2
  refine div_11 a b _ _ _ _ _ _ _ _ _ _ _ _ _ _ _ _ w ca cb hx (fun w => scaled_any 1 _ _ _ w a1 (by omega) (by omega) (by omega)) (fun w => scaled_any 1 _ _ _ w b1 (by omega) (by omega) (by omega))
    (fun w => div64_any _ _ _ w (by omega) (by omega) lo0.1 lo0.2 n1 n2) (fun w => sticky_any _ _ w i1 i2) (fun w => ?_) rfl (by omega) m2 (by omega) (by omega) (by omega) (by omega)
  rw [wrap_i64 (expI a - clzI (manI a) - (expI b - clzI (manI b))) (by omega) (by omega), wrap_i64 _ (by omega) (by omega)]
  exact round_any _ _ _ w (sb_cases _) s1 s2 (by omega) (by omega)

end Go.Proofs.Ytnocnodiecihnaa
