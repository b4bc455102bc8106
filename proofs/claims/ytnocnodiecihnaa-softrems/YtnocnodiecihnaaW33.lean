/- math.Mod, the document's Rem, and the walk of SoftRems. -/
import Derived.Test.YtnocnodiecihnaaW32
namespace Go.Proofs.Ytnocnodiecihnaa
open Go.RowKit

theorem mag_pos (a : Int) (h0 : 0 ≤ a) (h1 : a < 18446744073709551616) (k : kindI a = 1) : 0 < magI a := by
  obtain ⟨_, f, _⟩ := read_fin a h0 h1 k
  have f1 := f.pos
  unfold magI
  rw [if_pos k]
  exact Nat.mul_pos (by omega) (Nat.two_pow_pos _)

theorem neg_word (n : Nat) (h : n < 9223372036854775808) : Op.negFloat .f64 n = 9223372036854775808 + n := by
  have := neg_float ((n : Nat) : Int) (by omega) (by omega)
  rw [Int.toNat_natCast] at this
  rw [this]
  unfold flipI
  omega

/-- what Mod tells -/
def modW (a b : Int) : Nat := wordOf (negB a.toNat) (wd (magI a % magI b))

theorem rep_mod (X Y : Nat) (hX : Rep X) (hY : Rep Y) (h : 0 < Y) : Rep (X % Y) := by
  obtain ⟨⟨m, i, rfl, hm⟩, ht⟩ := hX
  obtain ⟨⟨n, j, rfl, hn⟩, hz⟩ := hY
  refine ⟨?_, Nat.lt_of_le_of_lt (Nat.mod_le _ _) ht⟩
  by_cases c : j ≤ i
  · obtain ⟨d, rfl⟩ : ∃ d, i = d + j := ⟨i - j, by omega⟩
    have e : m * 2 ^ (d + j) = m * 2 ^ d * 2 ^ j := by rw [Nat.pow_add, Nat.mul_assoc]
    rw [e, Nat.mul_mod_mul_right]
    have n0 : 0 < n := by
      refine Nat.pos_of_ne_zero fun z => ?_
      subst z
      omega
    exact ⟨_, j, rfl, Nat.lt_trans (Nat.mod_lt _ n0) hn⟩
  · obtain ⟨d, rfl⟩ : ∃ d, j = d + i := ⟨j - i, by omega⟩
    have e : n * 2 ^ (d + i) = n * 2 ^ d * 2 ^ i := by rw [Nat.pow_add, Nat.mul_assoc]
    rw [e, Nat.mul_mod_mul_right]
    exact ⟨_, i, rfl, Nat.lt_of_le_of_lt (Nat.mod_le _ _) hm⟩

theorem zero_order (a : Int) (h0 : 0 ≤ a) (h1 : a < 18446744073709551616) (k : kindI a < 2) : (FloatKind.f64.format.order a.toNat 0 == some Ordering.eq) = (kindI a == 0) := by
  have := equal_order a 0 h0 h1 (by omega) (by omega)
  have z : (0 : Int).toNat = 0 := rfl
  rw [z] at this
  rw [this]
  exact equal_zero a h0 h1 k

theorem neg_order (a : Int) (h0 : 0 ≤ a) (h1 : a < 18446744073709551616) (k : kindI a = 1) : (FloatKind.f64.format.order a.toNat 0 == some Ordering.lt) = negB a.toNat := by
  have o := less_order a 0 h0 h1 (by omega) (by omega)
  have z : (0 : Int).toNat = 0 := rfl
  rw [z] at o
  rw [o]
  have r := rank_mag a h0 h1 (by omega)
  obtain ⟨_, rp⟩ := abs_word a h0 h1 (by omega)
  have wp := wd_pos _ rp (mag_pos a h0 h1 k)
  unfold wd at wp
  unfold lessI
  have k0 : kindI 0 = 0 := by decide +kernel
  have r0 : rankI 0 = 0 := rfl
  rw [k, k0, r0, r]
  generalize rung (magI a) (-1074) = R at *
  unfold withS
  cases negB a.toNat
  · simp
  · simp [wp]

theorem mod_any (a b : Int) (w : World) (h0 : 0 ≤ a) (h1 : a < 18446744073709551616) (h2 : 0 ≤ b) (h3 : b < 18446744073709551616) (ka : kindI a = 1) (kb : kindI b = 1) :
    Calls Try.prog 59 #[.float .f64 a.toNat, .float .f64 b.toNat] w fun e w' => e = .returned (.float .f64 (modW a b)) ∧ w' = w := by
  have hz := zero_order b h2 h3 (by omega)
  rw [show (kindI b == 0) = false from by rw [kb]; rfl] at hz
  have ci := fun w => mathInf_any a w h0 h1
  rw [show (kindI a == 2) = false from by rw [ka]; rfl] at ci
  have cn := fun w => mathNaN_any a w h0 h1
  rw [show (kindI a == 3) = false from by rw [ka]; rfl] at cn
  have cm := fun w => mathNaN_any b w h2 h3
  rw [show (kindI b == 3) = false from by rw [kb]; rfl] at cm
  obtain ⟨ea, ra⟩ := abs_word a h0 h1 (by omega)
  obtain ⟨eb, rb⟩ := abs_word b h2 h3 (by omega)
  have yp := mag_pos b h2 h3 kb
  have hm : bits .andNot .u64 ((b.toNat : Nat) : Int) 9223372036854775808 = b % 9223372036854775808 := by
    rw [Int.toNat_of_nonneg h2]; exact mask_size b h2 h3
  have cab := fun w => abs_any b.toNat w _ hm
  rw [eb] at cab
  have hl := neg_order a h0 h1 ka
  obtain ⟨gy, cy, q0, q1, q2, q3, hY, cf⟩ := wd_frexp _ rb yp
  have hx : negB a.toNat = false → a.toNat = wd (magI a) := fun h => by
    have : ¬ 9223372036854775808 ≤ a.toNat := of_decide_eq_false h
    rw [← ea]; omega
  have hx2 : negB a.toNat = true → Op.negFloat .f64 a.toNat = wd (magI a) := fun h => by
    have : 9223372036854775808 ≤ a.toNat := of_decide_eq_true h
    rw [neg_float a h0 h1, ← ea]
    unfold flipI
    omega
  have rm := rep_mod _ _ ra rb yp
  have hr : (if negB a.toNat then Op.negFloat .f64 (wd (magI a % magI b)) else wd (magI a % magI b)) = modW a b := by
    unfold modW wordOf
    have := (rep_word _ rm).2
    rw [neg_word _ (by omega)]
  exact mod_w a.toNat b.toNat _ (negB a.toNat) _ _ gy cy w hz ci cn cm cab hl hx hx2 ra rb yp q0 q1 q2 q3 hY cf hr

set_option maxHeartbeats 400000 in
theorem Mod_any (a b : Int) (w : World) (h0 : 0 ≤ a) (h1 : a < 18446744073709551616) (h2 : 0 ≤ b) (h3 : b < 18446744073709551616) (ka : kindI a = 1) (kb : kindI b = 1) :
    Calls Try.prog 48 #[.float .f64 a.toNat, .float .f64 b.toNat] w fun e w' => e = .returned (.float .f64 (modW a b)) ∧ w' = w := by
  have c := fun w => mod_any a b w h0 h1 h2 h3 ka kb
  generalize modW a b = R at *
  generalize a.toNat = x at *
  generalize b.toNat = y at *
  clear h0 h1 h2 h3 ka kb
  go_enter Try.func48, Try.ntmps48
  go_wp2_with (go_at_call 59; refine (c _).mono ?_; rintro e w1 ⟨rfl, rfl⟩)
  go_ret
  exact ⟨rfl, rfl⟩

theorem modW_eq (a b : Int) (h0 : 0 ≤ a) (h1 : a < 18446744073709551616) (h2 : 0 ≤ b) (h3 : b < 18446744073709551616) (ka : kindI a = 1) (kb : kindI b = 1) :
    remC a b = ((modW a b : Nat) : Int) := by
  obtain ⟨_, fa, ea⟩ := read_fin a h0 h1 ka
  obtain ⟨_, fb, _⟩ := read_fin b h2 h3 kb
  obtain ⟨a1, a2, a3, a4, a5⟩ := fa
  obtain ⟨b1, b2, b3, b4, b5⟩ := fb
  have ma : magI a = (manI a).toNat * 2 ^ (expI a + 1074).toNat := by unfold magI; rw [if_pos ka]
  have mb : magI b = (manI b).toNat * 2 ^ (expI b + 1074).toNat := by unfold magI; rw [if_pos kb]
  unfold remC modW
  rw [word_int, if_neg (by omega)]
  by_cases c : expI a < expI b
  · rw [if_pos (Or.inr (Or.inr c))]
    have lt : magI a < magI b := by
      rw [ma, mb]
      have g := b5 (by omega)
      obtain ⟨d, hd⟩ : ∃ d : Nat, (expI b + 1074).toNat = (expI a + 1074).toNat + 1 + d := ⟨(expI b - expI a - 1).toNat, by omega⟩
      have p := Nat.two_pow_pos (expI a + 1074).toNat
      have q := Nat.two_pow_pos d
      have x1 : (manI a).toNat * 2 ^ (expI a + 1074).toNat < 2 * (manI b).toNat * 2 ^ (expI a + 1074).toNat := (Nat.mul_lt_mul_right p).2 (by omega)
      have x2 : (manI b).toNat * 2 ^ (expI b + 1074).toNat = 2 * (manI b).toNat * 2 ^ (expI a + 1074).toNat * 2 ^ d := by
        rw [hd, Nat.pow_add, Nat.pow_add, ← Nat.mul_assoc, ← Nat.mul_assoc, Nat.mul_comm 2 (manI b).toNat, Nat.mul_right_comm (manI b).toNat 2]
      rw [x2]
      have x3 : 2 * (manI b).toNat * 2 ^ (expI a + 1074).toNat * 1 ≤ 2 * (manI b).toNat * 2 ^ (expI a + 1074).toNat * 2 ^ d := Nat.mul_le_mul_left _ q
      omega
    rw [Nat.mod_eq_of_lt lt, ma]
    unfold wd
    rw [rung_scale, show -1074 + (((expI a + 1074).toNat : Nat) : Int) = expI a from by omega]
    exact ea
  · rw [if_neg (by omega)]
    unfold roundI
    rw [sgn_sb a h0 h1]
    congr 2
    have md : (modI (manI a) (expI a - expI b) (manI b)).toNat = (manI a).toNat * 2 ^ (expI a - expI b).toNat % (manI b).toNat := by
      unfold modI
      have e : manI a * 2 ^ (expI a - expI b).toNat = (((manI a).toNat * 2 ^ (expI a - expI b).toNat : Nat) : Int) := by
        rw [Int.natCast_mul, Int.natCast_pow, Int.toNat_of_nonneg (by omega)]; rfl
      have e2 : manI b = (((manI b).toNat : Nat) : Int) := by omega
      rw [e]
      generalize (manI a).toNat * 2 ^ (expI a - expI b).toNat = z
      generalize (manI b).toNat = y at *
      rw [e2, ← Int.natCast_emod, Int.toNat_natCast]
    rw [md, ma, mb, show (expI a + 1074).toNat = (expI a - expI b).toNat + (expI b + 1074).toNat from by omega, Nat.pow_add, ← Nat.mul_assoc, Nat.mul_mod_mul_right]
    unfold wd
    rw [rung_scale, show -1074 + (((expI b + 1074).toNat : Nat) : Int) = expI b from by omega]

set_option maxHeartbeats 400000 in
theorem rr_nanx (a b : Int) (x y : Nat) (w : World) (va : ∀ w : World, Calls Try.prog 9 #[.int .u64 a] w fun e w' => e = .returned (.float .f64 x) ∧ w' = w) (vb : ∀ w : World, Calls Try.prog 9 #[.int .u64 b] w fun e w' => e = .returned (.float .f64 y) ∧ w' = w) (hnx : (FloatKind.f64.format.order x x != some Ordering.eq) = true) :
    Calls Try.prog 17 #[.int .u64 a, .int .u64 b] w fun e w' => e = .returned (.int .u64 9221120237041090560) ∧ w' = w := by
  go_enter Try.func17, Try.ntmps17
  go_wp2_with fail
  refine (va _).mono ?_
  rintro e w1 ⟨rfl, hw⟩
  subst hw
  go_wp2_with fail
  refine (vb _).mono ?_
  rintro e w1 ⟨rfl, hw⟩
  subst hw
  go_wp2
  go_ret
  exact ⟨rfl, rfl⟩

set_option maxHeartbeats 400000 in
theorem rr_nany (a b : Int) (x y : Nat) (w : World) (va : ∀ w : World, Calls Try.prog 9 #[.int .u64 a] w fun e w' => e = .returned (.float .f64 x) ∧ w' = w) (vb : ∀ w : World, Calls Try.prog 9 #[.int .u64 b] w fun e w' => e = .returned (.float .f64 y) ∧ w' = w) (hnx : (FloatKind.f64.format.order x x != some Ordering.eq) = false) (hny : (FloatKind.f64.format.order y y != some Ordering.eq) = true) :
    Calls Try.prog 17 #[.int .u64 a, .int .u64 b] w fun e w' => e = .returned (.int .u64 9221120237041090560) ∧ w' = w := by
  go_enter Try.func17, Try.ntmps17
  go_wp2_with fail
  refine (va _).mono ?_
  rintro e w1 ⟨rfl, hw⟩
  subst hw
  go_wp2_with fail
  refine (vb _).mono ?_
  rintro e w1 ⟨rfl, hw⟩
  subst hw
  go_wp2
  go_ret
  exact ⟨rfl, rfl⟩

set_option maxHeartbeats 400000 in
theorem rr_infx (a b : Int) (x y : Nat) (w : World) (va : ∀ w : World, Calls Try.prog 9 #[.int .u64 a] w fun e w' => e = .returned (.float .f64 x) ∧ w' = w) (vb : ∀ w : World, Calls Try.prog 9 #[.int .u64 b] w fun e w' => e = .returned (.float .f64 y) ∧ w' = w) (hnx : (FloatKind.f64.format.order x x != some Ordering.eq) = false) (hny : (FloatKind.f64.format.order y y != some Ordering.eq) = false)
    (cix : ∀ w : World, Calls Try.prog 23 #[.float .f64 x, .int .i64 0] w fun e w' => e = .returned (.bool true) ∧ w' = w) :
    Calls Try.prog 17 #[.int .u64 a, .int .u64 b] w fun e w' => e = .returned (.int .u64 9221120237041090560) ∧ w' = w := by
  go_enter Try.func17, Try.ntmps17
  go_wp2_with fail
  refine (va _).mono ?_
  rintro e w1 ⟨rfl, hw⟩
  subst hw
  go_wp2_with fail
  refine (vb _).mono ?_
  rintro e w1 ⟨rfl, hw⟩
  subst hw
  go_wp2_with fail
  refine (cix _).mono ?_
  rintro e w1 ⟨rfl, hw⟩
  subst hw
  go_wp2
  go_ret
  exact ⟨rfl, rfl⟩

set_option maxHeartbeats 400000 in
theorem rr_zeroy (a b : Int) (x y : Nat) (w : World) (va : ∀ w : World, Calls Try.prog 9 #[.int .u64 a] w fun e w' => e = .returned (.float .f64 x) ∧ w' = w) (vb : ∀ w : World, Calls Try.prog 9 #[.int .u64 b] w fun e w' => e = .returned (.float .f64 y) ∧ w' = w) (hnx : (FloatKind.f64.format.order x x != some Ordering.eq) = false) (hny : (FloatKind.f64.format.order y y != some Ordering.eq) = false)
    (cix : ∀ w : World, Calls Try.prog 23 #[.float .f64 x, .int .i64 0] w fun e w' => e = .returned (.bool false) ∧ w' = w)
    (hzy : (FloatKind.f64.format.order y 0 == some Ordering.eq) = true) :
    Calls Try.prog 17 #[.int .u64 a, .int .u64 b] w fun e w' => e = .returned (.int .u64 9221120237041090560) ∧ w' = w := by
  go_enter Try.func17, Try.ntmps17
  go_wp2_with fail
  refine (va _).mono ?_
  rintro e w1 ⟨rfl, hw⟩
  subst hw
  go_wp2_with fail
  refine (vb _).mono ?_
  rintro e w1 ⟨rfl, hw⟩
  subst hw
  go_wp2_with fail
  refine (cix _).mono ?_
  rintro e w1 ⟨rfl, hw⟩
  subst hw
  go_wp2
  go_ret
  exact ⟨rfl, rfl⟩

set_option maxHeartbeats 400000 in
theorem rr_infy (a b : Int) (x y : Nat) (w : World) (va : ∀ w : World, Calls Try.prog 9 #[.int .u64 a] w fun e w' => e = .returned (.float .f64 x) ∧ w' = w) (vb : ∀ w : World, Calls Try.prog 9 #[.int .u64 b] w fun e w' => e = .returned (.float .f64 y) ∧ w' = w) (hnx : (FloatKind.f64.format.order x x != some Ordering.eq) = false) (hny : (FloatKind.f64.format.order y y != some Ordering.eq) = false)
    (cix : ∀ w : World, Calls Try.prog 23 #[.float .f64 x, .int .i64 0] w fun e w' => e = .returned (.bool false) ∧ w' = w)
    (hzy : (FloatKind.f64.format.order y 0 == some Ordering.eq) = false)
    (ciy : ∀ w : World, Calls Try.prog 23 #[.float .f64 y, .int .i64 0] w fun e w' => e = .returned (.bool true) ∧ w' = w) :
    Calls Try.prog 17 #[.int .u64 a, .int .u64 b] w fun e w' => e = .returned (.int .u64 a) ∧ w' = w := by
  go_enter Try.func17, Try.ntmps17
  go_wp2_with fail
  refine (va _).mono ?_
  rintro e w1 ⟨rfl, hw⟩
  subst hw
  go_wp2_with fail
  refine (vb _).mono ?_
  rintro e w1 ⟨rfl, hw⟩
  subst hw
  go_wp2_with fail
  refine (cix _).mono ?_
  rintro e w1 ⟨rfl, hw⟩
  subst hw
  go_wp2_with fail
  refine (ciy _).mono ?_
  rintro e w1 ⟨rfl, hw⟩
  subst hw
  go_wp2
  go_ret
  exact ⟨rfl, rfl⟩

set_option maxHeartbeats 400000 in
theorem rr_zerox (a b : Int) (x y : Nat) (w : World) (va : ∀ w : World, Calls Try.prog 9 #[.int .u64 a] w fun e w' => e = .returned (.float .f64 x) ∧ w' = w) (vb : ∀ w : World, Calls Try.prog 9 #[.int .u64 b] w fun e w' => e = .returned (.float .f64 y) ∧ w' = w) (hnx : (FloatKind.f64.format.order x x != some Ordering.eq) = false) (hny : (FloatKind.f64.format.order y y != some Ordering.eq) = false)
    (cix : ∀ w : World, Calls Try.prog 23 #[.float .f64 x, .int .i64 0] w fun e w' => e = .returned (.bool false) ∧ w' = w)
    (hzy : (FloatKind.f64.format.order y 0 == some Ordering.eq) = false)
    (ciy : ∀ w : World, Calls Try.prog 23 #[.float .f64 y, .int .i64 0] w fun e w' => e = .returned (.bool false) ∧ w' = w)
    (hzx : (FloatKind.f64.format.order x 0 == some Ordering.eq) = true) :
    Calls Try.prog 17 #[.int .u64 a, .int .u64 b] w fun e w' => e = .returned (.int .u64 a) ∧ w' = w := by
  go_enter Try.func17, Try.ntmps17
  go_wp2_with fail
  refine (va _).mono ?_
  rintro e w1 ⟨rfl, hw⟩
  subst hw
  go_wp2_with fail
  refine (vb _).mono ?_
  rintro e w1 ⟨rfl, hw⟩
  subst hw
  go_wp2_with fail
  refine (cix _).mono ?_
  rintro e w1 ⟨rfl, hw⟩
  subst hw
  go_wp2_with fail
  refine (ciy _).mono ?_
  rintro e w1 ⟨rfl, hw⟩
  subst hw
  go_wp2
  go_ret
  exact ⟨rfl, rfl⟩

set_option maxHeartbeats 400000 in
theorem rr_mod (a b : Int) (x y : Nat) (w : World) (va : ∀ w : World, Calls Try.prog 9 #[.int .u64 a] w fun e w' => e = .returned (.float .f64 x) ∧ w' = w) (vb : ∀ w : World, Calls Try.prog 9 #[.int .u64 b] w fun e w' => e = .returned (.float .f64 y) ∧ w' = w) (M : Nat) (Z : Int) (hnx : (FloatKind.f64.format.order x x != some Ordering.eq) = false) (hny : (FloatKind.f64.format.order y y != some Ordering.eq) = false)
    (cix : ∀ w : World, Calls Try.prog 23 #[.float .f64 x, .int .i64 0] w fun e w' => e = .returned (.bool false) ∧ w' = w)
    (hzy : (FloatKind.f64.format.order y 0 == some Ordering.eq) = false)
    (ciy : ∀ w : World, Calls Try.prog 23 #[.float .f64 y, .int .i64 0] w fun e w' => e = .returned (.bool false) ∧ w' = w)
    (hzx : (FloatKind.f64.format.order x 0 == some Ordering.eq) = false)
    (cm : ∀ w : World, Calls Try.prog 48 #[.float .f64 x, .float .f64 y] w fun e w' => e = .returned (.float .f64 M) ∧ w' = w)
    (co : ∀ w : World, Calls Try.prog 12 #[.float .f64 M] w fun e w' => e = .returned (.int .u64 Z) ∧ w' = w) :
    Calls Try.prog 17 #[.int .u64 a, .int .u64 b] w fun e w' => e = .returned (.int .u64 Z) ∧ w' = w := by
  go_enter Try.func17, Try.ntmps17
  go_wp2_with fail
  refine (va _).mono ?_
  rintro e w1 ⟨rfl, hw⟩
  subst hw
  go_wp2_with fail
  refine (vb _).mono ?_
  rintro e w1 ⟨rfl, hw⟩
  subst hw
  go_wp2_with fail
  refine (cix _).mono ?_
  rintro e w1 ⟨rfl, hw⟩
  subst hw
  go_wp2_with fail
  refine (ciy _).mono ?_
  rintro e w1 ⟨rfl, hw⟩
  subst hw
  go_wp2_with fail
  refine (cm _).mono ?_
  rintro e w1 ⟨rfl, hw⟩
  subst hw
  go_wp2_with fail
  refine (co _).mono ?_
  rintro e w1 ⟨rfl, hw⟩
  subst hw
  go_wp2
  go_ret
  exact ⟨rfl, rfl⟩
theorem kind_word (s : Bool) (n : Nat) (h : n < 9218868437227405312) : kindI ((wordOf s n : Nat) : Int) ≠ 3 ∧ wordOf s n < 18446744073709551616 := by
  have b : wordOf s n < 18446744073709551616 := by unfold wordOf; split <;> omega
  refine ⟨?_, b⟩
  have r := rank_word s n (by omega)
  have := (kind_fld ((wordOf s n : Nat) : Int) (by omega) (by omega)).1.2
  rw [r] at this
  have k : kindI ((wordOf s n : Nat) : Int) < 2 := this (by cases s <;> simp <;> omega)
  omega

theorem refrem_any (a b : Int) (w : World) (h0 : 0 ≤ a) (h1 : a < 18446744073709551616) (h2 : 0 ≤ b) (h3 : b < 18446744073709551616) :
    Calls Try.prog 17 #[.int .u64 a, .int .u64 b] w fun e w' => e = .returned (.int .u64 (remC a b)) ∧ w' = w := by
  have va := fun w => val_any a w
  have vb := fun w => val_any b w
  have nx := nan_order a h0 h1
  have ny := nan_order b h2 h3
  have cx := fun w => mathInf_any a w h0 h1
  have cy := fun w => mathInf_any b w h2 h3
  have ka := kind_cases a
  have kb := kind_cases b
  by_cases a3 : kindI a = 3
  · rw [show (kindI a == 3) = true from by rw [a3]; rfl] at nx
    have e : remC a b = 9221120237041090560 := by unfold remC; rw [if_pos (Or.inl a3)]
    rw [e]
    exact rr_nanx a b _ _ w va vb nx
  rw [show (kindI a == 3) = false from by simp [a3]] at nx
  by_cases b3 : kindI b = 3
  · rw [show (kindI b == 3) = true from by rw [b3]; rfl] at ny
    have e : remC a b = 9221120237041090560 := by unfold remC; rw [if_pos (Or.inr (Or.inl b3))]
    rw [e]
    exact rr_nany a b _ _ w va vb nx ny
  rw [show (kindI b == 3) = false from by simp [b3]] at ny
  by_cases a2 : kindI a = 2
  · rw [show (kindI a == 2) = true from by rw [a2]; rfl] at cx
    have e : remC a b = 9221120237041090560 := by unfold remC; rw [if_pos (Or.inr (Or.inr (Or.inl a2)))]
    rw [e]
    exact rr_infx a b _ _ w va vb nx ny cx
  rw [show (kindI a == 2) = false from by simp [a2]] at cx
  have za := zero_order a h0 h1 (by omega)
  by_cases b2 : kindI b = 2
  · rw [show (kindI b == 2) = true from by rw [b2]; rfl] at cy
    have zb : (FloatKind.f64.format.order b.toNat 0 == some Ordering.eq) = false := by
      have o := equal_order b 0 h2 h3 (by omega) (by omega)
      have z : (0 : Int).toNat = 0 := rfl
      rw [z] at o
      rw [o]
      have r := (kind_fld b h2 h3).2.1.1 b2
      have r0 : rankI 0 = 0 := rfl
      unfold equalI
      rw [r0]
      have : (rankI b == 0) = false := by rw [beq_eq_false_iff_ne]; omega
      rw [this, Bool.and_false]
    have e : remC a b = a := by unfold remC; rw [if_neg (by omega), if_pos (Or.inr (Or.inl b2))]
    rw [e]
    exact rr_infy a b _ _ w va vb nx ny cx zb cy
  rw [show (kindI b == 2) = false from by simp [b2]] at cy
  have zb := zero_order b h2 h3 (by omega)
  by_cases b0 : kindI b = 0
  · rw [show (kindI b == 0) = true from by rw [b0]; rfl] at zb
    have e : remC a b = 9221120237041090560 := by unfold remC; rw [if_pos (Or.inr (Or.inr (Or.inr b0)))]
    rw [e]
    exact rr_zeroy a b _ _ w va vb nx ny cx zb
  rw [show (kindI b == 0) = false from by simp [b0]] at zb
  by_cases a0 : kindI a = 0
  · rw [show (kindI a == 0) = true from by rw [a0]; rfl] at za
    have e : remC a b = a := by unfold remC; rw [if_neg (by omega), if_pos (Or.inl a0)]
    rw [e]
    exact rr_zerox a b _ _ w va vb nx ny cx zb cy za
  rw [show (kindI a == 0) = false from by simp [a0]] at za
  have ka1 : kindI a = 1 := by omega
  have kb1 : kindI b = 1 := by omega
  rw [modW_eq a b h0 h1 h2 h3 ka1 kb1]
  have cm := fun w => Mod_any a b w h0 h1 h2 h3 ka1 kb1
  have ra := (abs_word a h0 h1 (by omega)).2
  have rb := (abs_word b h2 h3 (by omega)).2
  have rm := rep_mod _ _ ra rb (mag_pos b h2 h3 kb1)
  have kb' : kindI ((modW a b : Nat) : Int) ≠ 3 ∧ modW a b < 18446744073709551616 := kind_word (negB a.toNat) _ (rep_word _ rm).2
  obtain ⟨kw, bw⟩ := kb'
  have co : ∀ w, Calls Try.prog 12 #[.float .f64 (modW a b)] w fun e w' => e = .returned (.int .u64 ((modW a b : Nat) : Int)) ∧ w' = w := fun w => by
    have := of_any ((modW a b : Nat) : Int) w (by omega) (by omega)
    rw [if_neg kw, Int.toNat_natCast] at this
    exact this
  exact rr_mod a b _ _ w va vb _ _ nx ny cx zb cy za cm co

set_option maxHeartbeats 400000 in
theorem rems_walk (a b : Int) (h0 : 0 ≤ a) (h1 : a < 18446744073709551616) (h2 : 0 ≤ b) (h3 : b < 18446744073709551616) (w : World) :
    Calls Try.prog 4 #[.int .u64 a, .int .u64 b] w fun e w' => e = .returned (.bool true) ∧ Below w.heap.size w w' := by
  have ca := fun w => alive_any w
  have cn := fun w => rem_any a b w h0 h1 h2 h3
  have cr := fun w => refrem_any a b w h0 h1 h2 h3
  generalize remC a b = R at *
  go_enter Try.func4, Try.ntmps4
  go_wp2_with fail
  refine (ca _).mono ?_
  rintro e w1 ⟨rfl, hb1⟩
  go_wp2_with fail
  refine (cn _).mono ?_
  rintro e w2 ⟨rfl, hb2⟩
  go_wp2_with fail
  refine (cr _).mono ?_
  rintro e w3 ⟨rfl, hw⟩
  subst hw
  go_wp2
  go_ret
  exact ⟨rfl, bt hb1 hb2⟩

end Go.Proofs.Ytnocnodiecihnaa
