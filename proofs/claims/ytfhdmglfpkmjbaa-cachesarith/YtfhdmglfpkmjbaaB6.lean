/- math.Mod of two finite numbers that are not 0. -/
import Derived.Test.YtfhdmglfpkmjbaaW31
namespace Go.Proofs.Ytfhdmglfpkmjbaa
open Go.RowKit

theorem abs_word (a : Int) (h0 : 0 ≤ a) (h1 : a < 18446744073709551616) (k : kindI a < 2) : (a % 9223372036854775808).toNat = wd (magI a) ∧ Rep (magI a) := by
  have K := (kind_fld a h0 h1).1.1 k
  obtain ⟨F, hF⟩ : ∃ F : Int, a % 9223372036854775808 = F := ⟨_, rfl⟩
  have f0 : 0 ≤ F := by omega
  have f1 : F < 9218868437227405312 := by
    unfold rankI at K
    split at K <;> omega
  obtain ⟨r, e⟩ := fin_rep F f0 f1
  have v := val_mag a h0 h1 k
  have m : magI a = valN F.toNat := by
    unfold valI at v
    unfold withS negB at v
    by_cases c : a < 9223372036854775808
    · rw [if_pos c, show decide (9223372036854775808 ≤ a.toNat) = false from decide_eq_false (by omega), if_neg (by decide)] at v
      have : a = F := by omega
      rw [← this]
      exact (Int.ofNat.inj v).symm
    · rw [if_neg c, show decide (9223372036854775808 ≤ a.toNat) = true from decide_eq_true (by omega), if_pos rfl] at v
      have : a - 9223372036854775808 = F := by omega
      rw [this] at v
      have v2 : ((valN F.toNat : Nat) : Int) = ((magI a : Nat) : Int) := by omega
      exact (Int.ofNat.inj v2).symm
  rw [hF, m]
  exact ⟨e.symm, r⟩

/-- a float's size, in units of the smallest -/
def flN : Value → Nat
  | .float _ n => valN n
  | _ => 0

end Go.Proofs.Ytfhdmglfpkmjbaa

/- math.Mod, the document's Rem, and the walk of SoftRems. -/
namespace Go.Proofs.Ytfhdmglfpkmjbaa
open Go.RowKit

theorem mag_pos (a : Int) (h0 : 0 ≤ a) (h1 : a < 18446744073709551616) (k : kindI a = 1) : 0 < magI a := by
  obtain ⟨_, f, _⟩ := read_fin a h0 h1 k
  have f1 := f.pos
  unfold magI
  rw [if_pos k]
  exact Nat.mul_pos (by omega) (Nat.two_pow_pos _)

theorem neg_word (n : Nat) (h : n < 9223372036854775808) : Op.negFloat .f64 n = 9223372036854775808 + n := by
  have := neg_float ((n : Nat) : Int) (by omega) (by omega)
  rw [Int.toNat_natCast] at this
  rw [this]
  unfold flipI
  omega

/-- what Mod tells -/
def modW (a b : Int) : Nat := wordOf (negB a.toNat) (wd (magI a % magI b))

theorem rep_mod (X Y : Nat) (hX : Rep X) (hY : Rep Y) (h : 0 < Y) : Rep (X % Y) := by
  obtain ⟨⟨m, i, rfl, hm⟩, ht⟩ := hX
  obtain ⟨⟨n, j, rfl, hn⟩, hz⟩ := hY
  refine ⟨?_, Nat.lt_of_le_of_lt (Nat.mod_le _ _) ht⟩
  by_cases c : j ≤ i
  · obtain ⟨d, rfl⟩ : ∃ d, i = d + j := ⟨i - j, by omega⟩
    have e : m * 2 ^ (d + j) = m * 2 ^ d * 2 ^ j := by rw [Nat.pow_add, Nat.mul_assoc]
    rw [e, Nat.mul_mod_mul_right]
    have n0 : 0 < n := by
      refine Nat.pos_of_ne_zero fun z => ?_
      subst z
      omega
    exact ⟨_, j, rfl, Nat.lt_trans (Nat.mod_lt _ n0) hn⟩
  · obtain ⟨d, rfl⟩ : ∃ d, j = d + i := ⟨j - i, by omega⟩
    have e : n * 2 ^ (d + i) = n * 2 ^ d * 2 ^ i := by rw [Nat.pow_add, Nat.mul_assoc]
    rw [e, Nat.mul_mod_mul_right]
    exact ⟨_, i, rfl, Nat.lt_of_le_of_lt (Nat.mod_le _ _) hm⟩

theorem zero_order (a : Int) (h0 : 0 ≤ a) (h1 : a < 18446744073709551616) (k : kindI a < 2) : (FloatKind.f64.format.order a.toNat 0 == some Ordering.eq) = (kindI a == 0) := by
  have := equal_order a 0 h0 h1 (by omega) (by omega)
  have z : (0 : Int).toNat = 0 := rfl
  rw [z] at this
  rw [this]
  exact equal_zero a h0 h1 k

theorem neg_order (a : Int) (h0 : 0 ≤ a) (h1 : a < 18446744073709551616) (k : kindI a = 1) : (FloatKind.f64.format.order a.toNat 0 == some Ordering.lt) = negB a.toNat := by
  have o := less_order a 0 h0 h1 (by omega) (by omega)
  have z : (0 : Int).toNat = 0 := rfl
  rw [z] at o
  rw [o]
  have r := rank_mag a h0 h1 (by omega)
  obtain ⟨_, rp⟩ := abs_word a h0 h1 (by omega)
  have wp := wd_pos _ rp (mag_pos a h0 h1 k)
  unfold wd at wp
  unfold lessI
  have k0 : kindI 0 = 0 := by decide +kernel
  have r0 : rankI 0 = 0 := rfl
  rw [k, k0, r0, r]
  generalize rung (magI a) (-1074) = R at *
  unfold withS
  cases negB a.toNat
  · simp
  · simp [wp]

theorem modW_eq (a b : Int) (h0 : 0 ≤ a) (h1 : a < 18446744073709551616) (h2 : 0 ≤ b) (h3 : b < 18446744073709551616) (ka : kindI a = 1) (kb : kindI b = 1) :
    remC a b = ((modW a b : Nat) : Int) := by
  obtain ⟨_, fa, ea⟩ := read_fin a h0 h1 ka
  obtain ⟨_, fb, _⟩ := read_fin b h2 h3 kb
  obtain ⟨a1, a2, a3, a4, a5⟩ := fa
  obtain ⟨b1, b2, b3, b4, b5⟩ := fb
  have ma : magI a = (manI a).toNat * 2 ^ (expI a + 1074).toNat := by unfold magI; rw [if_pos ka]
  have mb : magI b = (manI b).toNat * 2 ^ (expI b + 1074).toNat := by unfold magI; rw [if_pos kb]
  unfold remC modW
  rw [word_int, if_neg (by omega)]
  by_cases c : expI a < expI b
  · rw [if_pos (Or.inr (Or.inr c))]
    have lt : magI a < magI b := by
      rw [ma, mb]
      have g := b5 (by omega)
      obtain ⟨d, hd⟩ : ∃ d : Nat, (expI b + 1074).toNat = (expI a + 1074).toNat + 1 + d := ⟨(expI b - expI a - 1).toNat, by omega⟩
      have p := Nat.two_pow_pos (expI a + 1074).toNat
      have q := Nat.two_pow_pos d
      have x1 : (manI a).toNat * 2 ^ (expI a + 1074).toNat < 2 * (manI b).toNat * 2 ^ (expI a + 1074).toNat := (Nat.mul_lt_mul_right p).2 (by omega)
      have x2 : (manI b).toNat * 2 ^ (expI b + 1074).toNat = 2 * (manI b).toNat * 2 ^ (expI a + 1074).toNat * 2 ^ d := by
        rw [hd, Nat.pow_add, Nat.pow_add, ← Nat.mul_assoc, ← Nat.mul_assoc, Nat.mul_comm 2 (manI b).toNat, Nat.mul_right_comm (manI b).toNat 2]
      rw [x2]
      have x3 : 2 * (manI b).toNat * 2 ^ (expI a + 1074).toNat * 1 ≤ 2 * (manI b).toNat * 2 ^ (expI a + 1074).toNat * 2 ^ d := Nat.mul_le_mul_left _ q
      omega
    rw [Nat.mod_eq_of_lt lt, ma]
    unfold wd
    rw [rung_scale, show -1074 + (((expI a + 1074).toNat : Nat) : Int) = expI a from by omega]
    exact ea
  · rw [if_neg (by omega)]
    unfold roundI
    rw [sgn_sb a h0 h1]
    congr 2
    have md : (modI (manI a) (expI a - expI b) (manI b)).toNat = (manI a).toNat * 2 ^ (expI a - expI b).toNat % (manI b).toNat := by
      unfold modI
      have e : manI a * 2 ^ (expI a - expI b).toNat = (((manI a).toNat * 2 ^ (expI a - expI b).toNat : Nat) : Int) := by
        rw [Int.natCast_mul, Int.natCast_pow, Int.toNat_of_nonneg (by omega)]; rfl
      have e2 : manI b = (((manI b).toNat : Nat) : Int) := by omega
      rw [e]
      generalize (manI a).toNat * 2 ^ (expI a - expI b).toNat = z
      generalize (manI b).toNat = y at *
      rw [e2, ← Int.natCast_emod, Int.toNat_natCast]
    rw [md, ma, mb, show (expI a + 1074).toNat = (expI a - expI b).toNat + (expI b + 1074).toNat from by omega, Nat.pow_add, ← Nat.mul_assoc, Nat.mul_mod_mul_right]
    unfold wd
    rw [rung_scale, show -1074 + (((expI b + 1074).toNat : Nat) : Int) = expI b from by omega]

end Go.Proofs.Ytfhdmglfpkmjbaa
