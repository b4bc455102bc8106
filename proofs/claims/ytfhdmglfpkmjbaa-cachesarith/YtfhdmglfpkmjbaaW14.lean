/- The walks of remainder and Rem. -/
import Derived.Test.YtfhdmglfpkmjbaaW8
import Derived.Deep.RegionHeld3
namespace Go.Proofs.Ytfhdmglfpkmjbaa
open Go.RowKit

/-- m times 2^t modulo n -/
def modI (m t n : Int) : Int := m * 2 ^ t.toNat % n

theorem mod_step (m n : Int) (j k : Nat) : m * 2 ^ j % n * 2 ^ k % n = m * 2 ^ (j + k) % n := by
  rw [Int.pow_add, ← Int.mul_assoc, Int.mul_emod, Int.emod_emod_of_dvd _ (Int.dvd_refl n), ← Int.mul_emod]

theorem pow_le_2048 (k : Nat) (h : k ≤ 11) : (2 : Int) ^ k ≤ 2048 ∧ (0 : Int) < 2 ^ k := by
  have h1 : (2 : Nat) ^ k ≤ 2 ^ 11 := Nat.pow_le_pow_right (by decide) h
  have h2 := Nat.two_pow_pos k
  have e : ((2 ^ k : Nat) : Int) = (2 : Int) ^ k := by rw [Int.natCast_pow]; rfl
  rw [← e]
  constructor
  · have h3 : (2 : Nat) ^ k ≤ 2048 := h1
    omega
  · omega

theorem mod_next (m n L t r k : Int) (hL : L = m * 2 ^ (t - r).toNat % n) (n0 : 0 < n) (n1 : n < 9007199254740992) (k0 : 0 ≤ k) (k1 : k ≤ 11) (_k2 : k ≤ r) (r1 : r ≤ t) :
    (IntKind.u64.wrap (L * 2 ^ k.toNat)).tmod n = m * 2 ^ (t - (r - k)).toNat % n := by
  have l0 : 0 ≤ L := by rw [hL]; exact Int.emod_nonneg _ (by omega)
  have l1 : L < n := by rw [hL]; exact Int.emod_lt_of_pos _ n0
  obtain ⟨p1, p2⟩ := pow_le_2048 k.toNat (by omega)
  have b0 : 0 ≤ L * 2 ^ k.toNat := Int.mul_nonneg l0 (by omega)
  have b1 : L * 2 ^ k.toNat ≤ 9007199254740991 * 2048 := Int.mul_le_mul (by omega) p1 (by omega) (by omega)
  have e : IntKind.u64.wrap (L * 2 ^ k.toNat) = L * 2 ^ k.toNat := by rw [IntKind.wrap_u64]; omega
  rw [e, Int.tmod_eq_emod_of_nonneg b0, hL, mod_step, show (t - r).toNat + k.toNat = (t - (r - k)).toNat from by omega]

theorem mod_next11 (m n L t r : Int) (hL : L = m * 2 ^ (t - r).toNat % n) (_k2 : 11 ≤ r) (r1 : r ≤ t) : L * 2048 % n = m * 2 ^ (t - (r - 11)).toNat % n := by
  have := mod_step m n (t - r).toNat 11
  rw [hL, show (2048 : Int) = 2 ^ 11 from rfl, this, show (t - r).toNat + 11 = (t - (r - 11)).toNat from by omega]

/-- the rest, as the program reckons it -/
def remC (a b : Int) : Int :=
  if kindI a = 3 ∨ kindI b = 3 ∨ kindI a = 2 ∨ kindI b = 0 then 9221120237041090560
  else if kindI a = 0 ∨ kindI b = 2 ∨ expI a < expI b then a
  else roundI (sgnI a) (modI (manI a) (expI a - expI b) (manI b)) (expI b)

theorem mod_bd (m t n : Int) (n0 : 0 < n) : 0 ≤ modI m t n ∧ modI m t n < n := by
  unfold modI
  exact ⟨Int.emod_nonneg _ (by omega), Int.emod_lt_of_pos _ n0⟩

end Go.Proofs.Ytfhdmglfpkmjbaa
