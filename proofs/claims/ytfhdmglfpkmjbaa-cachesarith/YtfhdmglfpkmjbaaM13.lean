/- Plain: numbers that are kept whole, their differences, and how often one goes into another. -/
import Derived.Test.YtfhdmglfpkmjbaaM12
namespace Go.Proofs.Ytfhdmglfpkmjbaa

/-- no finite number is as great as 2 to this power, in units of the smallest -/
def topE : Nat := 2098
theorem te : topE = 2098 := rfl

/-- what is kept whole -/
def Rep (R : Nat) : Prop := (∃ m j : Nat, R = m * 2 ^ j ∧ m < 9007199254740992) ∧ R < 2 ^ topE

/-- its word -/
def wd (R : Nat) : Nat := rung R (-1074)

theorem rep_word (R : Nat) (h : Rep R) : valN (wd R) = R ∧ wd R < 9218868437227405312 := by
  obtain ⟨⟨m, j, hR, hm⟩, ht⟩ := h
  have ht0 := te
  unfold wd
  subst hR
  rw [rung_scale]
  by_cases hz : m = 0
  · subst hz
    have : rung 0 (-1074 + (j : Int)) = 0 := by simp [rung]
    rw [this, valN_low 0 (by decide)]
    refine ⟨by simp, by decide⟩
  have l1 := Nat.log2_self_le hz
  have l2 := lt_two_log2 m
  have l3 := (Nat.log2_lt hz).2 (show m < 2 ^ 53 from hm)
  by_cases c : 52 - m.log2 ≤ j
  · obtain ⟨k, hk⟩ : ∃ k, k = 52 - m.log2 := ⟨_, rfl⟩
    have p := Nat.two_pow_pos k
    have b1 : 4503599627370496 ≤ m * 2 ^ k := by
      have := Nat.mul_le_mul_right (2 ^ k) l1
      rw [← Nat.pow_add, show m.log2 + k = 52 from by omega] at this
      exact this
    have b2 : m * 2 ^ k < 9007199254740992 := by
      have := (Nat.mul_lt_mul_right p).2 l2
      rw [← Nat.pow_add, show m.log2 + 1 + k = 53 from by omega] at this
      exact this
    obtain ⟨q, hq⟩ : ∃ q, j = q + k := ⟨j - k, by omega⟩
    have e : m * 2 ^ j = m * 2 ^ k * 2 ^ q := by rw [hq, Nat.pow_add, Nat.mul_assoc, Nat.mul_comm (2 ^ q)]
    have hq2 : q ≤ 2045 := by
      refine Nat.le_of_not_lt fun c2 => ?_
      have a1 : 2 ^ 52 * 2 ^ q ≤ m * 2 ^ k * 2 ^ q := Nat.mul_le_mul_right _ b1
      rw [← Nat.pow_add, ← e] at a1
      have a2 : 2 ^ topE ≤ 2 ^ (52 + q) := Nat.pow_le_pow_right (by decide) (by omega)
      omega
    have sc := rung_scale m k (-1074 + (q : Int))
    rw [show -1074 + (q : Int) + (k : Int) = -1074 + (j : Int) from by omega] at sc
    have own := rung_own (m * 2 ^ k) (-1074 + (q : Int)) ⟨by omega, by omega, by omega, by omega, fun _ => by omega⟩
    rw [← sc, own, show (-1074 + (q : Int) + 1074).toNat = q from by omega, valN_high q _ b1 b2]
    refine ⟨e.symm, ?_⟩
    clear e ht sc own
    generalize m * 2 ^ k = z at *
    omega
  · have sc := rung_scale m j (-1074)
    have b : m * 2 ^ j < 4503599627370496 := by
      have p := Nat.two_pow_pos j
      have := (Nat.mul_lt_mul_right p).2 l2
      rw [← Nat.pow_add] at this
      have h : 2 ^ (m.log2 + 1 + j) ≤ 2 ^ 52 := Nat.pow_le_pow_right (by decide) (by omega)
      have h' : 2 ^ (m.log2 + 1 + j) ≤ 4503599627370496 := h
      omega
    have pos : 0 < m * 2 ^ j := Nat.mul_pos (by omega) (Nat.two_pow_pos j)
    have own := rung_own (m * 2 ^ j) (-1074) ⟨by omega, by omega, by omega, by omega, fun h => by omega⟩
    rw [← sc, own, show ((-1074 : Int) + 1074).toNat = 0 from rfl, Nat.zero_mul, Nat.zero_add, valN_low _ b]
    exact ⟨rfl, by omega⟩

theorem wd_zero : wd 0 = 0 := by unfold wd; simp [rung]

theorem wd_pos (R : Nat) (h : Rep R) (h0 : 0 < R) : 0 < wd R := by
  refine Nat.pos_of_ne_zero fun c => ?_
  have := (rep_word R h).1
  rw [c, valN_low 0 (by decide)] at this
  omega

theorem wd_lt {R S : Nat} (hR : Rep R) (hS : Rep S) : wd R < wd S ↔ R < S := by
  have a := (rep_word R hR).1
  have b := (rep_word S hS).1
  constructor
  · intro h; have := valN_lt h; omega
  · intro h
    refine Nat.lt_of_not_le fun c => ?_
    rcases Nat.lt_or_eq_of_le c with c | c
    · have := valN_lt c; omega
    · rw [c] at b; omega

theorem rep_zero : Rep 0 := ⟨⟨0, 0, rfl, by decide⟩, Nat.two_pow_pos _⟩

/-- a difference of two that are near each other is kept whole -/
theorem rep_sub (R Z : Nat) (hR : Rep R) (hZ : Rep Z) (h1 : Z ≤ R) (h2 : R < 2 * Z) : Rep (R - Z) := by
  obtain ⟨⟨m, i, rfl, hm⟩, hr⟩ := hR
  obtain ⟨⟨n, j, rfl, hn⟩, hz⟩ := hZ
  refine ⟨?_, by omega⟩
  by_cases c : j ≤ i
  · obtain ⟨d, rfl⟩ : ∃ d, i = d + j := ⟨i - j, by omega⟩
    have e : m * 2 ^ (d + j) = m * 2 ^ d * 2 ^ j := by rw [Nat.pow_add, Nat.mul_assoc]
    rw [e] at h1 h2 ⊢
    have p := Nat.two_pow_pos j
    refine ⟨m * 2 ^ d - n, j, by rw [Nat.sub_mul], ?_⟩
    have h3 : m * 2 ^ d * 2 ^ j < (n + n) * 2 ^ j := by rw [Nat.add_mul]; omega
    have h4 := Nat.lt_of_mul_lt_mul_right h3
    omega
  · obtain ⟨d, rfl⟩ : ∃ d, j = d + i := ⟨j - i, by omega⟩
    have e : n * 2 ^ (d + i) = n * 2 ^ d * 2 ^ i := by rw [Nat.pow_add, Nat.mul_assoc]
    rw [e]
    exact ⟨m - n * 2 ^ d, i, by rw [Nat.sub_mul], by omega⟩

theorem rep_scale (Y k : Nat) (hY : Rep Y) (h : Y * 2 ^ k < 2 ^ topE) : Rep (Y * 2 ^ k) := by
  obtain ⟨⟨m, i, rfl, hm⟩, _⟩ := hY
  refine ⟨⟨m, i + k, by rw [Nat.pow_add, Nat.mul_assoc], hm⟩, h⟩

/-- by how many doublings one comes as near to another as it can -/
theorem mod_times (R Y gr gy cr cy : Nat) (hr : R * 4503599627370496 = gr * 2 ^ cr) (hy : Y * 4503599627370496 = gy * 2 ^ cy)
    (r0 : 4503599627370496 ≤ gr) (r1 : gr < 9007199254740992) (y0 : 4503599627370496 ≤ gy) (y1 : gy < 9007199254740992) (h : Y ≤ R) :
    (gy ≤ gr → ∃ k : Nat, cr = cy + k ∧ Y * 2 ^ k ≤ R ∧ R < 2 * (Y * 2 ^ k)) ∧ (gr < gy → ∃ k : Nat, cr = cy + k + 1 ∧ Y * 2 ^ k ≤ R ∧ R < 2 * (Y * 2 ^ k)) := by
  have key : gy * 2 ^ cy ≤ gr * 2 ^ cr := by omega
  have sc : ∀ k : Nat, Y * 2 ^ k * 4503599627370496 = gy * 2 ^ (cy + k) := fun k => by
    rw [Nat.mul_right_comm, hy, Nat.pow_add, Nat.mul_assoc]
  constructor
  · intro c
    have le : cy ≤ cr := by
      refine Nat.le_of_not_lt fun d => ?_
      obtain ⟨e, rfl⟩ : ∃ e, cy = cr + 1 + e := ⟨cy - cr - 1, by omega⟩
      have p := Nat.two_pow_pos cr
      have q := Nat.two_pow_pos e
      have a : gy * 2 ^ (cr + 1 + e) = gy * 2 * 2 ^ e * 2 ^ cr := by
        have e1 : 2 ^ (cr + 1 + e) = 2 * 2 ^ e * 2 ^ cr := by
          rw [show cr + 1 + e = 1 + e + cr from by omega, Nat.pow_add, Nat.pow_add]
        rw [e1, ← Nat.mul_assoc, ← Nat.mul_assoc]
      rw [a] at key
      have b := Nat.le_of_mul_le_mul_right key p
      have b2 : gy * 2 * 1 ≤ gy * 2 * 2 ^ e := Nat.mul_le_mul_left _ q
      omega
    obtain ⟨k, rfl⟩ : ∃ k, cr = cy + k := ⟨cr - cy, by omega⟩
    have s := sc k
    have p := Nat.two_pow_pos (cy + k)
    refine ⟨k, rfl, ?_, ?_⟩
    · have : gy * 2 ^ (cy + k) ≤ gr * 2 ^ (cy + k) := Nat.mul_le_mul_right _ c
      omega
    · have : gr * 2 ^ (cy + k) < (gy + gy) * 2 ^ (cy + k) := (Nat.mul_lt_mul_right p).2 (by omega)
      rw [Nat.add_mul] at this
      omega
  · intro c
    have lt : cy < cr := by
      refine Nat.lt_of_not_le fun d => ?_
      have a : 2 ^ cr ≤ 2 ^ cy := Nat.pow_le_pow_right (by decide) d
      have b : gr * 2 ^ cr ≤ gr * 2 ^ cy := Nat.mul_le_mul_left _ a
      have e : gr * 2 ^ cy < gy * 2 ^ cy := (Nat.mul_lt_mul_right (Nat.two_pow_pos cy)).2 c
      omega
    obtain ⟨k, rfl⟩ : ∃ k, cr = cy + k + 1 := ⟨cr - cy - 1, by omega⟩
    have s := sc k
    have p := Nat.two_pow_pos (cy + k)
    have e : gr * 2 ^ (cy + k + 1) = (gr + gr) * 2 ^ (cy + k) := by
      rw [Nat.pow_succ, Nat.mul_comm (2 ^ (cy + k)) 2, ← Nat.mul_assoc]
      congr 1
      omega
    rw [e] at hr
    refine ⟨k, rfl, ?_, ?_⟩
    · have : gy * 2 ^ (cy + k) ≤ (gr + gr) * 2 ^ (cy + k) := Nat.mul_le_mul_right _ (by omega)
      omega
    · have : gr * 2 ^ (cy + k) < gy * 2 ^ (cy + k) := (Nat.mul_lt_mul_right p).2 c
      rw [Nat.add_mul] at hr
      omega

theorem mod_same (R Y k : Nat) (h : Y * 2 ^ k ≤ R) : (R - Y * 2 ^ k) % Y = R % Y := by
  have e : R = R - Y * 2 ^ k + Y * 2 ^ k := by omega
  conv => rhs; rw [e]
  rw [Nat.add_mul_mod_self_left]

end Go.Proofs.Ytfhdmglfpkmjbaa
