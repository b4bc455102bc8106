/- Add is the exact sum, rounded once. -/
import Derived.Test.YtfhdmglfpkmjbaaB1
namespace Go.Proofs.Ytfhdmglfpkmjbaa
open Go.RowKit

theorem sb_inj (s t : Bool) : sb s = sb t ↔ s = t := by cases s <;> cases t <;> decide

theorem sumOrd_eq (s t : Bool) (m n : Int) (i j : Int) (hij : j ≤ i) (hm : Fin1 m i) (hn : Fin1 n j) (T : Int)
    (hT : T = Ieee.signed s m.toNat (i - j).toNat + Ieee.signed t n.toNat 0) :
    sumOrd (sb s) m i (sb t) n j = ((wordOf (if T = 0 then s && t else decide (T < 0)) (rung T.natAbs j) : Nat) : Int) := by
  obtain ⟨mn, rfl⟩ := Int.eq_ofNat_of_zero_le (Int.le_of_lt hm.pos)
  obtain ⟨nn, rfl⟩ := Int.eq_ofNat_of_zero_le (Int.le_of_lt hn.pos)
  obtain ⟨d, hd⟩ : ∃ d : Nat, i = j + d := ⟨(i - j).toNat, by omega⟩
  subst hd
  rw [show (j + (d : Int) - j).toNat = d from by omega, Int.toNat_natCast, Int.toNat_natCast, signed_eq, signed_eq] at hT
  rw [Nat.pow_zero, Nat.mul_one] at hT
  have m1 := hm.lt
  have n1 := hn.lt
  have m0 := hm.pos
  have n0 := hn.pos
  have htop : 10 < d → 4503599627370496 ≤ mn := fun h => by have := hm.top (by have := hn.lo; omega); omega
  have p := Nat.two_pow_pos d
  have pX : 0 < mn * 2 ^ d := Nat.mul_pos (by omega) p
  have A1 := sum_same mn nn d j htop
  have A2 := sum_above mn nn d j htop (by omega)
  obtain ⟨A3, A4⟩ := sum_apart mn nn d htop (by omega)
  -- what is below, above the other one
  have A5 : mn * 2 ^ d < nn → stk (nn * 1024) d - mn * 1024 = (nn - mn * 2 ^ d) * 1024 / 2 ^ d ∧ rung (stk (nn * 1024) d - mn * 1024) (j + d - 10) = rung (nn - mn * 2 ^ d) j := by
    intro h
    have hd10 : ¬ 10 < d := by
      intro c
      have h1 := htop c
      have h2 : 2 ^ 11 ≤ 2 ^ d := Nat.pow_le_pow_right (by decide) c
      have h2' : 2048 ≤ 2 ^ d := h2
      have := Nat.mul_le_mul h1 h2'
      omega
    have e10 : (1024 : Nat) = 2 ^ (10 - d) * 2 ^ d := by rw [← Nat.pow_add, show 10 - d + d = 10 from by omega]
    have es : stk (nn * 1024) d = nn * 2 ^ (10 - d) := by
      unfold stk
      rw [e10, ← Nat.mul_assoc, Nat.mul_mod_left, if_pos rfl, Nat.mul_div_cancel _ p]
    have ed : (nn - mn * 2 ^ d) * 1024 / 2 ^ d = (nn - mn * 2 ^ d) * 2 ^ (10 - d) := by
      conv => lhs; rw [e10]
      rw [← Nat.mul_assoc, Nat.mul_div_cancel _ p]
    have e3 : nn * 2 ^ (10 - d) - mn * 1024 = (nn - mn * 2 ^ d) * 2 ^ (10 - d) := by
      rw [Nat.sub_mul]
      congr 1
      rw [Nat.mul_assoc, ← Nat.pow_add, show d + (10 - d) = 10 from by omega]
    rw [es, ed, e3]
    refine ⟨rfl, ?_⟩
    rw [rung_scale]
    congr 1
    omega
  have eY : shrinkI ((nn : Int) * 1024) (j + (d : Int) - j) = ((stk (nn * 1024) d : Nat) : Int) := by
    unfold shrinkI
    rw [show (j + (d : Int) - j).toNat = d from by omega, show ((nn : Int) * 1024).toNat = nn * 1024 from by omega]
  unfold sumOrd
  rw [eY]
  unfold roundI
  rw [word_int]
  generalize stk (nn * 1024) d = Y at *
  generalize hX : mn * 2 ^ d = X at *
  by_cases hst : s = t
  · subst hst
    rw [if_pos rfl, show ((mn : Int) * 1024 + (Y : Int)).toNat = mn * 1024 + Y from by omega, A1]
    cases s
    · have hT' : T = ((X + nn : Nat) : Int) := by rw [hT]; simp
      have hne : T ≠ 0 := by omega
      rw [if_neg hne, decide_eq_false (by omega), hT', Int.natAbs_natCast]
    · have hT' : T = -((X + nn : Nat) : Int) := by rw [hT]; simp; omega
      have hne : T ≠ 0 := by omega
      rw [if_neg hne, decide_eq_true (by omega), hT', Int.natAbs_neg, Int.natAbs_natCast]
  · rw [if_neg (fun h => hst ((sb_inj s t).1 h))]
    have hT' : T = if s then (nn : Int) - X else (X : Int) - nn := by
      cases s <;> cases t
      · exact absurd rfl hst
      · rw [hT]; simp; omega
      · rw [hT]; simp; omega
      · exact absurd rfl hst
    by_cases c1 : X = nn
    · have hz : T = 0 := by rw [hT', c1]; split <;> omega
      have hY := A3.2 c1
      rw [if_pos (by omega), if_pos hz, hz]
      have : (s && t) = false := by cases s <;> cases t <;> simp_all
      rw [this]
      simp [sb, rung]
    · have hY : mn * 1024 ≠ Y := fun h => c1 (A3.1 h)
      have hne : T ≠ 0 := by rw [hT']; split <;> omega
      rw [if_neg (by omega), if_neg hne]
      by_cases c2 : X < nn
      · have hY2 := A4.2 c2
        rw [if_pos (by omega), show ((Y : Int) - (mn : Int) * 1024).toNat = Y - mn * 1024 from by omega, (A5 c2).2]
        have hab : T.natAbs = nn - X := by rw [hT']; split <;> omega
        have hsg : decide (T < 0) = t := by
          cases s <;> cases t <;> simp_all <;> omega
        rw [hab, hsg]
      · have hY2 : ¬ mn * 1024 < Y := fun h => c2 (A4.1 h)
        rw [if_neg (by omega), show ((mn : Int) * 1024 - (Y : Int)).toNat = mn * 1024 - Y from by omega, A2 (by omega)]
        have hab : T.natAbs = X - nn := by rw [hT']; split <;> omega
        have hsg : decide (T < 0) = s := by
          cases s <;> cases t <;> simp_all <;> omega
        rw [hab, hsg]

/-- the bits of an answer: the document's NaN where there is none -/
def opI (r : Option Nat) : Int := ((r.getD 9221120237041090560 : Nat) : Int)
def addI (a b : Int) : Int := opI (Ieee.double.add a.toNat b.toNat)

theorem write_num (s : Bool) (m : Nat) (e : Int) : Ieee.double.write (.number s m e) = wordOf s (rung m e) := nearest_eq s m e
theorem write_inf (s : Bool) : Ieee.double.write (.infinity s) = wordOf s 9218868437227405312 := by
  show Ieee.double.word s _ = _
  rw [word_eq, d_inf]

theorem opI_none : opI none = 9221120237041090560 := rfl
theorem opI_some (n : Nat) : opI (some n) = n := rfl

/-- a number and a zero -/
theorem total_zero (s : Bool) (m : Nat) (e : Int) (he : -1074 ≤ e) (h0 : 0 < m) (t : Bool) :
    wordOf (if Ieee.signed s m (e - -1074).toNat + Ieee.signed t 0 (-1074 - -1074 : Int).toNat = 0 then s && t else decide (Ieee.signed s m (e - -1074).toNat + Ieee.signed t 0 (-1074 - -1074 : Int).toNat < 0))
      (rung (Ieee.signed s m (e - -1074).toNat + Ieee.signed t 0 (-1074 - -1074 : Int).toNat).natAbs (-1074)) = wordOf s (rung m e) := by
  have hz : Ieee.signed t 0 (-1074 - -1074 : Int).toNat = 0 := by rw [signed_eq]; cases t <;> simp
  rw [hz, Int.add_zero, signed_eq]
  obtain ⟨u, hu⟩ : ∃ u : Nat, e = -1074 + u := ⟨(e + 1074).toNat, by omega⟩
  subst hu
  rw [show (-1074 + (u : Int) - -1074).toNat = u from by omega]
  have hp : 0 < m * 2 ^ u := Nat.mul_pos h0 (Nat.two_pow_pos u)
  cases s
  · simp only [Bool.false_eq_true, if_false]
    rw [if_neg (by omega), decide_eq_false (by omega), Int.natAbs_natCast, rung_scale]
  · simp only [if_true]
    rw [if_neg (by omega), decide_eq_true (by omega), Int.natAbs_neg, Int.natAbs_natCast, rung_scale]

theorem sum_comm (x y : Ieee.Datum) : x.sum y = y.sum x := by
  cases x <;> cases y <;> simp only [Ieee.Datum.sum]
  · rename_i s m i t n j
    rw [Int.min_comm j i, Int.add_comm, Bool.and_comm]
  · rename_i s t
    by_cases h : s = t
    · subst h; rfl
    · rw [if_neg h, if_neg (fun e => h e.symm)]

theorem add_comm (a b : Nat) : Ieee.double.add a b = Ieee.double.add b a := by
  unfold Ieee.Format.add; rw [sum_comm]

theorem addI_comm (a b : Int) : addI a b = addI b a := by unfold addI; rw [add_comm]

theorem addI_nan (a b : Int) (h0 : 0 ≤ a) (h1 : a < 18446744073709551616) (k : kindI a = 3) : addI a b = 9221120237041090560 := by
  unfold addI Ieee.Format.add
  rw [read_nan a h0 h1 k]
  rfl

theorem addI_inf_ne (a b : Int) (h0 : 0 ≤ a) (h1 : a < 18446744073709551616) (h2 : 0 ≤ b) (h3 : b < 18446744073709551616) (k : kindI a = 2) (l : kindI b = 2) (hs : sgnI a ≠ sgnI b) : addI a b = 9221120237041090560 := by
  unfold addI Ieee.Format.add
  rw [(read_inf a h0 h1 k).1, (read_inf b h2 h3 l).1]
  rw [sgn_sb a h0 h1, sgn_sb b h2 h3] at hs
  simp only [Ieee.Datum.sum]
  rw [if_neg (fun e => hs ((sb_inj _ _).2 e))]
  rfl

theorem addI_inf (a b : Int) (h0 : 0 ≤ a) (h1 : a < 18446744073709551616) (h2 : 0 ≤ b) (h3 : b < 18446744073709551616) (k : kindI a = 2) (l : kindI b ≠ 3) (hs : kindI b = 2 → sgnI a = sgnI b) : addI a b = a := by
  unfold addI Ieee.Format.add
  obtain ⟨ra, ea⟩ := read_inf a h0 h1 k
  rw [ra]
  have key : ((Ieee.Datum.infinity (negB a.toNat)).sum (Ieee.double.read b.toNat)) = some (.infinity (negB a.toNat)) := by
    rcases kind_cases b with c | c | c | c
    · rw [(read_zero b h2 h3 c).1]; rfl
    · rw [(read_fin b h2 h3 c).1]; rfl
    · rw [(read_inf b h2 h3 c).1]
      have := hs c
      rw [sgn_sb a h0 h1, sgn_sb b h2 h3] at this
      simp only [Ieee.Datum.sum]
      rw [if_pos ((sb_inj _ _).1 this)]
    · exact absurd c l
  rw [key, Option.map_some, write_inf, opI_some, word_int]
  omega

theorem addI_00 (a b : Int) (h0 : 0 ≤ a) (h1 : a < 18446744073709551616) (h2 : 0 ≤ b) (h3 : b < 18446744073709551616) (k : kindI a = 0) (l : kindI b = 0) : addI a b = bits .and .u64 a b := by
  unfold addI Ieee.Format.add
  obtain ⟨ra, ea⟩ := read_zero a h0 h1 k
  obtain ⟨rb, eb⟩ := read_zero b h2 h3 l
  rw [ra, rb, u64_and a b h0 h1 h2 h3]
  generalize negB a.toNat = s at *
  generalize negB b.toNat = t at *
  rw [ea, eb]
  cases s <;> cases t <;> decide +kernel

theorem addI_z (a b : Int) (h0 : 0 ≤ a) (h1 : a < 18446744073709551616) (h2 : 0 ≤ b) (h3 : b < 18446744073709551616) (k : kindI a = 1) (l : kindI b = 0) : addI a b = a := by
  unfold addI Ieee.Format.add
  obtain ⟨ra, fa, ea⟩ := read_fin a h0 h1 k
  obtain ⟨rb, eb⟩ := read_zero b h2 h3 l
  rw [ra, rb]
  simp only [Ieee.Datum.sum]
  rw [Option.map_some, write_num, opI_some, Int.min_eq_right fa.lo, total_zero _ _ _ fa.lo (by have := fa.pos; omega), word_int]
  exact ea.symm

theorem addI_11 (a b : Int) (h0 : 0 ≤ a) (h1 : a < 18446744073709551616) (h2 : 0 ≤ b) (h3 : b < 18446744073709551616) (k : kindI a = 1) (l : kindI b = 1) :
    addI a b = sumI (sgnI a) (manI a) (expI a) (sgnI b) (manI b) (expI b) := by
  unfold addI Ieee.Format.add
  obtain ⟨ra, fa, _⟩ := read_fin a h0 h1 k
  obtain ⟨rb, fb, _⟩ := read_fin b h2 h3 l
  rw [ra, rb, sgn_sb a h0 h1, sgn_sb b h2 h3]
  simp only [Ieee.Datum.sum]
  rw [Option.map_some, write_num, opI_some]
  unfold sumI
  by_cases c : expI a < expI b
  · rw [if_pos c, Int.min_eq_left (by omega)]
    rw [sumOrd_eq _ _ _ _ _ _ (by omega) fb fa _ rfl]
    rw [show (expI a - expI a).toNat = 0 from by omega, Int.add_comm, Bool.and_comm]
  · rw [if_neg c, Int.min_eq_right (by omega)]
    rw [sumOrd_eq _ _ _ _ _ _ (by omega) fa fb _ rfl]
    rw [show (expI b - expI b).toNat = 0 from by omega]

end Go.Proofs.Ytfhdmglfpkmjbaa
