/- The tied card of NumtextWholes: whole numbers are written as their digits, base ten, and read; and read base sixteen. -/
import Derived.Test.YtpejebohekcfoabGreatDoorW14
import Derived.Test.YtpejebohekcfoabGreatDoorW25
import Derived.Test.YtpejebohekcfoabGreatDoorMN
import Derived.Test.YtpejebohekcfoabGreatDoorBB
import Derived.Lib.ItoaMem
import Derived.Lib.LaidTab
import Derived.Below
import Derived.Test.YtpejebohekcfoabGreatDoorKA
import Derived.Test.YtpejebohekcfoabGreatDoorP2
import Derived.Test.YtpejebohekcfoabGreatDoorCards
import Derived.Test.YtpejebohekcfoabGreatDoorTie
import Derived.WalkKit
import Derived.ProofKit
import Derived.OpenShut
import Derived.ChangeOld
import Derived.Carry
import Derived.LaidMore
import Derived.Lay
import Derived.SevenTiedAt
import Derived.Stop.Joined
/- What follows of sums and products: order, signs, one, and that they don't fall. -/
namespace Go.Proofs.YtpejebohekcfoabGreatDoor
open Go.RowKit
set_option linter.unusedVariables false

theorem rung_nought15 (e : Int) : rung 0 e = 0 := by simp [rung]

/-- the rung of a signed number at place p, with its sign -/
def srp (p T : Int) : Int := if T < 0 then -((rung T.natAbs p : Nat) : Int) else ((rung T.natAbs p : Nat) : Int)

theorem srp_mono (p : Int) {T U : Int} (h : T ≤ U) : srp p T ≤ srp p U := by
  unfold srp
  by_cases c1 : T < 0
  · rw [if_pos c1]
    by_cases c2 : U < 0
    · rw [if_pos c2]
      have := rung_mono p (show U.natAbs ≤ T.natAbs by omega)
      omega
    · rw [if_neg c2]; omega
  · rw [if_neg c1, if_neg (by omega)]
    have := rung_mono p (show T.natAbs ≤ U.natAbs by omega)
    omega

theorem srp_bd (p T : Int) : -9218868437227405312 ≤ srp p T ∧ srp p T ≤ 9218868437227405312 := by
  have := rung_le T.natAbs p
  unfold srp; split <;> omega

theorem rank_word (s : Bool) (r : Nat) (h : r ≤ 9218868437227405312) : rankI ((wordOf s r : Nat) : Int) = if s then -(r : Int) else r := by
  unfold rankI wordOf
  cases s
  · simp only [Bool.false_eq_true, if_false]
    rw [if_pos (by omega)]
  · simp only [if_true]
    rw [if_neg (by omega)]; omega

theorem kind_of_rank (a : Int) (h0 : 0 ≤ a) (h1 : a < 18446744073709551616) (h : -9218868437227405312 ≤ rankI a ∧ rankI a ≤ 9218868437227405312) : kindI a ≠ 3 := by
  intro k
  have := (kind_fld a h0 h1).2.2.1 k
  omega

theorem opI_bd (o : Option Nat) (h : ∀ r, o = some r → r < 18446744073709551616) : 0 ≤ opI o ∧ opI o < 18446744073709551616 := by
  cases o with
  | none => exact ⟨by decide, by decide⟩
  | some r => have := h r rfl; rw [opI_some]; omega

theorem addI_bd (a b : Int) : 0 ≤ addI a b ∧ addI a b < 18446744073709551616 := opI_bd _ fun _ h => Ieee.double.add_lt h

theorem subI_bd (a b : Int) : 0 ≤ subI a b ∧ subI a b < 18446744073709551616 := opI_bd _ fun _ h => Ieee.double.sub_lt h

theorem natAbs_scale (T : Int) (k : Nat) : (T * 2 ^ k).natAbs = T.natAbs * 2 ^ k := by
  rw [Int.natAbs_mul, Int.natAbs_pow]; rfl

theorem srp_scale (p T : Int) (k : Nat) : srp p (T * 2 ^ k) = srp (p + k) T := by
  have pk : (0 : Int) < 2 ^ k := Int.pow_pos (by decide)
  unfold srp
  rw [natAbs_scale, rung_scale]
  have : T * 2 ^ k < 0 ↔ T < 0 := by
    constructor
    · intro h
      by_cases c : T < 0
      · exact c
      · have := Int.mul_nonneg (show 0 ≤ T by omega) (by omega : (0 : Int) ≤ 2 ^ k); omega
    · intro h; exact Int.mul_neg_of_neg_of_pos h pk
  simp only [this]

theorem rank_of_total (neg : Bool) (T p : Int) (h : T ≠ 0 → neg = decide (T < 0)) : rankI ((wordOf neg (rung T.natAbs p) : Nat) : Int) = srp p T := by
  rw [rank_word _ _ (rung_le _ _)]
  by_cases c : T = 0
  · subst c
    have : rung (0 : Int).natAbs p = 0 := rung_nought15 p
    unfold srp
    rw [this]
    cases neg <;> simp
  · rw [h c]
    unfold srp
    by_cases c2 : T < 0
    · rw [if_pos c2, decide_eq_true c2, if_pos rfl]
    · rw [if_neg c2, decide_eq_false c2, if_neg (by simp)]

theorem rank_add (a c : Int) (h0 : 0 ≤ a) (h1 : a < 18446744073709551616) (h2 : 0 ≤ c) (h3 : c < 18446744073709551616) (ka : kindI a < 2) (kc : kindI c < 2) :
    rankI (addI a c) = srp (-1074) (valI a + valI c) := by
  obtain ⟨s, m, i, ra, hi, va⟩ := read_val a h0 h1 ka
  obtain ⟨t, n, j, rc, hj, vc⟩ := read_val c h2 h3 kc
  unfold addI Ieee.Format.add
  rw [ra, rc]
  simp only [Ieee.Datum.sum]
  rw [Option.map_some, write_num, opI_some]
  obtain ⟨k, hk⟩ : ∃ k : Nat, min i j = -1074 + k := ⟨(min i j + 1074).toNat, by omega⟩
  have e1 : valI a = Ieee.signed s m (i - min i j).toNat * 2 ^ k := by rw [← va, ← signed_scale]; congr 1; omega
  have e2 : valI c = Ieee.signed t n (j - min i j).toNat * 2 ^ k := by rw [← vc, ← signed_scale]; congr 1; omega
  rw [e1, e2, ← Int.add_mul, srp_scale, ← hk]
  apply rank_of_total
  intro hne
  rw [if_neg hne]

theorem signed_mul (s t : Bool) (m n u v : Nat) : Ieee.signed s m u * Ieee.signed t n v = Ieee.signed (s ^^ t) (m * n) (u + v) := by
  rw [signed_eq, signed_eq, signed_eq]
  have e : ((m * n * 2 ^ (u + v) : Nat) : Int) = ((m * 2 ^ u : Nat) : Int) * ((n * 2 ^ v : Nat) : Int) := by
    rw [← Int.natCast_mul]; congr 1; rw [Nat.pow_add]; grind
  rw [e]
  generalize ((m * 2 ^ u : Nat) : Int) = x
  generalize ((n * 2 ^ v : Nat) : Int) = y
  cases s <;> cases t <;> simp [Int.neg_mul, Int.mul_neg]

theorem signed_abs (s : Bool) (m u : Nat) : (Ieee.signed s m u).natAbs = m * 2 ^ u := by
  rw [signed_eq]; cases s
  · simp only [Bool.false_eq_true, if_false]; exact Int.natAbs_natCast _
  · simp only [if_true]; rw [Int.natAbs_neg]; exact Int.natAbs_natCast _

theorem rank_bd (a : Int) (h0 : 0 ≤ a) (h1 : a < 18446744073709551616) (k : kindI a ≠ 3) : -9218868437227405312 ≤ rankI a ∧ rankI a ≤ 9218868437227405312 := by
  have K := (kind_fld a h0 h1).2.2
  constructor
  · by_cases c : rankI a < -9218868437227405312
    · exact absurd (K.2 (Or.inr c)) k
    · omega
  · by_cases c : 9218868437227405312 < rankI a
    · exact absurd (K.2 (Or.inl c)) k
    · omega

theorem less_iff (a b : Int) : lessI a b = true ↔ kindI a ≠ 3 ∧ kindI b ≠ 3 ∧ rankI a < rankI b := by
  unfold lessI; simp [and_assoc]

/-- neither sums nor products fall where one part rises -/
theorem add_rises (a b c : Int) (h0 : 0 ≤ a) (h1 : a < 18446744073709551616) (h2 : 0 ≤ b) (h3 : b < 18446744073709551616) (h4 : 0 ≤ c) (h5 : c < 18446744073709551616) (hl : lessI a b = true) (kc : kindI c < 2) :
    lessI (addI b c) (addI a c) = false := by
  obtain ⟨ka, kb, hr⟩ := (less_iff a b).1 hl
  have Ra := rank_bd a h0 h1 ka
  have Rb := rank_bd b h2 h3 kb
  cases hh : lessI (addI b c) (addI a c) with
  | false => rfl
  | true =>
    exfalso
    obtain ⟨l1, l2, l3⟩ := (less_iff _ _).1 hh
    have S1 := rank_bd _ (addI_bd b c).1 (addI_bd b c).2 l1
    have S2 := rank_bd _ (addI_bd a c).1 (addI_bd a c).2 l2
    by_cases ka2 : kindI a = 2
    · have e := addI_inf a c h0 h1 h4 h5 ka2 (by omega) (fun h => by omega)
      rw [e] at l3 S2
      have := (kind_fld a h0 h1).2.1.1 ka2
      omega
    · by_cases kb2 : kindI b = 2
      · have e := addI_inf b c h2 h3 h4 h5 kb2 (by omega) (fun h => by omega)
        rw [e] at l3 S1
        have := (kind_fld b h2 h3).2.1.1 kb2
        omega
      · have ka1 : kindI a < 2 := by rcases kind_cases a with d | d | d | d <;> omega
        have kb1 : kindI b < 2 := by rcases kind_cases b with d | d | d | d <;> omega
        rw [rank_add b c h2 h3 h4 h5 kb1 kc, rank_add a c h0 h1 h4 h5 ka1 kc] at l3
        have hv := (val_rank a b h0 h2).1.2 hr
        have := srp_mono (-1074) (show valI a + valI c ≤ valI b + valI c by omega)
        omega

theorem flip_flip (a : Int) (h0 : 0 ≤ a) (h1 : a < 18446744073709551616) : flipI (flipI a) = a := by unfold flipI; omega

theorem neg_neg (a : Int) (h0 : 0 ≤ a) (h1 : a < 18446744073709551616) (k : kindI a ≠ 3) : negI (negI a) = a := by
  have e : negI a = flipI a := by unfold negI; rw [if_neg k]; rfl
  have k2 : kindI (flipI a) ≠ 3 := by rw [kind_flip a h0 h1]; exact k
  have e2 : negI (flipI a) = flipI (flipI a) := by unfold negI; rw [if_neg k2]; rfl
  rw [e, e2, flip_flip a h0 h1]

theorem negI_bd (a : Int) : 0 ≤ negI a ∧ negI a < 18446744073709551616 := by
  unfold negI; split <;> omega

theorem one_parts : kindI 4607182418800017408 = 1 ∧ manI 4607182418800017408 = 4503599627370496 ∧ expI 4607182418800017408 = -52 ∧ negB (4607182418800017408 : Int).toNat = false := by decide +kernel

theorem quo_one (m : Nat) (hm : 0 < m) (hm1 : m < 9007199254740992) (i : Int) :
    rung (quoN m 4503599627370496 (54 + (4503599627370496 : Nat).log2 - m.log2)) (i - -52 - ((54 + (4503599627370496 : Nat).log2 - m.log2 : Nat) : Int) - 1) = rung m i := by
  have l52 : (4503599627370496 : Nat).log2 = 52 := by decide +kernel
  have lm : m.log2 ≤ 52 := by have := (Nat.log2_lt (by omega)).2 (show m < 2 ^ 53 from hm1); omega
  rw [l52]
  obtain ⟨t, ht⟩ : ∃ t, 54 + 52 - m.log2 = 52 + t := ⟨54 - m.log2, by omega⟩
  rw [ht]
  unfold quoN
  have e : m * 2 ^ (52 + t) = m * 2 ^ t * 4503599627370496 := by
    rw [Nat.pow_add, show (2 : Nat) ^ 52 = 4503599627370496 from rfl]; grind
  rw [e, Nat.mul_div_cancel _ (by decide), Nat.mul_mod_left, if_pos rfl, Nat.add_zero]
  have e2 : 2 * (m * 2 ^ t) = m * 2 ^ (t + 1) := by rw [Nat.pow_succ]; grind
  rw [e2, rung_scale]
  congr 1
  omega

theorem kind_zero : kindI 0 = 0 := by decide +kernel

theorem sub_zero_left (a : Int) (h0 : 0 ≤ a) (h1 : a < 18446744073709551616) (k : kindI a ≠ 3) : subI 0 a = if kindI a = 0 then 0 else flipI a := by
  rw [← sub_flip 0 a h0 h1, addI_comm]
  obtain ⟨f0, f1⟩ := flip_bd a
  have kf := kind_flip a h0 h1
  rcases kind_cases a with c | c | c | c
  · rw [if_pos c, addI_00 (flipI a) 0 f0 f1 (by omega) (by omega) (by rw [kf]; exact c) kind_zero, u64_and _ _ f0 f1 (by omega) (by omega)]
    simp
  · rw [if_neg (by omega), addI_z (flipI a) 0 f0 f1 (by omega) (by omega) (by rw [kf]; exact c) kind_zero]
  · rw [if_neg (by omega), addI_inf (flipI a) 0 f0 f1 (by omega) (by omega) (by rw [kf]; exact c) (by rw [kind_zero]; decide) (fun h => by rw [kind_zero] at h; cases h)]
  · exact absurd c k

theorem sub_twice (a : Int) (h0 : 0 ≤ a) (h1 : a < 18446744073709551616) (k : kindI a ≠ 3) : subI 0 (subI 0 a) = addI a 0 := by
  obtain ⟨f0, f1⟩ := flip_bd a
  have kf := kind_flip a h0 h1
  rw [sub_zero_left a h0 h1 k]
  rcases kind_cases a with c | c | c | c
  · rw [if_pos c, addI_00 a 0 h0 h1 (by omega) (by omega) c kind_zero, u64_and _ _ h0 h1 (by omega) (by omega)]
    have : subI 0 0 = 0 := by decide +kernel
    rw [this]; simp
  · rw [if_neg (by omega), sub_zero_left (flipI a) f0 f1 (by rw [kf]; exact k), if_neg (by rw [kf]; omega), flip_flip a h0 h1, addI_z a 0 h0 h1 (by omega) (by omega) c kind_zero]
  · rw [if_neg (by omega), sub_zero_left (flipI a) f0 f1 (by rw [kf]; exact k), if_neg (by rw [kf]; omega), flip_flip a h0 h1, addI_inf a 0 h0 h1 (by omega) (by omega) c (by rw [kind_zero]; decide) (fun h => by rw [kind_zero] at h; cases h)]
  · exact absurd c k

theorem sub_self (a : Int) (h0 : 0 ≤ a) (h1 : a < 18446744073709551616) (k : kindI a < 2) : subI a a = 0 := by
  obtain ⟨s, m, e, ra, _, _⟩ := read_val a h0 h1 k
  unfold subI Ieee.Format.sub
  rw [ra]
  simp only [Ieee.Datum.opposite, Ieee.Datum.sum]
  have z : Ieee.signed s m (e - min e e).toNat + Ieee.signed (!s) m (e - min e e).toNat = 0 := by
    rw [signed_eq, signed_eq]
    cases s <;> simp <;> omega
  rw [Option.map_some, write_num, opI_some, word_int, z, if_pos rfl]
  have : (s && !s) = false := by cases s <;> rfl
  rw [this]
  have r0 : rung (0 : Int).natAbs (min e e) = 0 := rung_nought15 _
  rw [r0]; rfl

theorem remC_bd (a b : Int) (h0 : 0 ≤ a) (h1 : a < 18446744073709551616) : 0 ≤ remC a b ∧ remC a b < 18446744073709551616 := by
  unfold remC
  split
  · omega
  · split
    · exact ⟨h0, h1⟩
    · unfold roundI
      have := rung_le (modI (manI a) (expI a - expI b) (manI b)).toNat (expI b)
      rcases sgn_cases a h1 with c | c <;> rw [c] <;> omega

theorem rem_self (a : Int) (h0 : 0 ≤ a) (h1 : a < 18446744073709551616) (k : kindI a = 1) : equalI (remC a a) 0 = true := by
  obtain ⟨_, fa, _⟩ := read_fin a h0 h1 k
  have e : remC a a = sgnI a := by
    unfold remC
    rw [if_neg (by omega), if_neg (by omega)]
    have z : modI (manI a) (expI a - expI a) (manI a) = 0 := by
      unfold modI
      rw [show expI a - expI a = 0 from by omega]
      simp
    rw [z]
    unfold roundI
    have r0 : rung (0 : Int).toNat (expI a) = 0 := rung_nought15 _
    rw [r0]; simp
  rw [e]
  rcases sgn_cases a h1 with c | c <;> rw [c] <;> decide +kernel

theorem equal_zero (a : Int) (h0 : 0 ≤ a) (h1 : a < 18446744073709551616) (k : kindI a < 2) : equalI a 0 = (kindI a == 0) := by
  rcases kind_cases a with c | c | c | c
  · have := (read_zero a h0 h1 c).2
    rw [c, this]
    cases negB a.toNat <;> decide +kernel
  · rw [c]
    obtain ⟨_, fa, ea⟩ := read_fin a h0 h1 c
    unfold equalI
    rw [c, kind_zero]
    have r0 : rankI 0 = 0 := rfl
    rw [r0]
    have hne : rankI a ≠ 0 := by
      intro h
      have e := (val_rank a 0 h0 (by omega)).2.2 (by rw [r0]; exact h)
      have hm : a = 0 ∨ a = 9223372036854775808 := by unfold rankI at h; split at h <;> omega
      rcases hm with hm | hm <;> rw [hm] at c <;> revert c <;> decide +kernel
    simp [hne]
  · omega
  · omega

end Go.Proofs.YtpejebohekcfoabGreatDoor
/- What follows of whole numbers: plain, nothing of the program. -/
namespace Go.Proofs.YtpejebohekcfoabGreatDoor
open Go.RowKit
set_option linter.unusedVariables false

/-- one, in units of the smallest number -/
def unitE : Nat := 1074
theorem ue : unitE = 1074 := rfl
def unit : Int := 2 ^ unitE
theorem unit_pos : 0 < unit := by unfold unit; exact Int.pow_pos (by decide)

theorem srp_unit (n : Int) : srp (-1074) (n * unit) = srp 0 n := by
  unfold unit
  rw [srp_scale, show -1074 + ((unitE : Nat) : Int) = 0 from by have := ue; omega]

theorem srp_val (a : Int) (h0 : 0 ≤ a) (h1 : a < 18446744073709551616) (k : kindI a < 2) : srp (-1074) (valI a) = rankI a := by
  rcases kind_cases a with c | c | c | c
  · obtain ⟨_, e⟩ := read_zero a h0 h1 c
    have r : rankI a = 0 := by rw [e]; cases negB a.toNat <;> rfl
    have v : valI a = 0 := by rw [val_of_rank a h0, r]; rfl
    rw [v, r]
    unfold srp
    rw [if_neg (by decide), show (0 : Int).natAbs = 0 from rfl, rung_nought15]
    rfl
  · obtain ⟨_, f, e⟩ := read_fin a h0 h1 c
    have f3 := f.lo
    have v := val_parts a h0 h1 c
    have rl := rung_le (manI a).toNat (expI a)
    have sc := rung_scale (manI a).toNat (expI a + 1074).toNat (-1074)
    rw [show -1074 + (((expI a + 1074).toNat : Nat) : Int) = expI a from by omega] at sc
    have f1 := f.pos
    have pos : 0 < (manI a).toNat * 2 ^ (expI a + 1074).toNat := Nat.mul_pos (by omega) (Nat.two_pow_pos _)
    generalize (manI a).toNat * 2 ^ (expI a + 1074).toNat = z at *
    generalize rung (manI a).toNat (expI a) = R at *
    unfold srp
    rw [v]
    generalize negB a.toNat = s at *
    cases s
    · simp only [Bool.false_eq_true, if_false]
      rw [if_neg (by omega), Int.natAbs_natCast, sc]
      have e' : a = (R : Int) := by rw [e]; simp [sb]
      unfold rankI
      rw [if_pos (by omega)]
      exact e'.symm
    · simp only [if_true]
      rw [if_pos (by omega), Int.natAbs_neg, Int.natAbs_natCast, sc]
      have e' : a = 9223372036854775808 + (R : Int) := by rw [e]; simp [sb]
      unfold rankI
      rw [if_neg (by omega)]
      omega
  · omega
  · omega

theorem val_flip (c : Int) (h0 : 0 ≤ c) (h1 : c < 18446744073709551616) : valI (flipI c) = -valI c := by
  unfold flipI valI
  by_cases d : c < 9223372036854775808
  · rw [if_pos d, if_neg (by omega), show ((c + 9223372036854775808) % 18446744073709551616 - 9223372036854775808).toNat = c.toNat from by omega]
  · rw [if_neg d, if_pos (by omega), show ((c + 9223372036854775808) % 18446744073709551616).toNat = (c - 9223372036854775808).toNat from by omega]
    omega

theorem kind_flip' (a : Int) (h0 : 0 ≤ a) (h1 : a < 18446744073709551616) : kindI (flipI a) = kindI a :=
  kind_mod a _ h0 h1 (by unfold flipI; omega) (flip_bd a).1

theorem rank_sub (a c : Int) (h0 : 0 ≤ a) (h1 : a < 18446744073709551616) (h2 : 0 ≤ c) (h3 : c < 18446744073709551616) (ka : kindI a < 2) (kc : kindI c < 2) :
    rankI (subI a c) = srp (-1074) (valI a - valI c) := by
  rw [← sub_flip a c h2 h3, rank_add a (flipI c) h0 h1 (flip_bd c).1 (flip_bd c).2 ka (by rw [kind_flip' c h2 h3]; exact kc), val_flip c h2 h3]
  rfl

/-- a finite word's kind, by its rank -/
theorem kind_rank (a : Int) (h0 : 0 ≤ a) (h1 : a < 18446744073709551616) (r0 : -9218868437227405312 < rankI a) (r1 : rankI a < 9218868437227405312) : kindI a < 2 :=
  (kind_fld a h0 h1).1.2 ⟨r1, r0⟩

theorem rung_whole_lt (n : Nat) (h : n < 9007199254740992) : rung n 0 < 9218868437227405312 := by
  have a := rung_mono 0 (show n ≤ 9007199254740992 by omega)
  have b : rung 9007199254740992 0 = 4845873199050653696 := by decide +kernel
  omega

theorem from_bd (n : Int) (n0 : -9007199254740992 < n) (n1 : n < 9007199254740992) : 0 ≤ fromI n ∧ fromI n < 18446744073709551616 := by
  unfold fromI
  split
  · have := rung_whole_lt (-n).toNat (by omega); omega
  · have := rung_whole_lt n.toNat (by omega); omega

theorem from_rank (n : Int) (n0 : -9007199254740992 < n) (n1 : n < 9007199254740992) : rankI (fromI n) = srp 0 n := by
  unfold fromI srp rankI
  by_cases c : n < 0
  · have := rung_whole_lt (-n).toNat (by omega)
    rw [if_pos c, if_pos c, if_neg (by omega), show n.natAbs = (-n).toNat from by omega]
    omega
  · have := rung_whole_lt n.toNat (by omega)
    rw [if_neg c, if_neg c, if_pos (by omega), show n.natAbs = n.toNat from by omega]

theorem from_kind (n : Int) (n0 : -9007199254740992 < n) (n1 : n < 9007199254740992) : kindI (fromI n) < 2 := by
  obtain ⟨b0, b1⟩ := from_bd n n0 n1
  have r := from_rank n n0 n1
  refine kind_rank _ b0 b1 ?_ ?_
  · rw [r]; unfold srp
    have := rung_whole_lt n.natAbs (by omega)
    split <;> omega
  · rw [r]; unfold srp
    have := rung_whole_lt n.natAbs (by omega)
    split <;> omega

theorem from_val (n : Int) (n0 : -9007199254740992 < n) (n1 : n < 9007199254740992) : valI (fromI n) = n * unit := by
  obtain ⟨b0, b1⟩ := from_bd n n0 n1
  rw [val_of_rank _ b0, from_rank n n0 n1]
  have v := val_rung n.natAbs 0 (by omega) (by omega) (by omega)
  rw [show ((0 : Int) + 1074).toNat = unitE from by have := ue; omega] at v
  have e : ((n.natAbs * 2 ^ unitE : Nat) : Int) = (n.natAbs : Int) * unit := by
    unfold unit
    rw [Int.natCast_mul, Int.natCast_pow]
    rfl
  have p := unit_pos
  have pos : n ≠ 0 → 0 < rung n.natAbs 0 := by
    intro hn
    refine Nat.pos_of_ne_zero fun h => ?_
    rw [h, valN_low 0 (by decide)] at v
    have := Nat.mul_pos (show 0 < n.natAbs by omega) (Nat.two_pow_pos unitE)
    omega
  unfold valR srp
  by_cases c : n < 0
  · have := pos (by omega)
    rw [if_pos c, if_pos (by omega), show (- -((rung n.natAbs 0 : Nat) : Int)).toNat = rung n.natAbs 0 from by omega, v, e, ← Int.neg_mul, show -(n.natAbs : Int) = n from by omega]
  · rw [if_neg c, if_neg (by omega), Int.toNat_natCast, v, e, show (n.natAbs : Int) = n from by omega]

theorem from_rank_ne (n : Int) (n0 : -9007199254740992 < n) (n1 : n < 9007199254740992) (h : n ≠ 0) : rankI (fromI n) ≠ 0 := by
  obtain ⟨b0, b1⟩ := from_bd n n0 n1
  intro r
  have v := from_val n n0 n1
  rw [val_of_rank _ b0, r] at v
  have z : valR 0 = 0 := rfl
  rw [z] at v
  have p := unit_pos
  rcases Int.mul_eq_zero.1 v.symm with h' | h'
  · exact h h'
  · omega

theorem from_kind1 (n : Int) (n0 : -9007199254740992 < n) (n1 : n < 9007199254740992) (h : n ≠ 0) : kindI (fromI n) = 1 := by
  obtain ⟨b0, b1⟩ := from_bd n n0 n1
  have k := from_kind n n0 n1
  rcases kind_cases (fromI n) with c | c | c | c
  · exfalso
    obtain ⟨_, e⟩ := read_zero _ b0 b1 c
    refine from_rank_ne n n0 n1 h ?_
    rw [e]
    cases negB (fromI n).toNat <;> rfl
  · exact c
  · omega
  · omega

theorem from_sgn (n : Int) (n0 : -9007199254740992 < n) (n1 : n < 9007199254740992) : sgnI (fromI n) = if n < 0 then 9223372036854775808 else 0 := by
  unfold fromI sgnI sgnN
  by_cases c : n < 0
  · have := rung_whole_lt (-n).toNat (by omega)
    rw [if_pos c, if_pos c]
    generalize rung (-n).toNat 0 = R at *
    omega
  · have := rung_whole_lt n.toNat (by omega)
    rw [if_neg c, if_neg c]
    generalize rung n.toNat 0 = R at *
    omega

/-- its parts: no more than 53 bits, and nothing behind the point -/
theorem from_parts (n : Int) (n0 : -9007199254740992 < n) (n1 : n < 9007199254740992) (h : n ≠ 0) : expI (fromI n) ≤ 0 ∧ sizeI (manI (fromI n)) (expI (fromI n)) = (n.natAbs : Int) := by
  obtain ⟨b0, b1⟩ := from_bd n n0 n1
  have k := from_kind1 n n0 n1 h
  have v := val_parts _ b0 b1 k
  rw [from_val n n0 n1] at v
  obtain ⟨_, f, _⟩ := read_fin _ b0 b1 k
  obtain ⟨f1, f2, f3, f4, f5⟩ := f
  have key : n.natAbs * 2 ^ unitE = (manI (fromI n)).toNat * 2 ^ (expI (fromI n) + 1074).toNat := by
    have a : (n * unit).natAbs = n.natAbs * 2 ^ unitE := by unfold unit; rw [natAbs_scale]
    rw [← a, v]
    split
    · rw [Int.natAbs_neg, Int.natAbs_natCast]
    · rw [Int.natAbs_natCast]
  generalize manI (fromI n) = m at *
  generalize expI (fromI n) = e at *
  clear v
  obtain ⟨M, rfl⟩ := Int.eq_ofNat_of_zero_le (show 0 ≤ m by omega)
  rw [Int.toNat_natCast] at key
  have le : e ≤ 0 := by
    refine Classical.byContradiction fun c => ?_
    have g := f5 (by omega)
    obtain ⟨d, hd⟩ : ∃ d : Nat, (e + 1074).toNat = unitE + 1 + d := ⟨(e - 1).toNat, by have := ue; omega⟩
    rw [hd, Nat.pow_add, Nat.pow_add, ← Nat.mul_assoc, ← Nat.mul_assoc, Nat.mul_right_comm M, Nat.mul_right_comm (M * 2 ^ 1)] at key
    have p := Nat.two_pow_pos unitE
    have q := Nat.two_pow_pos d
    have key' := Nat.eq_of_mul_eq_mul_right p key
    have : M * 2 ^ 1 * 1 ≤ M * 2 ^ 1 * 2 ^ d := Nat.mul_le_mul_left _ q
    omega
  refine ⟨le, ?_⟩
  obtain ⟨d, hd⟩ : ∃ d : Nat, e = -(d : Int) := ⟨(-e).toNat, by omega⟩
  subst hd
  have key2 : n.natAbs * 2 ^ d = M := by
    have s : unitE = d + (-(d : Int) + 1074).toNat := by have := ue; omega
    have key3 : n.natAbs * 2 ^ (d + (-(d : Int) + 1074).toNat) = M * 2 ^ (-(d : Int) + 1074).toNat := by rw [← s]; exact key
    rw [Nat.pow_add, ← Nat.mul_assoc] at key3
    exact Nat.eq_of_mul_eq_mul_right (Nat.two_pow_pos _) key3
  clear key
  unfold sizeI
  by_cases c : -(d : Int) < 0
  · rw [if_pos c, show (- -(d : Int)).toNat = d from by omega, ← key2, Int.natCast_mul, Int.natCast_pow]
    exact Int.mul_ediv_cancel _ (Int.ne_of_gt (Int.pow_pos (by decide)))
  · have : d = 0 := by omega
    subst this
    rw [if_neg c, show (-((0 : Nat) : Int)).toNat = 0 from rfl]
    rw [Nat.pow_zero, Nat.mul_one] at key2
    omega

theorem from_trunc (n : Int) (n0 : -9007199254740992 < n) (n1 : n < 9007199254740992) : truncI (fromI n) = fromI n := by
  by_cases h : n = 0
  · subst h; decide +kernel
  · have k := from_kind1 n n0 n1 h
    obtain ⟨le, sz⟩ := from_parts n n0 n1 h
    unfold truncI
    rw [if_neg (by omega)]
    by_cases c : 0 ≤ expI (fromI n)
    · rw [if_pos (Or.inr c)]
    · rw [if_neg (by simp [k]; omega), sz, from_sgn n n0 n1]
      unfold roundI fromI
      rw [Int.toNat_natCast]
      by_cases d : n < 0
      · rw [if_pos d, if_pos d, show n.natAbs = (-n).toNat from by omega]
      · rw [if_neg d, if_neg d, show n.natAbs = n.toNat from by omega]
        omega

theorem from_ne (n : Int) (n0 : -9007199254740992 < n) (n1 : n < 9007199254740992) (h : n ≠ 0) : fromI n ≠ 0 := by
  intro e
  have := from_rank_ne n n0 n1 h
  rw [e] at this
  exact this rfl

theorem from_whole (n : Int) (n0 : -9007199254740992 < n) (n1 : n < 9007199254740992) : wholeI (fromI n) = (n, true) := by
  by_cases h : n = 0
  · subst h; decide +kernel
  · have k := from_kind1 n n0 n1 h
    obtain ⟨le, sz⟩ := from_parts n n0 n1 h
    unfold wholeI
    rw [if_neg (from_ne n n0 n1 h), if_neg (by simp [k, from_trunc n n0 n1]; omega), sz, from_sgn n n0 n1]
    by_cases d : n < 0
    · rw [if_pos d, if_neg (by decide), show -(n.natAbs : Int) = n from by omega]
    · rw [if_neg d, if_pos rfl, show (n.natAbs : Int) = n from by omega]

theorem from_u32 (n : Int) (n0 : -9007199254740992 < n) (n1 : n < 9007199254740992) : u32I (fromI n) = n % 4294967296 := by
  unfold u32I
  by_cases h : n = 0
  · subst h; decide +kernel
  · have k := from_kind1 n n0 n1 h
    obtain ⟨le, sz⟩ := from_parts n n0 n1 h
    rw [if_neg (by simp [k]), sz, from_sgn n n0 n1]
    by_cases d : n < 0
    · rw [if_pos d, if_neg (by decide), show -(n.natAbs : Int) = n from by omega]
    · rw [if_neg d, if_pos rfl, show (n.natAbs : Int) = n from by omega]
theorem nearest_word (n : Int) : FloatKind.f64.nearest n = wordOf (decide (n < 0)) (rung n.natAbs 0) := by
  have e : FloatKind.f64.nearest n = Ieee.double.nearest (decide (n < 0)) n.natAbs 0 := by
    unfold FloatKind.nearest FloatKind.encode Ieee.Format.write
    rfl
  rw [e, nearest_eq]

theorem from_nearest (n : Int) : fromI n = ((FloatKind.f64.nearest n : Nat) : Int) := by
  rw [nearest_word n, word_int]
  unfold fromI sb
  by_cases c : n < 0
  · rw [if_pos c, decide_eq_true c, if_pos rfl, show n.natAbs = (-n).toNat from by omega]
  · rw [if_neg c, decide_eq_false c, if_neg (by decide), show n.natAbs = n.toNat from by omega]
    omega

theorem of_float (n : Int) (w : World) :
    Calls Tryz.prog 4 #[.float .f64 (floatOfInt .f64 n)] w fun e w' => e = .returned (.int .u64 (fromI n)) ∧ w' = w := by
  have le := rung_le n.natAbs 0
  have e := nearest_word n
  have f := from_nearest n
  have fo : floatOfInt .f64 n = FloatKind.f64.nearest n := rfl
  rw [fo]
  have b : FloatKind.f64.nearest n < 18446744073709551616 := by rw [e]; unfold wordOf; split <;> omega
  have k : kindI ((FloatKind.f64.nearest n : Nat) : Int) ≠ 3 := by
    rw [e]
    refine kind_of_rank _ (by omega) (by rw [← e]; omega) ?_
    rw [rank_word _ _ le]
    split <;> omega
  have := of_any ((FloatKind.f64.nearest n : Nat) : Int) w (by omega) (by omega)
  rw [if_neg k, Int.toNat_natCast, ← f] at this
  exact this

theorem from_nat (n : Int) (h : 0 ≤ n) : fromI n = ((rung n.toNat 0 : Nat) : Int) := by unfold fromI; rw [if_neg (by omega)]

end Go.Proofs.YtpejebohekcfoabGreatDoor
/- FormatUint at base sixteen: the walk. -/
namespace Go.Proofs.YtpejebohekcfoabGreatDoor
open Go.RowKit
set_option linter.unusedVariables false

/-- a digit base sixteen, written -/
def hexc (d : Nat) : UInt8 := if d < 10 then UInt8.ofNat (48 + d) else UInt8.ofNat (87 + d)
/-- the last k digits of u base sixteen -/
def dl (u : Nat) : Nat → List UInt8
  | 0 => []
  | k + 1 => hexc (u / 16 ^ k % 16) :: dl u k

theorem dl_len (u k : Nat) : (dl u k).length = k := by
  induction k with
  | zero => rfl
  | succ k ih => simp [dl, ih]

/-- what lies at the place from which the number of noughts behind 16 is read -/
def Tz (w : World) : Prop := w.cell? ⟨3, 15, none⟩ = some (.int .u8 4)

theorem tz64 (w : World) (h : Tz w) : Calls Tryz.prog 96 #[.int .u64 16] w fun e w' => e = .returned (.int .i64 4) ∧ w' = w := by
  unfold Tz at h
  have e1 : bits .and .u64 16 (IntKind.u64.wrap (-16)) = 16 := by decide +kernel
  go_enter Tryz.func96, Tryz.ntmps96
  go_wp2
  go_ret
  exact ⟨rfl, rfl⟩

theorem tz_any (w : World) (h : Tz w) : Calls Tryz.prog 75 #[.int .u64 16] w fun e w' => e = .returned (.int .i64 4) ∧ w' = w := by
  have c := tz64 w h
  go_enter Tryz.func75, Tryz.ntmps75
  go_wp2_with (go_at_call 96; refine c.mono ?_; rintro e w1 ⟨rfl, rfl⟩)
  go_ret
  exact ⟨rfl, rfl⟩

theorem pow2_any (w : World) : Calls Tryz.prog 74 #[.int .i64 16] w fun e w' => e = .returned (.bool true) ∧ w' = w := by
  have e1 : bits .and .i64 16 15 = 0 := by decide +kernel
  go_enter Tryz.func74, Tryz.ntmps74
  go_wp2
  go_ret
  exact ⟨rfl, rfl⟩

def hexB : ByteArray := ⟨#[48, 49, 50, 51, 52, 53, 54, 55, 56, 57, 97, 98, 99, 100, 101, 102, 103, 104, 105, 106, 107, 108, 109, 110, 111, 112, 113, 114, 115, 116, 117, 118, 119, 120, 121, 122]⟩

theorem hexc_at (d : Nat) (h : d < hexB.size) (h16 : d < 16) : hexB[d] = hexc d := by
  have key : ∀ x : Fin 16, hexB.data.toList[x.1]? = some (hexc x.1) := by decide
  have := key ⟨d, h16⟩
  have a : hexB.data.toList[d]? = some hexB[d] := by rw [List.getElem?_eq_getElem (by exact h)]; rfl
  rw [a] at this
  exact Option.some.inj this

structure FB (w wr : World) (u k : Nat) : Prop where
  le : k ≤ 15
  row : ∃ cs : Array Value, wr.heap[w.heap.size]? = some (.cells cs 108 (0, 0)) ∧ cs.size = 65 ∧ ∀ j c, (dl u k)[j]? = some c → cs[65 - k + j]? = some (.int .u8 (c.toNat : Int))
  bel : Below w.heap.size w wr
  big : ∀ j, j < k → 16 ≤ u / 16 ^ j

def FBv (w wr : World) (u : Nat) (uv iv : Value) : Prop := ∃ k : Nat, uv = .int .u64 ((u / 16 ^ k : Nat) : Int) ∧ iv = .int .i64 (65 - (k : Int)) ∧ FB w wr u k

theorem fb_row (w wr : World) (u k d : Nat) (v : Value) (h : FB w wr u k) (hv : v = .int .u8 ((hexc d).toNat : Int)) :
    ∃ cs : Array Value, (wr.setCell ⟨w.heap.size, 65 - k - 1, none⟩ v).heap[w.heap.size]? = some (.cells cs 108 (0, 0)) ∧ cs.size = 65 ∧ ∀ j c, (hexc d :: dl u k)[j]? = some c → cs[65 - (k + 1) + j]? = some (.int .u8 (c.toNat : Int)) := by
  obtain ⟨cs, hrow, hsz, hcs⟩ := h.row
  have hle := h.le
  refine ⟨cs.setIfInBounds (65 - k - 1) v, heap_setCell_same wr w.heap.size (65 - k - 1) cs 108 v hrow, by rw [Array.size_setIfInBounds]; exact hsz, ?_⟩
  intro j c hj
  cases j with
  | zero =>
    simp only [List.getElem?_cons_zero, Option.some.injEq] at hj
    rw [show 65 - (k + 1) + 0 = 65 - k - 1 by omega, Array.getElem?_setIfInBounds, if_pos rfl, if_pos (by omega), hv, ← hj]
  | succ j =>
    simp only [List.getElem?_cons_succ] at hj
    have := hcs j c hj
    rw [show 65 - (k + 1) + (j + 1) = 65 - k + j by omega, ← this, Array.getElem?_setIfInBounds, if_neg (by omega)]

theorem fb_next (w wr : World) (u k : Nat) (v : Value) (h : FB w wr u k) (hk : k < 15) (hx : 16 ≤ u / 16 ^ k) (hv : v = .int .u8 ((hexc (u / 16 ^ k % 16)).toNat : Int)) :
    FB w (wr.setCell ⟨w.heap.size, 65 - k - 1, none⟩ v) u (k + 1) :=
  ⟨by omega, fb_row w wr u k _ v h hv, h.bel.setCell (Nat.le_refl _) _, fun j hj => by
    rcases Nat.lt_or_ge j k with z | z
    · exact h.big j z
    · obtain rfl : j = k := by omega
      exact hx⟩

theorem mask15 (n : Nat) (h : n < 18446744073709551616) : bits .and .u64 (n : Int) 15 = ((n % 16 : Nat) : Int) := by
  have a := bits_and_u64_nat n 15 h (by omega)
  have e : n &&& 15 = n % 16 := Nat.and_two_pow_sub_one_eq_mod n 4
  rw [e] at a
  exact a

set_option maxHeartbeats 4000000 in
set_option maxRecDepth 100000 in
theorem fbits_any (u : Nat) (hu : u < 18446744073709551616) (w : World) (h : Tz w) (h3 : 3 < w.heap.size) :
    Calls Tryz.prog 34 #[.slice none 0 0, .int .u64 (u : Int), .int .i64 16, .bool false, .bool false] w fun e w' => ∃ k, k ≤ 15 ∧ u / 16 ^ k < 16 ∧ (∀ j, j < k → 16 ≤ u / 16 ^ j) ∧ e = .returned (.tuple #[.slice none 0 0, .string ⟨(hexc (u / 16 ^ k) :: dl u k).toArray⟩]) ∧ Below w.heap.size w w' := by
  have c1 := fun w => pow2_any w
  have HU : Hid (u < 18446744073709551616) := hu
  have HUU : Hid (u < 16 ^ 16) := hu
  have hui : (u : Int) < 18446744073709551616 := by omega
  clear hu
  go_enter Tryz.func34, Tryz.ntmps34
  go_wp2_with (go_at_call 74; refine (c1 _).mono ?_; rintro e w1 ⟨rfl, rfl⟩)
  refine (tz_any _ (by
    unfold Tz at h ⊢
    rw [← h]
    exact Below.cell ((Below.refl w.heap.size w).alloc (Nat.le_refl _) _) (by show 3 < w.heap.size; exact h3))).mono ?_
  rintro e w1 ⟨rfl, rfl⟩
  go_wp2_with fail
  have H0 : Hid (FB w (w.alloc (.cells Tryz.zeroCells108 108)) u 0) := by
    refine ⟨by omega, ⟨Tryz.zeroCells108, ?_, rfl, fun j c hj => by simp [dl] at hj⟩, (Below.refl w.heap.size w).alloc (Nat.le_refl _) _, fun j hj => by omega⟩
    exact heap_alloc_new w _
  generalize w.alloc (.cells Tryz.zeroCells108 108) = w1 at *
  clear h h3 c1
  go_loopw [1, 13] (fun uv iv wr => FBv w wr u uv iv) (fun _ iv _ => (intOf iv).toNat)
  case atStart => exact ⟨0, by simp, rfl, H0.out⟩
  case round =>
    obtain ⟨k, rfl, rfl, hk⟩ := hrel
    obtain ⟨cs, hrow, hsz, hcs⟩ := hk.row
    have hle := hk.le
    have HB : Hid (FB w wr u k) := hk
    have HCS : Hid (∀ j c, (dl u k)[j]? = some c → cs[65 - k + j]? = some (.int .u8 (c.toNat : Int))) := hcs
    have HROW : Hid (wr.heap[w.heap.size]? = some (.cells cs 108 (0, 0))) := hrow
    clear hk hcs
    obtain ⟨x, hx⟩ : ∃ x : Nat, x = u / 16 ^ k := ⟨_, rfl⟩
    have HX : Hid (x = u / 16 ^ k) := hx
    have xb : x < 18446744073709551616 := by rw [hx]; exact Nat.lt_of_le_of_lt (Nat.div_le_self _ _) HU.out
    have m15 := mask15 x xb
    rw [← hx]
    clear hx
    by_cases c : 16 ≤ x
    · obtain ⟨v0, cell⟩ : ∃ v0, wr.cell? ⟨w.heap.size, 65 - k - 1, none⟩ = some v0 :=
        ⟨cs[65 - k - 1]'(by omega), by rw [cell_of_row wr w.heap.size (65 - k - 1) cs 108 (0, 0) HROW.out]; exact Array.getElem?_eq_getElem (by omega)⟩
      have fr : wr.frozen? ⟨w.heap.size, 65 - k - 1, none⟩ = false := frozen_of_row wr w.heap.size _ cs 108 HROW.out
      have ii : (65 - (k : Int) - 1) = ((65 - k - 1 : Nat) : Int) := by omega
      obtain ⟨I, hI⟩ : ∃ I : Nat, I = 65 - k - 1 := ⟨_, rfl⟩
      rw [← hI] at cell fr ii
      have I0 : I ≤ 64 := by omega
      obtain ⟨d, hd⟩ : ∃ d : Nat, d = x % 16 := ⟨_, rfl⟩
      rw [← hd] at m15
      have d16 : d < 16 := by omega
      obtain ⟨X, hX⟩ : ∃ X : Int, X = (x : Int) := ⟨_, rfl⟩
      have xi : (16 : Int) ≤ X := by omega
      have xi2 : X < 18446744073709551616 := by omega
      have HD : Hid (d = x % 16 ∧ X = (x : Int)) := ⟨hd, hX⟩
      have HI : Hid (I = 65 - k - 1) := hI
      obtain ⟨D, hD⟩ : ∃ D : Int, D = (d : Int) := ⟨_, rfl⟩
      have D0 : 0 ≤ D := by omega
      have D1 : D < 16 := by omega
      have HD2 : Hid (D = (d : Int)) := hD
      rw [← hX, ← hD] at m15
      rw [← hX]
      clear hd hI xb hrow hsz c hX hD d16 hui HU H0
      go_wp2_with fail
      obtain ⟨rfl, rfl⟩ := HD.out
      have e2 := HD2.out
      have e3 := HX.out
      have k15 : k < 15 := by
        have : 16 ≤ u / 16 ^ k := by rw [← e3]; omega
        rcases Nat.lt_or_ge k 15 with z | z
        · exact z
        · exfalso
          have kk : k = 15 := by omega
          subst kk
          have := HUU.out
          omega
      refine ⟨⟨k + 1, ?_, ?_, ?_⟩, ?_⟩
      · congr 1
        rw [Nat.pow_succ, ← Nat.div_div_eq_div_mul, ← e3]
        omega
      · have := HI.out
        congr 1
        omega
      · have a := HI.out
        subst a
        refine fb_next w wr u k _ HB.out k15 (by rw [← e3]; omega) ?_
        have hd : D.toNat = x % 16 := by omega
        have hb : D.toNat < hexB.size := by show D.toNat < 36; omega
        have := hexc_at D.toNat hb (by omega)
        show Value.int .u8 ((hexB[D.toNat]'hb).toNat : Int) = _
        rw [this, hd, ← e3]
      · have a := HI.out
        simp only [intOf]
        omega
    · obtain ⟨v0, cell⟩ : ∃ v0, wr.cell? ⟨w.heap.size, 65 - k - 1, none⟩ = some v0 :=
        ⟨cs[65 - k - 1]'(by omega), by rw [cell_of_row wr w.heap.size (65 - k - 1) cs 108 (0, 0) HROW.out]; exact Array.getElem?_eq_getElem (by omega)⟩
      have fr : wr.frozen? ⟨w.heap.size, 65 - k - 1, none⟩ = false := frozen_of_row wr w.heap.size _ cs 108 HROW.out
      have ii : (65 - (k : Int) - 1) = ((65 - k - 1 : Nat) : Int) := by omega
      have RW := fb_row w wr u k x (.int .u8 ((hexc x).toNat : Int)) HB.out rfl
      obtain ⟨I, hI⟩ : ∃ I : Nat, I = 65 - k - 1 := ⟨_, rfl⟩
      rw [← hI] at cell fr ii RW
      have I0 : I ≤ 64 := by omega
      have hal : Tryz.prog.arrayLen 108 = 65 := by simp [Program.arrayLen, Tryz.underlying108]
      have hsl : ∀ W, (Instr.sliceAt 108 (.pointer (some ⟨w.heap.size, 0, none⟩)) (some (.int .i64 (I : Int))) none none).run Tryz.prog W = .ok (.slice (some ⟨w.heap.size, I, none⟩) (k + 1) (k + 1)) W := fun W => by
        rw [run_sliceAt_array_l W 108 ⟨w.heap.size, 0, none⟩ (by simp [Program.arrayLen, Program.elem, Tryz.underlying108]) .i64 (I : Int) (by omega) (by rw [hal]; omega)]
        go_simp
        omega
      obtain ⟨X, hX⟩ : ∃ X : Int, X = (x : Int) := ⟨_, rfl⟩
      have xi : X < 16 := by omega
      have xi0 : 0 ≤ X := by omega
      have HD : Hid (X = (x : Int)) := hX
      have HI : Hid (I = 65 - k - 1) := hI
      have hv : ∀ hb, ((hexB[X.toNat]'hb).toNat : Int) = ((hexc x).toNat : Int) := by
        intro hb
        rw [hexc_at X.toNat hb (by omega), show X.toNat = x by omega]
      have HV : Hid (∀ hb, ((hexB[X.toNat]'hb).toNat : Int) = ((hexc x).toNat : Int)) := hv
      have HRW : Hid (∃ cs : Array Value, (wr.setCell ⟨w.heap.size, I, none⟩ (.int .u8 ((hexc x).toNat : Int))).heap[w.heap.size]? = some (.cells cs 108 (0, 0)) ∧ cs.size = 65 ∧ ∀ j c, (hexc x :: dl u k)[j]? = some c → cs[65 - (k + 1) + j]? = some (.int .u8 (c.toNat : Int))) := RW
      rw [← hX]
      clear hI hrow hsz c hX hui HU H0 xb m15 hv RW hal
      go_wp2_with fail
      have E : ∀ hb, (((⟨#[48, 49, 50, 51, 52, 53, 54, 55, 56, 57, 97, 98, 99, 100, 101, 102, 103, 104, 105, 106, 107, 108, 109, 110, 111, 112, 113, 114, 115, 116, 117, 118, 119, 120, 121, 122]⟩ : ByteArray)[X.toNat]'hb).toNat : Int) = ((hexc x).toNat : Int) := HV.out
      rw [E]
      clear E
      have hcv : (convert 55 9 (.slice (some ⟨w.heap.size, I, none⟩) (k + 1) (k + 1))).run Tryz.prog (wr.setCell ⟨w.heap.size, I, none⟩ (.int .u8 ((hexc x).toNat : Int))) = .ok (.string ⟨(hexc x :: dl u k).toArray⟩) (wr.setCell ⟨w.heap.size, I, none⟩ (.int .u8 ((hexc x).toNat : Int))) := by
        obtain ⟨cs2, r1, r2, r3⟩ := HRW.out
        have ln : (hexc x :: dl u k).length = k + 1 := by rw [List.length_cons, dl_len]
        have h := run_convert_bytes_back (P := Tryz.prog) (wr.setCell ⟨w.heap.size, I, none⟩ (.int .u8 ((hexc x).toNat : Int))) 55 9 5 ⟨w.heap.size, I, none⟩ (k + 1) (hexc x :: dl u k) Tryz.underlying55 Tryz.underlying5 Tryz.underlying9 (fun j hj => by
          rw [Lib.add_plain, cell_of_row _ _ _ cs2 108 (0, 0) r1]
          have := r3 j _ (List.getElem?_eq_getElem hj)
          rw [← this]
          have := HI.out
          congr 1
          omega)
        rw [ln] at h
        exact h
      have HBL : Hid (Below w.heap.size w (wr.setCell ⟨w.heap.size, I, none⟩ (.int .u8 ((hexc x).toNat : Int)))) := HB.out.bel.setCell (Nat.le_refl _) _
      generalize wr.setCell ⟨w.heap.size, I, none⟩ (.int .u8 ((hexc x).toNat : Int)) = W2 at *
      rw [hcv]
      go_wp2
      go_ret2
      have e3 := HX.out
      refine ⟨k, by omega, by rw [← e3]; have := HD.out; omega, HB.out.big, by rw [← e3]; rfl, HBL.out⟩

theorem fu16_inner (u : Nat) (hu : u < 18446744073709551616) (w : World) (h : Tz w) (h3 : 3 < w.heap.size) :
    Calls Tryz.prog 30 #[.int .u64 (u : Int), .int .i64 16] w fun e w' => ∃ k, k ≤ 15 ∧ u / 16 ^ k < 16 ∧ (∀ j, j < k → 16 ≤ u / 16 ^ j) ∧ e = .returned (.string ⟨(hexc (u / 16 ^ k) :: dl u k).toArray⟩) ∧ Below w.heap.size w w' := by
  have c := fbits_any u hu w h h3
  have hui : (u : Int) < 18446744073709551616 := by omega
  clear hu h h3
  go_enter Tryz.func30, Tryz.ntmps30
  go_wp2_with (go_at_call 34; refine c.mono ?_; rintro e w1 ⟨k, k1, k2, k3, rfl, hb⟩)
  go_ret
  exact ⟨k, k1, k2, k3, rfl, hb⟩

theorem places (u : Nat) : ∀ b, u / 16 ^ b < 16 → ∃ k, k ≤ b ∧ u / 16 ^ k < 16 ∧ ∀ j, j < k → 16 ≤ u / 16 ^ j := by
  intro b
  induction b with
  | zero => intro h; exact ⟨0, Nat.le_refl _, h, fun j hj => by omega⟩
  | succ b ih =>
    intro h
    rcases Nat.lt_or_ge (u / 16 ^ b) 16 with c | c
    · obtain ⟨k, h1, h2, h3⟩ := ih c
      exact ⟨k, by omega, h2, h3⟩
    · refine ⟨b + 1, Nat.le_refl _, h, fun j hj => ?_⟩
      have a : 16 ^ j ≤ 16 ^ b := Nat.pow_le_pow_right (by decide) (by omega)
      have d : u / 16 ^ b ≤ u / 16 ^ j := Nat.div_le_div_left a (Nat.pow_pos (by decide))
      omega

theorem places_one (u k m : Nat) (h : u / 16 ^ k < 16) (g : ∀ j, j < k → 16 ≤ u / 16 ^ j) (h' : u / 16 ^ m < 16) (g' : ∀ j, j < m → 16 ≤ u / 16 ^ j) : k = m := by
  rcases Nat.lt_trichotomy k m with c | c | c
  · have := g' k c; omega
  · exact c
  · have := g m c; omega

/-- FORMATUINT AT BASE SIXTEEN -/
theorem fu16_any (u : Nat) (hu : u < 18446744073709551616) (w : World) (h : Tz w) (h3 : 3 < w.heap.size) :
    Calls Tryz.prog 9 #[.int .u64 (u : Int), .int .i64 16] w fun e w' => ∃ k, k ≤ 15 ∧ u / 16 ^ k < 16 ∧ (∀ j, j < k → 16 ≤ u / 16 ^ j) ∧ e = .returned (.string ⟨(hexc (u / 16 ^ k) :: dl u k).toArray⟩) ∧ Below w.heap.size w w' := by
  have c := fu16_inner u hu w h h3
  clear hu h h3
  go_enter Tryz.func9, Tryz.ntmps9
  go_wp2_with (go_at_call 30; refine c.mono ?_; rintro e w1 ⟨k, k1, k2, k3, rfl, hb⟩)
  go_ret
  exact ⟨k, k1, k2, k3, rfl, hb⟩

end Go.Proofs.YtpejebohekcfoabGreatDoor
/- NumtextWholes: whole numbers base ten and base sixteen, plain. -/
namespace Go.Proofs.YtpejebohekcfoabGreatDoor
open Go.RowKit
set_option linter.unusedVariables false

theorem kind_le (R : Nat) (h : R ≤ 9218868437227405312) : kindI ((R : Nat) : Int) ≠ 3 := by
  unfold kindI fldN frcN
  rw [Int.toNat_natCast]
  split
  · split
    · omega
    · exfalso; omega
  · split <;> omega

theorem hexc_ok (d : Nat) (h : d < 16) : hexOk (hexc d).toNat = true ∧ hexV (hexc d).toNat = d ∧ blankS.contains (hexc d) = false := by
  have key : ∀ x : Fin 16, hexOk (hexc x.1).toNat = true ∧ hexV (hexc x.1).toNat = x.1 ∧ blankS.contains (hexc x.1) = false := by decide
  exact key ⟨d, h⟩

theorem dl_ok (u k : Nat) : ∀ c ∈ dl u k, hexOk c.toNat = true ∧ blankS.contains c = false := by
  induction k with
  | zero => intro c hc; simp [dl] at hc
  | succ k ih =>
    intro c hc
    simp only [dl, List.mem_cons] at hc
    rcases hc with rfl | hc
    · have := hexc_ok (u / 16 ^ k % 16) (by omega)
      exact ⟨this.1, this.2.2⟩
    · exact ih c hc

/-- what digits base sixteen say -/
def hexN (n : Nat) (l : List UInt8) : Nat := l.foldl (fun n c => 16 * n + hexV c.toNat) n

theorem hexN_dl (u k : Nat) : ∀ n, hexN n (dl u k) = n * 16 ^ k + u % 16 ^ k := by
  induction k with
  | zero => intro n; simp [hexN, dl, Nat.mod_one]
  | succ k ih =>
    intro n
    have h := (hexc_ok (u / 16 ^ k % 16) (by omega)).2.1
    have e : hexN n (dl u (k + 1)) = hexN (16 * n + u / 16 ^ k % 16) (dl u k) := by
      unfold hexN
      simp only [dl, List.foldl_cons, h]
    rw [e, ih, Nat.mod_pow_succ, Nat.add_mul, Nat.pow_succ]
    have a : 16 * n * 16 ^ k = n * (16 ^ k * 16) := by rw [Nat.mul_comm 16 n, Nat.mul_assoc, Nat.mul_comm 16]
    rw [a, Nat.mul_comm (16 ^ k) (u / 16 ^ k % 16)]
    omega

theorem hexS_fold (l : List UInt8) : ∀ n, n < 16 ^ (16 - l.length) → l.length ≤ 16 → l.foldl hexStep (n, 0, false) = (hexN n l, 0, false) := by
  induction l with
  | nil => intro n _ _; rfl
  | cons c r ih =>
    intro n hn hl
    rw [List.length_cons] at hn hl
    have b : n < 1152921504606846976 := by
      have : 16 ^ (16 - (r.length + 1)) ≤ 16 ^ 15 := Nat.pow_le_pow_right (by decide) (by omega)
      have e : 16 ^ 15 = 1152921504606846976 := by decide
      omega
    have v := hexV_lt c.toNat
    rw [List.foldl_cons, hexStep_a _ _ b, ih (16 * n + hexV c.toNat) ?_ (by omega)]
    · rfl
    · have e : 16 ^ (16 - r.length) = 16 ^ (16 - (r.length + 1)) * 16 := by rw [← Nat.pow_succ]; congr 1; omega
      rw [e]
      omega

/-- the digits of u base sixteen -/
def hexD (u k : Nat) : List UInt8 := hexc (u / 16 ^ k) :: dl u k

theorem hexD_read (u k : Nat) (hk : k ≤ 15) (hu : u < 18446744073709551616) (h : u / 16 ^ k < 16) : hexI (hexD u k) = (((rung u 0 : Nat) : Int), true) := by
  have o := hexc_ok _ h
  have ok : ((hexD u k).all fun c => hexOk c.toNat) = true := by
    rw [List.all_eq_true]
    intro c hc
    unfold hexD at hc
    rcases List.mem_cons.1 hc with rfl | hc
    · exact o.1
    · exact (dl_ok u k c hc).1
  have ln : (hexD u k).length = k + 1 := by unfold hexD; rw [List.length_cons, dl_len]
  have s : hexS (hexD u k) = (u, 0, false) := by
    unfold hexS
    rw [hexS_fold _ 0 (Nat.pow_pos (by decide)) (by omega)]
    have : hexN 0 (hexD u k) = hexN (u / 16 ^ k) (dl u k) := by
      unfold hexN hexD
      rw [List.foldl_cons, o.2.1]
      congr 1
      omega
    rw [this, hexN_dl, Nat.mul_comm, Nat.div_add_mod]
  unfold hexI
  rw [if_pos ok, s]
  have nn : nearI 2000 ((u : Nat) : Int) ((0 : Nat) : Int) false = ((rung u 0 : Nat) : Int) := by
    unfold nearI nmag npl clampI
    rfl
  rw [nn]
  rw [decide_eq_true (by unfold hexD; simp)]

theorem hexD_lit (u k : Nat) (hk : k ≤ 15) (hu : u < 18446744073709551616) (h : u / 16 ^ k < 16) : litI (48 :: 120 :: hexD u k) = (((rung u 0 : Nat) : Int), true) := by
  unfold litI
  have p : Lib.hasPrefix (48 :: 120 :: hexD u k) [48, 120] = true := by simp [Lib.hasPrefix]
  have q : Lib.trimPrefix (48 :: 120 :: hexD u k) [48, 120] = hexD u k := by unfold Lib.trimPrefix; rw [if_pos p]; rfl
  rw [if_pos p, q, hexD_read u k hk hu h]

theorem trimR_none (l : List UInt8) (h : ∀ c ∈ l, blankS.contains c = false) : Lib.trimRightS l blankS = l := by
  unfold Lib.trimRightS
  have : l.reverse.dropWhile (blankS.contains ·) = l.reverse := by
    cases hr : l.reverse with
    | nil => rfl
    | cons x r =>
      have hx : x ∈ l := by rw [← List.mem_reverse, hr]; simp
      rw [List.dropWhile_cons, if_neg (by rw [h x hx]; decide)]
  rw [this, List.reverse_reverse]

theorem cutX_X (r : List UInt8) : cutX (48 :: 88 :: r) = (r, true) := by
  unfold cutX
  rw [if_neg (by simp [Lib.hasPrefix])]
  unfold Lib.trimPrefix
  rw [if_pos (by simp [Lib.hasPrefix])]
  simp [Lib.hasPrefix]

theorem hexD_rd (u k : Nat) (hk : k ≤ 15) (hu : u < 18446744073709551616) (h : u / 16 ^ k < 16) : readI (32 :: 48 :: 88 :: hexD u k) = ((rung u 0 : Nat) : Int) := by
  have bl : ∀ c ∈ 88 :: hexD u k, blankS.contains c = false := by
    intro c hc
    rcases List.mem_cons.1 hc with rfl | hc
    · decide
    · unfold hexD at hc
      rcases List.mem_cons.1 hc with rfl | hc
      · exact (hexc_ok _ h).2.2
      · exact (dl_ok u k c hc).2
  unfold readI
  have t := trimS_app [32] (88 :: hexD u k) blankS 48 (by intro c hc; simp at hc; subst hc; decide) (by decide)
  rw [List.singleton_append] at t
  rw [t, trimR_none _ bl]
  unfold coreI
  rw [if_neg (by simp), cutX_X, if_pos rfl, hexD_read u k hk hu h]
  rfl

/-- WHAT IS READ OF A WHOLE NUMBER'S DIGITS -/
theorem itoa_read (n : Int) (n0 : -9223372036854775808 ≤ n) (n1 : n ≤ 9223372036854775807) : readI (Lib.itoa n) = fromI n := by
  have dl300 : ∀ m : Nat, m < 18446744073709551616 → (Lib.decDigits m).length ≤ 300 := by
    intro m hm
    rcases Nat.eq_zero_or_pos m with z | z
    · subst z; decide +kernel
    · rw [Lib.decDigits_length]
      have := Lib.numDigits_eq m z hm
      split at this <;> omega
  rcases Int.lt_trichotomy n 0 with c | c | c
  · obtain ⟨m, rfl⟩ : ∃ m : Nat, n = -(m : Int) := ⟨n.natAbs, by omega⟩
    have m0 : 0 < m := by omega
    rw [Lib.itoa_neg m m0]
    obtain ⟨x, r, hd, hx⟩ := dd_head m m0
    have dg := dd_dig m
    have u := (whole_read m m0 (dl300 m (by omega))).2.2
    rw [hd] at u dg ⊢
    have ok : ∀ z ∈ x :: r, okD z = true := by
      intro z hz
      have := dg z hz
      unfold okD
      rw [dig_okC z this]
      rfl
    rw [(minus_read x r (dg x (by simp)) ok).1, u]
    have le := rung_le m 0
    have hk : kindI ((rung m 0 : Nat) : Int) ≠ 3 := kind_le (rung m 0) le
    unfold negI fromI
    rw [if_neg hk, if_pos (by omega), show (- -(m : Int)).toNat = m by omega]
    omega
  · subst c
    decide +kernel
  · obtain ⟨m, rfl⟩ : ∃ m : Nat, n = (m : Int) := ⟨n.toNat, by omega⟩
    rw [Lib.itoa_nonneg m, (whole_read m (by omega) (dl300 m (by omega))).1]
    unfold fromI
    rw [if_neg (by omega), Int.toNat_natCast]

/-- WHAT IS WRITTEN OF A SMALL WHOLE NUMBER -/
theorem print_itoa (n : Int) (n0 : -9007199254740992 < n) (n1 : n < 9007199254740992) : printI (fromI n) = Lib.itoa n := by
  have h := from_whole n n0 n1
  unfold printI
  rw [if_neg (by rw [h]; simp)]
  unfold printQ
  rw [if_pos (by rw [h]), h]

theorem from_bd' (n : Int) : 0 ≤ fromI n ∧ fromI n < 18446744073709551616 := by
  unfold fromI
  have a := rung_le (-n).toNat 0
  have b := rung_le n.toNat 0
  split <;> omega

theorem itoa_short (n : Int) (n0 : -9223372036854775808 ≤ n) (n1 : n ≤ 9223372036854775807) : (Lib.itoa n).length ≤ 1000 := by
  have dl300 : ∀ m : Nat, m < 18446744073709551616 → (Lib.decDigits m).length ≤ 300 := by
    intro m hm
    rcases Nat.eq_zero_or_pos m with z | z
    · subst z; decide +kernel
    · rw [Lib.decDigits_length]
      have := Lib.numDigits_eq m z hm
      split at this <;> omega
  rcases Int.lt_or_le n 0 with c | c
  · obtain ⟨m, rfl⟩ : ∃ m : Nat, n = -(m : Int) := ⟨n.natAbs, by omega⟩
    rw [Lib.itoa_neg m (by omega), List.length_cons]
    have := dl300 m (by omega)
    omega
  · obtain ⟨m, rfl⟩ : ∃ m : Nat, n = (m : Int) := ⟨n.toNat, by omega⟩
    rw [Lib.itoa_nonneg m]
    have := dl300 m (by omega)
    omega

end Go.Proofs.YtpejebohekcfoabGreatDoor
namespace Go.Proofs.YtpejebohekcfoabGreatDoor.numtextWholes
open Go.ChangeShapes Go.WideShapes Go.ChangeAt Go.RowKit
set_option linter.unusedVariables false

theorem own : ownKnob Tryz.prog.godebug = none := by kernel_rfl

/-- the table of powers of ten, out of the row's condition -/
theorem pow10_of {W : World} (h : laidMetH Tryz.prog Rows.numtextWholesRow.laid W) : Pow10 W := by
  rw [MakeChecks.laidMetH_plain _ _ _ (by kernel_rfl)] at h
  obtain ⟨ps, ⟨g0, t0, cs0, f0, p0, q0, hg0, ht0, hv0, hd0, ⟨g1, t1, cs1, f1, p1, q1, hg1, ht1, hv1, hd1, ⟨g2, t2, cs2, f2, p2, q2, hg2, ht2, hv2, hd2, _, _⟩, _⟩, _⟩, _⟩ := h
  obtain rfl := Option.some.inj ((show Tryz.prog.globalNamed "internal/strconv.uint64pow10" = some 1 by kernel_rfl).symm.trans hg2)
  obtain rfl := Option.some.inj ((show (Tryz.prog.globals[1]?).map (·.type) = some 106 by kernel_rfl).symm.trans ht2)
  show Lib.TabIs Tryz.prog W "internal/strconv.uint64pow10" .u64 Lib.pow10Tab
  unfold Lib.TabIs
  rw [hv2, ← Lib.cells_of_tab (zs := Lib.pow10Tab) Tryz.underlying106 Tryz.underlying22 (by kernel_rfl) (by kernel_rfl) hd2]

def bruijn : List Int := [0, 1, 56, 2, 57, 49, 28, 3, 61, 58, 42, 50, 38, 29, 17, 4, 62, 47, 59, 36, 45, 43, 51, 22, 53, 39, 33, 30, 24, 18, 12, 5, 63, 55, 48, 27, 60, 41, 37, 16, 46, 35, 44, 21, 52, 32, 23, 11, 54, 26, 40, 15, 34, 20, 31, 10, 25, 14, 19, 9, 13, 8, 7, 6]

/-- what is read of the table of places, out of the row's condition -/
theorem tz_of {W : World} (h : laidMetH Tryz.prog Rows.numtextWholesRow.laid W) : Tz W ∧ 3 < W.heap.size := by
  rw [MakeChecks.laidMetH_plain _ _ _ (by kernel_rfl)] at h
  obtain ⟨ps, ⟨g0, t0, cs0, f0, p0, q0, hg0, ht0, hv0, hd0, ⟨g1, t1, cs1, f1, p1, q1, hg1, ht1, hv1, hd1, _, _⟩, _⟩, _⟩ := h
  obtain rfl := Option.some.inj ((show Tryz.prog.globalNamed "math/bits.deBruijn64tab" = some 3 by kernel_rfl).symm.trans hg1)
  obtain rfl := Option.some.inj ((show (Tryz.prog.globals[3]?).map (·.type) = some 129 by kernel_rfl).symm.trans ht1)
  have tab : Lib.TabIs Tryz.prog W "math/bits.deBruijn64tab" .u8 bruijn := by
    unfold Lib.TabIs
    rw [hv1, ← Lib.cells_of_tab (zs := bruijn) Tryz.underlying129 Tryz.underlying5 (by kernel_rfl) (by kernel_rfl) hd1]
  have c := tab.cell (by kernel_rfl : Tryz.prog.globalNamed "math/bits.deBruijn64tab" = some 3) 15 (by decide)
  refine ⟨c, ?_⟩
  rcases Nat.lt_or_ge 3 W.heap.size with z | z
  · exact z
  · exfalso
    unfold World.cell? at c
    simp only [Array.getElem?_eq_none z] at c
    simp at c

theorem tz_below {w w' : World} (h : Tz w) (h3 : 3 < w.heap.size) (hb : Below w.heap.size w w') : Tz w' ∧ 3 < w'.heap.size := by
  refine ⟨?_, Nat.lt_of_lt_of_le h3 hb.size⟩
  unfold Tz at h ⊢
  rw [← h]
  exact hb.cell h3

theorem pre_of (hx : List UInt8) : (ByteArray.mk #[48, 120]) ++ (⟨hx.toArray⟩ : ByteArray) = bs (48 :: 120 :: hx) := by
  show bs [48, 120] ++ bs hx = _
  rw [bs_append]; rfl

theorem pre_of2 (hx : List UInt8) : (ByteArray.mk #[32, 48, 88]) ++ (⟨hx.toArray⟩ : ByteArray) = bs (32 :: 48 :: 88 :: hx) := by
  show bs [32, 48, 88] ++ bs hx = _
  rw [bs_append]; rfl

set_option maxHeartbeats 4000000 in
theorem law (n u F V : Int) (S H P Q : ByteArray) (w : World) (n0 : -9223372036854775808 ≤ n) (n1 : n ≤ 9223372036854775807)
    (hu : IntKind.u64.wrap n = u) (u0 : 0 ≤ u) (u1 : u < 18446744073709551616)
    (zH : H.size ≤ 1000) (hP : ByteArray.mk #[48, 120] ++ H = P) (hQ : ByteArray.mk #[32, 48, 88] ++ H = Q)
    (c4 : ∀ w : World, Calls Tryz.prog 4 #[.float .f64 (floatOfInt .f64 n)] w fun e w' => e = .returned (.int .u64 F) ∧ w' = w)
    (c5 : ∀ w1 : World, Below w.heap.size w w1 → Calls Tryz.prog 5 #[.int .i64 n, .int .i64 10] w1 fun e w' => e = .returned (.string S) ∧ Below w1.heap.size w1 w')
    (c6 : -9007199254740992 < n ∧ n < 9007199254740992 → ∀ w1 : World, Below w.heap.size w w1 → Calls Tryz.prog 6 #[.int .u64 F] w1 fun e w' => e = .returned (.string S) ∧ Below w1.heap.size w1 w')
    (c7 : ∀ w : World, Calls Tryz.prog 7 #[.string S] w fun e w' => e = .returned (.int .u64 F) ∧ Below w.heap.size w w')
    (c9 : ∀ w1 : World, Below w.heap.size w w1 → Calls Tryz.prog 9 #[.int .u64 u, .int .i64 16] w1 fun e w' => e = .returned (.string H) ∧ Below w1.heap.size w1 w')
    (c8 : ∀ w : World, Calls Tryz.prog 8 #[.string P] w fun e w' => e = .returned (.tuple #[.int .u64 V, .bool true]) ∧ Below w.heap.size w w')
    (c10 : ∀ w : World, Calls Tryz.prog 10 #[] w fun e w' => e = .returned (.bool true) ∧ Below w.heap.size w w')
    (c4u : ∀ w : World, Calls Tryz.prog 4 #[.float .f64 (floatOfInt .f64 u)] w fun e w' => e = .returned (.int .u64 V) ∧ w' = w)
    (c7u : ∀ w : World, Calls Tryz.prog 7 #[.string Q] w fun e w' => e = .returned (.int .u64 V) ∧ Below w.heap.size w w') :
    Calls Tryz.prog 3 #[.int .i64 n] w fun e w' => e = .returned (.bool true) ∧ Below w.heap.size w w' := by
  have HB : Hid (Below w.heap.size w w) := Below.refl _ _
  by_cases c : -9007199254740992 < n ∧ n < 9007199254740992
  · have d6 := c6 c
    obtain ⟨k1, k2⟩ := c
    clear c6
    go_enter Tryz.func3, Tryz.ntmps3
    go_wp2_with fail
    refine (c4 _).mono ?_
    rintro e w1 ⟨rfl, rfl⟩
    go_wp2_with fail
    refine (c5 _ HB.out).mono ?_
    rintro e w2 ⟨rfl, b2⟩
    have B2 : Hid (Below w1.heap.size w1 w2) := b2
    clear b2
    go_wp2_with fail
    refine (d6 _ B2.out).mono ?_
    rintro e w3 ⟨rfl, b3⟩
    have B3 : Hid (Below w1.heap.size w1 w3) := B2.out.trans (b3.mono B2.out.size)
    clear b3
    go_wp2_with fail
    refine (c7 _).mono ?_
    rintro e w4 ⟨rfl, b4⟩
    have B4 : Hid (Below w1.heap.size w1 w4) := B3.out.trans (b4.mono B3.out.size)
    clear b4
    go_wp2_with fail
    refine (c9 _ B4.out).mono ?_
    rintro e w5 ⟨rfl, b5⟩
    have B5 : Hid (Below w1.heap.size w1 w5) := B4.out.trans (b5.mono B4.out.size)
    clear b5
    go_wp2_with fail
    refine (c8 _).mono ?_
    rintro e w6 ⟨rfl, b6⟩
    have B6 : Hid (Below w1.heap.size w1 w6) := B5.out.trans (b6.mono B5.out.size)
    clear b6
    go_wp2_with fail
    refine (c10 _).mono ?_
    rintro e w7 ⟨rfl, b7⟩
    have B7 : Hid (Below w1.heap.size w1 w7) := B6.out.trans (b7.mono B6.out.size)
    clear b7
    go_wp2_with fail
    refine (c4u _).mono ?_
    rintro e w8 ⟨rfl, rfl⟩
    go_wp2_with fail
    refine (c9 _ B7.out).mono ?_
    rintro e w9 ⟨rfl, b9⟩
    have B9 : Hid (Below w1.heap.size w1 w9) := B7.out.trans (b9.mono B7.out.size)
    clear b9
    go_wp2_with fail
    refine (c7u _).mono ?_
    rintro e w10 ⟨rfl, b10⟩
    go_wp2
    go_ret
    exact ⟨rfl, B9.out.trans (b10.mono B9.out.size)⟩
  · have c3 : n ≤ -9007199254740992 ∨ (-9007199254740992 < n ∧ 9007199254740992 ≤ n) := by omega
    clear c6 c
    rcases c3 with k1 | ⟨k1, k2⟩
    all_goals
      go_enter Tryz.func3, Tryz.ntmps3
      go_wp2_with fail
      refine (c4 _).mono ?_
      rintro e w1 ⟨rfl, rfl⟩
      go_wp2_with fail
      refine (c5 _ HB.out).mono ?_
      rintro e w3 ⟨rfl, b2⟩
      have B3 : Hid (Below w1.heap.size w1 w3) := b2
      clear b2
      go_wp2_with fail
      refine (c7 _).mono ?_
      rintro e w4 ⟨rfl, b4⟩
      have B4 : Hid (Below w1.heap.size w1 w4) := B3.out.trans (b4.mono B3.out.size)
      clear b4
      go_wp2_with fail
      refine (c9 _ B4.out).mono ?_
      rintro e w5 ⟨rfl, b5⟩
      have B5 : Hid (Below w1.heap.size w1 w5) := B4.out.trans (b5.mono B4.out.size)
      clear b5
      go_wp2_with fail
      refine (c8 _).mono ?_
      rintro e w6 ⟨rfl, b6⟩
      have B6 : Hid (Below w1.heap.size w1 w6) := B5.out.trans (b6.mono B5.out.size)
      clear b6
      go_wp2_with fail
      refine (c10 _).mono ?_
      rintro e w7 ⟨rfl, b7⟩
      have B7 : Hid (Below w1.heap.size w1 w7) := B6.out.trans (b7.mono B6.out.size)
      clear b7
      go_wp2_with fail
      refine (c4u _).mono ?_
      rintro e w8 ⟨rfl, rfl⟩
      go_wp2_with fail
      refine (c9 _ B7.out).mono ?_
      rintro e w9 ⟨rfl, b9⟩
      have B9 : Hid (Below w1.heap.size w1 w9) := B7.out.trans (b9.mono B7.out.size)
      clear b9
      go_wp2_with fail
      refine (c7u _).mono ?_
      rintro e w10 ⟨rfl, b10⟩
      go_wp2
      go_ret
      exact ⟨rfl, B9.out.trans (b10.mono B9.out.size)⟩

theorem walk (a0 : Int) (w0 : (Lit.int .i64 a0).wf = true) (w : World) (ht : Pow10 w) (hz : Tz w ∧ 3 < w.heap.size) :
    Calls Tryz.prog 3 #[.int .i64 a0] w fun e w' => e = .returned (.bool true) ∧ Below w.heap.size w w' := by
  have b0 := bounds_i64 w0
  obtain ⟨u, hu⟩ : ∃ u : Nat, IntKind.u64.wrap a0 = (u : Int) := ⟨(IntKind.u64.wrap a0).toNat, by rw [IntKind.wrap_u64]; omega⟩
  have u1 : u < 18446744073709551616 := by have := hu; rw [IntKind.wrap_u64] at this; omega
  have u15 : u / 16 ^ 15 < 16 := by
    have : (16 : Nat) ^ 15 = 1152921504606846976 := by decide
    rw [this]; omega
  obtain ⟨k, k1, k2, k3⟩ := places u 15 u15
  have fb := from_bd' a0
  have e4 : fromI (u : Int) = ((rung u 0 : Nat) : Int) := from_nat _ (by omega)
  refine law a0 (u : Int) (fromI a0) (fromI (u : Int)) (bs (Lib.itoa a0)) ⟨(hexD u k).toArray⟩ _ _ w b0.1 (by omega) hu (by omega) (by omega) ?_ (pre_of _) (pre_of2 _) (fun w => of_float a0 w) ?_ ?_ ?_ ?_ ?_ (fun w => alive_any w) (fun w => of_float (u : Int) w) ?_
  · show (bs (hexD u k)).size ≤ 1000
    rw [bs_size]
    unfold hexD
    rw [List.length_cons, dl_len]
    omega
  · intro w1 hb
    exact formatInt_any a0 b0.1 (by omega) w1 (pow10_below ht hb)
  · intro c w1 hb
    have := print_any (fromI a0) fb.1 fb.2 w1 (pow10_below ht hb)
    rw [print_itoa a0 c.1 c.2] at this
    exact this
  · intro w1
    have := read_any (Lib.itoa a0) w1 (by have := itoa_short a0 b0.1 (by omega); omega)
    rw [itoa_read a0 b0.1 (by omega)] at this
    exact this
  · intro w1 hb
    have z := tz_below hz.1 hz.2 hb
    refine (fu16_any u u1 w1 z.1 z.2).mono ?_
    rintro e w' ⟨m, m1, m2, m3, rfl, hw⟩
    obtain rfl := places_one u m k m2 m3 k2 k3
    exact ⟨rfl, hw⟩
  · intro w1
    have := literal_read (48 :: 120 :: hexD u k) w1 (by unfold hexD; simp [dl_len]; omega)
    rw [hexD_lit u k k1 u1 k2, ← e4] at this
    exact this
  · intro w1
    have := read_any (32 :: 48 :: 88 :: hexD u k) w1 (by unfold hexD; simp [dl_len]; omega)
    rw [hexD_rd u k k1 u1 k2, ← e4] at this
    exact this

set_option maxRecDepth 100000 in
theorem lifted (os : Os) (started : os.Started) (H : Type) (enc : TypeId × Value → H) :
    ReturnsInHanded {} Tryz.checked os 3 .any (fun w args => (Rows.numtextWholesSpec.pre enc Tryz.prog Tryz.f3 Rows.numtextWholesRow.domain false w args ∧ laidMetH Tryz.prog Rows.numtextWholesRow.laid w) ∧ sizedMet enc Tryz.prog Tryz.f3 (OpenSpec.ofChange Rows.numtextWholesSpec) false w args)
      (Rows.numtextWholesSpec.post enc Tryz.prog Tryz.f3 false true false false) := by
  refine returnsInHanded_of_change_and (C := Tryz.checked) (X := fun w _ => laidMetH Tryz.prog Rows.numtextWholesRow.laid w) (fun _ _ _ hh h => h.of_heap hh) own started (by kernel_rfl) Tryz.func3
    (ChangeSpec.witness_shaped (enc := enc) (C := Tryz.checked) (os := os) (X := fun w _ => laidMetH Tryz.prog Rows.numtextWholesRow.laid w) false (World.laidAll Tryz.prog os Rows.numtextWholesRow.laid) #[.int .i64 0] 8 (World.laidAll_os _ _ _)
      (World.shaped_of_ZipB (by kernel_rfl) (by kernel_rfl)) (by kernel_rfl) (by kernel_rfl) (by kernel_rfl)
      (by rw [MakeChecks.laidMetH_plain _ _ _ (by kernel_rfl)]; exact laidMet_laidAll _ (by kernel_rfl) (by kernel_rfl))) ?_
  intro W base args ds gs before hval0 hW hc _ hL _
  have hval : ∀ (j : Nat) t v, Tryz.f3.params[j]? = some t → args[j]? = some v → Value.okWide Tryz.prog W .any base t v := hval0
  have hW' := hW
  obtain ⟨p, q, hA0, hV, rfl, hfz, hnd⟩ := hW
  have hA : DataW.TrodAll enc Tryz.prog W 0 (fun _ => true) true Tryz.f3.params.toList args.toList ds p := hA0
  rw [Tryz.params3] at hA hval
  obtain ⟨v0, vs0, d0, ds0, p0, q0, hargs, rfl, rfl, h0, r0⟩ := trodAll_cons hA
  obtain ⟨rfl, rfl, rfl⟩ := trodAll_nil r0
  obtain rfl : args = #[v0] := by cases args; simp_all
  obtain ⟨rfl, rfl⟩ := trodVars_none hV
  obtain ⟨a0, rfl, rfl, rfl, w0⟩ := open_int Tryz.underlying2 (hval 0 2 v0 rfl rfl) h0
  clear hA0 hval0
  simp only [List.append_nil] at hW'
  refine (walk a0 w0 W (pow10_of hL) (tz_of hL)).mono fun e W' ⟨he, bel⟩ => ?_
  subst he
  exact ⟨_, rfl, _, _, _, [], [], [], hW', trodAll_mk1 (shut_bool Tryz.underlying4 _), (trodAll_cons_mk (shut_int Tryz.underlying2 w0) trodAll_mk0), rfl, bel.frame _, fun h => by cases h⟩

theorem holds : Rows.NumtextWholesSaid :=
  OpenClaim.holds_of_wide 3 Tryz.f3 rfl rfl rfl rfl rfl rfl rfl ⟨rfl, rfl, rfl, rfl, rfl⟩ rfl rfl rfl rfl rfl (by kernel_rfl) Tryz.func3 (by kernel_rfl)
    (of_decide_eq_true (by kernel_rfl)) (by unfold Func.isWrapper; first | (rw [if_pos (by decide +kernel)]; kernel_rfl) | (rw [if_neg (by decide +kernel)]; exact ⟨rfl, rfl⟩))
    (fun os started H enc _ => lifted os started H enc)

end Go.Proofs.YtpejebohekcfoabGreatDoor.numtextWholes
namespace Go.Proofs.YtpejebohekcfoabGreatDoor
set_option linter.unusedVariables false

/-- THE TIED CARD: whole numbers are written as their digits, base ten, and read; and read base sixteen. -/
theorem numtextWholes_holds : Rows.NumtextWholesCardSaid :=
  Claim7.holds_tied_plain_at .later [] [.data, .data, .data, .data, .pinned] true (true, "ab63e317fdcb40a8a3a4af7503bcd49085428cb564d8cc4ef10356a29063fd48") false numtextWholes.holds (fun _ h => by cases h) (by kernel_rfl) (fun _ h => by cases h) numtextWholes_row_tie rfl ⟨rfl, rfl⟩ (by kernel_rfl) rfl
    (fun f fn hf hfn => by
      obtain rfl : f = 3 := Option.some.inj ((show Tryz.prog.funcNamed "brazier/brazierlaw02.NumtextWholes" = some 3 by kernel_rfl).symm.trans hf) |>.symm
      obtain rfl : fn = Tryz.f3 := (Option.some.inj (Tryz.func3.symm.trans hfn)).symm
      exact ⟨by kernel_rfl, fun j t ht => by
        rw [Tryz.params3] at ht
        have hm : t ∈ [2] := by simpa using Array.mem_of_getElem? ht
        have hall : ([2].all fun u => !Tryz.prog.wantsStandIn u) = true := by kernel_rfl
        exact (show Tryz.prog.wantsStandIn t = false by simpa using List.all_eq_true.1 hall t hm)⟩)
    (by kernel_rfl)
#print axioms numtextWholes_holds
end Go.Proofs.YtpejebohekcfoabGreatDoor
