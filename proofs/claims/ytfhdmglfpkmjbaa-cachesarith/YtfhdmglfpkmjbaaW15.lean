/- What follows of sums and products: order, signs, one, and that they don't fall. -/
import Derived.Test.YtfhdmglfpkmjbaaW13
import Derived.Test.YtfhdmglfpkmjbaaW14
namespace Go.Proofs.Ytfhdmglfpkmjbaa
open Go.RowKit

/-- the rung of a signed number at place p, with its sign -/
def srp (p T : Int) : Int := if T < 0 then -((rung T.natAbs p : Nat) : Int) else ((rung T.natAbs p : Nat) : Int)

theorem srp_mono (p : Int) {T U : Int} (h : T ≤ U) : srp p T ≤ srp p U := by
  unfold srp
  by_cases c1 : T < 0
  · rw [if_pos c1]
    by_cases c2 : U < 0
    · rw [if_pos c2]
      have := rung_mono p (show U.natAbs ≤ T.natAbs by omega)
      omega
    · rw [if_neg c2]; omega
  · rw [if_neg c1, if_neg (by omega)]
    have := rung_mono p (show T.natAbs ≤ U.natAbs by omega)
    omega

theorem srp_bd (p T : Int) : -9218868437227405312 ≤ srp p T ∧ srp p T ≤ 9218868437227405312 := by
  have := rung_le T.natAbs p
  unfold srp; split <;> omega

theorem rank_word (s : Bool) (r : Nat) (h : r ≤ 9218868437227405312) : rankI ((wordOf s r : Nat) : Int) = if s then -(r : Int) else r := by
  unfold rankI wordOf
  cases s
  · simp only [Bool.false_eq_true, if_false]
    rw [if_pos (by omega)]
  · simp only [if_true]
    rw [if_neg (by omega)]; omega

theorem kind_of_rank (a : Int) (h0 : 0 ≤ a) (h1 : a < 18446744073709551616) (h : -9218868437227405312 ≤ rankI a ∧ rankI a ≤ 9218868437227405312) : kindI a ≠ 3 := by
  intro k
  have := (kind_fld a h0 h1).2.2.1 k
  omega

theorem opI_bd (o : Option Nat) (h : ∀ r, o = some r → r < 18446744073709551616) : 0 ≤ opI o ∧ opI o < 18446744073709551616 := by
  cases o with
  | none => exact ⟨by decide, by decide⟩
  | some r => have := h r rfl; rw [opI_some]; omega

theorem addI_bd (a b : Int) : 0 ≤ addI a b ∧ addI a b < 18446744073709551616 := opI_bd _ fun _ h => Ieee.double.add_lt h
theorem subI_bd (a b : Int) : 0 ≤ subI a b ∧ subI a b < 18446744073709551616 := opI_bd _ fun _ h => Ieee.double.sub_lt h
theorem mulI_bd (a b : Int) : 0 ≤ mulI a b ∧ mulI a b < 18446744073709551616 := opI_bd _ fun _ h => Ieee.double.mul_lt h
theorem divI_bd (a b : Int) : 0 ≤ divI a b ∧ divI a b < 18446744073709551616 := opI_bd _ fun _ h => Ieee.double.div_lt h

theorem natAbs_scale (T : Int) (k : Nat) : (T * 2 ^ k).natAbs = T.natAbs * 2 ^ k := by
  rw [Int.natAbs_mul, Int.natAbs_pow]; rfl

theorem srp_scale (p T : Int) (k : Nat) : srp p (T * 2 ^ k) = srp (p + k) T := by
  have pk : (0 : Int) < 2 ^ k := Int.pow_pos (by decide)
  unfold srp
  rw [natAbs_scale, rung_scale]
  have : T * 2 ^ k < 0 ↔ T < 0 := by
    constructor
    · intro h
      by_cases c : T < 0
      · exact c
      · have := Int.mul_nonneg (show 0 ≤ T by omega) (by omega : (0 : Int) ≤ 2 ^ k); omega
    · intro h; exact Int.mul_neg_of_neg_of_pos h pk
  simp only [this]

theorem rank_of_total (neg : Bool) (T p : Int) (h : T ≠ 0 → neg = decide (T < 0)) : rankI ((wordOf neg (rung T.natAbs p) : Nat) : Int) = srp p T := by
  rw [rank_word _ _ (rung_le _ _)]
  by_cases c : T = 0
  · subst c
    have : rung (0 : Int).natAbs p = 0 := rung_zero p
    unfold srp
    rw [this]
    cases neg <;> simp
  · rw [h c]
    unfold srp
    by_cases c2 : T < 0
    · rw [if_pos c2, decide_eq_true c2, if_pos rfl]
    · rw [if_neg c2, decide_eq_false c2, if_neg (by simp)]

theorem rank_add (a c : Int) (h0 : 0 ≤ a) (h1 : a < 18446744073709551616) (h2 : 0 ≤ c) (h3 : c < 18446744073709551616) (ka : kindI a < 2) (kc : kindI c < 2) :
    rankI (addI a c) = srp (-1074) (valI a + valI c) := by
  obtain ⟨s, m, i, ra, hi, va⟩ := read_val a h0 h1 ka
  obtain ⟨t, n, j, rc, hj, vc⟩ := read_val c h2 h3 kc
  unfold addI Ieee.Format.add
  rw [ra, rc]
  simp only [Ieee.Datum.sum]
  rw [Option.map_some, write_num, opI_some]
  obtain ⟨k, hk⟩ : ∃ k : Nat, min i j = -1074 + k := ⟨(min i j + 1074).toNat, by omega⟩
  have e1 : valI a = Ieee.signed s m (i - min i j).toNat * 2 ^ k := by rw [← va, ← signed_scale]; congr 1; omega
  have e2 : valI c = Ieee.signed t n (j - min i j).toNat * 2 ^ k := by rw [← vc, ← signed_scale]; congr 1; omega
  rw [e1, e2, ← Int.add_mul, srp_scale, ← hk]
  apply rank_of_total
  intro hne
  rw [if_neg hne]

theorem signed_mul (s t : Bool) (m n u v : Nat) : Ieee.signed s m u * Ieee.signed t n v = Ieee.signed (s ^^ t) (m * n) (u + v) := by
  rw [signed_eq, signed_eq, signed_eq]
  have e : ((m * n * 2 ^ (u + v) : Nat) : Int) = ((m * 2 ^ u : Nat) : Int) * ((n * 2 ^ v : Nat) : Int) := by
    rw [← Int.natCast_mul]; congr 1; rw [Nat.pow_add]; grind
  rw [e]
  generalize ((m * 2 ^ u : Nat) : Int) = x
  generalize ((n * 2 ^ v : Nat) : Int) = y
  cases s <;> cases t <;> simp [Int.neg_mul, Int.mul_neg]

theorem signed_abs (s : Bool) (m u : Nat) : (Ieee.signed s m u).natAbs = m * 2 ^ u := by
  rw [signed_eq]; cases s
  · simp only [Bool.false_eq_true, if_false]; exact Int.natAbs_natCast _
  · simp only [if_true]; rw [Int.natAbs_neg]; exact Int.natAbs_natCast _

theorem rank_mul (a c : Int) (h0 : 0 ≤ a) (h1 : a < 18446744073709551616) (h2 : 0 ≤ c) (h3 : c < 18446744073709551616) (ka : kindI a < 2) (kc : kindI c < 2) :
    rankI (mulI a c) = srp (-2148) (valI a * valI c) := by
  obtain ⟨s, m, i, ra, hi, va⟩ := read_val a h0 h1 ka
  obtain ⟨t, n, j, rc, hj, vc⟩ := read_val c h2 h3 kc
  unfold mulI Ieee.Format.mul
  rw [ra, rc]
  simp only [Ieee.Datum.product]
  rw [Option.map_some, write_num, opI_some, ← va, ← vc, signed_mul]
  have e : rung (m * n) (i + j) = rung (Ieee.signed (s ^^ t) (m * n) ((i + 1074).toNat + (j + 1074).toNat)).natAbs (-2148) := by
    rw [signed_abs, rung_scale]; congr 1; omega
  rw [e]
  apply rank_of_total
  intro hne
  rw [signed_eq] at hne ⊢
  generalize m * n * 2 ^ ((i + 1074).toNat + (j + 1074).toNat) = z at *
  cases (s ^^ t)
  · simp only [Bool.false_eq_true, if_false]
    exact (decide_eq_false (by omega)).symm
  · simp only [if_true] at hne ⊢
    exact (decide_eq_true (by omega)).symm

theorem rank_bd (a : Int) (h0 : 0 ≤ a) (h1 : a < 18446744073709551616) (k : kindI a ≠ 3) : -9218868437227405312 ≤ rankI a ∧ rankI a ≤ 9218868437227405312 := by
  have K := (kind_fld a h0 h1).2.2
  constructor
  · by_cases c : rankI a < -9218868437227405312
    · exact absurd (K.2 (Or.inr c)) k
    · omega
  · by_cases c : 9218868437227405312 < rankI a
    · exact absurd (K.2 (Or.inl c)) k
    · omega

theorem less_iff (a b : Int) : lessI a b = true ↔ kindI a ≠ 3 ∧ kindI b ≠ 3 ∧ rankI a < rankI b := by
  unfold lessI; simp [and_assoc]

/-- neither sums nor products fall where one part rises -/
theorem add_rises (a b c : Int) (h0 : 0 ≤ a) (h1 : a < 18446744073709551616) (h2 : 0 ≤ b) (h3 : b < 18446744073709551616) (h4 : 0 ≤ c) (h5 : c < 18446744073709551616) (hl : lessI a b = true) (kc : kindI c < 2) :
    lessI (addI b c) (addI a c) = false := by
  obtain ⟨ka, kb, hr⟩ := (less_iff a b).1 hl
  have Ra := rank_bd a h0 h1 ka
  have Rb := rank_bd b h2 h3 kb
  cases hh : lessI (addI b c) (addI a c) with
  | false => rfl
  | true =>
    exfalso
    obtain ⟨l1, l2, l3⟩ := (less_iff _ _).1 hh
    have S1 := rank_bd _ (addI_bd b c).1 (addI_bd b c).2 l1
    have S2 := rank_bd _ (addI_bd a c).1 (addI_bd a c).2 l2
    by_cases ka2 : kindI a = 2
    · have e := addI_inf a c h0 h1 h4 h5 ka2 (by omega) (fun h => by omega)
      rw [e] at l3 S2
      have := (kind_fld a h0 h1).2.1.1 ka2
      omega
    · by_cases kb2 : kindI b = 2
      · have e := addI_inf b c h2 h3 h4 h5 kb2 (by omega) (fun h => by omega)
        rw [e] at l3 S1
        have := (kind_fld b h2 h3).2.1.1 kb2
        omega
      · have ka1 : kindI a < 2 := by rcases kind_cases a with d | d | d | d <;> omega
        have kb1 : kindI b < 2 := by rcases kind_cases b with d | d | d | d <;> omega
        rw [rank_add b c h2 h3 h4 h5 kb1 kc, rank_add a c h0 h1 h4 h5 ka1 kc] at l3
        have hv := (val_rank a b h0 h2).1.2 hr
        have := srp_mono (-1074) (show valI a + valI c ≤ valI b + valI c by omega)
        omega

theorem mul_rises (a b c : Int) (h0 : 0 ≤ a) (h1 : a < 18446744073709551616) (h2 : 0 ≤ b) (h3 : b < 18446744073709551616) (h4 : 0 ≤ c) (h5 : c < 18446744073709551616) (hl : lessI a b = true) (kc : kindI c < 2) (hc : lessI 0 c = true) :
    lessI (mulI b c) (mulI a c) = false := by
  obtain ⟨ka, kb, hr⟩ := (less_iff a b).1 hl
  obtain ⟨_, _, rc⟩ := (less_iff 0 c).1 hc
  have r0 : rankI 0 = 0 := rfl
  rw [r0] at rc
  have Ra := rank_bd a h0 h1 ka
  have Rb := rank_bd b h2 h3 kb
  have kc1 : kindI c = 1 := by
    rcases kind_cases c with d | d | d | d
    · exfalso
      have := (read_zero c h4 h5 d).2
      rw [this] at rc
      have z : ∀ s, rankI (sb s) = 0 := fun s => by cases s <;> decide
      rw [z] at rc
      omega
    · exact d
    · omega
    · omega
  have nc : negB c.toNat = false := by
    unfold rankI at rc
    unfold negB
    split at rc
    · exact decide_eq_false (by omega)
    · omega
  cases hh : lessI (mulI b c) (mulI a c) with
  | false => rfl
  | true =>
    exfalso
    obtain ⟨l1, l2, l3⟩ := (less_iff _ _).1 hh
    have S1 := rank_bd _ (mulI_bd b c).1 (mulI_bd b c).2 l1
    have S2 := rank_bd _ (mulI_bd a c).1 (mulI_bd a c).2 l2
    by_cases ka2 : kindI a = 2
    · have e := mulI_21 a c h0 h1 h4 h5 ka2 kc1
      rw [nc, Bool.xor_false] at e
      have := (read_inf a h0 h1 ka2).2
      rw [e, ← this] at l3 S2
      have := (kind_fld a h0 h1).2.1.1 ka2
      omega
    · by_cases kb2 : kindI b = 2
      · have e := mulI_21 b c h2 h3 h4 h5 kb2 kc1
        rw [nc, Bool.xor_false] at e
        have := (read_inf b h2 h3 kb2).2
        rw [e, ← this] at l3 S1
        have := (kind_fld b h2 h3).2.1.1 kb2
        omega
      · have ka1 : kindI a < 2 := by rcases kind_cases a with d | d | d | d <;> omega
        have kb1 : kindI b < 2 := by rcases kind_cases b with d | d | d | d <;> omega
        rw [rank_mul b c h2 h3 h4 h5 kb1 kc, rank_mul a c h0 h1 h4 h5 ka1 kc] at l3
        have hv := (val_rank a b h0 h2).1.2 hr
        have vc : 0 < valI c := by
          have := (val_rank 0 c (by omega) h4).1.2 (by rw [r0]; exact rc)
          have z : valI 0 = 0 := rfl
          omega
        have := srp_mono (-2148) (Int.mul_le_mul_of_nonneg_right (show valI a ≤ valI b by omega) (show 0 ≤ valI c by omega))
        omega

theorem flip_flip (a : Int) (h0 : 0 ≤ a) (h1 : a < 18446744073709551616) : flipI (flipI a) = a := by unfold flipI; omega

theorem neg_neg (a : Int) (h0 : 0 ≤ a) (h1 : a < 18446744073709551616) (k : kindI a ≠ 3) : negI (negI a) = a := by
  have e : negI a = flipI a := by unfold negI; rw [if_neg k]; rfl
  have k2 : kindI (flipI a) ≠ 3 := by rw [kind_flip a h0 h1]; exact k
  have e2 : negI (flipI a) = flipI (flipI a) := by unfold negI; rw [if_neg k2]; rfl
  rw [e, e2, flip_flip a h0 h1]

theorem negI_bd (a : Int) : 0 ≤ negI a ∧ negI a < 18446744073709551616 := by
  unfold negI; split <;> omega

theorem one_parts : kindI 4607182418800017408 = 1 ∧ manI 4607182418800017408 = 4503599627370496 ∧ expI 4607182418800017408 = -52 ∧ negB (4607182418800017408 : Int).toNat = false := by decide +kernel

theorem quo_one (m : Nat) (hm : 0 < m) (hm1 : m < 9007199254740992) (i : Int) :
    rung (quoN m 4503599627370496 (54 + (4503599627370496 : Nat).log2 - m.log2)) (i - -52 - ((54 + (4503599627370496 : Nat).log2 - m.log2 : Nat) : Int) - 1) = rung m i := by
  have l52 : (4503599627370496 : Nat).log2 = 52 := by decide +kernel
  have lm : m.log2 ≤ 52 := by have := (Nat.log2_lt (by omega)).2 (show m < 2 ^ 53 from hm1); omega
  rw [l52]
  obtain ⟨t, ht⟩ : ∃ t, 54 + 52 - m.log2 = 52 + t := ⟨54 - m.log2, by omega⟩
  rw [ht]
  unfold quoN
  have e : m * 2 ^ (52 + t) = m * 2 ^ t * 4503599627370496 := by
    rw [Nat.pow_add, show (2 : Nat) ^ 52 = 4503599627370496 from rfl]; grind
  rw [e, Nat.mul_div_cancel _ (by decide), Nat.mul_mod_left, if_pos rfl, Nat.add_zero]
  have e2 : 2 * (m * 2 ^ t) = m * 2 ^ (t + 1) := by rw [Nat.pow_succ]; grind
  rw [e2, rung_scale]
  congr 1
  omega

theorem div_one (a : Int) (h0 : 0 ≤ a) (h1 : a < 18446744073709551616) (k : kindI a ≠ 3) : divI a 4607182418800017408 = a := by
  obtain ⟨k1, m1, e1, n1⟩ := one_parts
  rcases kind_cases a with c | c | c | c
  · rw [divI_01 a _ h0 h1 (by omega) (by omega) c k1, n1, Bool.xor_false]
    exact ((read_zero a h0 h1 c).2).symm
  · unfold divI Ieee.Format.div
    obtain ⟨ra, fa, ea⟩ := read_fin a h0 h1 c
    obtain ⟨rb, _, _⟩ := read_fin 4607182418800017408 (by omega) (by omega) k1
    rw [m1, e1, n1] at rb
    rw [ra, rb]
    simp only [Ieee.Datum.quotient]
    rw [if_neg (by decide), Option.map_some, write_num, opI_some, word_int, Bool.xor_false]
    have hf : Ieee.double.fractionBits + 2 = 54 := rfl
    rw [hf]
    have hm0 : (4503599627370496 : Int).toNat = 4503599627370496 := rfl
    rw [hm0]
    have pa := fa.pos
    have la := fa.lt
    have q := quo_one (manI a).toNat (by omega) (by omega) (expI a)
    have e : 2 * ((manI a).toNat <<< (54 + (4503599627370496 : Nat).log2 - (manI a).toNat.log2) / 4503599627370496) + ((manI a).toNat <<< (54 + (4503599627370496 : Nat).log2 - (manI a).toNat.log2) % 4503599627370496 != 0).toNat = quoN (manI a).toNat 4503599627370496 (54 + (4503599627370496 : Nat).log2 - (manI a).toNat.log2) := by
      unfold quoN
      rw [Nat.shiftLeft_eq]
      congr 1
      generalize (manI a).toNat * 2 ^ (54 + (4503599627370496 : Nat).log2 - (manI a).toNat.log2) % 4503599627370496 = z
      by_cases cz : z = 0
      · subst cz; rfl
      · have c' : (z != 0) = true := by rw [bne_iff_ne]; exact cz
        rw [c', if_neg cz]; rfl
    rw [e, q]
    exact ea.symm
  · rw [divI_2k a _ h0 h1 (by omega) (by omega) c (by omega), n1, Bool.xor_false]
    exact ((read_inf a h0 h1 c).2).symm
  · exact absurd c k

theorem kind_zero : kindI 0 = 0 := by decide +kernel

theorem sub_zero_left (a : Int) (h0 : 0 ≤ a) (h1 : a < 18446744073709551616) (k : kindI a ≠ 3) : subI 0 a = if kindI a = 0 then 0 else flipI a := by
  rw [← sub_flip 0 a h0 h1, addI_comm]
  obtain ⟨f0, f1⟩ := flip_bd a
  have kf := kind_flip a h0 h1
  rcases kind_cases a with c | c | c | c
  · rw [if_pos c, addI_00 (flipI a) 0 f0 f1 (by omega) (by omega) (by rw [kf]; exact c) kind_zero, u64_and _ _ f0 f1 (by omega) (by omega)]
    simp
  · rw [if_neg (by omega), addI_z (flipI a) 0 f0 f1 (by omega) (by omega) (by rw [kf]; exact c) kind_zero]
  · rw [if_neg (by omega), addI_inf (flipI a) 0 f0 f1 (by omega) (by omega) (by rw [kf]; exact c) (by rw [kind_zero]; decide) (fun h => by rw [kind_zero] at h; cases h)]
  · exact absurd c k

theorem sub_twice (a : Int) (h0 : 0 ≤ a) (h1 : a < 18446744073709551616) (k : kindI a ≠ 3) : subI 0 (subI 0 a) = addI a 0 := by
  obtain ⟨f0, f1⟩ := flip_bd a
  have kf := kind_flip a h0 h1
  rw [sub_zero_left a h0 h1 k]
  rcases kind_cases a with c | c | c | c
  · rw [if_pos c, addI_00 a 0 h0 h1 (by omega) (by omega) c kind_zero, u64_and _ _ h0 h1 (by omega) (by omega)]
    have : subI 0 0 = 0 := by decide +kernel
    rw [this]; simp
  · rw [if_neg (by omega), sub_zero_left (flipI a) f0 f1 (by rw [kf]; exact k), if_neg (by rw [kf]; omega), flip_flip a h0 h1, addI_z a 0 h0 h1 (by omega) (by omega) c kind_zero]
  · rw [if_neg (by omega), sub_zero_left (flipI a) f0 f1 (by rw [kf]; exact k), if_neg (by rw [kf]; omega), flip_flip a h0 h1, addI_inf a 0 h0 h1 (by omega) (by omega) c (by rw [kind_zero]; decide) (fun h => by rw [kind_zero] at h; cases h)]
  · exact absurd c k

theorem sub_self (a : Int) (h0 : 0 ≤ a) (h1 : a < 18446744073709551616) (k : kindI a < 2) : subI a a = 0 := by
  obtain ⟨s, m, e, ra, _, _⟩ := read_val a h0 h1 k
  unfold subI Ieee.Format.sub
  rw [ra]
  simp only [Ieee.Datum.opposite, Ieee.Datum.sum]
  have z : Ieee.signed s m (e - min e e).toNat + Ieee.signed (!s) m (e - min e e).toNat = 0 := by
    rw [signed_eq, signed_eq]
    cases s <;> simp <;> omega
  rw [Option.map_some, write_num, opI_some, word_int, z, if_pos rfl]
  have : (s && !s) = false := by cases s <;> rfl
  rw [this]
  have r0 : rung (0 : Int).natAbs (min e e) = 0 := rung_zero _
  rw [r0]; rfl

theorem remC_bd (a b : Int) (h0 : 0 ≤ a) (h1 : a < 18446744073709551616) : 0 ≤ remC a b ∧ remC a b < 18446744073709551616 := by
  unfold remC
  split
  · omega
  · split
    · exact ⟨h0, h1⟩
    · unfold roundI
      have := rung_le (modI (manI a) (expI a - expI b) (manI b)).toNat (expI b)
      rcases sgn_cases a h1 with c | c <;> rw [c] <;> omega

theorem rem_self (a : Int) (h0 : 0 ≤ a) (h1 : a < 18446744073709551616) (k : kindI a = 1) : equalI (remC a a) 0 = true := by
  obtain ⟨_, fa, _⟩ := read_fin a h0 h1 k
  have e : remC a a = sgnI a := by
    unfold remC
    rw [if_neg (by omega), if_neg (by omega)]
    have z : modI (manI a) (expI a - expI a) (manI a) = 0 := by
      unfold modI
      rw [show expI a - expI a = 0 from by omega]
      simp
    rw [z]
    unfold roundI
    have r0 : rung (0 : Int).toNat (expI a) = 0 := rung_zero _
    rw [r0]; simp
  rw [e]
  rcases sgn_cases a h1 with c | c <;> rw [c] <;> decide +kernel

theorem equal_zero (a : Int) (h0 : 0 ≤ a) (h1 : a < 18446744073709551616) (k : kindI a < 2) : equalI a 0 = (kindI a == 0) := by
  rcases kind_cases a with c | c | c | c
  · have := (read_zero a h0 h1 c).2
    rw [c, this]
    cases negB a.toNat <;> decide +kernel
  · rw [c]
    obtain ⟨_, fa, ea⟩ := read_fin a h0 h1 c
    unfold equalI
    rw [c, kind_zero]
    have r0 : rankI 0 = 0 := rfl
    rw [r0]
    have hne : rankI a ≠ 0 := by
      intro h
      have e := (val_rank a 0 h0 (by omega)).2.2 (by rw [r0]; exact h)
      have hm : a = 0 ∨ a = 9223372036854775808 := by unfold rankI at h; split at h <;> omega
      rcases hm with hm | hm <;> rw [hm] at c <;> revert c <;> decide +kernel
    simp [hne]
  · omega
  · omega

end Go.Proofs.Ytfhdmglfpkmjbaa
