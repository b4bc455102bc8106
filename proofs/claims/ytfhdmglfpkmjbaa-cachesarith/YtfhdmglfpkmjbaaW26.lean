/- What follows of whole numbers: plain, nothing of the program. -/
import Derived.Test.YtfhdmglfpkmjbaaW15
import Derived.Test.YtfhdmglfpkmjbaaW25
import Derived.Test.YtfhdmglfpkmjbaaM12
namespace Go.Proofs.Ytfhdmglfpkmjbaa
open Go.RowKit

/-- one, in units of the smallest number -/
def unitE : Nat := 1074
theorem ue : unitE = 1074 := rfl
def unit : Int := 2 ^ unitE
theorem unit_pos : 0 < unit := by unfold unit; exact Int.pow_pos (by decide)

theorem srp_unit (n : Int) : srp (-1074) (n * unit) = srp 0 n := by
  unfold unit
  rw [srp_scale, show -1074 + ((unitE : Nat) : Int) = 0 from by have := ue; omega]

theorem srp_val (a : Int) (h0 : 0 ≤ a) (h1 : a < 18446744073709551616) (k : kindI a < 2) : srp (-1074) (valI a) = rankI a := by
  rcases kind_cases a with c | c | c | c
  · obtain ⟨_, e⟩ := read_zero a h0 h1 c
    have r : rankI a = 0 := by rw [e]; cases negB a.toNat <;> rfl
    have v : valI a = 0 := by rw [val_of_rank a h0, r]; rfl
    rw [v, r]
    unfold srp
    rw [if_neg (by decide), show (0 : Int).natAbs = 0 from rfl, rung_zero]
    rfl
  · obtain ⟨_, f, e⟩ := read_fin a h0 h1 c
    have f3 := f.lo
    have v := val_parts a h0 h1 c
    have rl := rung_le (manI a).toNat (expI a)
    have sc := rung_scale (manI a).toNat (expI a + 1074).toNat (-1074)
    rw [show -1074 + (((expI a + 1074).toNat : Nat) : Int) = expI a from by omega] at sc
    have f1 := f.pos
    have pos : 0 < (manI a).toNat * 2 ^ (expI a + 1074).toNat := Nat.mul_pos (by omega) (Nat.two_pow_pos _)
    generalize (manI a).toNat * 2 ^ (expI a + 1074).toNat = z at *
    generalize rung (manI a).toNat (expI a) = R at *
    unfold srp
    rw [v]
    generalize negB a.toNat = s at *
    cases s
    · simp only [Bool.false_eq_true, if_false]
      rw [if_neg (by omega), Int.natAbs_natCast, sc]
      have e' : a = (R : Int) := by rw [e]; simp [sb]
      unfold rankI
      rw [if_pos (by omega)]
      exact e'.symm
    · simp only [if_true]
      rw [if_pos (by omega), Int.natAbs_neg, Int.natAbs_natCast, sc]
      have e' : a = 9223372036854775808 + (R : Int) := by rw [e]; simp [sb]
      unfold rankI
      rw [if_neg (by omega)]
      omega
  · omega
  · omega

theorem val_flip (c : Int) (h0 : 0 ≤ c) (h1 : c < 18446744073709551616) : valI (flipI c) = -valI c := by
  unfold flipI valI
  by_cases d : c < 9223372036854775808
  · rw [if_pos d, if_neg (by omega), show ((c + 9223372036854775808) % 18446744073709551616 - 9223372036854775808).toNat = c.toNat from by omega]
  · rw [if_neg d, if_pos (by omega), show ((c + 9223372036854775808) % 18446744073709551616).toNat = (c - 9223372036854775808).toNat from by omega]
    omega

theorem kind_flip' (a : Int) (h0 : 0 ≤ a) (h1 : a < 18446744073709551616) : kindI (flipI a) = kindI a :=
  kind_mod a _ h0 h1 (by unfold flipI; omega) (flip_bd a).1

theorem rank_sub (a c : Int) (h0 : 0 ≤ a) (h1 : a < 18446744073709551616) (h2 : 0 ≤ c) (h3 : c < 18446744073709551616) (ka : kindI a < 2) (kc : kindI c < 2) :
    rankI (subI a c) = srp (-1074) (valI a - valI c) := by
  rw [← sub_flip a c h2 h3, rank_add a (flipI c) h0 h1 (flip_bd c).1 (flip_bd c).2 ka (by rw [kind_flip' c h2 h3]; exact kc), val_flip c h2 h3]
  rfl

/-- a finite word's kind, by its rank -/
theorem kind_rank (a : Int) (h0 : 0 ≤ a) (h1 : a < 18446744073709551616) (r0 : -9218868437227405312 < rankI a) (r1 : rankI a < 9218868437227405312) : kindI a < 2 :=
  (kind_fld a h0 h1).1.2 ⟨r1, r0⟩

theorem rung_whole_lt (n : Nat) (h : n < 9007199254740992) : rung n 0 < 9218868437227405312 := by
  have a := rung_mono 0 (show n ≤ 9007199254740992 by omega)
  have b : rung 9007199254740992 0 = 4845873199050653696 := by decide +kernel
  omega

theorem from_bd (n : Int) (n0 : -9007199254740992 < n) (n1 : n < 9007199254740992) : 0 ≤ fromI n ∧ fromI n < 18446744073709551616 := by
  unfold fromI
  split
  · have := rung_whole_lt (-n).toNat (by omega); omega
  · have := rung_whole_lt n.toNat (by omega); omega

theorem from_rank (n : Int) (n0 : -9007199254740992 < n) (n1 : n < 9007199254740992) : rankI (fromI n) = srp 0 n := by
  unfold fromI srp rankI
  by_cases c : n < 0
  · have := rung_whole_lt (-n).toNat (by omega)
    rw [if_pos c, if_pos c, if_neg (by omega), show n.natAbs = (-n).toNat from by omega]
    omega
  · have := rung_whole_lt n.toNat (by omega)
    rw [if_neg c, if_neg c, if_pos (by omega), show n.natAbs = n.toNat from by omega]

theorem from_kind (n : Int) (n0 : -9007199254740992 < n) (n1 : n < 9007199254740992) : kindI (fromI n) < 2 := by
  obtain ⟨b0, b1⟩ := from_bd n n0 n1
  have r := from_rank n n0 n1
  refine kind_rank _ b0 b1 ?_ ?_
  · rw [r]; unfold srp
    have := rung_whole_lt n.natAbs (by omega)
    split <;> omega
  · rw [r]; unfold srp
    have := rung_whole_lt n.natAbs (by omega)
    split <;> omega

theorem from_val (n : Int) (n0 : -9007199254740992 < n) (n1 : n < 9007199254740992) : valI (fromI n) = n * unit := by
  obtain ⟨b0, b1⟩ := from_bd n n0 n1
  rw [val_of_rank _ b0, from_rank n n0 n1]
  have v := val_rung n.natAbs 0 (by omega) (by omega) (by omega)
  rw [show ((0 : Int) + 1074).toNat = unitE from by have := ue; omega] at v
  have e : ((n.natAbs * 2 ^ unitE : Nat) : Int) = (n.natAbs : Int) * unit := by
    unfold unit
    rw [Int.natCast_mul, Int.natCast_pow]
    rfl
  have p := unit_pos
  have pos : n ≠ 0 → 0 < rung n.natAbs 0 := by
    intro hn
    refine Nat.pos_of_ne_zero fun h => ?_
    rw [h, valN_low 0 (by decide)] at v
    have := Nat.mul_pos (show 0 < n.natAbs by omega) (Nat.two_pow_pos unitE)
    omega
  unfold valR srp
  by_cases c : n < 0
  · have := pos (by omega)
    rw [if_pos c, if_pos (by omega), show (- -((rung n.natAbs 0 : Nat) : Int)).toNat = rung n.natAbs 0 from by omega, v, e, ← Int.neg_mul, show -(n.natAbs : Int) = n from by omega]
  · rw [if_neg c, if_neg (by omega), Int.toNat_natCast, v, e, show (n.natAbs : Int) = n from by omega]

theorem from_rank_ne (n : Int) (n0 : -9007199254740992 < n) (n1 : n < 9007199254740992) (h : n ≠ 0) : rankI (fromI n) ≠ 0 := by
  obtain ⟨b0, b1⟩ := from_bd n n0 n1
  intro r
  have v := from_val n n0 n1
  rw [val_of_rank _ b0, r] at v
  have z : valR 0 = 0 := rfl
  rw [z] at v
  have p := unit_pos
  rcases Int.mul_eq_zero.1 v.symm with h' | h'
  · exact h h'
  · omega

theorem from_kind1 (n : Int) (n0 : -9007199254740992 < n) (n1 : n < 9007199254740992) (h : n ≠ 0) : kindI (fromI n) = 1 := by
  obtain ⟨b0, b1⟩ := from_bd n n0 n1
  have k := from_kind n n0 n1
  rcases kind_cases (fromI n) with c | c | c | c
  · exfalso
    obtain ⟨_, e⟩ := read_zero _ b0 b1 c
    refine from_rank_ne n n0 n1 h ?_
    rw [e]
    cases negB (fromI n).toNat <;> rfl
  · exact c
  · omega
  · omega

theorem from_sgn (n : Int) (n0 : -9007199254740992 < n) (n1 : n < 9007199254740992) : sgnI (fromI n) = if n < 0 then 9223372036854775808 else 0 := by
  unfold fromI sgnI sgnN
  by_cases c : n < 0
  · have := rung_whole_lt (-n).toNat (by omega)
    rw [if_pos c, if_pos c]
    generalize rung (-n).toNat 0 = R at *
    omega
  · have := rung_whole_lt n.toNat (by omega)
    rw [if_neg c, if_neg c]
    generalize rung n.toNat 0 = R at *
    omega

/-- its parts: no more than 53 bits, and nothing behind the point -/
theorem from_parts (n : Int) (n0 : -9007199254740992 < n) (n1 : n < 9007199254740992) (h : n ≠ 0) : expI (fromI n) ≤ 0 ∧ sizeI (manI (fromI n)) (expI (fromI n)) = (n.natAbs : Int) := by
  obtain ⟨b0, b1⟩ := from_bd n n0 n1
  have k := from_kind1 n n0 n1 h
  have v := val_parts _ b0 b1 k
  rw [from_val n n0 n1] at v
  obtain ⟨_, f, _⟩ := read_fin _ b0 b1 k
  obtain ⟨f1, f2, f3, f4, f5⟩ := f
  have key : n.natAbs * 2 ^ unitE = (manI (fromI n)).toNat * 2 ^ (expI (fromI n) + 1074).toNat := by
    have a : (n * unit).natAbs = n.natAbs * 2 ^ unitE := by unfold unit; rw [natAbs_scale]
    rw [← a, v]
    split
    · rw [Int.natAbs_neg, Int.natAbs_natCast]
    · rw [Int.natAbs_natCast]
  generalize manI (fromI n) = m at *
  generalize expI (fromI n) = e at *
  clear v
  obtain ⟨M, rfl⟩ := Int.eq_ofNat_of_zero_le (show 0 ≤ m by omega)
  rw [Int.toNat_natCast] at key
  have le : e ≤ 0 := by
    refine Classical.byContradiction fun c => ?_
    have g := f5 (by omega)
    obtain ⟨d, hd⟩ : ∃ d : Nat, (e + 1074).toNat = unitE + 1 + d := ⟨(e - 1).toNat, by have := ue; omega⟩
    rw [hd, Nat.pow_add, Nat.pow_add, ← Nat.mul_assoc, ← Nat.mul_assoc, Nat.mul_right_comm M, Nat.mul_right_comm (M * 2 ^ 1)] at key
    have p := Nat.two_pow_pos unitE
    have q := Nat.two_pow_pos d
    have key' := Nat.eq_of_mul_eq_mul_right p key
    have : M * 2 ^ 1 * 1 ≤ M * 2 ^ 1 * 2 ^ d := Nat.mul_le_mul_left _ q
    omega
  refine ⟨le, ?_⟩
  obtain ⟨d, hd⟩ : ∃ d : Nat, e = -(d : Int) := ⟨(-e).toNat, by omega⟩
  subst hd
  have key2 : n.natAbs * 2 ^ d = M := by
    have s : unitE = d + (-(d : Int) + 1074).toNat := by have := ue; omega
    have key3 : n.natAbs * 2 ^ (d + (-(d : Int) + 1074).toNat) = M * 2 ^ (-(d : Int) + 1074).toNat := by rw [← s]; exact key
    rw [Nat.pow_add, ← Nat.mul_assoc] at key3
    exact Nat.eq_of_mul_eq_mul_right (Nat.two_pow_pos _) key3
  clear key
  unfold sizeI
  by_cases c : -(d : Int) < 0
  · rw [if_pos c, show (- -(d : Int)).toNat = d from by omega, ← key2, Int.natCast_mul, Int.natCast_pow]
    exact Int.mul_ediv_cancel _ (Int.ne_of_gt (Int.pow_pos (by decide)))
  · have : d = 0 := by omega
    subst this
    rw [if_neg c, show (-((0 : Nat) : Int)).toNat = 0 from rfl]
    rw [Nat.pow_zero, Nat.mul_one] at key2
    omega

theorem from_trunc (n : Int) (n0 : -9007199254740992 < n) (n1 : n < 9007199254740992) : truncI (fromI n) = fromI n := by
  by_cases h : n = 0
  · subst h; decide +kernel
  · have k := from_kind1 n n0 n1 h
    obtain ⟨le, sz⟩ := from_parts n n0 n1 h
    unfold truncI
    rw [if_neg (by omega)]
    by_cases c : 0 ≤ expI (fromI n)
    · rw [if_pos (Or.inr c)]
    · rw [if_neg (by simp [k]; omega), sz, from_sgn n n0 n1]
      unfold roundI fromI
      rw [Int.toNat_natCast]
      by_cases d : n < 0
      · rw [if_pos d, if_pos d, show n.natAbs = (-n).toNat from by omega]
      · rw [if_neg d, if_neg d, show n.natAbs = n.toNat from by omega]
        omega

theorem from_ne (n : Int) (n0 : -9007199254740992 < n) (n1 : n < 9007199254740992) (h : n ≠ 0) : fromI n ≠ 0 := by
  intro e
  have := from_rank_ne n n0 n1 h
  rw [e] at this
  exact this rfl

theorem from_whole (n : Int) (n0 : -9007199254740992 < n) (n1 : n < 9007199254740992) : wholeI (fromI n) = (n, true) := by
  by_cases h : n = 0
  · subst h; decide +kernel
  · have k := from_kind1 n n0 n1 h
    obtain ⟨le, sz⟩ := from_parts n n0 n1 h
    unfold wholeI
    rw [if_neg (from_ne n n0 n1 h), if_neg (by simp [k, from_trunc n n0 n1]; omega), sz, from_sgn n n0 n1]
    by_cases d : n < 0
    · rw [if_pos d, if_neg (by decide), show -(n.natAbs : Int) = n from by omega]
    · rw [if_neg d, if_pos rfl, show (n.natAbs : Int) = n from by omega]

theorem from_u32 (n : Int) (n0 : -9007199254740992 < n) (n1 : n < 9007199254740992) : u32I (fromI n) = n % 4294967296 := by
  unfold u32I
  by_cases h : n = 0
  · subst h; decide +kernel
  · have k := from_kind1 n n0 n1 h
    obtain ⟨le, sz⟩ := from_parts n n0 n1 h
    rw [if_neg (by simp [k]), sz, from_sgn n n0 n1]
    by_cases d : n < 0
    · rw [if_pos d, if_neg (by decide), show -(n.natAbs : Int) = n from by omega]
    · rw [if_neg d, if_pos rfl, show (n.natAbs : Int) = n from by omega]
end Go.Proofs.Ytfhdmglfpkmjbaa
