/- The document's word of a number: which numbers are whole and small, by their order and their floor. -/
import Derived.Test.YtfhdmglfpkmjbaaV2
import Derived.Test.YtfhdmglfpkmjbaaW37
namespace Go.Proofs.Ytfhdmglfpkmjbaa
open Go.RowKit
set_option linter.unusedVariables false

theorem lo_eq : fromI (-2147483648) = 13970166044103278592 := by decide +kernel
theorem hi_eq : fromI 2147483647 = 4746794007244308480 := by decide +kernel
theorem lo_parts : kindI 13970166044103278592 = 1 ∧ kindI 4746794007244308480 = 1 := by decide +kernel

theorem from_leq (m n : Int) (m0 : -9007199254740992 < m) (m1 : m < 9007199254740992) (n0 : -9007199254740992 < n) (n1 : n < 9007199254740992) :
    rankI (fromI m) ≤ rankI (fromI n) ↔ m ≤ n := by
  obtain ⟨a0, a1⟩ := from_bd m m0 m1
  obtain ⟨b0, b1⟩ := from_bd n n0 n1
  have v := (val_rank (fromI n) (fromI m) b0 a0).1
  rw [from_val m m0 m1, from_val n n0 n1] at v
  have p := unit_pos
  have q : n * unit < m * unit ↔ n < m := Int.mul_lt_mul_right p
  omega

theorem whole_of (a n : Int) (h0 : 0 ≤ a) (h1 : a < 18446744073709551616) (h : fromI n = a) (n0 : -9007199254740992 < n) (n1 : n < 9007199254740992) (hz : a ≠ 9223372036854775808) : wholeOf a = n := by
  have k : kindI a < 2 := by rw [← h]; exact from_kind n n0 n1
  have v := val_mag a h0 h1 k
  have e : valI a = n * unit := by rw [← h]; exact from_val n n0 n1
  rw [e] at v
  have nb := neg_from n n0 n1
  rw [h] at nb
  unfold wholeOf
  rw [nb] at v ⊢
  have p := Nat.two_pow_pos unitE
  have mg : magI a = n.natAbs * 2 ^ unitE := by
    have x : (n * unit).natAbs = n.natAbs * 2 ^ unitE := by unfold unit; rw [natAbs_scale]
    rw [← x, v]
    unfold withS
    split
    · rw [Int.natAbs_neg, Int.natAbs_natCast]
    · rw [Int.natAbs_natCast]
  rw [mg, Nat.mul_div_cancel _ p]
  unfold withS
  by_cases c : n < 0
  · rw [decide_eq_true c, if_pos rfl]; omega
  · rw [decide_eq_false c, if_neg (by decide)]; omega

/-- what is whole and small, as the document's tests see it -/
theorem small_tests (a : Int) (h0 : 0 ≤ a) (h1 : a < 18446744073709551616) (s : smallB a = true) :
    kindI a < 2 ∧ rankI 13970166044103278592 ≤ rankI a ∧ rankI a ≤ rankI 4746794007244308480 ∧ floorI a = a ∧ a ≠ 9223372036854775808 ∧ wholeOf a = (wholeI a).1 := by
  obtain ⟨w, n0, n1⟩ := small_whole a s
  obtain ⟨b, _, _⟩ := whole_back a _ h0 h1 w
  have k : kindI a < 2 := by rw [← b]; exact from_kind _ (by omega) (by omega)
  have hz : a ≠ 9223372036854775808 := by
    intro z
    rw [z] at w
    have : (wholeI 9223372036854775808).2 = false := by decide +kernel
    rw [w] at this
    exact absurd this (by decide)
  refine ⟨k, ?_, ?_, ?_, hz, whole_of a _ h0 h1 b (by omega) (by omega) hz⟩
  · rw [← b, ← lo_eq, from_leq _ _ (by omega) (by omega) (by omega) (by omega)]; exact n0
  · rw [← b, ← hi_eq, from_leq _ _ (by omega) (by omega) (by omega) (by omega)]; exact n1
  · have t : truncI a = a := by rw [← b]; exact from_trunc _ (by omega) (by omega)
    unfold floorI
    rw [t, less_false a a h0 h0 (Int.le_refl _), if_neg (by decide)]

theorem tests_small (a : Int) (h0 : 0 ≤ a) (h1 : a < 18446744073709551616) (k3 : kindI a ≠ 3)
    (lo : rankI 13970166044103278592 ≤ rankI a) (hi : rankI a ≤ rankI 4746794007244308480) (hf : equalI a (floorI a) = true) (hz : a ≠ 9223372036854775808) : smallB a = true := by
  have e1 : rankI 13970166044103278592 = -4746794007248502784 := by decide +kernel
  have e2 : rankI 4746794007244308480 = 4746794007244308480 := by decide +kernel
  rw [e1] at lo
  rw [e2] at hi
  have k2 : kindI a < 2 := kind_rank a h0 h1 (by omega) (by omega)
  by_cases z : a = 0
  · subst z; decide +kernel
  have k1 : kindI a = 1 := by
    rcases kind_cases a with c | c | c | c
    · obtain ⟨_, e⟩ := read_zero a h0 h1 c
      exfalso
      cases hb : negB a.toNat with
      | true => rw [hb] at e; exact hz e
      | false => rw [hb] at e; exact z e
    · exact c
    · omega
    · omega
  have ex : expI a ≤ 0 := by
    have := (rank_big a h0 h1 k1).1
    omega
  obtain ⟨t0, t1⟩ := trunc_bd a h0 h1
  obtain ⟨kt, vt⟩ := trunc_val a h0 h1 k2
  have vm := val_mag a h0 h1 k2
  have hr : rankI a = rankI (floorI a) := by
    unfold equalI at hf
    simp only [Bool.and_eq_true] at hf
    exact beq_iff_eq.1 hf.2
  have rz : rankI a ≠ 0 := by
    intro r
    rcases zero_of_rank a r with c | c
    · exact z c
    · exact hz c
  have tr : truncI a = a := by
    cases hl : lessI a (truncI a) with
    | false =>
      unfold floorI at hr
      rw [hl, if_neg (by decide)] at hr
      exact (word_of_rank a _ h0 h1 t0 t1 hr (by rw [← hr]; exact rz)).symm
    | true =>
      exfalso
      have vl := (val_rank a (truncI a) h0 t0).1.2 ((less_iff _ _).1 hl).2.2
      have lv : -2147483648 * unit ≤ valI a := by
        obtain ⟨x0, _⟩ := from_bd (-2147483648) (by omega) (by omega)
        rw [← from_val (-2147483648) (by omega) (by omega)]
        have := (val_rank a (fromI (-2147483648)) h0 x0).1
        rw [lo_eq, e1] at this
        rw [lo_eq]
        omega
      have p := Nat.two_pow_pos unitE
      have dm := Nat.div_add_mod (magI a) (2 ^ unitE)
      have ml := Nat.mod_lt (magI a) p
      have hs : magI a ≤ 2147483648 * 2 ^ unitE → magI a / 2 ^ unitE ≤ 2147483648 := fun h => Nat.div_le_of_le_mul (by rw [Nat.mul_comm]; exact h)
      generalize hq : magI a / 2 ^ unitE = q at *
      generalize hm : magI a % 2 ^ unitE = r at *
      have uN := unitN
      generalize hU : 2 ^ unitE = U at *
      rw [Nat.mul_comm] at dm
      have sb : (((q + 1) * U : Nat) : Int) = (q * U : Nat) + U := by rw [Nat.add_mul, Nat.one_mul, Int.natCast_add]
      cases hn : negB a.toNat with
      | false =>
        rw [hn] at vm vt
        unfold withS at vm vt
        simp only [Bool.false_eq_true, if_false] at vm vt
        rw [vm, vt] at vl
        omega
      | true =>
        rw [hn] at vm vt
        unfold withS at vm vt
        simp only [if_true] at vm vt
        rw [vm, uN] at lv
        have hs' := hs (by omega)
        have f : rankI (floorI a) = rankI (fromI (-((q + 1 : Nat) : Int))) := by
          unfold floorI
          rw [hl, if_pos rfl, rank_sub _ _ t0 t1 (by omega) (by omega) kt (by rw [one_prt.1]; decide), one_val, vt, from_rank _ (by omega) (by omega), ← srp_unit]
          have g : -((q * U : Nat) : Int) - unit = -((q + 1 : Nat) : Int) * unit := by
            rw [uN, Int.neg_mul, ← Int.natCast_mul, sb]
            omega
          rw [g]
        have vf : valI a = valI (fromI (-((q + 1 : Nat) : Int))) := by
          obtain ⟨x0, _⟩ := from_bd (-((q + 1 : Nat) : Int)) (by omega) (by omega)
          exact (val_rank a _ h0 x0).2.2 (hr.trans f)
        rw [from_val _ (by omega) (by omega), vm, uN, Int.neg_mul, ← Int.natCast_mul, sb] at vf
        omega
  have w : wholeI a = ((wholeI a).1, true) := by
    unfold wholeI
    rw [if_neg z, if_neg (by simp [k1, tr]; omega)]
  obtain ⟨b, m0, m1⟩ := whole_back a _ h0 h1 w
  rw [← e1, ← lo_eq, ← b, from_leq _ _ (by omega) (by omega) m0 m1] at lo
  rw [← e2, ← hi_eq, ← b, from_leq _ _ m0 m1 (by omega) (by omega)] at hi
  exact small_of a _ w lo hi
end Go.Proofs.Ytfhdmglfpkmjbaa
