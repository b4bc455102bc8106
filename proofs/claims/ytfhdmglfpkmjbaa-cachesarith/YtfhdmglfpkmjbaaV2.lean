/- What follows of words: plain, nothing of the program. -/
import Derived.Test.YtfhdmglfpkmjbaaV1
import Derived.Test.YtfhdmglfpkmjbaaW26
namespace Go.Proofs.Ytfhdmglfpkmjbaa
open Go.RowKit
set_option linter.unusedVariables false

theorem tag_kind (a : Int) (h0 : 18444773748872577024 ≤ a) (h1 : a < 18445899648779419648) : kindI a = 3 := by
  unfold kindI
  have e1 : fldN a.toNat = 2047 := by unfold fldN; omega
  have e2 : frcN a.toNat ≠ 0 := by unfold frcN; omega
  rw [if_pos e1, if_neg e2]

theorem isT_iff (a t : Int) : isT a t = true ↔ a / 4294967296 = t * 65536 := by unfold isT; exact beq_iff_eq

theorem isT_of (a t : Int) (h : isT a t = true) : a = t * 281474976710656 + a % 4294967296 := by
  have := (isT_iff a t).1 h
  omega

theorem isT_false (a t : Int) (h : a / 4294967296 ≠ t * 65536) : isT a t = false := by unfold isT; exact beq_eq_false_iff_ne.2 h

theorem nan_kind : kindI 9221120237041090560 = 3 := by decide +kernel

theorem num_nan (a : Int) (k : kindI a = 3) : numI a = 9221120237041090560 := by unfold numI; rw [if_pos k]

theorem whole_back (a n : Int) (h0 : 0 ≤ a) (h1 : a < 18446744073709551616) (h : wholeI a = (n, true)) : fromI n = a ∧ -9007199254740992 < n ∧ n < 9007199254740992 := by
  unfold wholeI at h
  by_cases z : a = 0
  · rw [if_pos z] at h
    have : n = 0 := by simpa using (congrArg Prod.fst h).symm
    subst this z
    exact ⟨by decide +kernel, by omega, by omega⟩
  rw [if_neg z] at h
  by_cases c : kindI a ≠ 1 ∨ 0 < expI a ∨ truncI a ≠ a
  · rw [if_pos c] at h
    exact absurd (congrArg Prod.snd h) (by simp)
  rw [if_neg c] at h
  have hn := congrArg Prod.fst h
  dsimp only at hn
  have k1 : kindI a = 1 := Classical.byContradiction fun x => c (Or.inl x)
  have ex : expI a ≤ 0 := Classical.byContradiction fun x => c (Or.inr (Or.inl (by omega)))
  have tr : truncI a = a := Classical.byContradiction fun x => c (Or.inr (Or.inr x))
  clear c h
  obtain ⟨_, f, fe⟩ := read_fin a h0 h1 k1
  obtain ⟨f1, f2, f3, f4, _⟩ := f
  have zs := size_small (manI a) (expI a) (by omega) (by omega) ex
  obtain ⟨z0, z1⟩ := size_bd (manI a) (expI a) (by omega) (by omega)
  have key : a = sgnI a + ((rung (sizeI (manI a) (expI a)).toNat 0 : Nat) : Int) := by
    by_cases d : 0 ≤ expI a
    · have d0 : expI a = 0 := by omega
      rw [d0] at fe ⊢
      have e : sizeI (manI a) 0 = manI a := by
        unfold sizeI
        rw [if_neg (by omega), show (0 : Int).toNat = 0 from rfl, Int.pow_zero, Int.mul_one]
        omega
      rw [e, sgn_sb a h0 h1]
      exact fe
    · unfold truncI at tr
      rw [if_neg (by omega), if_neg (by simp [k1]; omega)] at tr
      unfold roundI at tr
      exact tr.symm
  generalize sizeI (manI a) (expI a) = S at *
  clear fe tr
  refine ⟨?_, ?_, ?_⟩
  · unfold fromI
    by_cases s : sgnI a = 0
    · rw [if_pos s] at hn
      subst hn
      rw [s] at key
      rw [if_neg (by omega)]
      omega
    · have s' : sgnI a = 9223372036854775808 := by have := sgn_cases a h1; omega
      rw [if_neg s] at hn
      subst hn
      rw [s'] at key
      by_cases p : S = 0
      · exfalso
        subst p
        rw [show (0 : Int).toNat = 0 from rfl, rung_zero] at key
        have : a = 9223372036854775808 := by omega
        rw [this] at k1
        exact absurd k1 (by decide +kernel)
      · rw [if_pos (by omega), show (- -S).toNat = S.toNat from by omega]
        exact key.symm
  · split at hn <;> omega
  · split at hn <;> omega

theorem small_whole (a : Int) (h : smallB a = true) : wholeI a = ((wholeI a).1, true) ∧ -2147483648 ≤ (wholeI a).1 ∧ (wholeI a).1 ≤ 2147483647 := by
  unfold smallB at h
  simp only [Bool.and_eq_true, decide_eq_true_eq] at h
  exact ⟨by rw [← h.1], h.2.1, h.2.2⟩

theorem small_of (a n : Int) (h : wholeI a = (n, true)) (n0 : -2147483648 ≤ n) (n1 : n ≤ 2147483647) : smallB a = true := by
  unfold smallB
  rw [h]
  simp [n0, n1]

theorem low_int (n : Int) (n0 : -2147483648 ≤ n) (n1 : n ≤ 2147483647) : lowI (intW n) = n := by
  unfold lowI intW; rw [IntKind.wrap_i32]; omega

theorem isT_int (n : Int) : isT (intW n) 65529 = true := by rw [isT_iff]; unfold intW; omega

theorem bits_int (n : Int) (n0 : -2147483648 ≤ n) (n1 : n ≤ 2147483647) : bitsI (intW n) = (fromI n, true) := by
  unfold bitsI
  rw [isT_int n, if_pos rfl, low_int n n0 n1]

theorem from_small (n : Int) (n0 : -2147483648 ≤ n) (n1 : n ≤ 2147483647) : numI (fromI n) = intW n := by
  have k := from_kind n (by omega) (by omega)
  have w := from_whole n (by omega) (by omega)
  unfold numI
  rw [if_neg (by omega), if_pos (small_of _ n w n0 n1), w]

/-- a number, or the one that is none -/
def canon (a : Int) : Int := if kindI a = 3 then 9221120237041090560 else a

theorem canon_bd (a : Int) (h0 : 0 ≤ a) (h1 : a < 18446744073709551616) : 0 ≤ canon a ∧ canon a < 18446744073709551616 := by
  unfold canon; split <;> omega

theorem num_canon (a : Int) : numI (canon a) = numI a := by
  unfold canon
  split
  · rename_i k
    rw [num_nan a k, num_nan _ nan_kind]
  · rfl

/-- which words are of a tag: none of a number -/
theorem num_cases (a : Int) : (kindI a = 3 ∧ numI a = 9221120237041090560) ∨ (kindI a ≠ 3 ∧ smallB a = true ∧ numI a = intW (wholeI a).1) ∨ (kindI a ≠ 3 ∧ smallB a = false ∧ numI a = a) := by
  by_cases k : kindI a = 3
  · exact Or.inl ⟨k, num_nan a k⟩
  · cases s : smallB a with
    | true => exact Or.inr (Or.inl ⟨k, rfl, by unfold numI; rw [if_neg k, s, if_pos rfl]⟩)
    | false => exact Or.inr (Or.inr ⟨k, rfl, by unfold numI; rw [if_neg k, s, if_neg (by decide)]⟩)

/-- a word that is a number's own bits has no tag -/
theorem own_tag (a : Int) (h0 : 0 ≤ a) (h1 : a < 18446744073709551616) (h : numI a = a) : a < 18444773748872577024 ∨ 18445899648779419648 ≤ a := by
  refine Classical.byContradiction fun c => ?_
  have k := tag_kind a (by omega) (by omega)
  rw [num_nan a k] at h
  omega

theorem num_own (a : Int) (h : smallB a = false) (k : kindI a ≠ 3) : numI a = a := by unfold numI; rw [if_neg k, h, if_neg (by decide)]

theorem bits_own (a : Int) (h0 : 0 ≤ a) (h1 : a < 18446744073709551616) (h : numI a = a) : bitsI a = (a, true) := by
  have t := own_tag a h0 h1 h
  unfold bitsI
  rw [isT_false a _ (by omega), if_neg (by decide), h, if_pos (by simp)]

theorem bits_num (a : Int) (h0 : 0 ≤ a) (h1 : a < 18446744073709551616) : bitsI (numI a) = (canon a, true) := by
  rcases num_cases a with ⟨k, e⟩ | ⟨k, s, e⟩ | ⟨k, s, e⟩
  · rw [e, bits_own _ (by omega) (by omega) (num_nan _ nan_kind)]
    unfold canon; rw [if_pos k]
  · obtain ⟨w, n0, n1⟩ := small_whole a s
    rw [e, bits_int _ n0 n1, (whole_back a _ h0 h1 w).1]
    unfold canon; rw [if_neg k]
  · rw [e, bits_own a h0 h1 e]
    unfold canon; rw [if_neg k]

theorem right_own (a : Int) (h0 : 0 ≤ a) (h1 : a < 18446744073709551616) (h : numI a = a) : rightI a = true := by
  have t := own_tag a h0 h1 h
  unfold rightI
  rw [if_neg (by omega), if_neg (by omega), h]
  simp

theorem right_int (n : Int) : rightI (intW n) = true := by
  have e : intW n / 281474976710656 = 65529 := by unfold intW; omega
  unfold rightI
  rw [if_pos (Or.inl e), e]
  exact isT_int n

theorem right_num (a : Int) (h0 : 0 ≤ a) (h1 : a < 18446744073709551616) : rightI (numI a) = true := by
  rcases num_cases a with ⟨k, e⟩ | ⟨k, s, e⟩ | ⟨k, s, e⟩
  · rw [e]; exact right_own _ (by omega) (by omega) (num_nan _ nan_kind)
  · rw [e]; exact right_int _
  · rw [e]; exact right_own a h0 h1 e

theorem num_same (a b : Int) (h0 : 0 ≤ a) (h1 : a < 18446744073709551616) (h2 : 0 ≤ b) (h3 : b < 18446744073709551616) : (numI a == numI b) = (canon a == canon b) := by
  rw [Bool.eq_iff_iff, beq_iff_eq, beq_iff_eq]
  constructor
  · intro h
    have ha := bits_num a h0 h1
    rw [h, bits_num b h2 h3] at ha
    exact (congrArg Prod.fst ha).symm
  · intro h
    rw [← num_canon a, h, num_canon b]

theorem obj_facts (n : Int) (n0 : 0 ≤ n) (n1 : n < 4294967296) : isObjI (objW n) = (n, true) ∧ (isIntI (objW n)).2 = false ∧ rightI (objW n) = true := by
  have e : isT (objW n) 65530 = true := by rw [isT_iff]; unfold objW; omega
  have q : objW n / 281474976710656 = 65530 := by unfold objW; omega
  refine ⟨?_, ?_, ?_⟩
  · unfold isObjI
    rw [e, if_pos rfl, show objW n % 4294967296 = n from by unfold objW; omega]
  · exact isT_false _ _ (by unfold objW; omega)
  · unfold rightI
    rw [if_pos (Or.inr (Or.inl q)), q]
    exact e

theorem txt_facts (n : Int) (n0 : 0 ≤ n) (n1 : n < 4294967296) : isTxtI (txtW n) = (n, true) ∧ (isObjI (txtW n)).2 = false ∧ rightI (txtW n) = true := by
  have e : isT (txtW n) 65532 = true := by rw [isT_iff]; unfold txtW; omega
  have q : txtW n / 281474976710656 = 65532 := by unfold txtW; omega
  refine ⟨?_, ?_, ?_⟩
  · unfold isTxtI
    rw [e, if_pos rfl, show txtW n % 4294967296 = n from by unfold txtW; omega]
  · exact isT_false _ _ (by unfold txtW; omega)
  · unfold rightI
    rw [if_pos (Or.inr (Or.inr q)), q]
    exact e

theorem int_facts (n : Int) (n0 : -2147483648 ≤ n) (n1 : n ≤ 2147483647) : isIntI (intW n) = (n, true) := by
  unfold isIntI
  rw [isT_int n, if_pos rfl, low_int n n0 n1]

/-- how many kinds a word is of -/
def manyI (a : Int) : Int := (if (bitsI a).2 then 1 else 0) + (if isT a 65530 then 1 else 0) + (if isT a 65532 then 1 else 0) + (if 18445336698825998336 ≤ a ∧ a ≤ 18445336698825998340 then 1 else 0)

theorem bits_snd (a : Int) : (bitsI a).2 = (isT a 65529 || (numI a == a)) := by
  unfold bitsI
  cases isT a 65529
  · cases numI a == a <;> rfl
  · rfl

theorem many_right (a : Int) (h0 : 0 ≤ a) (h1 : a < 18446744073709551616) : (manyI a = 1 ∧ rightI a = true) ∨ (manyI a = 0 ∧ rightI a = false) := by
  unfold manyI
  rw [bits_snd]
  by_cases o : numI a = a
  · have t := own_tag a h0 h1 o
    rw [right_own a h0 h1 o, isT_false a 65530 (by omega), isT_false a 65532 (by omega), o]
    left
    simp
    omega
  · have o' : (numI a == a) = false := by simp [o]
    rw [o', Bool.or_false]
    unfold rightI
    rw [o']
    by_cases q : a / 281474976710656 = 65529 ∨ a / 281474976710656 = 65530 ∨ a / 281474976710656 = 65532
    · rw [if_pos q]
      rcases q with q | q | q
      · rw [q, isT_false a 65530 (by omega), isT_false a 65532 (by omega)]
        cases isT a 65529
        · right; simp; omega
        · left; simp; omega
      · rw [q, isT_false a 65529 (by omega), isT_false a 65532 (by omega)]
        cases isT a 65530
        · right; simp; omega
        · left; simp; omega
      · rw [q, isT_false a 65529 (by omega), isT_false a 65530 (by omega)]
        cases isT a 65532
        · right; simp; omega
        · left; simp; omega
    · rw [if_neg q, isT_false a 65529 (by omega), isT_false a 65530 (by omega), isT_false a 65532 (by omega)]
      by_cases r : a / 281474976710656 = 65531
      · rw [if_pos r]
        by_cases s : 18445336698825998336 ≤ a ∧ a ≤ 18445336698825998340
        · left
          have e : isT a 65531 = true := by rw [isT_iff]; omega
          rw [e, if_pos s]
          simp
          omega
        · right
          rw [if_neg s]
          refine ⟨by simp, ?_⟩
          cases e : isT a 65531
          · rfl
          · have := (isT_iff a 65531).1 e
            simp
            omega
      · rw [if_neg r]
        right
        simp
        omega

theorem int_number (a : Int) (h0 : 0 ≤ a) (h1 : a < 18446744073709551616) (h : isT a 65529 = true) : (bitsI a).2 = true ∧ numI (bitsI a).1 = a := by
  have e := isT_of a _ h
  have b : bitsI a = (fromI (lowI a), true) := by unfold bitsI; rw [h, if_pos rfl]
  obtain ⟨l0, l1⟩ := lowI_bd a
  rw [b]
  refine ⟨rfl, ?_⟩
  show numI (fromI (lowI a)) = a
  rw [from_small _ l0 l1]
  unfold intW lowI
  rw [IntKind.wrap_i32]
  omega
end Go.Proofs.Ytfhdmglfpkmjbaa
