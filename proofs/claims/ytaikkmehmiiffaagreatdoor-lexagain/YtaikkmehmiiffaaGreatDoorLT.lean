/- LexTiles: plain. -/
import Derived.Test.YtaikkmehmiiffaaGreatDoorLS
namespace Go.Proofs.YtaikkmehmiiffaaGreatDoor.Lx
set_option linter.unusedVariables false

theorem cntP_take (p : Nat → Bool) (l : List UInt8) (n : Nat) : cntP p (l.take n) = min (cntP p l) n := by
  induction l generalizing n with
  | nil => simp [cntP]
  | cons c r ih =>
    cases n with
    | zero => simp [cntP]
    | succ n =>
      rw [List.take_succ_cons, cntP, cntP]
      by_cases h : p c.toNat = true
      · rw [if_pos h, if_pos h, ih]; omega
      · rw [if_neg h, if_neg h]; omega

/-- ended: the closure stays -/
theorem star_ended (b : Bool) (l : List UInt8) : goOn starG (b, true) l = (0, (b, true)) := by
  cases l with
  | nil => rfl
  | cons c r => rw [goOn]; simp [starG]

theorem star_take (st : Bool × Bool) (l : List UInt8) (n : Nat) (he : (goOn starG st l).2.2 = true) (hn : (goOn starG st l).1 ≤ n) : goOn starG st (l.take n) = goOn starG st l := by
  induction l generalizing st n with
  | nil => simp
  | cons c r ih =>
    obtain ⟨b, e⟩ := st
    cases e with
    | true => rw [star_ended, star_ended]
    | false =>
      have g : starG (b, false) c.toNat = ((c.toNat == 42, b && c.toNat == 47), true) := by simp [starG]
      rw [goOn, g] at he hn ⊢
      simp only [if_true] at he hn ⊢
      cases n with
      | zero => omega
      | succ n =>
        rw [List.take_succ_cons, goOn, g]
        simp only [if_true]
        rw [ih _ n he (by omega)]

theorem prefix_take (l p : List UInt8) (n : Nat) (h : p.length ≤ n) : Go.Lib.hasPrefix (l.take n) p = Go.Lib.hasPrefix l p := by
  unfold Go.Lib.hasPrefix
  rw [Bool.eq_iff_iff, List.isPrefixOf_iff_prefix, List.isPrefixOf_iff_prefix]
  constructor
  · intro k; exact k.trans (List.take_prefix n l)
  · intro k
    rw [List.prefix_iff_eq_take] at k ⊢
    rw [List.take_take, Nat.min_eq_left h]
    exact k

theorem prefix_two (l : List UInt8) (a b : UInt8) : Go.Lib.hasPrefix l [a, b] = true ↔ ∃ r, l = a :: b :: r := by
  unfold Go.Lib.hasPrefix
  rw [List.isPrefixOf_iff_prefix]
  constructor
  · rintro ⟨r, h⟩; exact ⟨r, by simpa using h.symm⟩
  · rintro ⟨r, h⟩; exact ⟨r, by simpa using h.symm⟩

theorem blank_take (l : List UInt8) (n : Nat) (he : (blankI l).2 = true) (h0 : 0 < (blankI l).1) (hn : (blankI l).1 ≤ n) : blankI (l.take n) = blankI l := by
  by_cases a : Go.Lib.hasPrefix l [47, 47] = true
  · have e : blankI l = (cntP pLine l, true) := by unfold blankI; rw [if_pos a]
    rw [e] at h0 hn
    simp only at h0 hn
    obtain ⟨r, rfl⟩ := (prefix_two _ _ _).1 a
    have two : 2 ≤ cntP pLine (47 :: 47 :: r) := by rw [cntP, cntP]; simp [pLine]
    rw [e]
    unfold blankI
    rw [if_pos (by rw [prefix_take _ _ _ (by simp; omega)]; exact a), cntP_take, Nat.min_eq_left hn]
  · by_cases b : Go.Lib.hasPrefix l [47, 42] = true
    · have e : blankI l = (2 + (starI (l.drop 2)).1, (starI (l.drop 2)).2) := by unfold blankI; rw [if_neg a, if_pos b]
      rw [e] at he hn
      simp only at he hn
      rw [e]
      unfold blankI
      rw [if_neg (by rw [prefix_take _ _ _ (by simp; omega)]; exact a), if_pos (by rw [prefix_take _ _ _ (by simp; omega)]; exact b)]
      have hs : starI ((l.take n).drop 2) = starI (l.drop 2) := by
        rw [List.drop_take]
        unfold starI at he hn ⊢
        rw [star_take _ _ _ he (by omega)]
      rw [hs]
    · have e : blankI l = (cntP pBlank l, true) := by unfold blankI; rw [if_neg a, if_neg b]
      rw [e] at h0 hn
      simp only at h0 hn
      rw [e]
      have c : ∃ c r, l = c :: r ∧ pBlank c.toNat = true := by
        cases l with
        | nil => simp [cntP] at h0
        | cons c r =>
          rw [cntP] at h0
          by_cases k : pBlank c.toNat = true
          · exact ⟨c, r, rfl, k⟩
          · rw [if_neg k] at h0; omega
      obtain ⟨c, r, rfl, k⟩ := c
      have np : ∀ x m, Go.Lib.hasPrefix ((c :: r).take m) [47, x] ≠ true := by
        intro x m q
        obtain ⟨r', q⟩ := (prefix_two _ _ _).1 q
        cases m with
        | zero => simp at q
        | succ m =>
          rw [List.take_succ_cons] at q
          simp only [List.cons.injEq] at q
          rw [q.1] at k
          revert k
          decide
      unfold blankI
      rw [if_neg (np _ _), if_neg (np _ _), cntP_take, Nat.min_eq_left hn]

theorem blanks_nil : blanksI [] = (0, true) := rfl

theorem blanks_take (l : List UInt8) (he : (blanksI l).2 = true) : blanksI (l.take (blanksI l).1) = ((blanksI l).1, true) := by
  suffices h : ∀ k (l : List UInt8), l.length < k → (blanksI l).2 = true → blanksI (l.take (blanksI l).1) = ((blanksI l).1, true) from h _ l (Nat.lt_succ_self _) he
  intro k
  induction k with
  | zero => intro l hl; omega
  | succ k ih =>
    intro l hl he
    have E := blanksI_eq l
    by_cases a : (blankI l).2 = false
    · rw [E, if_pos a] at he; simp at he
    · rw [if_neg a] at E
      by_cases b : (blankI l).1 = 0
      · rw [if_pos b] at E
        rw [E]; simp [blanks_nil]
      · rw [if_neg b] at E
        have a' : (blankI l).2 = true := by simpa using a
        rw [E] at he
        simp only at he
        have le := blankI_le l
        have I := ih (l.drop (blankI l).1) (by rw [List.length_drop]; omega) he
        rw [E]
        simp only
        have bt := blank_take l ((blankI l).1 + (blanksI (l.drop (blankI l).1)).1) a' (by omega) (by omega)
        rw [blanksI_eq, bt, if_neg a, if_neg b, List.drop_take, Nat.add_sub_cancel_left, I]

theorem cntP_pos (p : Nat → Bool) (l : List UInt8) (h : 0 < oneP p l) : 0 < cntP p l := by
  cases l with
  | nil => simp [oneP] at h
  | cons c r =>
    rw [oneP] at h
    rw [cntP]
    split at h
    · rename_i k; rw [if_pos k]; omega
    · omega

theorem sub_le {p q : List UInt8} (h : p.isPrefixOf q = true) : p.length ≤ q.length := hasPrefix_len q p h

theorem signF_ok (ts : List (List UInt8)) (l : List UInt8) (hp : ∀ t ∈ ts, 0 < t.length) (h : (signF ts l).2.2 = 0) :
    0 < (signF ts l).2.1 ∧ (signF ts l).2.1 ≤ l.length ∧ (signF ts l).1 = ⟨5, 0, l.take (signF ts l).2.1, 0⟩ ∧ (signF ts l).1.text ∈ ts := by
  induction ts with
  | nil => simp [signF] at h
  | cons t ts ih =>
    rw [signF] at h ⊢
    by_cases c : Go.Lib.hasPrefix l t = true
    · rw [if_pos c]
      refine ⟨hp t (by simp), hasPrefix_len _ _ c, ?_, by simp⟩
      unfold Go.Lib.hasPrefix at c
      rw [List.isPrefixOf_iff_prefix, List.prefix_iff_eq_take] at c
      show (⟨5, 0, t, 0⟩ : Tok) = ⟨5, 0, l.take t.length, 0⟩
      rw [← c]
    · rw [if_neg c] at h ⊢
      have := ih (fun t ht => hp t (by simp [ht])) h
      exact ⟨this.1, this.2.1, this.2.2.1, by simp [this.2.2.2]⟩

theorem signL_pos : ∀ t ∈ signL, 0 < t.length := by decide

/-- what a token is like -/
structure TokOk (l : List UInt8) (r : Tok × Nat × Nat) : Prop where
  pos : 0 < r.2.1
  le : r.2.1 ≤ l.length
  low : 1 ≤ r.1.kind
  high : r.1.kind ≤ 5
  text : r.1.kind = 1 ∨ r.1.kind = 2 ∨ r.1.kind = 5 → r.1.text = l.take r.2.1
  pl : r.1.pl = 0

theorem body_le (q : Nat) (l : List UInt8) (h : (bodyI q l).2 = true) : (bodyI q l).1.length + 1 ≤ l.length := by
  suffices k : ∀ st, st.2 = false → (goOn (quoG q) st l).2.2 = true → (goOn (quoG q) st l).1 + 1 ≤ l.length by
    unfold bodyI at h ⊢
    have := k (false, false) rfl h
    rw [List.length_take]
    omega
  clear h
  induction l with
  | nil => intro st h0 h; rw [goOn] at h; rw [h0] at h; simp at h
  | cons c r ih =>
    intro st h0 h
    rw [goOn] at h ⊢
    by_cases k : (quoG q st c.toNat).2 = true
    · rw [if_pos k] at h ⊢
      have e : (quoG q st c.toNat).1.2 = false := by
        unfold quoG at k ⊢
        simp only [Bool.and_eq_true, Bool.not_eq_true'] at k
        exact k.1
      have := ih _ e h
      simp only [List.length_cons]
      omega
    · rw [if_neg k]
      simp

theorem tok_ok (lit : List UInt8 → Nat × Bool) (l : List UInt8) (h : (tokI lit l).2.2 = 0) : TokOk l (tokI lit l) := by
  unfold tokI at h ⊢
  split at h
  · rename_i c
    rw [if_pos c]
    unfold numI at h ⊢
    split at h
    · rename_i k
      rw [if_pos k]
      have n1 := cntP_pos _ _ c
      have n2 : 0 < numLen l := by
        unfold numLen
        split
        · omega
        · have a := nlB_le l _ (cntP_le pDig l)
          have b := nlC_le l _ a.2
          omega
      exact ⟨n2, numLen_le l, by simp, by simp, by simp, rfl⟩
    · simp at h
  · rename_i c
    rw [if_neg c]
    split at h
    · rename_i c2
      rw [if_pos c2]
      have n1 := cntP_pos _ _ c2
      unfold nameI at h ⊢
      split at h
      · simp at h
      · rename_i c3
        rw [if_neg c3]
        split at h
        · rename_i c4
          rw [if_pos c4]
          exact ⟨n1, cntP_le _ _, by simp, by simp, by simp, rfl⟩
        · rename_i c4
          rw [if_neg c4]
          exact ⟨n1, cntP_le _ _, by simp, by simp, by simp, rfl⟩
    · rename_i c2
      rw [if_neg c2]
      split at h
      · rename_i c3
        rw [if_pos c3]
        unfold quoI at h ⊢
        split at h
        · simp at h
        · rename_i q r
          split at h
          · rename_i k
            split at h
            · simp at h
            · rename_i k2
              have := body_le _ _ k.1
              simp only [if_pos k, if_neg k2]
              exact ⟨by simp, by simp; omega, by simp, by simp, by simp, rfl⟩
          · simp at h
      · rename_i c3
        rw [if_neg c3]
        obtain ⟨a, b, d, e⟩ := signF_ok signL l signL_pos h
        unfold signI
        refine ⟨a, b, ?_, ?_, ?_, ?_⟩
        · rw [d]; simp
        · rw [d]; simp
        · intro _; rw [d]
        · rw [d]

end Go.Proofs.YtaikkmehmiiffaaGreatDoor.Lx
