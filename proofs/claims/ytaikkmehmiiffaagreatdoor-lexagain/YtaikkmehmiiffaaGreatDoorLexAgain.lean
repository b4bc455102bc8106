/- The tied card of LexAgain: the tokens of a text, one behind the other with blanks between, are the same but for their places. Joined: LA LB LC LD Z26 Z28 Z27 Z29 LexAgain -/
import Derived.Test.YtaikkmehmiiffaaGreatDoorLX
import Derived.Test.YtaikkmehmiiffaaGreatDoorZ24
import Derived.Test.YtaikkmehmiiffaaGreatDoorZ22
import Derived.Deep.RegionHeldLaw
import Derived.Test.YtaikkmehmiiffaaGreatDoorZG
import Derived.Test.YtaikkmehmiiffaaGreatDoorCards
import Derived.Test.YtaikkmehmiiffaaGreatDoorTie
import Derived.WalkKit
import Derived.ProofKit
import Derived.OpenShut
import Derived.ShutString
import Derived.ChangeOld
import Derived.Below
import Derived.Carry
import Derived.LaidMore
import Derived.Lay
import Derived.SevenTiedAt
import Derived.Stop.Joined
/- LexAgain: plain: a token does not hang on what stands behind it, where a blank, or a remark, is put there. -/
namespace Go.Proofs.YtaikkmehmiiffaaGreatDoor.Lx
set_option linter.unusedVariables false

/-- a byte with which blanks begin -/
def sep (c : UInt8) : Prop := c = 9 ∨ c = 10 ∨ c = 32 ∨ c = 47

theorem sep_not {c : UInt8} (h : sep c) : pDig c.toNat = false ∧ pHex c.toNat = false ∧ pSmall c.toNat = false ∧ pDot c.toNat = false ∧ pExp c.toNat = false ∧ pSig c.toNat = false ∧ c ≠ 120 := by
  rcases h with rfl | rfl | rfl | rfl <;> decide

theorem cnt_cut (p : Nat → Bool) (z : List UInt8) (m : Nat) (c : UInt8) (r : List UInt8) (hc : p c.toNat = false) (h1 : cntP p z ≤ m) (h2 : m ≤ z.length) : cntP p (z.take m ++ c :: r) = cntP p z := by
  induction z generalizing m with
  | nil =>
    simp only [List.take_nil, List.nil_append]
    show (if p c.toNat = true then cntP p r + 1 else 0) = 0
    rw [if_neg (by rw [hc]; decide)]
  | cons a z ih =>
    cases m with
    | zero =>
      simp only [List.take_zero, List.nil_append]
      have e : cntP p (a :: z) = 0 := by omega
      rw [e]
      show (if p c.toNat = true then cntP p r + 1 else 0) = 0
      rw [if_neg (by rw [hc]; decide)]
    | succ m =>
      rw [List.take_succ_cons, List.cons_append]
      have e1 : cntP p (a :: (z.take m ++ c :: r)) = if p a.toNat = true then cntP p (z.take m ++ c :: r) + 1 else 0 := rfl
      have e2 : cntP p (a :: z) = if p a.toNat = true then cntP p z + 1 else 0 := rfl
      rw [e1, e2]
      rw [e2] at h1
      by_cases q : p a.toNat = true
      · rw [if_pos q] at h1
        rw [if_pos q, if_pos q, ih m (by omega) (by simpa using h2)]
      · rw [if_neg q, if_neg q]

theorem one_at (p : Nat → Bool) (z v : List UInt8) (m : Nat) (h : 0 < m) (h2 : m ≤ z.length) : oneP p (z.take m ++ v) = oneP p z := by
  cases z with
  | nil => simp at h2; omega
  | cons a z =>
    cases m with
    | zero => omega
    | succ m => rfl

theorem one_sep (p : Nat → Bool) (c : UInt8) (r : List UInt8) (hc : p c.toNat = false) : oneP p (c :: r) = 0 := by
  show (if p c.toNat = true then 1 else 0) = 0
  rw [if_neg (by rw [hc]; decide)]

theorem drop_cut (y v : List UInt8) (n k : Nat) (hk : k ≤ n) (hn : n ≤ y.length) : (y.take n ++ v).drop k = (y.drop k).take (n - k) ++ v := by
  rw [List.drop_append_of_le_length (by rw [List.length_take]; omega), List.drop_take]

/-- one, at a place ahead of the cut, or at it -/
theorem one_cut (p : Nat → Bool) (y : List UInt8) (n k : Nat) (c : UInt8) (r : List UInt8) (hc : p c.toNat = false) (hk : k ≤ n) (hn : n ≤ y.length) :
    oneP p ((y.take n ++ c :: r).drop k) = if k < n then oneP p (y.drop k) else 0 := by
  rw [drop_cut y _ n k hk hn]
  by_cases q : k < n
  · rw [if_pos q, one_at p _ _ _ (by omega) (by rw [List.length_drop]; omega)]
  · rw [if_neg q, show n - k = 0 from by omega, List.take_zero, List.nil_append, one_sep p c r hc]

theorem cnt_cut' (p : Nat → Bool) (y : List UInt8) (n k : Nat) (c : UInt8) (r : List UInt8) (hc : p c.toNat = false) (hk : k ≤ n) (hn : n ≤ y.length) (h : k + cntP p (y.drop k) ≤ n) :
    cntP p ((y.take n ++ c :: r).drop k) = cntP p (y.drop k) := by
  rw [drop_cut y _ n k hk hn]
  exact cnt_cut p _ _ c r hc (by omega) (by rw [List.length_drop]; omega)

theorem nlB_cut (y : List UInt8) (n n0 : Nat) (c : UInt8) (r : List UInt8) (hc : sep c) (h0 : n0 ≤ n) (hn : n ≤ y.length) (h : nlB y n0 ≤ n) : nlB (y.take n ++ c :: r) n0 = nlB y n0 := by
  obtain ⟨s1, s2, s3, s4, s5, s6, s7⟩ := sep_not hc
  unfold nlB at h ⊢
  rw [one_cut pDot y n n0 c r s4 h0 hn]
  by_cases cond : 0 < oneP pDot (y.drop n0) ∧ 0 < oneP pDig (y.drop (n0 + 1))
  · rw [if_pos cond] at h
    rw [if_pos cond]
    have d := cntP_pos _ _ cond.2
    rw [if_pos (show n0 < n from by omega), one_cut pDig y n (n0 + 1) c r s1 (by omega) hn, if_pos (show n0 + 1 < n from by omega), if_pos cond, cnt_cut' pDig y n (n0 + 1) c r s1 (by omega) hn (by omega)]
  · rw [if_neg cond]
    by_cases q : n0 < n
    · rw [if_pos q, one_cut pDig y n (n0 + 1) c r s1 (by omega) hn]
      by_cases q2 : n0 + 1 < n
      · rw [if_pos q2, if_neg cond]
      · rw [if_neg q2, if_neg (fun k => absurd k.2 (by omega))]
    · rw [if_neg q, if_neg (fun k => absurd k.1 (by omega))]

theorem nlC_cut (y : List UInt8) (n n1 : Nat) (c : UInt8) (r : List UInt8) (hc : sep c) (h0 : n1 ≤ n) (hn : n ≤ y.length) (h : nlC y n1 = n) : nlC (y.take n ++ c :: r) n1 = n := by
  obtain ⟨s1, s2, s3, s4, s5, s6, s7⟩ := sep_not hc
  unfold nlC at h ⊢
  rw [one_cut pExp y n n1 c r s5 h0 hn]
  by_cases cond : 0 < oneP pExp (y.drop n1)
  · rw [if_pos cond] at h
    have lt : n1 < n := by omega
    rw [if_pos lt, if_pos cond]
    have sg : oneP pSig ((y.take n ++ c :: r).drop (n1 + 1)) = oneP pSig (y.drop (n1 + 1)) := by
      rw [one_cut pSig y n (n1 + 1) c r s6 (by omega) hn]
      by_cases q : n1 + 1 < n
      · rw [if_pos q]
      · rw [if_neg q]
        omega
    rw [sg, cnt_cut' pDig y n _ c r s1 (by omega) hn (by omega)]
    exact h
  · rw [if_neg cond] at h
    rw [if_neg (show ¬ 0 < if n1 < n then oneP pExp (y.drop n1) else 0 from by split <;> omega)]
    exact h

theorem numLen_cut (y : List UInt8) (c : UInt8) (r : List UInt8) (hc : sep c) (hp : 0 < numLen y) : numLen (y.take (numLen y) ++ c :: r) = numLen y := by
  obtain ⟨s1, s2, s3, s4, s5, s6, s7⟩ := sep_not hc
  have hn := numLen_le y
  by_cases h : Go.Lib.hasPrefix y [48, 120] = true
  · have e : numLen y = 2 + cntP pHex (y.drop 2) := by unfold numLen; rw [if_pos h]
    generalize numLen y = n at *
    obtain ⟨z, rfl⟩ := (prefix_two _ _ _).1 h
    have h' : Go.Lib.hasPrefix ((48 :: 120 :: z).take n ++ c :: r) [48, 120] = true := by
      rw [prefix_two]
      obtain ⟨m, rfl⟩ : ∃ m, n = m + 2 := ⟨n - 2, by omega⟩
      exact ⟨_, rfl⟩
    unfold numLen
    rw [if_pos h', cnt_cut' pHex _ n 2 c r s2 (by omega) hn (by omega)]
    exact e.symm
  · have e : numLen y = nlC y (nlB y (cntP pDig y)) := by unfold numLen; rw [if_neg h]
    have b1 := nlB_le y _ (cntP_le pDig y)
    have b2 := nlC_le y _ b1.2
    generalize numLen y = n at *
    have h' : ¬ Go.Lib.hasPrefix (y.take n ++ c :: r) [48, 120] = true := by
      intro q
      obtain ⟨z, q⟩ := (prefix_two _ _ _).1 q
      match n, y, hp, hn, q with
      | 1, a :: y, _, _, q =>
        simp at q
        exact s7 q.2.1
      | n + 2, a :: b :: y, _, _, q =>
        simp at q
        apply h
        rw [prefix_two]
        exact ⟨y, by rw [q.1, q.2.1]⟩
      | n + 2, [a], _, hn, _ => simp at hn
    have k0 : cntP pDig (y.take n ++ c :: r) = cntP pDig y := cnt_cut pDig y n c r s1 (by omega) hn
    unfold numLen
    rw [if_neg h', k0, nlB_cut y n _ c r hc (by omega) hn (by omega), nlC_cut y n _ c r hc (by omega) hn e.symm]

theorem goOn_cut {σ : Type} (g : σ → Nat → σ × Bool) (st : σ) (z v : List UInt8) (h : (goOn g st z).1 < z.length) : goOn g st (z.take ((goOn g st z).1 + 1) ++ v) = goOn g st z := by
  induction z generalizing st with
  | nil => simp at h
  | cons a z ih =>
    have e2 : goOn g st (a :: z) = if (g st a.toNat).2 = true then ((goOn g (g st a.toNat).1 z).1 + 1, (goOn g (g st a.toNat).1 z).2) else (0, (g st a.toNat).1) := rfl
    by_cases q : (g st a.toNat).2 = true
    · rw [if_pos q] at e2
      rw [e2] at h
      rw [e2]
      simp only [List.take_succ_cons, List.cons_append]
      have e1 : ∀ u, goOn g st (a :: u) = if (g st a.toNat).2 = true then ((goOn g (g st a.toNat).1 u).1 + 1, (goOn g (g st a.toNat).1 u).2) else (0, (g st a.toNat).1) := fun u => rfl
      rw [e1, if_pos q, ih _ (by simpa using h)]
    · rw [if_neg q] at e2
      rw [e2]
      simp only [List.take_succ_cons, List.cons_append]
      have e1 : ∀ u, goOn g st (a :: u) = if (g st a.toNat).2 = true then ((goOn g (g st a.toNat).1 u).1 + 1, (goOn g (g st a.toNat).1 u).2) else (0, (g st a.toNat).1) := fun u => rfl
      rw [e1, if_neg q]

theorem signL_sep : ∀ u ∈ signL, ∀ t ∈ signL, t.length < u.length → t.isPrefixOf u = true → ∀ c, u[t.length]? = some c → c ≠ 9 ∧ c ≠ 10 ∧ c ≠ 32 ∧ c ≠ 47 := by decide

theorem signF_cut (T : List UInt8) (hT : T ∈ signL) (c : UInt8) (r y : List UInt8) (hc : sep c) (ts : List (List UInt8)) (hts : ∀ u ∈ ts, u ∈ signL) (hy : T.isPrefixOf y = true) (h : signF ts y = (⟨5, 0, T, 0⟩, T.length, 0)) :
    signF ts (T ++ c :: r) = (⟨5, 0, T, 0⟩, T.length, 0) := by
  induction ts with
  | nil => simp [signF, zt] at h
  | cons u ts ih =>
    rw [signF] at h ⊢
    by_cases q : Go.Lib.hasPrefix y u = true
    · rw [if_pos q] at h
      simp only [Prod.mk.injEq, Tok.mk.injEq] at h
      have uT : u = T := h.1.2.2.1
      subst uT
      rw [if_pos (by unfold Go.Lib.hasPrefix; rw [List.isPrefixOf_iff_prefix]; exact List.prefix_append _ _)]
    · rw [if_neg q] at h
      have nq : ¬ Go.Lib.hasPrefix (T ++ c :: r) u = true := by
        intro k
        unfold Go.Lib.hasPrefix at k q
        rw [List.isPrefixOf_iff_prefix] at k hy
        rcases Nat.lt_or_ge T.length u.length with lt | ge
        · have tp : T <+: u := List.prefix_of_prefix_length_le (List.prefix_append _ _) k (by omega)
          have := signL_sep u (hts u (by simp)) T hT lt (by rw [List.isPrefixOf_iff_prefix]; exact tp) c (by
            obtain ⟨w, hw⟩ := k
            have e : (T ++ c :: r)[T.length]? = some c := by simp
            rw [← hw, List.getElem?_append_left lt] at e
            exact e)
          rcases hc with h | h | h | h
          · exact this.1 h
          · exact this.2.1 h
          · exact this.2.2.1 h
          · exact this.2.2.2 h
        · have up : u <+: T := List.prefix_of_prefix_length_le k (List.prefix_append _ _) ge
          apply q
          rw [List.isPrefixOf_iff_prefix]
          exact up.trans hy
      rw [if_neg nq]
      exact ih (fun v hv => hts v (by simp [hv])) h

theorem tok_cut (lit : List UInt8 → Nat × Bool) (y : List UInt8) (c : UInt8) (r : List UInt8) (hc : sep c) (h : (tokI lit y).2.2 = 0) : tokI lit (y.take (tokI lit y).2.1 ++ c :: r) = tokI lit y := by
  have T := tok_ok lit y h
  have hpos := T.pos
  have hle := T.le
  obtain ⟨s1, s2, s3, s4, s5, s6, s7⟩ := sep_not hc
  have o1 : ∀ p, oneP p (y.take (tokI lit y).2.1 ++ c :: r) = oneP p y := fun p => one_at p y _ _ hpos hle
  have hh : (y.take (tokI lit y).2.1 ++ c :: r).head? = y.head? := by
    match y, (tokI lit y).2.1, hpos, hle with
    | a :: y, n + 1, _, _ => rfl
  by_cases d : 0 < oneP pDig y
  · have e : tokI lit y = numI lit y := by unfold tokI; rw [if_pos d]
    have e2 : numI lit y = (⟨3, 0, [], (lit (y.take (numLen y))).1⟩, numLen y, 0) := by
      rw [e] at h
      unfold numI at h ⊢
      split at h
      · rename_i k; rw [if_pos k]
      · simp at h
    have en : (tokI lit y).2.1 = numLen y := by rw [e, e2]
    have k1 : (lit (y.take (numLen y))).2 = true := by
      rw [e] at h
      unfold numI at h
      split at h
      · rename_i k; exact k.1
      · simp at h
    rw [en] at o1 hpos hle ⊢
    have nc := numLen_cut y c r hc hpos
    unfold tokI
    rw [o1, if_pos d, if_pos d]
    rw [e2]
    unfold numI
    rw [nc, List.take_append_of_le_length (by rw [List.length_take]; omega), List.take_take, Nat.min_self, drop_cut y _ _ _ (Nat.le_refl _) hle, Nat.sub_self, List.take_zero, List.nil_append, one_sep pSmall c r s3, if_pos ⟨k1, rfl⟩]
  · by_cases sm : 0 < oneP pSmall y
    · have e : tokI lit y = nameI y := by unfold tokI; rw [if_neg d, if_pos sm]
      have en : (tokI lit y).2.1 = cntP pSmall y := by
        rw [e] at h ⊢
        unfold nameI at h ⊢
        split at h
        · simp at h
        · rename_i k
          rw [if_neg k]
          split <;> rfl
      rw [en] at o1 hpos hle ⊢
      have nc := cnt_cut pSmall y (cntP pSmall y) c r s3 (Nat.le_refl _) hle
      rw [e]
      unfold tokI
      rw [o1, o1, if_neg d, if_pos sm]
      unfold nameI
      rw [nc, List.take_append_of_le_length (by rw [List.length_take]; omega), List.take_take, Nat.min_self]
    · by_cases qu : y.head? = some 39 ∨ y.head? = some 34
      · have e : tokI lit y = quoI y := by unfold tokI; rw [if_neg d, if_neg sm, if_pos qu]
        match y, qu with
        | a :: y, qu =>
          have ok : (bodyI a.toNat y).2 = true ∧ (saidI (bodyI a.toNat y).1).2 = true ∧ ¬ 4096 < (saidI (bodyI a.toNat y).1).1.length := by
            rw [e] at h
            unfold quoI at h
            simp only at h
            split at h
            · rename_i k
              split at h
              · simp at h
              · rename_i k2; exact ⟨k.1, k.2, k2⟩
            · simp at h
          have en : (tokI lit (a :: y)).2.1 = (bodyI a.toNat y).1.length + 2 := by
            rw [e]
            unfold quoI
            simp only [if_pos (show _ ∧ _ from ⟨ok.1, ok.2.1⟩), if_neg ok.2.2]
          rw [en] at o1 hh hpos hle ⊢
          have bl := body_le _ _ ok.1
          have gl := goOn_le (quoG a.toNat) (false, false) y
          have bl2 : (bodyI a.toNat y).1.length = (goOn (quoG a.toNat) (false, false) y).1 := by
            unfold bodyI
            simp only [List.length_take]
            omega
          have bc : bodyI a.toNat (y.take ((bodyI a.toNat y).1.length + 1) ++ c :: r) = bodyI a.toNat y := by
            rw [bl2] at bl ⊢
            unfold bodyI
            rw [goOn_cut _ _ y (c :: r) (by omega), List.take_append_of_le_length (by rw [List.length_take]; omega), List.take_take, Nat.min_eq_left (by omega)]
          rw [e]
          unfold tokI
          rw [o1, o1, hh, if_neg d, if_neg sm, if_pos qu]
          show quoI (a :: (y.take ((bodyI a.toNat y).1.length + 1) ++ c :: r)) = quoI (a :: y)
          unfold quoI
          simp only [bc]
      · have e : tokI lit y = signI y := by unfold tokI; rw [if_neg d, if_neg sm, if_neg qu]
        rw [e] at h
        obtain ⟨a1, a2, a3, a4⟩ := signF_ok signL y signL_pos h
        have et : (signF signL y).1.text = y.take (signF signL y).2.1 := by rw [a3]
        have ln : (y.take (signF signL y).2.1).length = (signF signL y).2.1 := by rw [List.length_take]; omega
        have full : signF signL y = (⟨5, 0, y.take (signF signL y).2.1, 0⟩, (y.take (signF signL y).2.1).length, 0) := by
          refine Prod.ext a3 (Prod.ext ?_ h)
          rw [ln]
        have key := signF_cut (y.take (signF signL y).2.1) (by rw [← et]; exact a4) c r y hc signL (fun u hu => hu) (by rw [List.isPrefixOf_iff_prefix]; exact List.take_prefix _ _) full
        have e' : (tokI lit y).2.1 = (signF signL y).2.1 := by rw [e]; rfl
        rw [e'] at o1 hh ⊢
        rw [e]
        unfold tokI
        rw [o1, o1, hh, if_neg d, if_neg sm, if_neg qu]
        show signF signL _ = signF signL y
        rw [key]
        exact full.symm

end Go.Proofs.YtaikkmehmiiffaaGreatDoor.Lx

/- LexAgain: plain: blanks between tokens. -/
namespace Go.Proofs.YtaikkmehmiiffaaGreatDoor.Lx
set_option linter.unusedVariables false

/-- the law's four blanks -/
def blkT (k : Nat) : List UInt8 := if k = 0 then [32] else if k = 1 then [10, 9] else if k = 2 then [32, 47, 42, 32, 47, 32, 42, 32, 42, 47] else [32, 47, 47, 32, 47, 42, 10]

theorem blk_cases (k : Nat) : blkT k = [32] ∨ blkT k = [10, 9] ∨ blkT k = [32, 47, 42, 32, 47, 32, 42, 32, 42, 47] ∨ blkT k = [32, 47, 47, 32, 47, 42, 10] := by
  unfold blkT
  by_cases a : k = 0
  · rw [if_pos a]; exact Or.inl rfl
  · rw [if_neg a]
    by_cases b : k = 1
    · rw [if_pos b]; exact Or.inr (Or.inl rfl)
    · rw [if_neg b]
      by_cases c : k = 2
      · rw [if_pos c]; exact Or.inr (Or.inr (Or.inl rfl))
      · rw [if_neg c]; exact Or.inr (Or.inr (Or.inr rfl))

theorem blk_any (k : Nat) (y : List UInt8) : blanksI (blkT k ++ y) = ((blkT k).length + (blanksI y).1, (blanksI y).2) := by
  rcases blk_cases k with e | e | e | e <;> rw [e]
  · exact blanks_bytes [32] y (by decide)
  · exact blanks_bytes [10, 9] y (by decide)
  · have h1 := blanks_bytes [32] ([47, 42, 32, 47, 32, 42, 32, 42, 47] ++ y) (by decide)
    have st : starI ([32, 47, 32, 42, 32, 42, 47] ++ y) = (7, true) := by
      unfold starI
      rw [star_app _ _ _ (by decide)]
      rfl
    have b : blankI ([47, 42, 32, 47, 32, 42, 32, 42, 47] ++ y) = (9, true) := by
      unfold blankI
      rw [if_neg (by
        intro q
        obtain ⟨z, q⟩ := (prefix_two _ _ _).1 q
        simp at q), if_pos (show Go.Lib.hasPrefix ([47, 42, 32, 47, 32, 42, 32, 42, 47] ++ y) [47, 42] = true from (prefix_two _ _ _).2 ⟨_, rfl⟩)]
      show (2 + (starI ([32, 47, 32, 42, 32, 42, 47] ++ y)).1, (starI ([32, 47, 32, 42, 32, 42, 47] ++ y)).2) = (9, true)
      rw [st]
      rfl
    have h2 : blanksI ([47, 42, 32, 47, 32, 42, 32, 42, 47] ++ y) = (9 + (blanksI y).1, (blanksI y).2) := by
      rw [blanksI_eq, b]
      rfl
    rw [h2] at h1
    rw [show ([32, 47, 42, 32, 47, 32, 42, 32, 42, 47] ++ y : List UInt8) = [32] ++ ([47, 42, 32, 47, 32, 42, 32, 42, 47] ++ y) from rfl, h1]
    refine Prod.ext ?_ rfl
    show 1 + (9 + (blanksI y).1) = 10 + (blanksI y).1
    omega
  · have h1 := blanks_bytes [32] ([47, 47, 32, 47, 42] ++ 10 :: y) (by decide)
    have b : blankI ([47, 47, 32, 47, 42] ++ 10 :: y) = (5, true) := by
      unfold blankI
      rw [if_pos (show Go.Lib.hasPrefix ([47, 47, 32, 47, 42] ++ 10 :: y) [47, 47] = true from (prefix_two _ _ _).2 ⟨_, rfl⟩), cntP_nl pLine rfl]
      rfl
    have h2 : blanksI ([47, 47, 32, 47, 42] ++ 10 :: y) = (6 + (blanksI y).1, (blanksI y).2) := by
      rw [blanksI_eq, b]
      have n := nl_blank y
      show (5 + (blanksI (10 :: y)).1, (blanksI (10 :: y)).2) = _
      rw [n]
      refine Prod.ext ?_ rfl
      show 5 + (1 + (blanksI y).1) = 6 + (blanksI y).1
      omega
    rw [h2] at h1
    rw [show ([32, 47, 47, 32, 47, 42, 10] ++ y : List UInt8) = [32] ++ ([47, 47, 32, 47, 42] ++ 10 :: y) from rfl, h1]
    refine Prod.ext ?_ rfl
    show 1 + (6 + (blanksI y).1) = 7 + (blanksI y).1
    omega

/-- a gap ahead of a token, with something else behind it -/
theorem gap_mid (gap : List UInt8) (tok v : List UInt8) (ht : ∃ a z, tok = a :: z ∧ a ≠ 10) (h : blanksI (gap ++ tok) = (gap.length, true)) : blanksI (gap ++ v) = (gap.length + (blanksI v).1, (blanksI v).2) := by
  suffices H : ∀ k (gap : List UInt8), gap.length < k → blanksI (gap ++ tok) = (gap.length, true) → blanksI (gap ++ v) = (gap.length + (blanksI v).1, (blanksI v).2) from H _ gap (Nat.lt_succ_self _) h
  clear h gap
  obtain ⟨a, z, rfl, ha⟩ := ht
  intro k
  induction k with
  | zero => intro gap hl; omega
  | succ k ih =>
    intro gap hl h
    by_cases all : cntP pBlank gap = gap.length
    · exact blanks_bytes gap v (cntP_mem _ _ all)
    · have ne : gap ≠ [] := by rintro rfl; exact all rfl
      have gl : 0 < gap.length := by cases gap with
        | nil => exact absurd rfl ne
        | cons c r => simp
      have E := blanksI_eq (gap ++ a :: z)
      rw [h] at E
      have b2 : (blankI (gap ++ a :: z)).2 = true := by
        rcases q : (blankI (gap ++ a :: z)).2 with _ | _
        · rw [if_pos q] at E
          simp at E
        · rfl
      rw [if_neg (by rw [b2]; decide)] at E
      have b1 : (blankI (gap ++ a :: z)).1 ≠ 0 := by
        intro q
        rw [if_pos q] at E
        simp at E
        exact ne E
      rw [if_neg b1] at E
      simp only [Prod.mk.injEq] at E
      have hm : (blankI (gap ++ a :: z)).1 ≤ gap.length := by omega
      have B : blankI (gap ++ v) = blankI (gap ++ a :: z) := by
        by_cases p1 : Go.Lib.hasPrefix (gap ++ a :: z) [47, 47] = true
        · have e : blankI (gap ++ a :: z) = (cntP pLine (gap ++ a :: z), true) := by unfold blankI; rw [if_pos p1]
          rw [e] at hm b1
          simp only at hm b1
          obtain ⟨r, q⟩ := (prefix_two _ _ _).1 p1
          have two : 2 ≤ cntP pLine (gap ++ a :: z) := by rw [q]; show 2 ≤ cntP pLine (47 :: 47 :: r); simp [cntP, pLine]
          have lt : cntP pLine gap < gap.length := by
            rcases Nat.lt_or_ge (cntP pLine gap) gap.length with k | k
            · exact k
            · have l := cntP_le pLine gap
              have e2 := cntP_app_eq pLine gap (a :: z) (by omega)
              have e3 : 1 ≤ cntP pLine (a :: z) := by
                show 1 ≤ (if pLine a.toNat = true then cntP pLine z + 1 else 0)
                rw [if_pos (by unfold pLine; simp; intro k; exact ha ((nat_u8 a 10 (by omega)).2 k))]
                omega
              omega
          have g2 : 2 ≤ gap.length := by omega
          have p1' : Go.Lib.hasPrefix (gap ++ v) [47, 47] = true := by
            have := prefix_take (gap ++ a :: z) [47, 47] gap.length g2
            rw [List.take_left] at this
            have t2 := prefix_take (gap ++ v) [47, 47] gap.length g2
            rw [List.take_left] at t2
            rw [← t2, this]
            exact p1
          rw [e]
          unfold blankI
          rw [if_pos p1', cntP_app_lt _ _ _ lt, cntP_app_lt _ _ _ lt]
        · by_cases p2 : Go.Lib.hasPrefix (gap ++ a :: z) [47, 42] = true
          · have e : blankI (gap ++ a :: z) = (2 + (starI ((gap ++ a :: z).drop 2)).1, (starI ((gap ++ a :: z).drop 2)).2) := by unfold blankI; rw [if_neg p1, if_pos p2]
            rw [e] at hm b2
            simp only at hm b2
            have g2 : 2 ≤ gap.length := by omega
            have same : ∀ p, p.length = 2 → Go.Lib.hasPrefix (gap ++ v) p = Go.Lib.hasPrefix (gap ++ a :: z) p := by
              intro p hp
              have t1 := prefix_take (gap ++ a :: z) p gap.length (by omega)
              have t2 := prefix_take (gap ++ v) p gap.length (by omega)
              rw [List.take_left] at t1 t2
              rw [← t1, ← t2]
            have d1 : ∀ u, (gap ++ u).drop 2 = gap.drop 2 ++ u := fun u => List.drop_append_of_le_length g2
            rw [d1] at hm b2
            unfold starI at hm b2
            have tk := star_take (false, false) (gap.drop 2 ++ a :: z) (gap.drop 2).length b2 (by rw [List.length_drop]; simp only at hm; omega)
            rw [List.take_left] at tk
            have s1 : starI ((gap ++ v).drop 2) = starI ((gap ++ a :: z).drop 2) := by
              rw [d1, d1]
              unfold starI
              rw [star_app _ _ _ (by rw [tk]; exact b2), tk]
            rw [e]
            unfold blankI
            rw [same _ rfl, same _ rfl, if_neg p1, if_pos p2, s1]
          · have e : blankI (gap ++ a :: z) = (cntP pBlank (gap ++ a :: z), true) := by unfold blankI; rw [if_neg p1, if_neg p2]
            have lt : cntP pBlank gap < gap.length := by have := cntP_le pBlank gap; omega
            rw [e] at b1
            simp only at b1
            rw [cntP_app_lt _ _ _ lt] at b1
            match gap, b1 with
            | c :: gap, b1 =>
              have cb : pBlank c.toNat = true := by
                rcases q : pBlank c.toNat with _ | _
                · exfalso
                  apply b1
                  show (if pBlank c.toNat = true then cntP pBlank gap + 1 else 0) = 0
                  rw [q]
                  rfl
                · rfl
              have np : ∀ x, ¬ Go.Lib.hasPrefix (c :: gap ++ v) [47, x] = true := by
                intro x q
                obtain ⟨r, q⟩ := (prefix_two _ _ _).1 q
                simp at q
                rw [q.1] at cb
                revert cb
                decide
              rw [e]
              unfold blankI
              rw [if_neg (np _), if_neg (np _), cntP_app_lt _ _ _ lt, cntP_app_lt _ _ _ lt]
      have dr : ∀ u, (gap ++ u).drop (blankI (gap ++ a :: z)).1 = gap.drop (blankI (gap ++ a :: z)).1 ++ u := fun u => List.drop_append_of_le_length hm
      rw [dr] at E
      have I := ih (gap.drop (blankI (gap ++ a :: z)).1) (by rw [List.length_drop]; omega) (Prod.ext (by rw [List.length_drop]; omega) E.2.symm)
      rw [blanksI_eq (gap ++ v), B, if_neg (by rw [b2]; decide), if_neg b1, dr, I, List.length_drop]
      refine Prod.ext ?_ rfl
      show _ + (_ + _) = _
      simp only
      omega

/-- a gap up to the end, with one of the four blanks behind it -/
theorem gap_end (k0 : Nat) (gap : List UInt8) (h : blanksI gap = (gap.length, true)) : blanksI (gap ++ blkT k0) = (gap.length + (blkT k0).length, true) := by
  have bk : blanksI (blkT k0) = ((blkT k0).length, true) := by
    have := blk_any k0 []
    rw [List.append_nil, blanks_nil] at this
    exact this
  suffices H : ∀ k (gap : List UInt8), gap.length < k → blanksI gap = (gap.length, true) → blanksI (gap ++ blkT k0) = (gap.length + (blkT k0).length, true) from H _ gap (Nat.lt_succ_self _) h
  clear h gap
  intro k
  induction k with
  | zero => intro gap hl; omega
  | succ k ih =>
    intro gap hl h
    by_cases all : cntP pBlank gap = gap.length
    · rw [blanks_bytes gap _ (cntP_mem _ _ all), bk]
    · have ne : gap ≠ [] := by rintro rfl; exact all rfl
      have E := blanksI_eq gap
      rw [h] at E
      have b2 : (blankI gap).2 = true := by
        rcases q : (blankI gap).2 with _ | _
        · rw [if_pos q] at E
          simp at E
        · rfl
      rw [if_neg (by rw [b2]; decide)] at E
      have b1 : (blankI gap).1 ≠ 0 := by
        intro q
        rw [if_pos q] at E
        simp at E
        exact ne E
      rw [if_neg b1] at E
      simp only [Prod.mk.injEq] at E
      have hm := blankI_le gap
      by_cases last : Go.Lib.hasPrefix gap [47, 47] = true ∧ cntP pLine gap = gap.length
      · -- a remark that goes on
        have g2 := hasPrefix_len _ _ last.1
        have p1' : Go.Lib.hasPrefix (gap ++ blkT k0) [47, 47] = true := by
          have t2 := prefix_take (gap ++ blkT k0) [47, 47] gap.length g2
          rw [List.take_left] at t2
          rw [← t2]
          exact last.1
        have B : blankI (gap ++ blkT k0) = (gap.length + cntP pLine (blkT k0), true) := by
          unfold blankI
          rw [if_pos p1', cntP_app_eq _ _ _ last.2]
        have nz : gap.length + cntP pLine (blkT k0) ≠ 0 := by
          simp only [List.length_cons, List.length_nil] at g2
          omega
        rw [blanksI_eq, B, if_neg (by simp), if_neg nz]
        have dr : (gap ++ blkT k0).drop (gap.length + cntP pLine (blkT k0)) = (blkT k0).drop (cntP pLine (blkT k0)) := by
          rw [← List.drop_drop, List.drop_left]
        simp only [dr]
        have key : cntP pLine (blkT k0) + (blanksI ((blkT k0).drop (cntP pLine (blkT k0)))).1 = (blkT k0).length ∧ (blanksI ((blkT k0).drop (cntP pLine (blkT k0)))).2 = true := by
          rcases blk_cases k0 with e | e | e | e <;> rw [e] <;> decide
        refine Prod.ext ?_ key.2
        show gap.length + cntP pLine (blkT k0) + (blanksI ((blkT k0).drop (cntP pLine (blkT k0)))).1 = _
        have := key.1
        simp only
        omega
      · have B : blankI (gap ++ blkT k0) = blankI gap := by
          by_cases p1 : Go.Lib.hasPrefix gap [47, 47] = true
          · have g2 := hasPrefix_len _ _ p1
            have p1' : Go.Lib.hasPrefix (gap ++ blkT k0) [47, 47] = true := by
              have t2 := prefix_take (gap ++ blkT k0) [47, 47] gap.length g2
              rw [List.take_left] at t2
              rw [← t2]
              exact p1
            have lt : cntP pLine gap < gap.length := by
              have := cntP_le pLine gap
              have : cntP pLine gap ≠ gap.length := fun q => last ⟨p1, q⟩
              omega
            unfold blankI
            rw [if_pos p1', if_pos p1, cntP_app_lt _ _ _ lt]
          · by_cases p2 : Go.Lib.hasPrefix gap [47, 42] = true
            · have g2 := hasPrefix_len _ _ p2
              have same : ∀ p, p.length = 2 → Go.Lib.hasPrefix (gap ++ blkT k0) p = Go.Lib.hasPrefix gap p := by
                intro p hp
                have t2 := prefix_take (gap ++ blkT k0) p gap.length (by simp only [List.length_cons, List.length_nil] at g2; omega)
                rw [List.take_left] at t2
                exact t2.symm
              have e : blankI gap = (2 + (starI (gap.drop 2)).1, (starI (gap.drop 2)).2) := by unfold blankI; rw [if_neg p1, if_pos p2]
              rw [e] at b2
              simp only at b2
              have s1 : starI ((gap ++ blkT k0).drop 2) = starI (gap.drop 2) := by
                rw [List.drop_append_of_le_length (by simpa using g2)]
                unfold starI at b2 ⊢
                rw [star_app _ _ _ b2]
              rw [e]
              unfold blankI
              rw [same _ rfl, same _ rfl, if_neg p1, if_pos p2, s1]
            · have e : blankI gap = (cntP pBlank gap, true) := by unfold blankI; rw [if_neg p1, if_neg p2]
              have lt : cntP pBlank gap < gap.length := by have := cntP_le pBlank gap; omega
              rw [e] at b1
              simp only at b1
              match gap, b1 with
              | c :: gap, b1 =>
                have cb : pBlank c.toNat = true := by
                  rcases q : pBlank c.toNat with _ | _
                  · exfalso
                    apply b1
                    show (if pBlank c.toNat = true then cntP pBlank gap + 1 else 0) = 0
                    rw [q]
                    rfl
                  · rfl
                have np : ∀ x, ¬ Go.Lib.hasPrefix (c :: gap ++ blkT k0) [47, x] = true := by
                  intro x q
                  obtain ⟨r, q⟩ := (prefix_two _ _ _).1 q
                  simp at q
                  rw [q.1] at cb
                  revert cb
                  decide
                rw [e]
                unfold blankI
                rw [if_neg (np _), if_neg (np _), cntP_app_lt _ _ _ lt]
        have dr : (gap ++ blkT k0).drop (blankI gap).1 = gap.drop (blankI gap).1 ++ blkT k0 := List.drop_append_of_le_length hm
        have I := ih (gap.drop (blankI gap).1) (by rw [List.length_drop]; omega) (Prod.ext (by rw [List.length_drop]; omega) E.2.symm)
        rw [blanksI_eq (gap ++ blkT k0), B, if_neg (by rw [b2]; decide), if_neg b1, dr, I, List.length_drop]
        refine Prod.ext ?_ rfl
        show _ + (_ + _) = _
        simp only
        omega

end Go.Proofs.YtaikkmehmiiffaaGreatDoor.Lx

/- LexAgain: plain: a text's tokens, laid one behind the other with blanks between. -/
namespace Go.Proofs.YtaikkmehmiiffaaGreatDoor.Lx
set_option linter.unusedVariables false

/-- how far a token and the blanks behind it go -/
def segN (lit : List UInt8 → Nat × Bool) (y : List UInt8) : Nat := (tokI lit y).2.1 + (blanksI (y.drop (tokI lit y).2.1)).1

/-- tokens one behind the other, with blanks between; y begins with a token, or is at its end -/
def agn (lit : List UInt8 → Nat × Bool) : Nat → List UInt8 → List Nat → List UInt8
  | 0, _, bl => blkT (bl.headD 0 % 4)
  | k + 1, y, bl => if y = [] then blkT (bl.headD 0 % 4) else blkT (bl.headD 0 % 4) ++ (y.take (segN lit y) ++ agn lit k (y.drop (segN lit y)) bl.tail)

/-- the same but for the places -/
def bare (t : Tok) : Tok := ⟨t.kind, 0, t.text, t.num⟩

theorem blk_head (k : Nat) (z : List UInt8) : ∃ c r, blkT k ++ z = c :: r ∧ (c = 10 ∨ c = 32) := by
  rcases blk_cases k with e | e | e | e <;> rw [e]
  · exact ⟨32, _, rfl, Or.inr rfl⟩
  · exact ⟨10, _, rfl, Or.inl rfl⟩
  · exact ⟨32, _, rfl, Or.inr rfl⟩
  · exact ⟨32, _, rfl, Or.inr rfl⟩

theorem agn_head (lit : List UInt8 → Nat × Bool) (k : Nat) (y : List UInt8) (bl : List Nat) : ∃ c r, agn lit k y bl = c :: r ∧ (c = 10 ∨ c = 32) := by
  cases k with
  | zero =>
    have := blk_head (bl.headD 0 % 4) []
    rw [List.append_nil] at this
    exact this
  | succ k =>
    rw [agn]
    split
    · have := blk_head (bl.headD 0 % 4) []
      rw [List.append_nil] at this
      exact this
    · exact blk_head _ _

theorem no_blank_head (y : List UInt8) (h : blanksI y = (0, true)) (hy : y ≠ []) : ∃ a z, y = a :: z ∧ a ≠ 10 := by
  match y, hy with
  | a :: z, _ =>
    refine ⟨a, z, rfl, ?_⟩
    rintro rfl
    have := nl_blank z
    rw [h] at this
    simp at this
    omega

/-- at a token nothing is blank, also where something else stands behind it and its blanks -/
theorem no_blank_cut (y : List UInt8) (n : Nat) (c : UInt8) (r : List UInt8) (hn : 0 < n) (hl : n ≤ y.length) (hc : sep c) (hc2 : c ≠ 47) (h : blanksI y = (0, true)) : blanksI (y.take n ++ c :: r) = (0, true) := by
  have E := blanksI_eq y
  rw [h] at E
  have b2 : (blankI y).2 = true := by
    rcases q : (blankI y).2 with _ | _
    · rw [if_pos q] at E; simp at E
    · rfl
  rw [if_neg (by rw [b2]; decide)] at E
  have b1 : (blankI y).1 = 0 := by
    by_cases q : (blankI y).1 = 0
    · exact q
    · rw [if_neg q] at E
      simp at E
      omega
  match y, n, hn, hl with
  | [], n, hn, hl => simp at hl; omega
  | a :: y, n + 1, _, hl =>
    have np : ∀ x, x ≠ c → ¬ Go.Lib.hasPrefix (a :: y) [47, x] = true → ¬ Go.Lib.hasPrefix ((a :: y).take (n + 1) ++ c :: r) [47, x] = true := by
      intro x hx q k
      obtain ⟨z, k⟩ := (prefix_two _ _ _).1 k
      cases n with
      | zero =>
        simp at k
        exact hx k.2.1.symm
      | succ n =>
        match y, hl with
        | b :: y, _ =>
          simp at k
          apply q
          rw [prefix_two]
          exact ⟨y, by rw [k.1, k.2.1]⟩
        | [], hl => simp at hl
    have p1 : ¬ Go.Lib.hasPrefix (a :: y) [47, 47] = true := by
      intro q
      have e : blankI (a :: y) = (cntP pLine (a :: y), true) := by unfold blankI; rw [if_pos q]
      rw [e] at b1
      obtain ⟨z, k⟩ := (prefix_two _ _ _).1 q
      rw [k] at b1
      simp [cntP, pLine] at b1
    have p2 : ¬ Go.Lib.hasPrefix (a :: y) [47, 42] = true := by
      intro q
      have e : (blankI (a :: y)).1 = 2 + (starI ((a :: y).drop 2)).1 := by unfold blankI; rw [if_neg p1, if_pos q]
      rw [e] at b1
      omega
    have e : blankI (a :: y) = (cntP pBlank (a :: y), true) := by unfold blankI; rw [if_neg p1, if_neg p2]
    rw [e] at b1
    have ab : pBlank a.toNat = false := by
      rcases q : pBlank a.toNat with _ | _
      · rfl
      · have : cntP pBlank (a :: y) = cntP pBlank y + 1 := by
          show (if pBlank a.toNat = true then cntP pBlank y + 1 else 0) = _
          rw [if_pos q]
        simp only at b1
        omega
    have c42 : (42 : UInt8) ≠ c := by rcases hc with rfl | rfl | rfl | rfl <;> decide
    have B : blankI ((a :: y).take (n + 1) ++ c :: r) = (0, true) := by
      unfold blankI
      rw [if_neg (np 47 (fun k => hc2 k.symm) p1), if_neg (np 42 c42 p2)]
      refine Prod.ext ?_ rfl
      show (if pBlank a.toNat = true then _ else 0) = 0
      rw [ab]
      rfl
    rw [blanksI_eq, B]
    simp

theorem blanks_idem (l : List UInt8) (h : (blanksI l).2 = true) : blanksI (l.drop (blanksI l).1) = (0, true) := by
  suffices H : ∀ k (l : List UInt8), l.length < k → (blanksI l).2 = true → blanksI (l.drop (blanksI l).1) = (0, true) from H _ l (Nat.lt_succ_self _) h
  intro k
  induction k with
  | zero => intro l hl; omega
  | succ k ih =>
    intro l hl h
    have E := blanksI_eq l
    by_cases a : (blankI l).2 = false
    · rw [E, if_pos a] at h; simp at h
    · rw [if_neg a] at E
      by_cases b : (blankI l).1 = 0
      · rw [if_pos b] at E
        rw [E, List.drop_zero, E]
      · rw [if_neg b] at E
        have le := blankI_le l
        rw [E] at h
        have I := ih (l.drop (blankI l).1) (by rw [List.length_drop]; omega) h
        rw [E]
        simp only [← List.drop_drop]
        exact I

theorem scanF_gap (lit : List UInt8 → Nat × Bool) (m q : Nat) (G X : List UInt8) (h : blanksI (G ++ X) = (G.length + (blanksI X).1, (blanksI X).2)) : scanF lit m q (G ++ X) = scanF lit m (q + G.length) X := by
  cases m with
  | zero => rfl
  | succ m =>
    have d : ∀ j, (G ++ X).drop (G.length + j) = X.drop j := by
      intro j
      rw [← List.drop_drop, List.drop_left]
    rw [scanF, scanF, h]
    simp only [d, Nat.add_assoc]

theorem blank_first (l : List UInt8) (h : 0 < (blanksI l).1) : ∃ c r, l = c :: r ∧ sep c := by
  have E := blanksI_eq l
  by_cases a : (blankI l).2 = false
  · rw [E, if_pos a] at h; simp at h
  · rw [if_neg a] at E
    by_cases b : (blankI l).1 = 0
    · rw [E, if_pos b] at h; simp at h
    · match l, b with
      | [], b => exact absurd rfl b
      | c :: r, b =>
        refine ⟨c, r, rfl, ?_⟩
        unfold blankI at b
        split at b
        · rename_i q
          obtain ⟨z, q⟩ := (prefix_two _ _ _).1 q
          simp at q
          exact Or.inr (Or.inr (Or.inr q.1))
        · split at b
          · rename_i q
            obtain ⟨z, q⟩ := (prefix_two _ _ _).1 q
            simp at q
            exact Or.inr (Or.inr (Or.inr q.1))
          · have cb : pBlank c.toNat = true := by
              rcases q : pBlank c.toNat with _ | _
              · exfalso
                apply b
                show (if pBlank c.toNat = true then cntP pBlank r + 1 else 0) = 0
                rw [q]
                rfl
              · rfl
            unfold pBlank at cb
            simp at cb
            have k1 : c = 9 ↔ c.toNat = 9 := nat_u8 c 9 (by omega)
            have k2 : c = 10 ↔ c.toNat = 10 := nat_u8 c 10 (by omega)
            have k3 : c = 32 ↔ c.toNat = 32 := nat_u8 c 32 (by omega)
            unfold sep
            rw [k1, k2, k3]
            omega

theorem again_scan (lit : List UInt8 → Nat × Bool) (k : Nat) : ∀ (y : List UInt8) (bl : List Nat) (K p m q : Nat), y.length < k → blanksI y = (0, true) → y.length < K → (scanF lit K p y).2.2 = 0 → (agn lit k y bl).length < m →
    (scanF lit m q (agn lit k y bl)).2.2 = 0 ∧ (scanF lit m q (agn lit k y bl)).1.map bare = (scanF lit K p y).1.map bare := by
  induction k with
  | zero => intro y bl K p m q hk; omega
  | succ k ih =>
    intro y bl K p m q hk h0 hK hs hm
    cases K with
    | zero => omega
    | succ K =>
    cases m with
    | zero => omega
    | succ m =>
    by_cases hy : y = []
    · subst hy
      have e : agn lit (k + 1) [] bl = blkT (bl.headD 0 % 4) := by rw [agn, if_pos rfl]
      rw [e]
      have bk := blk_any (bl.headD 0 % 4) []
      rw [List.append_nil, blanks_nil] at bk
      rw [scanF, scanF, bk, blanks_nil]
      simp [bare]
    · -- y's own token
      rw [scanF, h0] at hs
      simp only [List.drop_zero, Nat.add_zero, Nat.zero_add] at hs
      rw [if_neg (by decide), if_neg hy] at hs
      have c' : (tokI lit y).2.2 = 0 := by
        by_cases z : (tokI lit y).2.2 = 0
        · exact z
        · rw [if_pos z] at hs
          exact absurd hs z
      rw [if_neg (by simpa using c')] at hs
      have T := tok_ok lit y c'
      have tp := T.pos
      have tl := T.le
      have rs : (scanF lit K (p + (tokI lit y).2.1) (y.drop (tokI lit y).2.1)).2.2 = 0 := by
        by_cases z : (scanF lit K (p + (tokI lit y).2.1) (y.drop (tokI lit y).2.1)).2.2 = 0
        · exact z
        · rw [if_neg z] at hs
          exact absurd hs z
      have Y : scanF lit (K + 1) p y = ({ (tokI lit y).1 with pl := p } :: (scanF lit K (p + (tokI lit y).2.1) (y.drop (tokI lit y).2.1)).1, 0, 0) := by
        rw [scanF, h0]
        simp only [List.drop_zero, Nat.add_zero, Nat.zero_add]
        rw [if_neg (by decide), if_neg hy, if_neg (by simpa using c'), if_pos rs]
      have Kp : 0 < K := by
        have : 0 < y.length := by omega
        omega
      have hb := (scanF_head lit K _ _ Kp rs).1
      have ble := blanksI_le (y.drop (tokI lit y).2.1)
      rw [List.length_drop] at ble
      have hseg : segN lit y = (tokI lit y).2.1 + (blanksI (y.drop (tokI lit y).2.1)).1 := rfl
      have hx : agn lit (k + 1) y bl = blkT (bl.headD 0 % 4) ++ (y.take (segN lit y) ++ agn lit k (y.drop (segN lit y)) bl.tail) := by rw [agn, if_neg hy]
      rw [hx] at hm ⊢
      obtain ⟨c, r, hX, hc⟩ := agn_head lit k (y.drop (segN lit y)) bl.tail
      have sc : sep c := by
        rcases hc with h | h
        · exact Or.inr (Or.inl h)
        · exact Or.inr (Or.inr (Or.inl h))
      have nb : blanksI (y.take (segN lit y) ++ agn lit k (y.drop (segN lit y)) bl.tail) = (0, true) := by
        rw [hX]
        exact no_blank_cut y (segN lit y) c r (by omega) (by omega) sc (by rcases hc with h | h <;> rw [h] <;> decide) h0
      have gs : y.take (segN lit y) = y.take (tokI lit y).2.1 ++ (y.drop (tokI lit y).2.1).take (blanksI (y.drop (tokI lit y).2.1)).1 := by
        rw [hseg, List.take_add]
      have tk : tokI lit (y.take (segN lit y) ++ agn lit k (y.drop (segN lit y)) bl.tail) = tokI lit y := by
        rw [gs, List.append_assoc]
        by_cases g0 : (blanksI (y.drop (tokI lit y).2.1)).1 = 0
        · rw [g0, List.take_zero, List.nil_append, hX]
          exact tok_cut lit y c r sc c'
        · obtain ⟨c1, r1, e1, s1⟩ := blank_first (y.drop (tokI lit y).2.1) (by omega)
          obtain ⟨g, hg⟩ : ∃ g, (blanksI (y.drop (tokI lit y).2.1)).1 = g + 1 := ⟨_, (Nat.succ_pred_eq_of_pos (by omega)).symm⟩
          rw [hg, e1, List.take_succ_cons, List.cons_append]
          exact tok_cut lit y c1 _ s1 c'
      have bx := blk_any (bl.headD 0 % 4) (y.take (segN lit y) ++ agn lit k (y.drop (segN lit y)) bl.tail)
      rw [nb] at bx
      have lenx : (blkT (bl.headD 0 % 4) ++ (y.take (segN lit y) ++ agn lit k (y.drop (segN lit y)) bl.tail)).length = (blkT (bl.headD 0 % 4)).length + (segN lit y + (agn lit k (y.drop (segN lit y)) bl.tail).length) := by
        rw [List.length_append, List.length_append, List.length_take]
        omega
      rw [lenx] at hm
      have bpos : 0 < (blkT (bl.headD 0 % 4)).length := by
        rcases blk_cases (bl.headD 0 % 4) with e | e | e | e <;> rw [e] <;> decide
      -- behind the token
      have rest : (y.take (segN lit y) ++ agn lit k (y.drop (segN lit y)) bl.tail).drop (tokI lit y).2.1 = (y.drop (tokI lit y).2.1).take (blanksI (y.drop (tokI lit y).2.1)).1 ++ agn lit k (y.drop (segN lit y)) bl.tail := by
        rw [gs, List.append_assoc, List.drop_append_of_le_length (by rw [List.length_take]; omega), List.drop_take, Nat.sub_self, List.take_zero, List.nil_append]
      have glen : ((y.drop (tokI lit y).2.1).take (blanksI (y.drop (tokI lit y).2.1)).1).length = (blanksI (y.drop (tokI lit y).2.1)).1 := by
        rw [List.length_take, List.length_drop]
        omega
      have dd : (y.drop (tokI lit y).2.1).drop (blanksI (y.drop (tokI lit y).2.1)).1 = y.drop (segN lit y) := by rw [List.drop_drop, hseg]
      have parts : (y.drop (tokI lit y).2.1).take (blanksI (y.drop (tokI lit y).2.1)).1 ++ y.drop (segN lit y) = y.drop (tokI lit y).2.1 := by
        rw [← dd]
        exact List.take_append_drop _ _
      have idem := blanks_idem _ hb
      rw [dd] at idem
      have gapY : blanksI ((y.drop (tokI lit y).2.1).take (blanksI (y.drop (tokI lit y).2.1)).1 ++ y.drop (segN lit y)) = (((y.drop (tokI lit y).2.1).take (blanksI (y.drop (tokI lit y).2.1)).1).length + (blanksI (y.drop (segN lit y))).1, (blanksI (y.drop (segN lit y))).2) := by
        rw [parts, idem, glen]
        exact Prod.ext rfl hb
      have SY : scanF lit K (p + (tokI lit y).2.1) (y.drop (tokI lit y).2.1) = scanF lit K (p + (tokI lit y).2.1 + (blanksI (y.drop (tokI lit y).2.1)).1) (y.drop (segN lit y)) := by
        have := scanF_gap lit K (p + (tokI lit y).2.1) _ _ gapY
        rw [parts, glen] at this
        exact this
      have gapX : blanksI ((y.drop (tokI lit y).2.1).take (blanksI (y.drop (tokI lit y).2.1)).1 ++ agn lit k (y.drop (segN lit y)) bl.tail) = (((y.drop (tokI lit y).2.1).take (blanksI (y.drop (tokI lit y).2.1)).1).length + (blanksI (agn lit k (y.drop (segN lit y)) bl.tail)).1, (blanksI (agn lit k (y.drop (segN lit y)) bl.tail)).2) := by
        by_cases z : y.drop (segN lit y) = []
        · have eb : agn lit k (y.drop (segN lit y)) bl.tail = blkT (bl.tail.headD 0 % 4) := by
            rw [z]
            cases k with
            | zero => rfl
            | succ k => rw [agn, if_pos rfl]
          have full : (y.drop (tokI lit y).2.1).take (blanksI (y.drop (tokI lit y).2.1)).1 = y.drop (tokI lit y).2.1 := by
            have := parts
            rw [z, List.append_nil] at this
            exact this
          have bk := blk_any (bl.tail.headD 0 % 4) []
          rw [List.append_nil, blanks_nil] at bk
          rw [eb, bk]
          exact gap_end _ _ (Prod.ext (by rw [full] at glen ⊢; exact glen.symm) (by rw [full]; exact hb))
        · refine gap_mid _ (y.drop (segN lit y)) _ (no_blank_head _ idem z) ?_
          rw [parts, glen]
          exact Prod.ext rfl hb
      have I := ih (y.drop (segN lit y)) bl.tail K (p + (tokI lit y).2.1 + (blanksI (y.drop (tokI lit y).2.1)).1) m (q + (blkT (bl.headD 0 % 4)).length + (tokI lit y).2.1 + ((y.drop (tokI lit y).2.1).take (blanksI (y.drop (tokI lit y).2.1)).1).length) (by rw [List.length_drop]; omega) idem (by rw [List.length_drop]; omega) (by rw [← SY]; exact rs) (by omega)
      have SX := scanF_gap lit m (q + (blkT (bl.headD 0 % 4)).length + (tokI lit y).2.1) _ _ gapX
      rw [← SX, ← SY] at I
      -- x's scan
      have X : scanF lit (m + 1) q (blkT (bl.headD 0 % 4) ++ (y.take (segN lit y) ++ agn lit k (y.drop (segN lit y)) bl.tail)) = ({ (tokI lit y).1 with pl := q + (blkT (bl.headD 0 % 4)).length } :: (scanF lit m (q + (blkT (bl.headD 0 % 4)).length + (tokI lit y).2.1) ((y.drop (tokI lit y).2.1).take (blanksI (y.drop (tokI lit y).2.1)).1 ++ agn lit k (y.drop (segN lit y)) bl.tail)).1, 0, 0) := by
        rw [scanF, bx]
        simp only [Nat.add_zero, List.drop_left]
        have ne : ¬ (y.take (segN lit y) ++ agn lit k (y.drop (segN lit y)) bl.tail = []) := by rw [hX]; simp
        have d2 : (blkT (bl.headD 0 % 4) ++ (y.take (segN lit y) ++ agn lit k (y.drop (segN lit y)) bl.tail)).drop ((blkT (bl.headD 0 % 4)).length + (tokI lit y).2.1) = (y.drop (tokI lit y).2.1).take (blanksI (y.drop (tokI lit y).2.1)).1 ++ agn lit k (y.drop (segN lit y)) bl.tail := by
          rw [← List.drop_drop, List.drop_left, rest]
        rw [if_neg (by decide), if_neg ne, tk, if_neg (by simpa using c'), d2, if_pos I.1]
      rw [X, Y]
      refine ⟨rfl, ?_⟩
      simp only [List.map_cons]
      rw [I.2]
      rfl

end Go.Proofs.YtaikkmehmiiffaaGreatDoor.Lx

/- LexAgain: plain: the text that the law lays, out of the tokens' places. -/
namespace Go.Proofs.YtaikkmehmiiffaaGreatDoor.Lx
set_option linter.unusedVariables false

/-- the text that the law lays: blanks, and what stands from a token to the next -/
def lay (s : List UInt8) : List Tok → List Nat → List UInt8
  | [], _ => []
  | [_], bl => blkT (bl.headD 0 % 4)
  | t :: t' :: r, bl => blkT (bl.headD 0 % 4) ++ ((s.drop t.pl).take (t'.pl - t.pl) ++ lay s (t' :: r) bl.tail)

/-- a text that begins with a token: that token, and the tokens behind its blanks -/
theorem scan_one (lit : List UInt8 → Nat × Bool) (K p : Nat) (y : List UInt8) (h0 : blanksI y = (0, true)) (hy : y ≠ []) (hK : y.length < K + 1) (hs : (scanF lit (K + 1) p y).2.2 = 0) :
    scanF lit (K + 1) p y = ({ (tokI lit y).1 with pl := p } :: (scanF lit K (p + segN lit y) (y.drop (segN lit y))).1, 0, 0) ∧ (scanF lit K (p + segN lit y) (y.drop (segN lit y))).2.2 = 0 ∧
      0 < segN lit y ∧ segN lit y ≤ y.length ∧ blanksI (y.drop (segN lit y)) = (0, true) ∧ 0 < K := by
  rw [scanF, h0] at hs
  simp only [List.drop_zero, Nat.add_zero, Nat.zero_add] at hs
  rw [if_neg (by decide), if_neg hy] at hs
  have c' : (tokI lit y).2.2 = 0 := by
    by_cases z : (tokI lit y).2.2 = 0
    · exact z
    · rw [if_pos z] at hs
      exact absurd hs z
  rw [if_neg (by simpa using c')] at hs
  have T := tok_ok lit y c'
  have tp := T.pos
  have tl := T.le
  have rs : (scanF lit K (p + (tokI lit y).2.1) (y.drop (tokI lit y).2.1)).2.2 = 0 := by
    by_cases z : (scanF lit K (p + (tokI lit y).2.1) (y.drop (tokI lit y).2.1)).2.2 = 0
    · exact z
    · rw [if_neg z] at hs
      exact absurd hs z
  have Y : scanF lit (K + 1) p y = ({ (tokI lit y).1 with pl := p } :: (scanF lit K (p + (tokI lit y).2.1) (y.drop (tokI lit y).2.1)).1, 0, 0) := by
    rw [scanF, h0]
    simp only [List.drop_zero, Nat.add_zero, Nat.zero_add]
    rw [if_neg (by decide), if_neg hy, if_neg (by simpa using c'), if_pos rs]
  have Kp : 0 < K := by omega
  have hb := (scanF_head lit K _ _ Kp rs).1
  have ble := blanksI_le (y.drop (tokI lit y).2.1)
  rw [List.length_drop] at ble
  have hseg : segN lit y = (tokI lit y).2.1 + (blanksI (y.drop (tokI lit y).2.1)).1 := rfl
  have glen : ((y.drop (tokI lit y).2.1).take (blanksI (y.drop (tokI lit y).2.1)).1).length = (blanksI (y.drop (tokI lit y).2.1)).1 := by
    rw [List.length_take, List.length_drop]
    omega
  have dd : (y.drop (tokI lit y).2.1).drop (blanksI (y.drop (tokI lit y).2.1)).1 = y.drop (segN lit y) := by rw [List.drop_drop, hseg]
  have parts : (y.drop (tokI lit y).2.1).take (blanksI (y.drop (tokI lit y).2.1)).1 ++ y.drop (segN lit y) = y.drop (tokI lit y).2.1 := by
    rw [← dd]
    exact List.take_append_drop _ _
  have idem := blanks_idem _ hb
  rw [dd] at idem
  have gapY : blanksI ((y.drop (tokI lit y).2.1).take (blanksI (y.drop (tokI lit y).2.1)).1 ++ y.drop (segN lit y)) = (((y.drop (tokI lit y).2.1).take (blanksI (y.drop (tokI lit y).2.1)).1).length + (blanksI (y.drop (segN lit y))).1, (blanksI (y.drop (segN lit y))).2) := by
    rw [parts, idem, glen]
    exact Prod.ext rfl hb
  have SY : scanF lit K (p + (tokI lit y).2.1) (y.drop (tokI lit y).2.1) = scanF lit K (p + segN lit y) (y.drop (segN lit y)) := by
    have := scanF_gap lit K (p + (tokI lit y).2.1) _ _ gapY
    rw [parts, glen, Nat.add_assoc] at this
    exact this
  rw [SY] at Y rs
  exact ⟨Y, rs, by omega, by omega, idem, Kp⟩

theorem lay_agn (lit : List UInt8 → Nat × Bool) (s : List UInt8) (K : Nat) : ∀ (p k : Nat) (bl : List Nat), p ≤ s.length → (s.drop p).length < k → blanksI (s.drop p) = (0, true) → (s.drop p).length < K → (scanF lit K p (s.drop p)).2.2 = 0 →
    lay s (scanF lit K p (s.drop p)).1 bl = agn lit k (s.drop p) bl ∧ (agn lit k (s.drop p) bl).length ≤ 10 * ((s.drop p).length + 1) + (s.drop p).length ∧ (scanF lit K p (s.drop p)).1.length ≤ (s.drop p).length + 1 := by
  have bk : ∀ k, (blkT k).length ≤ 10 := by
    intro k
    rcases blk_cases k with e | e | e | e <;> rw [e] <;> decide
  induction K with
  | zero => intro p k bl _ _ _ h; omega
  | succ K ih =>
    intro p k bl hp hk h0 hK hs
    cases k with
    | zero => omega
    | succ k =>
    by_cases hy : s.drop p = []
    · have e : scanF lit (K + 1) p (s.drop p) = ([⟨0, p, [], 0⟩], 0, 0) := by
        rw [scanF, h0]
        simp only [List.drop_zero, Nat.add_zero]
        rw [if_neg (by decide), if_pos hy]
      rw [e, agn, if_pos hy]
      have := bk (bl.headD 0 % 4)
      refine ⟨rfl, by omega, ?_⟩
      show 1 ≤ _
      omega
    · obtain ⟨Y, rs, sp, sl, idem, Kp⟩ := scan_one lit K p (s.drop p) h0 hy hK hs
      have dd : (s.drop p).drop (segN lit (s.drop p)) = s.drop (p + segN lit (s.drop p)) := by rw [List.drop_drop]
      have ld : (s.drop p).length = s.length - p := List.length_drop
      rw [dd] at Y rs idem
      have lr : (s.drop (p + segN lit (s.drop p))).length = (s.drop p).length - segN lit (s.drop p) := by rw [List.length_drop, List.length_drop]; omega
      obtain ⟨I1, I2, I3⟩ := ih (p + segN lit (s.drop p)) k bl.tail (by omega) (by omega) idem (by omega) rs
      obtain ⟨_, t, ts, e, epl⟩ := scanF_head lit K _ _ Kp rs
      rw [idem] at epl
      simp only [Nat.add_zero] at epl
      rw [Y, agn, if_neg hy, dd]
      simp only
      rw [e] at I1 I3 ⊢
      refine ⟨?_, ?_, ?_⟩
      · rw [lay, I1, epl]
        simp only [Nat.add_sub_cancel_left]
      · have := bk (bl.headD 0 % 4)
        rw [List.length_append, List.length_append, List.length_take]
        omega
      · rw [List.length_cons]
        omega

theorem agn_prog (lit : List UInt8 → Nat × Bool) (k : Nat) : ∀ (y : List UInt8) (bl : List Nat), (∀ c ∈ y, pProg c.toNat = true) → ∀ c ∈ agn lit k y bl, pProg c.toNat = true := by
  have bk : ∀ k, ∀ c ∈ blkT k, pProg c.toNat = true := by
    intro k
    rcases blk_cases k with e | e | e | e <;> rw [e] <;> decide
  induction k with
  | zero => intro y bl _; exact bk _
  | succ k ih =>
    intro y bl hy c hc
    rw [agn] at hc
    split at hc
    · exact bk _ c hc
    · rw [List.mem_append, List.mem_append] at hc
      rcases hc with h | h | h
      · exact bk _ c h
      · exact hy c (List.mem_of_mem_take h)
      · exact ih _ _ (fun c hc => hy c (List.mem_of_mem_drop hc)) c h

/-- what the law's text is read as -/
theorem again_plain (lit : List UInt8 → Nat × Bool) (s : List UInt8) (bl : List Nat) (hs : s.length ≤ 4000) (h : (scanI lit s).2.2 = 0) :
    (lay s (scanI lit s).1 bl).length ≤ 44010 ∧ (scanI lit (lay s (scanI lit s).1 bl)).2.2 = 0 ∧ (scanI lit (lay s (scanI lit s).1 bl)).1.map bare = (scanI lit s).1.map bare := by
  obtain ⟨_, _, _, hp⟩ := scan_chain lit s h
  have E : scanI lit s = scanF lit (s.length + 1) 0 s := by
    unfold scanI
    rw [if_neg (by omega), cntP_all _ _ hp, if_neg (by omega)]
  rw [E] at h ⊢
  have hb := (scanF_head lit _ _ _ (Nat.succ_pos _) h).1
  have ble := blanksI_le s
  have idem := blanks_idem s hb
  have gl : (s.take (blanksI s).1).length = (blanksI s).1 := by rw [List.length_take]; omega
  have G : scanF lit (s.length + 1) 0 s = scanF lit (s.length + 1) (blanksI s).1 (s.drop (blanksI s).1) := by
    have := scanF_gap lit (s.length + 1) 0 (s.take (blanksI s).1) (s.drop (blanksI s).1) (by
      rw [List.take_append_drop, idem, gl]
      exact Prod.ext rfl hb)
    rw [List.take_append_drop, gl, Nat.zero_add] at this
    exact this
  rw [G] at h ⊢
  have ld : (s.drop (blanksI s).1).length = s.length - (blanksI s).1 := List.length_drop
  obtain ⟨L1, L2, L3⟩ := lay_agn lit s (s.length + 1) (blanksI s).1 (s.length + 1) bl ble (by omega) idem (by omega) h
  rw [L1]
  have P := agn_prog lit (s.length + 1) (s.drop (blanksI s).1) bl (fun c hc => hp c (List.mem_of_mem_drop hc))
  have X : scanI lit (agn lit (s.length + 1) (s.drop (blanksI s).1) bl) = scanF lit ((agn lit (s.length + 1) (s.drop (blanksI s).1) bl).length + 1) 0 (agn lit (s.length + 1) (s.drop (blanksI s).1) bl) := by
    unfold scanI
    rw [if_neg (by omega), cntP_all _ _ P, if_neg (by omega)]
  rw [X]
  have A := again_scan lit (s.length + 1) (s.drop (blanksI s).1) bl (s.length + 1) (blanksI s).1 ((agn lit (s.length + 1) (s.drop (blanksI s).1) bl).length + 1) 0 (by omega) idem (by omega) h (Nat.lt_succ_self _)
  exact ⟨by omega, A.1, A.2⟩

theorem bare_at (t u : Tok) (h : bare t = bare u) : { t with pl := u.pl } = u := by
  cases t; cases u
  simp [bare] at h ⊢
  exact h

/-- a round of the law's first loop -/
theorem lay_mid (s : List UInt8) (ts : List Tok) (bl : List Nat) (i : Nat) (h : i + 1 < ts.length) :
    lay s (ts.drop i) (bl.drop i) = blkT ((bl.drop i).headD 0 % 4) ++ ((s.drop (ts[i]'(by omega)).pl).take ((ts[i + 1]'h).pl - (ts[i]'(by omega)).pl) ++ lay s (ts.drop (i + 1)) (bl.drop (i + 1))) := by
  rw [List.drop_eq_getElem_cons (show i < ts.length by omega), List.drop_eq_getElem_cons h, lay, List.tail_drop]

theorem lay_last (s : List UInt8) (ts : List Tok) (bl : List Nat) (i : Nat) (h : i + 1 = ts.length) :
    lay s (ts.drop i) (bl.drop i) = blkT ((bl.drop i).headD 0 % 4) := by
  rw [List.drop_eq_getElem_cons (show i < ts.length by omega), List.drop_eq_nil_of_le (by omega), lay]

end Go.Proofs.YtaikkmehmiiffaaGreatDoor.Lx

/- LexAgain: the law's walk, where the text is too long, or has no tokens. -/
namespace Go.Proofs.YtaikkmehmiiffaaGreatDoor.Lx
open Go.RowKit
set_option linter.unusedVariables false

theorem again_long (a : ByteArray) (sl : Option Addr) (n cap : Nat) (w : World) (al : AliveC w) (hz : a.size ≤ maxLen) (hz2 : n ≤ maxLen) (h : 4000 < a.size ∨ (a.size ≤ 4000 ∧ 1000 < n)) :
    Calls Tryz.prog 5 #[.string a, .slice sl n cap] w fun e w' => e = .returned (.bool true) ∧ Below w.heap.size w w' := by
  unfold maxLen at *
  rcases h with h | ⟨h, h2⟩
  · go_enter Tryz.func5, Tryz.ntmps5
    go_wp2_with (go_at_call 9; refine (al _ (Below.refl _ _)).mono ?_; rintro e w1 ⟨rfl, hb⟩)
    go_ret
    exact ⟨rfl, hb⟩
  · go_enter Tryz.func5, Tryz.ntmps5
    go_wp2_with (go_at_call 9; refine (al _ (Below.refl _ _)).mono ?_; rintro e w1 ⟨rfl, hb⟩)
    go_ret
    exact ⟨rfl, hb⟩

set_option maxRecDepth 100000 in
theorem again_err (a : ByteArray) (sl : Option Addr) (n cap : Nat) (X : List Tok × Nat × Nat) (w : World) (al : AliveC w) (hs : a.size ≤ 4000) (hn : n ≤ 1000) (he : X.2.2 ≠ 0)
    (cX : Calls Tryz.prog 10 #[.string a] w (ScanPost w X)) :
    Calls Tryz.prog 5 #[.string a, .slice sl n cap] w fun e w' => e = .returned (.bool true) ∧ Below w.heap.size w w' := by
  have h1 : ((X.2.2 : Int) != 0) = true := by simpa using he
  go_enter Tryz.func5, Tryz.ntmps5
  go_wp2_with fail
  refine cX.mono ?_
  rintro e w2 ⟨v1, rfl, o1, k2⟩
  clear o1
  go_wp2_with fail
  refine (al _ k2).mono ?_
  rintro e w3 ⟨rfl, k3⟩
  go_wp2_with fail
  go_ret
  exact ⟨rfl, k2.trans (k3.mono k2.size)⟩

end Go.Proofs.YtaikkmehmiiffaaGreatDoor.Lx

/- LexAgain: the second loop's places, put in. -/
namespace Go.Proofs.YtaikkmehmiiffaaGreatDoor.Lx
open Go.RowKit
set_option linter.unusedVariables false

/-- LexAgain, the second loop -/
structure AgM (ts tm : List Tok) (g g3 : Nat) (w0 wr : World) (k : Nat) : Prop where
  le : k ≤ ts.length
  cm : ∀ i t, (ts.take k ++ tm.drop k)[i]? = some t → ∀ j u, (tokC t)[j]? = some u → wr.cell? ⟨g3, i * 4 + j, none⟩ = some u
  cl : ∀ i t, ts[i]? = some t → ∀ j u, (tokC t)[j]? = some u → wr.cell? ⟨g, i * 4 + j, none⟩ = some u
  bel : Below w0.heap.size w0 wr
  gw : g3 < wr.heap.size
  fr : ∀ j, wr.frozen? ⟨g3, j, none⟩ = false

theorem set_size (w : World) (a : Addr) (u : Value) (n : Nat) (h : n < w.heap.size) : n < (w.setCell a u).heap.size := by
  have := (Below.refl 0 w).setCell (p := a) (Nat.zero_le _) u
  have s := (Below.refl w.heap.size w)
  by_cases e : n = a.block
  · have : (w.setCell a u).heap.size = w.heap.size := by unfold World.setCell; split <;> simp
    omega
  · have : (w.setCell a u).heap.size = w.heap.size := by unfold World.setCell; split <;> simp
    omega

theorem agm_next (ts tm : List Tok) (g g3 : Nat) (w0 wr : World) (k : Nat) (t : Tok) (h : AgM ts tm g g3 w0 wr k) (hg : g < g3) (hB : w0.heap.size ≤ g3) (kn : k < ts.length) (lm : tm.length = ts.length) (ht : ts[k]? = some t) (hbare : tm.map bare = ts.map bare) :
    AgM ts tm g g3 w0 (wr.setCell ⟨g3, k * 4 + 1, none⟩ (.int .i64 (t.pl : Int))) (k + 1) := by
  obtain ⟨u, hu⟩ : ∃ u, tm[k]? = some u := ⟨_, List.getElem?_eq_getElem (by omega)⟩
  have mk : (ts.take k ++ tm.drop k)[k]? = some u := by
    rw [List.getElem?_append_right (by rw [List.length_take]; omega), List.length_take, show k - min k ts.length = 0 from by omega, List.getElem?_drop]
    exact hu
  have mk' : (ts.take (k + 1) ++ tm.drop (k + 1))[k]? = some t := by
    rw [List.getElem?_append_left (by rw [List.length_take]; omega), List.getElem?_take, if_pos (Nat.lt_succ_self _)]
    exact ht
  have eb : bare u = bare t := by
    have := congrArg (fun l => l[k]?) hbare
    simp only [List.getElem?_map, hu, ht, Option.map_some, Option.some.injEq] at this
    exact this
  have e1 : (bare u).kind = (bare t).kind := by rw [eb]
  change u.kind = t.kind at e1
  have e2 : (bare u).text = (bare t).text := by rw [eb]
  change u.text = t.text at e2
  have e3 : (bare u).num = (bare t).num := by rw [eb]
  change u.num = t.num at e3
  have b1 : wr.cell? ⟨g3, k * 4 + 1, none⟩ = some (.int .i64 (u.pl : Int)) := h.cm k u mk 1 _ rfl
  refine ⟨kn, ?_, ?_, h.bel.setCell (p := ⟨g3, k * 4 + 1, none⟩) hB _, set_size _ _ _ _ h.gw, ?_⟩
  · intro i t0 hi j v hj
    have j4 : j < 4 := by
      rcases Nat.lt_or_ge j 4 with q | q
      · exact q
      · rw [List.getElem?_eq_none (by unfold tokC; simpa using q)] at hj
        exact absurd hj (by simp)
    by_cases ik : i = k
    · subst ik
      rw [mk'] at hi
      obtain rfl := Option.some.inj hi
      by_cases j1 : j = 1
      · subst j1
        obtain rfl : Value.int .i64 (t.pl : Int) = v := Option.some.inj hj
        exact World.cell?_setCell_same _ _ _ b1
      · rw [World.cell?_setCell_other _ ⟨g3, i * 4 + 1, none⟩ ⟨g3, i * 4 + j, none⟩ _ (fun q => absurd (congrArg Addr.off q) (show ¬ i * 4 + 1 = i * 4 + j by omega))]
        refine h.cm i u mk j v ?_
        rw [← hj]
        unfold tokC
        rw [e1, e2, e3]
        match j, j4, j1 with
        | 0, _, _ => rfl
        | 2, _, _ => rfl
        | 3, _, _ => rfl
    · rw [World.cell?_setCell_other _ ⟨g3, k * 4 + 1, none⟩ ⟨g3, i * 4 + j, none⟩ _ (fun q => absurd (congrArg Addr.off q) (show ¬ k * 4 + 1 = i * 4 + j by omega))]
      refine h.cm i t0 ?_ j v hj
      rw [← hi]
      rcases Nat.lt_or_ge i k with q | q
      · rw [List.getElem?_append_left (by rw [List.length_take]; omega), List.getElem?_append_left (by rw [List.length_take]; omega), List.getElem?_take, List.getElem?_take, if_pos q, if_pos (by omega)]
      · rw [List.getElem?_append_right (by rw [List.length_take]; omega), List.getElem?_append_right (by rw [List.length_take]; omega), List.getElem?_drop, List.getElem?_drop, List.length_take, List.length_take]
        congr 1
        omega
  · intro i t0 hi j v hj
    rw [World.cell?_setCell_other _ ⟨g3, k * 4 + 1, none⟩ ⟨g, i * 4 + j, none⟩ _ (fun q => absurd (congrArg Addr.block q) (show ¬ g3 = g by omega))]
    exact h.cl i t0 hi j v hj
  · intro j
    rw [World.frozen?_setCell]
    exact h.fr j

end Go.Proofs.YtaikkmehmiiffaaGreatDoor.Lx

/- LexAgain: the law's walk. -/
namespace Go.Proofs.YtaikkmehmiiffaaGreatDoor.Lx
open Go.RowKit
set_option linter.unusedVariables false

theorem cat_run (T U V : ByteArray) (W : World) (hs : T.size + U.size ≤ 100000) (h : T ++ U = V) : (binOp .add 9 (.string T) (.string U)).run Tryz.prog W = .ok (.string V) W := by
  have z : (T ++ U).size = T.size + U.size := ByteArray.size_append
  simp [go_sem, binOp, h]
  omega

theorem bs_cat (a b : List UInt8) : bs a ++ bs b = bs (a ++ b) := by
  apply ByteArray.ext
  unfold bs
  simp

/-- LexAgain, the first loop, at a token: x so far -/
structure AgAt (l : List UInt8) (ts : List Tok) (bl : List Nat) (v : Value) (w0 wr : World) (x : List UInt8) (k : Nat) : Prop where
  le : k ≤ ts.length
  own : TokSl w0.heap.size wr v ts
  bel : Below w0.heap.size w0 wr
  txt : x ++ lay l (ts.drop k) (bl.drop k) = lay l ts bl

set_option maxHeartbeats 4000000 in
set_option maxRecDepth 100000 in
theorem again_ok (l : List UInt8) (ts tm : List Tok) (bl : List Nat) (sl : Option Addr) (n cap : Nat) (w : World) (al : AliveC w) (hl : l.length ≤ 4000) (hn : n ≤ 1000) (hch : Chain litN l ts)
    (hbl : bl.length = n) (hb : ∀ (i b : Nat), bl[i]? = some b → ∃ gb off, sl = some ⟨gb, off, none⟩ ∧ b < 256 ∧ gb < w.heap.size ∧ w.cell? ⟨gb, off + i, none⟩ = some (.int .u8 (b : Int)))
    (hlen : (lay l ts bl).length ≤ 44010) (hbare : tm.map bare = ts.map bare)
    (c1 : Calls Tryz.prog 10 #[.string (bs l)] w (ScanPost w (ts, 0, 0)))
    (c2 : ∀ w1, Below w.heap.size w w1 → Calls Tryz.prog 10 #[.string (bs (lay l ts bl))] w1 (ScanPost w1 (tm, 0, 0))) :
    Calls Tryz.prog 5 #[.string (bs l), .slice sl n cap] w fun e w' => e = .returned (.bool true) ∧ Below w.heap.size w w' := by
  have H1 : Hid (Chain litN l ts) := hch
  have H2 : Hid (∀ w1, Below w.heap.size w w1 → Calls Tryz.prog 10 #[.string (bs (lay l ts bl))] w1 (ScanPost w1 (tm, 0, 0))) := c2
  have HX : Hid (∀ a b, (bs l).extract a b = bs ((l.take b).drop a)) := bs_extract l
  have hsz : (bs l).size = l.length := rfl
  have sb : (bs l).size ≤ 4000 := by omega
  have HL : Hid ((lay l ts bl).length ≤ 44010) := hlen
  have HB0 : Hid (∀ (i b : Nat), bl[i]? = some b → ∃ gb off, sl = some ⟨gb, off, none⟩ ∧ b < 256 ∧ gb < w.heap.size ∧ w.cell? ⟨gb, off + i, none⟩ = some (.int .u8 (b : Int))) := hb
  clear c2 hch hlen hb
  go_enter Tryz.func5, Tryz.ntmps5
  go_wp2_with fail
  refine c1.mono ?_
  rintro e w1 ⟨v, rfl, ho, b1⟩
  have n0 : ts ≠ [] := by
    intro z
    have := H1.out
    rw [z] at this
    exact this
  obtain ⟨g, cp, rfl, hcap, hmax, hBg, hgw, hcell⟩ := TokSl.cells ho n0
  have tl : ts.length ≤ 70000 := by
    have hc := H1.out
    cases hts : ts with
    | nil => exact absurd hts n0
    | cons t r =>
      have := chain_len hc t r hts
      rw [hts] at this
      simp only [List.length_cons] at this ⊢
      omega
  have HI : Hid (AgAt l ts bl (.slice (some ⟨g, 0, none⟩) ts.length cp) w w1 [] 0) := ⟨Nat.zero_le _, ho, b1, rfl⟩
  clear ho b1 hcell c1 hmax hBg
  go_wp2_with fail
  go_loopw [8, 9] (fun xv i wr => ∃ (k : Nat) (x : List UInt8), AgAt l ts bl (.slice (some ⟨g, 0, none⟩) ts.length cp) w wr x k ∧ i = .int .i64 k ∧ xv = .string (bs x)) (fun xv i wr => ts.length - (intOf i).toNat)
  case atStart => exact ⟨0, [], HI.out, rfl, rfl⟩
  case round =>
    obtain ⟨k, x, hr, rfl, rfl⟩ := hrel
    have kle := hr.le
    have HB : Hid (Below w.heap.size w wr) := hr.bel
    have HT : Hid (x ++ lay l (ts.drop k) (bl.drop k) = lay l ts bl) := hr.txt
    have HO : Hid (TokSl w.heap.size wr (.slice (some ⟨g, 0, none⟩) ts.length cp) ts) := hr.own
    clear hr
    rcases Nat.lt_or_ge k ts.length with kn | kn
    · have xb : (bs x).size ≤ 44010 := by
        have a := congrArg List.length HT.out
        rw [List.length_append] at a
        have := HL.out
        show x.length ≤ _
        omega
      obtain ⟨B, hB⟩ : ∃ B, B = blkT ((bl.drop k).headD 0 % 4) := ⟨_, rfl⟩
      have xs : (bs x).size = x.length := rfl
      rcases Nat.lt_or_ge (k + 1) ts.length with k1 | k1
      · -- a token is behind it
        obtain ⟨t, ht⟩ : ∃ t, ts[k]? = some t := ⟨_, List.getElem?_eq_getElem kn⟩
        obtain ⟨t', ht'⟩ : ∃ t', ts[k + 1]? = some t' := ⟨_, List.getElem?_eq_getElem k1⟩
        have L := chain_link H1.out k t t' ht ht'
        have rise := L.rise
        have fit := L.fit
        have tg : ts[k]'kn = t := by rw [List.getElem?_eq_getElem kn] at ht; exact Option.some.inj ht
        have tg' : ts[k + 1]'k1 = t' := by rw [List.getElem?_eq_getElem k1] at ht'; exact Option.some.inj ht'
        have lm := lay_mid l ts bl k k1
        rw [tg, tg', ← hB] at lm
        obtain ⟨U, hU⟩ : ∃ U, U = (l.drop t.pl).take (t'.pl - t.pl) := ⟨_, rfl⟩
        rw [← hU] at lm
        have HT2 : Hid ((x ++ B ++ U) ++ lay l (ts.drop (k + 1)) (bl.drop (k + 1)) = lay l ts bl) := by
          have := HT.out
          rw [lm] at this
          have e : (x ++ B ++ U) ++ lay l (ts.drop (k + 1)) (bl.drop (k + 1)) = x ++ (B ++ (U ++ lay l (ts.drop (k + 1)) (bl.drop (k + 1)))) := by simp only [List.append_assoc]
          exact e.trans this
        have vb : x.length + B.length + U.length ≤ 44010 := by
          have a := congrArg List.length HT2.out
          rw [List.length_append, List.length_append, List.length_append] at a
          have := HL.out
          omega
        have hx : (bs l).extract t.pl t'.pl = bs U := by
          rw [HX.out, List.drop_take, ← hU]
        obtain ⟨g2, cap2, hv2, hcap2, hmax2, hBg2, hgw2, hcell⟩ := TokSl.cells HO.out n0
        simp only [Value.slice.injEq, Option.some.injEq, Addr.mk.injEq, and_true] at hv2
        obtain ⟨rfl, hnn, rfl⟩ := hv2
        have a1 : wr.cell? ⟨g, k * 4 + 1, none⟩ = some (.int .i64 (t.pl : Int)) := hcell k _ ht 1 _ rfl
        have b1 : wr.cell? ⟨g, (k + 1) * 4 + 1, none⟩ = some (.int .i64 (t'.pl : Int)) := hcell (k + 1) _ ht' 1 _ rfl
        have HN : Hid (∀ w2, Below wr.heap.size wr w2 → AgAt l ts bl (.slice (some ⟨g, 0, none⟩) ts.length cp) w w2 (x ++ B ++ U) (k + 1)) := by
          intro w2 h2
          exact ⟨by omega, HO.out.kept h2, HB.out.trans (h2.mono HB.out.size), HT2.out⟩
        have hc2 : bs (x ++ B) ++ bs U = bs (x ++ B ++ U) := bs_cat _ _
        have ysz : (bs (x ++ B)).size + (bs U).size ≤ 44010 := by rw [bs_size, bs_size, List.length_append]; omega
        have kI : (k : Int) + 1 < ts.length := by omega
        have k0 : (0 : Int) ≤ (k : Int) + 1 := by omega
        have p1 : (t.pl : Int) ≤ (t'.pl : Int) := by omega
        have p2 : (t'.pl : Int) ≤ (bs l).size := by rw [hsz]; omega
        have w1' : IntKind.i64.wrap ((k : Int) + 1) = (k : Int) + 1 := by rw [IntKind.wrap_i64]; omega
        have hcat : bs x ++ bs B = bs (x ++ B) := bs_cat x B
        clear hcell hcap2 hmax2 hBg2 L ht ht' tg tg' lm hU HT HT2 HO
        rcases Nat.lt_or_ge k n with kb | kb
        · obtain ⟨b, hbk⟩ : ∃ b, bl[k]? = some b := ⟨_, List.getElem?_eq_getElem (by omega)⟩
          obtain ⟨gb, off, rfl, b256, gbw, cb⟩ := HB0.out k b hbk
          have cb' : wr.cell? ⟨gb, off + k, none⟩ = some (.int .u8 (b : Int)) := by rw [HB.out.cell (p := ⟨gb, off + k, none⟩) gbw]; exact cb
          have hd : (bl.drop k).headD 0 = b := by rw [List.headD_eq_head?_getD, List.head?_drop, hbk]; rfl
          rw [hd] at hB
          clear cb hd hbk
          generalize t.pl = pl at *
          generalize t'.pl = pl' at *
          have r4 : b % 4 = 0 ∨ b % 4 = 1 ∨ b % 4 = 2 ∨ b % 4 = 3 := by omega
          rcases r4 with r | r | r | r
          · have t0 : ((b : Int) % 4 == 0) = true := by simp; omega
            rw [r] at hB
            have hcat' : bs x ++ ⟨#[32]⟩ = bs (x ++ B) := by rw [← hcat, hB]; rfl
            clear hcat hB r vb
            generalize bs (x ++ B) = Y at *
            generalize bs U = UU at *
            generalize hV : bs (x ++ B ++ U) = V at *
            clear hsz xs
            generalize bs l = s at *
            go_upto_region 22 with fail
            go_region_held_law (fun w' => w'.cell? ⟨g, k * 4 + 1, none⟩ = some (.int .i64 (pl : Int)) ∧ w'.cell? ⟨g, (k + 1) * 4 + 1, none⟩ = some (.int .i64 (pl' : Int))) (first | go_keep) (fail)
            go_wp2_with fail
            refine ⟨⟨k + 1, x ++ B ++ U, HN.out _ ?_, by go_num, by rw [hV]⟩, ?_⟩
            · exact (Below.refl _ _).drew
            · simp [intOf]
              omega
          · have t0 : ((b : Int) % 4 == 0) = false := by simp; omega
            have t1 : ((b : Int) % 4 == 1) = true := by simp; omega
            rw [r] at hB
            have hcat' : bs x ++ ⟨#[10, 9]⟩ = bs (x ++ B) := by rw [← hcat, hB]; rfl
            clear hcat hB r vb
            generalize bs (x ++ B) = Y at *
            generalize bs U = UU at *
            generalize hV : bs (x ++ B ++ U) = V at *
            clear hsz xs
            generalize bs l = s at *
            go_upto_region 22 with fail
            go_region_held_law (fun w' => w'.cell? ⟨g, k * 4 + 1, none⟩ = some (.int .i64 (pl : Int)) ∧ w'.cell? ⟨g, (k + 1) * 4 + 1, none⟩ = some (.int .i64 (pl' : Int))) (first | go_keep) (fail)
            go_wp2_with fail
            refine ⟨⟨k + 1, x ++ B ++ U, HN.out _ ?_, by go_num, by rw [hV]⟩, ?_⟩
            · exact (Below.refl _ _).drew
            · simp [intOf]
              omega
          · have t0 : ((b : Int) % 4 == 0) = false := by simp; omega
            have t1 : ((b : Int) % 4 == 1) = false := by simp; omega
            have t2 : ((b : Int) % 4 == 2) = true := by simp; omega
            rw [r] at hB
            have hcat' : bs x ++ ⟨#[32, 47, 42, 32, 47, 32, 42, 32, 42, 47]⟩ = bs (x ++ B) := by rw [← hcat, hB]; rfl
            clear hcat hB r vb
            generalize bs (x ++ B) = Y at *
            generalize bs U = UU at *
            generalize hV : bs (x ++ B ++ U) = V at *
            clear hsz xs
            generalize bs l = s at *
            go_upto_region 22 with fail
            go_region_held_law (fun w' => w'.cell? ⟨g, k * 4 + 1, none⟩ = some (.int .i64 (pl : Int)) ∧ w'.cell? ⟨g, (k + 1) * 4 + 1, none⟩ = some (.int .i64 (pl' : Int))) (first | go_keep) (fail)
            go_wp2_with fail
            refine ⟨⟨k + 1, x ++ B ++ U, HN.out _ ?_, by go_num, by rw [hV]⟩, ?_⟩
            · exact (Below.refl _ _).drew
            · simp [intOf]
              omega
          · have t0 : ((b : Int) % 4 == 0) = false := by simp; omega
            have t1 : ((b : Int) % 4 == 1) = false := by simp; omega
            have t2 : ((b : Int) % 4 == 2) = false := by simp; omega
            rw [r] at hB
            have hcat' : bs x ++ ⟨#[32, 47, 47, 32, 47, 42, 10]⟩ = bs (x ++ B) := by rw [← hcat, hB]; rfl
            clear hcat hB r vb
            generalize bs (x ++ B) = Y at *
            generalize bs U = UU at *
            generalize hV : bs (x ++ B ++ U) = V at *
            clear hsz xs
            generalize bs l = s at *
            go_upto_region 22 with fail
            go_region_held_law (fun w' => w'.cell? ⟨g, k * 4 + 1, none⟩ = some (.int .i64 (pl : Int)) ∧ w'.cell? ⟨g, (k + 1) * 4 + 1, none⟩ = some (.int .i64 (pl' : Int))) (first | go_keep) (fail)
            go_wp2_with fail
            refine ⟨⟨k + 1, x ++ B ++ U, HN.out _ ?_, by go_num, by rw [hV]⟩, ?_⟩
            · exact (Below.refl _ _).drew
            · simp [intOf]
              omega
        · have hd : (bl.drop k).headD 0 = 0 := by rw [List.drop_eq_nil_of_le (by omega)]; rfl
          rw [hd] at hB
          clear hd
          generalize t.pl = pl at *
          generalize t'.pl = pl' at *
          have hcat' : bs x ++ ⟨#[32]⟩ = bs (x ++ B) := by rw [← hcat, hB]; rfl
          clear hcat hB vb
          generalize bs (x ++ B) = Y at *
          generalize bs U = UU at *
          generalize hV : bs (x ++ B ++ U) = V at *
          clear hsz xs
          generalize bs l = s at *
          go_upto_region 22 with fail
          go_region_held_law (fun w' => w'.cell? ⟨g, k * 4 + 1, none⟩ = some (.int .i64 (pl : Int)) ∧ w'.cell? ⟨g, (k + 1) * 4 + 1, none⟩ = some (.int .i64 (pl' : Int))) (first | go_keep) (fail)
          go_wp2_with fail
          refine ⟨⟨k + 1, x ++ B ++ U, HN.out _ ?_, by go_num, by rw [hV]⟩, ?_⟩
          · exact (Below.refl _ _).drew
          · simp [intOf]
            omega
      · -- the last one
        have ke : k + 1 = ts.length := by omega
        have lm := lay_last l ts bl k ke
        rw [← hB] at lm
        have HT2 : Hid ((x ++ B) ++ lay l (ts.drop (k + 1)) (bl.drop (k + 1)) = lay l ts bl) := by
          have := HT.out
          rw [lm] at this
          have e : lay l (ts.drop (k + 1)) (bl.drop (k + 1)) = [] := by rw [List.drop_eq_nil_of_le (by omega), lay]
          rw [e, List.append_nil]
          exact this
        have HN : Hid (∀ w2, Below wr.heap.size wr w2 → AgAt l ts bl (.slice (some ⟨g, 0, none⟩) ts.length cp) w w2 (x ++ B) (k + 1)) := by
          intro w2 h2
          exact ⟨by omega, HO.out.kept h2, HB.out.trans (h2.mono HB.out.size), HT2.out⟩
        have kI : ¬ (k : Int) + 1 < ts.length := by omega
        have w1' : IntKind.i64.wrap ((k : Int) + 1) = (k : Int) + 1 := by rw [IntKind.wrap_i64]; omega
        have hcat : bs x ++ bs B = bs (x ++ B) := bs_cat x B
        clear lm HT HT2 HO
        rcases Nat.lt_or_ge k n with kb | kb
        · obtain ⟨b, hbk⟩ : ∃ b, bl[k]? = some b := ⟨_, List.getElem?_eq_getElem (by omega)⟩
          obtain ⟨gb, off, rfl, b256, gbw, cb⟩ := HB0.out k b hbk
          have cb' : wr.cell? ⟨gb, off + k, none⟩ = some (.int .u8 (b : Int)) := by rw [HB.out.cell (p := ⟨gb, off + k, none⟩) gbw]; exact cb
          have hd : (bl.drop k).headD 0 = b := by rw [List.headD_eq_head?_getD, List.head?_drop, hbk]; rfl
          rw [hd] at hB
          clear cb hd hbk
          have r4 : b % 4 = 0 ∨ b % 4 = 1 ∨ b % 4 = 2 ∨ b % 4 = 3 := by omega
          rcases r4 with r | r | r | r
          · have t0 : ((b : Int) % 4 == 0) = true := by simp; omega
            rw [r] at hB
            have hcat' : bs x ++ ⟨#[32]⟩ = bs (x ++ B) := by rw [← hcat, hB]; rfl
            clear hcat hB r
            generalize hV : bs (x ++ B) = Y at *
            clear hsz xs
            generalize bs l = s at *
            go_wp2_with fail
            refine ⟨⟨k + 1, x ++ B, HN.out _ (Below.refl _ _), by go_num, by rw [hV]⟩, ?_⟩
            simp [intOf]
            omega
          · have t0 : ((b : Int) % 4 == 0) = false := by simp; omega
            have t1 : ((b : Int) % 4 == 1) = true := by simp; omega
            rw [r] at hB
            have hcat' : bs x ++ ⟨#[10, 9]⟩ = bs (x ++ B) := by rw [← hcat, hB]; rfl
            clear hcat hB r
            generalize hV : bs (x ++ B) = Y at *
            clear hsz xs
            generalize bs l = s at *
            go_wp2_with fail
            refine ⟨⟨k + 1, x ++ B, HN.out _ (Below.refl _ _), by go_num, by rw [hV]⟩, ?_⟩
            simp [intOf]
            omega
          · have t0 : ((b : Int) % 4 == 0) = false := by simp; omega
            have t1 : ((b : Int) % 4 == 1) = false := by simp; omega
            have t2 : ((b : Int) % 4 == 2) = true := by simp; omega
            rw [r] at hB
            have hcat' : bs x ++ ⟨#[32, 47, 42, 32, 47, 32, 42, 32, 42, 47]⟩ = bs (x ++ B) := by rw [← hcat, hB]; rfl
            clear hcat hB r
            generalize hV : bs (x ++ B) = Y at *
            clear hsz xs
            generalize bs l = s at *
            go_wp2_with fail
            refine ⟨⟨k + 1, x ++ B, HN.out _ (Below.refl _ _), by go_num, by rw [hV]⟩, ?_⟩
            simp [intOf]
            omega
          · have t0 : ((b : Int) % 4 == 0) = false := by simp; omega
            have t1 : ((b : Int) % 4 == 1) = false := by simp; omega
            have t2 : ((b : Int) % 4 == 2) = false := by simp; omega
            rw [r] at hB
            have hcat' : bs x ++ ⟨#[32, 47, 47, 32, 47, 42, 10]⟩ = bs (x ++ B) := by rw [← hcat, hB]; rfl
            clear hcat hB r
            generalize hV : bs (x ++ B) = Y at *
            clear hsz xs
            generalize bs l = s at *
            go_wp2_with fail
            refine ⟨⟨k + 1, x ++ B, HN.out _ (Below.refl _ _), by go_num, by rw [hV]⟩, ?_⟩
            simp [intOf]
            omega
        · have hd : (bl.drop k).headD 0 = 0 := by rw [List.drop_eq_nil_of_le (by omega)]; rfl
          rw [hd] at hB
          clear hd
          have hcat' : bs x ++ ⟨#[32]⟩ = bs (x ++ B) := by rw [← hcat, hB]; rfl
          clear hcat hB
          generalize hV : bs (x ++ B) = Y at *
          clear hsz xs
          generalize bs l = s at *
          go_wp2_with fail
          refine ⟨⟨k + 1, x ++ B, HN.out _ (Below.refl _ _), by go_num, by rw [hV]⟩, ?_⟩
          simp [intOf]
          omega
    · have ke : k = ts.length := by omega
      subst ke
      have xe : x = lay l ts bl := by
        have := HT.out
        rw [List.drop_eq_nil_of_le (Nat.le_refl _), lay, List.append_nil] at this
        exact this
      subst xe
      have c2 := H2.out _ HB.out
      have xb : (bs (lay l ts bl)).size ≤ 44010 := HL.out
      clear HX HL HI HT H2
      generalize bs (lay l ts bl) = X at *
      go_wp2_with fail
      refine c2.mono ?_
      rintro e w4 ⟨v3, rfl, o3, k4⟩
      have lm : tm.length = ts.length := by
        have := congrArg List.length hbare
        rw [List.length_map, List.length_map] at this
        exact this
      obtain ⟨g3, cp3, rfl, hcap3, hmax3, hBg3, hgw3, hcell3⟩ := TokSl.cells o3 (by intro z; rw [show tm = [] from z] at lm; exact n0 (List.length_eq_zero_iff.1 lm.symm))
      obtain ⟨g2, cap2, hv2, hcap2, hmax2, hBg2, hgw2, hcell2⟩ := TokSl.cells (HO.out.kept k4) n0
      simp only [Value.slice.injEq, Option.some.injEq, Addr.mk.injEq, and_true] at hv2
      obtain ⟨rfl, hnn, rfl⟩ := hv2
      have gg : g < g3 := by
        have := HO.out
        obtain ⟨g2', _, hv2', _, _, _, hgw2', _⟩ := TokSl.cells this n0
        simp only [Value.slice.injEq, Option.some.injEq, Addr.mk.injEq, and_true] at hv2'
        have : g = g2' := hv2'.1
        omega
      have B4 := HB.out.trans (k4.mono HB.out.size)
      have gB : w.heap.size ≤ g3 := by have := HB.out.size; omega
      have lc3 : ts.length ≤ cp3 := by rw [← lm]; exact hcap3
      have HI : Hid (AgM ts tm g g3 w w4 0) := ⟨Nat.zero_le _, by rw [List.take_zero, List.nil_append, List.drop_zero]; exact hcell3, hcell2, B4, hgw3, World.ownsRow.frozenAt o3⟩
      clear hcell3 hcell2 k4 o3 HO c2 hmax3 hmax2 hnn B4
      rw [show (tm, 0, 0).1.length = ts.length from lm]
      go_wp2_with fail
      go_loopw [14] (fun i wr => ∃ k : Nat, AgM ts tm g g3 w wr k ∧ i = .int .i64 k) (fun i wr => ts.length - (intOf i).toNat)
      case atStart => exact ⟨0, HI.out, rfl⟩
      case round =>
        obtain ⟨k, hr, rfl⟩ := hrel
        have kle := hr.le
        rcases Nat.lt_or_ge k ts.length with kn | kn
        · obtain ⟨t, ht⟩ : ∃ t, ts[k]? = some t := ⟨_, List.getElem?_eq_getElem kn⟩
          obtain ⟨u, hu⟩ : ∃ u, tm[k]? = some u := ⟨_, List.getElem?_eq_getElem (by omega)⟩
          have mk : (ts.take k ++ tm.drop k)[k]? = some u := by
            rw [List.getElem?_append_right (by rw [List.length_take]; omega), List.length_take, show k - min k ts.length = 0 from by omega, List.getElem?_drop]
            exact hu
          have a1 : wr.cell? ⟨g, k * 4 + 1, none⟩ = some (.int .i64 (t.pl : Int)) := hr.cl k _ ht 1 _ rfl
          have b1 : wr.cell? ⟨g3, k * 4 + 1, none⟩ = some (.int .i64 (u.pl : Int)) := hr.cm k _ mk 1 _ rfl
          have fr := hr.fr (k * 4 + 1)
          have HR : Hid (AgM ts tm g g3 w (wr.setCell ⟨g3, k * 4 + 1, none⟩ (.int .i64 (t.pl : Int))) (k + 1)) := agm_next ts tm g g3 w wr k t hr gg gB kn lm ht hbare
          clear hr HI mk
          generalize t.pl = pl at *
          go_wp2_with fail
          refine ⟨⟨k + 1, HR.out, by go_num⟩, ?_⟩
          simp [intOf]
          omega
        · have ke : k = ts.length := by omega
          have cm := hr.cm
          rw [ke, List.take_length, List.drop_eq_nil_of_le (by omega), List.append_nil] at cm
          have al6 := al _ hr.bel
          have gw3 := hr.gw
          have cl := hr.cl
          have B6 := hr.bel
          have cs : ∀ w7, Below wr.heap.size wr w7 → Calls Tryz.prog 12 #[.slice (some ⟨g3, 0, none⟩) ts.length cp3, .slice (some ⟨g, 0, none⟩) ts.length cp] w7 fun e w' => e = .returned (.bool true) ∧ Below w7.heap.size w7 w' := by
            intro w7 h7
            refine same_cons ts ts.length g3 cp3 g cp w7 rfl (by omega) (by omega) (by omega) ?_ ?_
            · intro i t hi j v hj
              rw [h7.cell (p := ⟨g3, i * 4 + j, none⟩) gw3]
              exact cm i t hi j v hj
            · intro i t hi j v hj
              rw [h7.cell (p := ⟨g, i * 4 + j, none⟩) (show g < _ by omega)]
              exact cl i t hi j v hj
          subst ke
          clear cm cl hr HI
          go_wp2_with fail
          refine al6.mono ?_
          rintro e w7 ⟨rfl, b7⟩
          go_wp2_with fail
          refine (cs _ b7).mono ?_
          rintro e w8 ⟨rfl, b8⟩
          have B7 := B6.trans (b7.mono B6.size)
          have B8 := B7.trans (b8.mono B7.size)
          go_wp2_with fail
          go_ret
          exact ⟨rfl, B8⟩

end Go.Proofs.YtaikkmehmiiffaaGreatDoor.Lx

/- LexAgain: the law of every text and all blanks. -/
namespace Go.Proofs.YtaikkmehmiiffaaGreatDoor.Lx
open Go.RowKit
set_option linter.unusedVariables false

theorem again_walk (l : List UInt8) (sl : Option Addr) (n cap : Nat) (bl : List Nat) (w : World) (hG : Glob w) (hl : l.length ≤ maxLen) (hn : n ≤ maxLen) (hbl : bl.length = n)
    (hb : ∀ (i b : Nat), bl[i]? = some b → ∃ gb off, sl = some ⟨gb, off, none⟩ ∧ b < 256 ∧ gb < w.heap.size ∧ w.cell? ⟨gb, off + i, none⟩ = some (.int .u8 (b : Int))) :
    Calls Tryz.prog 5 #[.string (bs l), .slice sl n cap] w fun e w' => e = .returned (.bool true) ∧ Below w.heap.size w w' := by
  have al : AliveC w := fun w1 (h : Below w.heap.size w w1) => alive_any w1 (hG.below h)
  by_cases hs : l.length ≤ 4000 ∧ n ≤ 1000
  · have c1 := scan_any l w hG
    by_cases e : (scI l).2.2 = 0
    · obtain ⟨ch, z, _, _⟩ := scan_chain litN l e
      have r : scI l = ((scI l).1, 0, 0) := Prod.ext rfl (Prod.ext z e)
      obtain ⟨p1, p2, p3⟩ := again_plain litN l bl hs.1 e
      obtain ⟨_, z2, _, _⟩ := scan_chain litN _ p2
      have r2 : scI (lay l (scI l).1 bl) = ((scI (lay l (scI l).1 bl)).1, 0, 0) := Prod.ext rfl (Prod.ext z2 p2)
      have c2 := fun w1 (h : Below w.heap.size w w1) => scan_any (lay l (scI l).1 bl) w1 (hG.below h)
      rw [r2] at c2
      rw [r] at c1
      exact again_ok l (scI l).1 (scI (lay l (scI l).1 bl)).1 bl sl n cap w al hs.1 hs.2 ch hbl hb p1 p3 c1 c2
    · exact again_err (bs l) sl n cap (scI l) w al (by rw [bs_size]; exact hs.1) hs.2 e c1
  · refine again_long (bs l) sl n cap w al (by rw [bs_size]; exact hl) hn ?_
    rw [bs_size]
    omega

end Go.Proofs.YtaikkmehmiiffaaGreatDoor.Lx

/- The tied card of LexAgain: the tokens of a text, one behind the other with blanks between, are the same but for their places. -/
namespace Go.Proofs.YtaikkmehmiiffaaGreatDoor.lexAgain
open Go.ChangeShapes Go.WideShapes Go.ChangeAt Go.RowKit
open Go.ChangeMaps (open_string shut_string)
set_option linter.unusedVariables false

theorem laidOut : laidOutB Tryz.prog = true := by kernel_rfl

/-- what the walk is told of a slice of bytes -/
def IsRow (k : IntKind) (w : World) (a : Option Addr) (len cap : Nat) (zs : List Int) : Prop :=
  (a = none ∧ len = 0 ∧ cap = 0 ∧ zs = []) ∨
  ∃ x, a = some x ∧ len ≤ cap ∧ cap ≤ maxLen ∧ zs.length = cap ∧ (∀ i, i < zs.length → w.cell? (x.add i) = some (.int k (zs.getD i 0))) ∧ ∀ n ∈ zs, (Lit.int k n).wf = true

theorem getD_bd (zs : List Int) (h : ∀ n ∈ zs, (Lit.int .u8 n).wf = true) (j : Nat) : 0 ≤ zs.getD j 0 ∧ zs.getD j 0 ≤ 255 := by
  rw [List.getD]
  exact range_u8 h j

theorem in_heap {w : World} {g o : Nat} {v : Value} (h : w.cell? ⟨g, o, none⟩ = some v) : g < w.heap.size := by
  rcases Nat.lt_or_ge g w.heap.size with k | k
  · exact k
  · unfold World.cell? at h
    simp [Array.getElem?_eq_none k] at h

theorem walk (a0 : ByteArray) (a1 : Option Addr) (len1 cap1 : Nat) (z1 : List Int) (w : World) (hG : Lx.Glob w) (w0 : a0.size ≤ maxLen) (w1 : IsRow .u8 w a1 len1 cap1 z1) :
    Calls Tryz.prog 5 #[.string a0, .slice a1 len1 cap1] w fun e w' => e = .returned (.bool true) ∧ Below w.heap.size w w' := by
  have hl : len1 ≤ maxLen := by
    rcases w1 with ⟨_, h, _⟩ | ⟨x, _, h1, h2, _⟩
    · omega
    · omega
  have W1 := Lx.again_walk a0.data.toList a1 len1 cap1 ((z1.take len1).map Int.toNat) w hG (by rw [← Lx.size_len]; exact w0) hl (by
    rw [List.length_map, List.length_take]
    rcases w1 with ⟨_, h, _, rfl⟩ | ⟨x, _, h1, _, h3, _⟩
    · simp [h]
    · omega) (by
    intro i b hi
    have il : i < ((z1.take len1).map Int.toNat).length := by
      rcases Nat.lt_or_ge i ((z1.take len1).map Int.toNat).length with q | q
      · exact q
      · rw [List.getElem?_eq_none q] at hi
        exact absurd hi (by simp)
    rw [List.length_map, List.length_take] at il
    have zi : z1[i]? = some (z1.getD i 0) := by
      rw [List.getElem?_eq_getElem (by omega), List.getD_eq_getElem?_getD, List.getElem?_eq_getElem (by omega)]
      rfl
    rw [List.getElem?_map, List.getElem?_take, if_pos (by omega), zi] at hi
    simp only [Option.map_some, Option.some.injEq] at hi
    rcases w1 with ⟨_, h, _, rfl⟩ | ⟨x, rfl, h1, _, h3, h4, h5⟩
    · simp at il
    · obtain ⟨g, off, rfl, hc⟩ := ints_at h4 (by omega)
      have bd := getD_bd z1 h5 i
      have cc := hc i (by omega)
      refine ⟨g, off, rfl, by omega, in_heap cc, ?_⟩
      rw [cc, ← hi]
      congr 2
      omega)
  rw [← Lx.bs_of a0] at W1
  exact W1

theorem own : ownKnob Tryz.prog.godebug = none := by kernel_rfl

set_option maxRecDepth 100000 in
theorem lifted (os : Os) (started : os.Started) (H : Type) (enc : TypeId × Value → H) :
    ReturnsInHanded {} Tryz.checked os 5 .any (fun w args => (Rows.lexAgainSpec.pre enc Tryz.prog Tryz.f5 Rows.lexAgainRow.domain false w args ∧ laidMetH Tryz.prog Rows.lexAgainRow.laid w) ∧ sizedMet enc Tryz.prog Tryz.f5 (OpenSpec.ofChange Rows.lexAgainSpec) false w args)
      (Rows.lexAgainSpec.post enc Tryz.prog Tryz.f5 false true false false) := by
  refine returnsInHanded_of_change_and (C := Tryz.checked) (X := fun w _ => laidMetH Tryz.prog Rows.lexAgainRow.laid w) (fun _ _ _ hh h => h.of_heap hh) own started (by kernel_rfl) Tryz.func5
    (ChangeSpec.witness_shaped (enc := enc) (C := Tryz.checked) (os := os) (X := fun w _ => laidMetH Tryz.prog Rows.lexAgainRow.laid w) false (World.laidAll Tryz.prog os Rows.lexAgainRow.laid) #[.string ByteArray.empty, .slice none 0 0] 8 (World.laidAll_os _ _ _)
      (World.shaped_of_ZipB (by kernel_rfl) (by kernel_rfl)) (by kernel_rfl) (by kernel_rfl) (by kernel_rfl)
      (by rw [MakeChecks.laidMetH_plain _ _ _ (by kernel_rfl)]; exact laidMet_laidAll _ (by kernel_rfl) (by kernel_rfl))) ?_
  intro W base args ds gs before hval0 hW hc _ hL _
  have hval : ∀ (j : Nat) t v, Tryz.f5.params[j]? = some t → args[j]? = some v → Value.okWide Tryz.prog W .any base t v := hval0
  have hW' := hW
  obtain ⟨p, q, hA0, hV, rfl, hfz, hnd⟩ := hW
  have hA : DataW.TrodAll enc Tryz.prog W 0 (fun _ => true) true Tryz.f5.params.toList args.toList ds p := hA0
  rw [Tryz.params5] at hA hval
  obtain ⟨v0, vs0, d0, ds0, p0, q0, hargs, rfl, rfl, h0, r0⟩ := trodAll_cons hA
  obtain ⟨v1, vs1, d1, ds1, p1, q1, rfl, rfl, rfl, h1, r1⟩ := trodAll_cons r0
  obtain ⟨rfl, rfl, rfl⟩ := trodAll_nil r1
  obtain rfl : args = #[v0, v1] := by cases args; simp_all
  obtain ⟨rfl, rfl⟩ := trodVars_none hV
  obtain ⟨a0, rfl, rfl, rfl, w0⟩ := open_string Tryz.underlying9 (hval 0 9 v0 rfl rfl) h0
  obtain ⟨a1, len1, cap1, rfl⟩ := okWide_slice Tryz.underlying32 (hval 1 32 v1 rfl rfl)
  have k1 := h1
  have lt1 : ∀ x ∈ p1, x.block < W.heap.size := by obtain ⟨m, hm⟩ := k1; exact DataW.trod_lt m _ _ _ hm
  obtain ⟨z1, w1⟩ : ∃ zs, IsRow .u8 W a1 len1 cap1 zs := by
    obtain ⟨fuel, hf⟩ := h1
    rcases open_ints Tryz.underlying32 Tryz.underlying5 (by kernel_rfl) hf with ⟨hcs, _⟩ | ⟨x, l, c, zs, hcs, _, hl, hm, hz, _, hcell, hwz⟩
    · simp [Value.cells] at hcs
      obtain ⟨rfl, rfl, rfl⟩ := hcs
      exact ⟨[], .inl ⟨rfl, rfl, rfl, rfl⟩⟩
    · simp [Value.cells] at hcs
      obtain ⟨rfl, rfl, rfl⟩ := hcs
      exact ⟨zs, .inr ⟨_, rfl, hl, hm, by simpa using hz, hcell, hwz⟩⟩
  clear hA0 hval0
  have W1 := walk a0 a1 len1 cap1 z1 W (Lx.glob_of hL) w0 w1
  refine W1.mono fun e W' ⟨he, bel⟩ => ?_
  subst he
  exact ⟨_, rfl, _, _, _, [], _, [], hW', trodAll_mk1 (shut_bool Tryz.underlying4 _), (trodAll_cons_mk (shut_string Tryz.underlying9 w0) (trodAll_cons_mk (Below.trod laidOut (by kernel_rfl) (of_decide_eq_true (by kernel_rfl)) k1 bel lt1) trodAll_mk0)), rfl, bel.frame _, fun h => by cases h⟩

theorem holds : Rows.LexAgainSaid :=
  OpenClaim.holds_of_wide 5 Tryz.f5 rfl rfl rfl rfl rfl rfl rfl ⟨rfl, rfl, rfl, rfl, rfl⟩ rfl rfl rfl rfl rfl (by kernel_rfl) Tryz.func5 (by kernel_rfl)
    (of_decide_eq_true (by kernel_rfl)) (by unfold Func.isWrapper; first | (rw [if_pos (by decide +kernel)]; kernel_rfl) | (rw [if_neg (by decide +kernel)]; exact ⟨rfl, rfl⟩))
    (fun os started H enc _ => lifted os started H enc)

end Go.Proofs.YtaikkmehmiiffaaGreatDoor.lexAgain
namespace Go.Proofs.YtaikkmehmiiffaaGreatDoor
set_option linter.unusedVariables false

/-- THE TIED CARD: the tokens of a text, one behind the other with blanks between, are the same but for their places. -/
theorem lexAgain_holds : Rows.LexAgainCardSaid :=
  Claim7.holds_tied_plain_at .later [] [.data, .data, .data, .data, .sentinel, .sentinel, .data, .pinned] true (true, "162bc1f2d0fbb2a9ee65f8d35b9c2240d51e7f24cf5a5b01e6eaf978b090ad0e") true lexAgain.holds (fun _ h => by cases h) (by kernel_rfl) (fun _ h => by cases h) lexAgain_row_tie rfl ⟨rfl, rfl⟩ (by kernel_rfl) rfl
    (fun f fn hf hfn => by
      obtain rfl : f = 5 := Option.some.inj ((show Tryz.prog.funcNamed "brazier/brazierlaw05.LexAgain" = some 5 by kernel_rfl).symm.trans hf) |>.symm
      obtain rfl : fn = Tryz.f5 := (Option.some.inj (Tryz.func5.symm.trans hfn)).symm
      exact ⟨by kernel_rfl, fun j t ht => by
        rw [Tryz.params5] at ht
        have hm : t ∈ [9, 32] := by simpa using Array.mem_of_getElem? ht
        have hall : ([9, 32].all fun u => !Tryz.prog.wantsStandIn u) = true := by kernel_rfl
        exact (show Tryz.prog.wantsStandIn t = false by simpa using List.all_eq_true.1 hall t hm)⟩)
    (by kernel_rfl)
end Go.Proofs.YtaikkmehmiiffaaGreatDoor
