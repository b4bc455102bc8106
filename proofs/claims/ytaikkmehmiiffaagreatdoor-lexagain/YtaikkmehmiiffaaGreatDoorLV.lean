/- LexParts: plain: what stands ahead of a new line does not hang on what is behind it. -/
import Derived.Test.YtaikkmehmiiffaaGreatDoorLU
namespace Go.Proofs.YtaikkmehmiiffaaGreatDoor.Lx
set_option linter.unusedVariables false

theorem cntP_nl (p : Nat → Bool) (h : p 10 = false) (x b : List UInt8) : cntP p (x ++ 10 :: b) = cntP p x := by
  induction x with
  | nil => show cntP p (10 :: b) = 0; unfold cntP; rw [if_neg (by rw [show (10 : UInt8).toNat = 10 from rfl, h]; decide)]
  | cons c r ih =>
    rw [List.cons_append, cntP, cntP, ih]

theorem oneP_nl (p : Nat → Bool) (h : p 10 = false) (x b : List UInt8) : oneP p (x ++ 10 :: b) = oneP p x := by
  cases x with
  | nil => show (if p (10 : UInt8).toNat = true then 1 else 0) = 0; rw [if_neg (by rw [show (10 : UInt8).toNat = 10 from rfl, h]; decide)]
  | cons c r => rfl

theorem prefix_nl (x b t : List UInt8) (h : (10 : UInt8) ∉ t) : Go.Lib.hasPrefix (x ++ 10 :: b) t = Go.Lib.hasPrefix x t := by
  unfold Go.Lib.hasPrefix
  induction t generalizing x with
  | nil => simp
  | cons c t ih =>
    cases x with
    | nil =>
      have : c ≠ 10 := fun k => h (by simp [k])
      simp [List.isPrefixOf, this]
    | cons d r =>
      rw [List.cons_append, List.isPrefixOf, List.isPrefixOf, ih r (fun k => h (by simp [k]))]

theorem drop_nl (x b : List UInt8) (n : Nat) (h : n ≤ x.length) : (x ++ 10 :: b).drop n = x.drop n ++ 10 :: b := by
  rw [List.drop_append_of_le_length h]

theorem take_nl (x b : List UInt8) (n : Nat) (h : n ≤ x.length) : (x ++ 10 :: b).take n = x.take n := by
  rw [List.take_append_of_le_length h]

theorem oneP_pos_lt (p : Nat → Bool) (l : List UInt8) (n : Nat) (h : 0 < oneP p (l.drop n)) : n + 1 ≤ l.length := by
  have := oneP_le p (l.drop n)
  rw [List.length_drop] at this
  omega

theorem nlB_nl (x b : List UInt8) (n : Nat) (h : n ≤ x.length) : nlB (x ++ 10 :: b) n = nlB x n := by
  unfold nlB
  rw [drop_nl _ _ _ h, oneP_nl _ rfl]
  by_cases c : 0 < oneP pDot (x.drop n)
  · have := oneP_pos_lt _ _ _ c
    rw [drop_nl _ _ _ this, oneP_nl _ rfl, cntP_nl _ rfl]
  · rw [if_neg (fun k => c k.1), if_neg (fun k => c k.1)]

theorem nlC_nl (x b : List UInt8) (n : Nat) (h : n ≤ x.length) : nlC (x ++ 10 :: b) n = nlC x n := by
  unfold nlC
  rw [drop_nl _ _ _ h, oneP_nl _ rfl]
  by_cases c : 0 < oneP pExp (x.drop n)
  · have c1 := oneP_pos_lt _ _ _ c
    rw [if_pos c, if_pos c, drop_nl _ _ _ c1, oneP_nl _ rfl]
    have := oneP_le pSig (x.drop (n + 1))
    rw [List.length_drop] at this
    rw [drop_nl _ _ _ (by omega), cntP_nl _ rfl]
  · rw [if_neg c, if_neg c]

theorem numLen_nl (x b : List UInt8) : numLen (x ++ 10 :: b) = numLen x := by
  unfold numLen
  rw [prefix_nl _ _ _ (by decide)]
  by_cases c : Go.Lib.hasPrefix x [48, 120] = true
  · have := hasPrefix_len _ _ c
    rw [if_pos c, if_pos c, drop_nl _ _ _ (by simpa using this), cntP_nl _ rfl]
  · rw [if_neg c, if_neg c, cntP_nl _ rfl, nlB_nl _ _ _ (cntP_le _ _), nlC_nl _ _ _ (nlB_le _ _ (cntP_le _ _)).2]

theorem quo_nl (q : Nat) (hq : q ≠ 10) (st : Bool × Bool) (h0 : st.2 = false) (x b : List UInt8) :
    (goOn (quoG q) st (x ++ 10 :: b)).1 = (goOn (quoG q) st x).1 ∧ (goOn (quoG q) st (x ++ 10 :: b)).2.2 = (goOn (quoG q) st x).2.2 := by
  induction x generalizing st with
  | nil =>
    have e : goOn (quoG q) st (10 :: b) = (0, (quoG q st 10).1) := by
      unfold goOn
      exact if_neg (by simp [quoG])
    rw [List.nil_append, e]
    refine ⟨rfl, ?_⟩
    show (quoG q st 10).1.2 = st.2
    have : ((10 : Nat) == q) = false := by simp; exact fun k => hq k.symm
    simp [quoG, h0, this]
  | cons c r ih =>
    rw [List.cons_append, goOn, goOn]
    by_cases k : (quoG q st c.toNat).2 = true
    · rw [if_pos k, if_pos k]
      have e : (quoG q st c.toNat).1.2 = false := by
        unfold quoG at k ⊢
        simp only [Bool.and_eq_true, Bool.not_eq_true'] at k
        exact k.1
      obtain ⟨i1, i2⟩ := ih _ e
      exact ⟨by simp only [i1], by simp only [i2]⟩
    · rw [if_neg k, if_neg k]
      exact ⟨rfl, rfl⟩

theorem body_nl (q : Nat) (hq : q ≠ 10) (x b : List UInt8) : bodyI q (x ++ 10 :: b) = bodyI q x := by
  obtain ⟨a1, a2⟩ := quo_nl q hq (false, false) rfl x b
  unfold bodyI
  rw [a1, a2, take_nl _ _ _ (goOn_le _ _ _)]

theorem signF_nl (ts : List (List UInt8)) (h : ∀ t ∈ ts, (10 : UInt8) ∉ t) (x b : List UInt8) : signF ts (x ++ 10 :: b) = signF ts x := by
  induction ts with
  | nil => rfl
  | cons t ts ih =>
    rw [signF, signF, prefix_nl _ _ _ (h t (by simp)), ih (fun u hu => h u (by simp [hu]))]

theorem signL_nl : ∀ t ∈ signL, (10 : UInt8) ∉ t := by decide

theorem tok_nl (lit : List UInt8 → Nat × Bool) (x b : List UInt8) (hx : x ≠ []) : tokI lit (x ++ 10 :: b) = tokI lit x := by
  unfold tokI
  rw [oneP_nl _ rfl, oneP_nl _ rfl]
  have hh : (x ++ 10 :: b).head? = x.head? := by
    cases x with
    | nil => exact absurd rfl hx
    | cons c r => rfl
  rw [hh]
  have n1 : numI lit (x ++ 10 :: b) = numI lit x := by
    unfold numI
    rw [numLen_nl, take_nl _ _ _ (numLen_le _), drop_nl _ _ _ (numLen_le _), oneP_nl _ rfl]
  have n2 : nameI (x ++ 10 :: b) = nameI x := by
    unfold nameI
    rw [cntP_nl _ rfl, take_nl _ _ _ (cntP_le _ _)]
  have n3 : (x.head? = some 39 ∨ x.head? = some 34) → quoI (x ++ 10 :: b) = quoI x := by
    intro hq
    cases x with
    | nil => exact absurd rfl hx
    | cons c r =>
      have : c.toNat ≠ 10 := by
        simp only [List.head?_cons, Option.some.injEq] at hq
        rcases hq with rfl | rfl <;> decide
      show quoI (c :: (r ++ 10 :: b)) = quoI (c :: r)
      unfold quoI
      simp only [body_nl _ this]
  have n4 : signI (x ++ 10 :: b) = signI x := signF_nl signL signL_nl x b
  rw [n1, n2, n4]
  by_cases c3 : x.head? = some 39 ∨ x.head? = some 34
  · rw [if_pos c3, if_pos c3, n3 c3]
  · rw [if_neg c3, if_neg c3]

theorem star_app (st : Bool × Bool) (x b : List UInt8) (h : (goOn starG st x).2.2 = true) : goOn starG st (x ++ b) = goOn starG st x := by
  induction x generalizing st with
  | nil =>
    obtain ⟨s1, s2⟩ := st
    rw [goOn] at h
    simp only at h
    subst h
    rw [List.nil_append, star_ended]
    rfl
  | cons c r ih =>
    rw [List.cons_append, goOn, goOn]
    rw [goOn] at h
    by_cases k : (starG st c.toNat).2 = true
    · rw [if_pos k] at h
      rw [if_pos k, if_pos k, ih _ h]
    · rw [if_neg k, if_neg k]

/-- blanks that are bytes pass -/
theorem blanks_bytes (u r : List UInt8) (hu : ∀ c ∈ u, pBlank c.toNat = true) : blanksI (u ++ r) = (u.length + (blanksI r).1, (blanksI r).2) := by
  have cb : ∀ (u : List UInt8), (∀ c ∈ u, pBlank c.toNat = true) → cntP pBlank (u ++ r) = u.length + cntP pBlank r := by
    intro u
    induction u with
    | nil => intro _; simp
    | cons c u ih =>
      intro h
      rw [List.cons_append, cntP, if_pos (h c (by simp)), ih (fun d hd => h d (by simp [hd]))]
      simp only [List.length_cons]
      omega
  have nb : ∀ l : List UInt8, 0 < cntP pBlank l → blankI l = (cntP pBlank l, true) := by
    intro l h
    cases l with
    | nil => simp [cntP] at h
    | cons c r =>
      have k : pBlank c.toNat = true := by
        rw [cntP] at h
        by_cases k : pBlank c.toNat = true
        · exact k
        · rw [if_neg k] at h; omega
      have np : ∀ x, Go.Lib.hasPrefix (c :: r) [47, x] ≠ true := by
        intro x q
        obtain ⟨r', q⟩ := (prefix_two _ _ _).1 q
        simp only [List.cons.injEq] at q
        rw [q.1] at k
        revert k
        decide
      unfold blankI
      rw [if_neg (np _), if_neg (np _)]
  cases u with
  | nil => simp
  | cons c u =>
    have e1 := cb (c :: u) hu
    have e2 := nb (c :: u ++ r) (by rw [e1]; simp only [List.length_cons]; omega)
    rw [blanksI_eq, e2, e1]
    rw [if_neg (by simp), if_neg (by simp only [List.length_cons]; omega)]
    have dr : (c :: u ++ r).drop ((c :: u).length + cntP pBlank r) = r.drop (cntP pBlank r) := by
      rw [← List.drop_drop, List.drop_left]
    simp only [dr]
    by_cases z : cntP pBlank r = 0
    · rw [z]; simp
    · have e3 := nb r (by omega)
      rw [blanksI_eq r, e3, if_neg (by simp), if_neg z]
      refine Prod.ext ?_ rfl
      show (c :: u).length + cntP pBlank r + (blanksI (List.drop (cntP pBlank r) r)).1 = (c :: u).length + (cntP pBlank r + (blanksI (List.drop (cntP pBlank r) r)).1)
      omega

theorem nl_blank (b : List UInt8) : blanksI (10 :: b) = (1 + (blanksI b).1, (blanksI b).2) := blanks_bytes [10] b (by decide)

/-- blanks up to a token don't see what is behind a new line; blanks up to the end go on behind it -/
theorem blanks_nl (x b : List UInt8) (he : (blanksI x).2 = true) : blanksI (x ++ 10 :: b) = if x.drop (blanksI x).1 = [] then (x.length + 1 + (blanksI b).1, (blanksI b).2) else blanksI x := by
  suffices h : ∀ k (x : List UInt8), x.length < k → (blanksI x).2 = true → blanksI (x ++ 10 :: b) = if x.drop (blanksI x).1 = [] then (x.length + 1 + (blanksI b).1, (blanksI b).2) else blanksI x from h _ x (Nat.lt_succ_self _) he
  intro k
  induction k with
  | zero => intro l hl; omega
  | succ k ih =>
    intro x hl he
    have E := blanksI_eq x
    by_cases a : (blankI x).2 = false
    · rw [E, if_pos a] at he; simp at he
    · rw [if_neg a] at E
      have a' : (blankI x).2 = true := by simpa using a
      by_cases z : x = []
      · subst z
        rw [List.nil_append, nl_blank, if_pos (by rfl)]
        simp
      · by_cases full : cntP pBlank x = x.length
        · -- all blank bytes
          have m := cntP_mem _ _ full
          have := blanks_bytes x (10 :: b) m
          rw [this, nl_blank]
          have bx : blanksI x = (x.length, true) := by
            have := blanks_bytes x [] m
            rw [List.append_nil] at this
            rw [this, blanks_nil]; simp
          rw [bx, if_pos (by simp)]
          refine Prod.ext ?_ rfl
          show _ + (1 + _) = _
          omega
        · have bl : blankI (x ++ 10 :: b) = blankI x := by
            unfold blankI
            rw [prefix_nl _ _ _ (by decide), prefix_nl _ _ _ (by decide), cntP_nl pLine rfl]
            by_cases p1 : Go.Lib.hasPrefix x [47, 47] = true
            · rw [if_pos p1, if_pos p1]
            · rw [if_neg p1, if_neg p1]
              by_cases p2 : Go.Lib.hasPrefix x [47, 42] = true
              · rw [if_pos p2, if_pos p2]
                have l2 := hasPrefix_len _ _ p2
                have s2 : (starI (x.drop 2)).2 = true := by
                  unfold blankI at a'
                  rw [if_neg p1, if_pos p2] at a'
                  exact a'
                have : starI ((x ++ 10 :: b).drop 2) = starI (x.drop 2) := by
                  rw [drop_nl _ _ _ (by simpa using l2)]
                  unfold starI at s2 ⊢
                  rw [star_app _ _ _ s2]
                rw [this]
              · rw [if_neg p2, if_neg p2]
                have : cntP pBlank (x ++ 10 :: b) = cntP pBlank x := by
                  have lt : cntP pBlank x < x.length := by have := cntP_le pBlank x; omega
                  clear full E he a a' p1 p2 hl z
                  induction x with
                  | nil => simp at lt
                  | cons c r ihx =>
                    rw [List.cons_append, cntP, cntP]
                    rw [cntP] at lt
                    by_cases q : pBlank c.toNat = true
                    · rw [if_pos q, if_pos q, ihx (by rw [if_pos q] at lt; simpa using lt)]
                    · rw [if_neg q, if_neg q]
                rw [this]
          have EB := blanksI_eq (x ++ 10 :: b)
          rw [bl, if_neg a] at EB
          by_cases z0 : (blankI x).1 = 0
          · rw [if_pos z0] at E EB
            rw [EB, E, if_neg (by simpa using z)]
          · rw [if_neg z0] at E EB
            have le := blankI_le x
            rw [E] at he
            have I := ih (x.drop (blankI x).1) (by rw [List.length_drop]; omega) he
            rw [drop_nl _ _ _ le, I] at EB
            rw [EB, E]
            simp only [← List.drop_drop]
            by_cases w : (x.drop (blankI x).1).drop (blanksI (x.drop (blankI x).1)).1 = []
            · rw [if_pos w, if_pos w, List.length_drop]
              refine Prod.ext ?_ rfl
              show _ + (_ + _ + _) = _
              omega
            · rw [if_neg w, if_neg w]

theorem scanF_more (lit : List UInt8 → Nat × Bool) (k m p : Nat) (l : List UInt8) (hk : l.length < k) (hm : l.length < m) : scanF lit k p l = scanF lit m p l := by
  induction k generalizing m p l with
  | zero => omega
  | succ k ih =>
    cases m with
    | zero => omega
    | succ m =>
      rw [scanF, scanF]
      by_cases a : (blanksI l).2 = false
      · rw [if_pos a, if_pos a]
      · rw [if_neg a, if_neg a]
        by_cases b : l.drop (blanksI l).1 = []
        · rw [if_pos b, if_pos b]
        · rw [if_neg b, if_neg b]
          by_cases c : (tokI lit (l.drop (blanksI l).1)).2.2 ≠ 0
          · rw [if_pos c, if_pos c]
          · rw [if_neg c, if_neg c]
            have c' : (tokI lit (l.drop (blanksI l).1)).2.2 = 0 := by simpa using c
            have T := tok_ok lit _ c'
            have tp := T.pos
            have tl := T.le
            rw [List.length_drop] at tl
            rw [ih m _ (l.drop ((blanksI l).1 + (tokI lit (l.drop (blanksI l).1)).2.1)) (by rw [List.length_drop]; omega) (by rw [List.length_drop]; omega)]

/-- a list of tokens and what is behind it: what is wrong behind it is wrong -/
def joinT (a : List Tok) (r : List Tok × Nat × Nat) : List Tok × Nat × Nat := if r.2.2 = 0 then (a ++ r.1, 0, 0) else ([], r.2)

theorem scanF_nl (lit : List UInt8 → Nat × Bool) (k m p : Nat) (x b : List UInt8) (hk : x.length < k) (hm : x.length + 1 + b.length < m) :
    ((scanF lit k p x).2.2 = 0 → scanF lit m p (x ++ 10 :: b) = joinT (scanF lit k p x).1.dropLast (scanF lit m (p + x.length + 1) b)) ∧
    ((scanF lit k p x).2.2 ≠ 0 → (scanF lit k p x).2.2 ≠ 52 → scanF lit m p (x ++ 10 :: b) = scanF lit k p x) := by
  induction k generalizing m p x with
  | zero => omega
  | succ k ih =>
    cases m with
    | zero => omega
    | succ m =>
      rw [scanF]
      by_cases a : (blanksI x).2 = false
      · rw [if_pos a]
        exact ⟨fun h => absurd h (by simp), fun _ h => absurd rfl h⟩
      · rw [if_neg a]
        have B := blanks_nl x b (by simpa using a)
        have le := blanksI_le x
        by_cases c : x.drop (blanksI x).1 = []
        · rw [if_pos c] at B ⊢
          refine ⟨fun _ => ?_, fun h => absurd rfl h⟩
          -- behind the new line
          have hd : ∀ j, (x ++ 10 :: b).drop (x.length + 1 + j) = b.drop j := by
            intro j
            rw [show x.length + 1 + j = x.length + (j + 1) from by omega, ← List.drop_drop, List.drop_left]
            rfl
          show scanF lit (m + 1) p (x ++ 10 :: b) = joinT [] (scanF lit (m + 1) (p + x.length + 1) b)
          rw [scanF, scanF, B]
          simp only
          by_cases d : (blanksI b).2 = false
          · rw [if_pos d, if_pos d]
            unfold joinT
            rw [if_neg (by simp)]
            refine Prod.ext rfl (Prod.ext ?_ rfl)
            show p + (x.length + 1 + (blanksI b).1) = p + x.length + 1 + (blanksI b).1
            omega
          · rw [if_neg d, if_neg d, hd]
            have pe : p + (x.length + 1 + (blanksI b).1) = p + x.length + 1 + (blanksI b).1 := by omega
            rw [pe]
            by_cases e : b.drop (blanksI b).1 = []
            · rw [if_pos e, if_pos e]
              rfl
            · rw [if_neg e, if_neg e]
              by_cases f : (tokI lit (b.drop (blanksI b).1)).2.2 ≠ 0
              · rw [if_pos f, if_pos f]
                unfold joinT
                rw [if_neg f]
              · rw [if_neg f, if_neg f, show x.length + 1 + (blanksI b).1 + (tokI lit (b.drop (blanksI b).1)).2.1 = x.length + 1 + ((blanksI b).1 + (tokI lit (b.drop (blanksI b).1)).2.1) from by omega, hd]
                generalize scanF lit m (p + x.length + 1 + (blanksI b).1 + (tokI lit (b.drop (blanksI b).1)).2.1) (b.drop ((blanksI b).1 + (tokI lit (b.drop (blanksI b).1)).2.1)) = R
                by_cases g : R.2.2 = 0
                · rw [if_pos g]
                  rfl
                · rw [if_neg g]
                  unfold joinT
                  rw [if_neg g]
        · rw [if_neg c] at B ⊢
          have tn : tokI lit ((x ++ 10 :: b).drop (blanksI x).1) = tokI lit (x.drop (blanksI x).1) := by
            rw [drop_nl _ _ _ le, tok_nl lit _ _ c]
          have c2 : (x ++ 10 :: b).drop (blanksI x).1 ≠ [] := by rw [drop_nl _ _ _ le]; simp
          rw [scanF, B, if_neg a, if_neg c2, tn]
          by_cases d : (tokI lit (x.drop (blanksI x).1)).2.2 ≠ 0
          · rw [if_pos d, if_pos d]
            exact ⟨fun h => absurd h d, fun _ _ => rfl⟩
          · rw [if_neg d, if_neg d]
            have d' : (tokI lit (x.drop (blanksI x).1)).2.2 = 0 := by simpa using d
            have T := tok_ok lit _ d'
            have tp := T.pos
            have tl := T.le
            rw [List.length_drop] at tl
            rw [drop_nl _ _ _ (show (blanksI x).1 + (tokI lit (x.drop (blanksI x).1)).2.1 ≤ x.length from by omega)]
            generalize hn : (tokI lit (x.drop (blanksI x).1)).2.1 = n at *
            obtain ⟨i1, i2⟩ := ih m (p + (blanksI x).1 + n) (x.drop ((blanksI x).1 + n)) (by rw [List.length_drop]; omega) (by rw [List.length_drop]; omega)
            have pl : p + (blanksI x).1 + n + (x.drop ((blanksI x).1 + n)).length + 1 = p + x.length + 1 := by rw [List.length_drop]; omega
            rw [pl] at i1
            have mm : scanF lit m (p + x.length + 1) b = scanF lit (m + 1) (p + x.length + 1) b := scanF_more lit _ _ _ _ (by omega) (by omega)
            rw [mm] at i1
            by_cases e : (scanF lit k (p + (blanksI x).1 + n) (x.drop ((blanksI x).1 + n))).2.2 = 0
            · rw [if_pos e]
              refine ⟨fun _ => ?_, fun h => absurd rfl h⟩
              rw [i1 e]
              obtain ⟨_, t, ts, he, _⟩ := scanF_head lit k _ _ (by omega) e
              rw [he]
              generalize scanF lit (m + 1) (p + x.length + 1) b = R
              unfold joinT
              by_cases g : R.2.2 = 0
              · rw [if_pos g]
                simp [g]
              · rw [if_neg g]
                simp only
                rw [if_neg g, if_neg g]
            · rw [if_neg e]
              refine ⟨fun h => absurd h e, fun h1 h2 => ?_⟩
              rw [i2 e h2, if_neg e]

end Go.Proofs.YtaikkmehmiiffaaGreatDoor.Lx
