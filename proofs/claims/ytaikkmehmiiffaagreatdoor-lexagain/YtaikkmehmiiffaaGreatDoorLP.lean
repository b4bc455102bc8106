/- A text's tokens, as the program takes them: plain. lit: what a number says. -/
import Derived.Lib.Strings
namespace Go.Proofs.YtaikkmehmiiffaaGreatDoor.Lx
set_option linter.unusedVariables false

/-- how far a closure says yes, and what it is left with: g: the closure, over the bytes -/
def goOn {σ : Type} (g : σ → Nat → σ × Bool) : σ → List UInt8 → Nat × σ
  | st, [] => (0, st)
  | st, c :: r => if (g st c.toNat).2 = true then ((goOn g (g st c.toNat).1 r).1 + 1, (goOn g (g st c.toNat).1 r).2) else (0, (g st c.toNat).1)

def pProg (c : Nat) : Bool := c == 9 || c == 10 || (decide (32 ≤ c) && decide (c ≤ 126))
def pBlank (c : Nat) : Bool := c == 9 || c == 10 || c == 32
def pDig (c : Nat) : Bool := decide (48 ≤ c) && decide (c ≤ 57)
def pHex (c : Nat) : Bool := pDig c || (decide (97 ≤ c) && decide (c ≤ 102)) || (decide (65 ≤ c) && decide (c ≤ 70))
def pSmall (c : Nat) : Bool := pDig c || (decide (97 ≤ c) && decide (c ≤ 122)) || (decide (65 ≤ c) && decide (c ≤ 90)) || c == 95 || c == 36
def pLine (c : Nat) : Bool := c != 10
def pDot (c : Nat) : Bool := c == 46
def pExp (c : Nat) : Bool := c == 101 || c == 69
def pSig (c : Nat) : Bool := c == 43 || c == 45
def pRaw (c : Nat) : Bool := c != 92

/-- how many bytes at the beginning p says yes of -/
def cntP (p : Nat → Bool) : List UInt8 → Nat
  | [] => 0
  | c :: r => if p c.toNat = true then cntP p r + 1 else 0

def oneP (p : Nat → Bool) : List UInt8 → Nat
  | [] => 0
  | c :: _ => if p c.toNat = true then 1 else 0

theorem goOn_pure (p : Nat → Bool) (l : List UInt8) : (goOn (fun (_ : Unit) c => ((), p c)) () l).1 = cntP p l := by
  induction l with
  | nil => rfl
  | cons c r ih =>
    rw [goOn, cntP]
    by_cases h : p c.toNat = true
    · simp only [h, if_true]; rw [ih]
    · simp only [h]; rfl

theorem cntP_le (p : Nat → Bool) (l : List UInt8) : cntP p l ≤ l.length := by
  induction l with
  | nil => exact Nat.le_refl _
  | cons c r ih =>
    rw [cntP]
    split
    · simp; exact ih
    · simp

theorem oneP_le (p : Nat → Bool) (l : List UInt8) : oneP p l ≤ l.length := by
  cases l with
  | nil => exact Nat.le_refl _
  | cons c r => rw [oneP]; split <;> simp

theorem oneP_le1 (p : Nat → Bool) (l : List UInt8) : oneP p l ≤ 1 := by
  cases l with
  | nil => exact Nat.zero_le _
  | cons c r => rw [oneP]; split <;> simp

/-- one's closure -/
def oneG (p : Nat → Bool) (met : Bool) (c : Nat) : Bool × Bool := (true, !met && p c)

theorem goOn_met (p : Nat → Bool) (l : List UInt8) : (goOn (oneG p) true l).1 = 0 := by
  cases l with
  | nil => rfl
  | cons c r => rw [goOn]; simp [oneG]

theorem goOn_one (p : Nat → Bool) (l : List UInt8) : (goOn (oneG p) false l).1 = oneP p l := by
  cases l with
  | nil => rfl
  | cons c r =>
    rw [goOn, oneP]
    by_cases h : p c.toNat = true
    · simp [oneG, h]
      exact goOn_met p r
    · simp [oneG, h]

/-- upToStarSlash's closure: star, ended -/
def starG (st : Bool × Bool) (c : Nat) : (Bool × Bool) × Bool := if st.2 = true then (st, false) else ((c == 42, st.1 && c == 47), true)
def starI (l : List UInt8) : Nat × Bool := ((goOn starG (false, false) l).1, (goOn starG (false, false) l).2.2)

theorem goOn_le {σ : Type} (g : σ → Nat → σ × Bool) (st : σ) (l : List UInt8) : (goOn g st l).1 ≤ l.length := by
  induction l generalizing st with
  | nil => exact Nat.le_refl _
  | cons c r ih =>
    rw [goOn]
    split
    · simp; exact ih _
    · simp

def blankI (l : List UInt8) : Nat × Bool :=
  if Go.Lib.hasPrefix l [47, 47] = true then (cntP pLine l, true)
  else if Go.Lib.hasPrefix l [47, 42] = true then (2 + (starI (l.drop 2)).1, (starI (l.drop 2)).2)
  else (cntP pBlank l, true)

theorem hasPrefix_len (l p : List UInt8) (h : Go.Lib.hasPrefix l p = true) : p.length ≤ l.length := by
  unfold Go.Lib.hasPrefix at h
  rw [List.isPrefixOf_iff_prefix] at h
  exact h.length_le

theorem blankI_le (l : List UInt8) : (blankI l).1 ≤ l.length := by
  unfold blankI
  split
  · exact cntP_le _ _
  · split
    · rename_i h
      have := hasPrefix_len _ _ h
      have g := goOn_le starG (false, false) (l.drop 2)
      rw [List.length_drop] at g
      simp only [List.length_cons, List.length_nil] at this
      show 2 + (goOn starG (false, false) (l.drop 2)).1 ≤ _
      omega
    · exact cntP_le _ _

/-- blanks at the beginning; false: up to a remark that does not end -/
def blanksF : Nat → List UInt8 → Nat × Bool
  | 0, _ => (0, true)
  | k + 1, l => if (blankI l).2 = false then (0, false) else if (blankI l).1 = 0 then (0, true) else ((blankI l).1 + (blanksF k (l.drop (blankI l).1)).1, (blanksF k (l.drop (blankI l).1)).2)

def blanksI (l : List UInt8) : Nat × Bool := blanksF (l.length + 1) l

theorem blanksF_more (k m : Nat) (l : List UInt8) (hk : l.length < k) (hm : l.length < m) : blanksF k l = blanksF m l := by
  induction k generalizing m l with
  | zero => omega
  | succ k ih =>
    cases m with
    | zero => omega
    | succ m =>
      rw [blanksF, blanksF]
      by_cases a : (blankI l).2 = false
      · rw [if_pos a, if_pos a]
      · rw [if_neg a, if_neg a]
        by_cases b : (blankI l).1 = 0
        · rw [if_pos b, if_pos b]
        · rw [if_neg b, if_neg b]
          have le := blankI_le l
          rw [ih m (l.drop (blankI l).1) (by rw [List.length_drop]; omega) (by rw [List.length_drop]; omega)]

theorem blanksI_eq (l : List UInt8) : blanksI l = if (blankI l).2 = false then (0, false) else if (blankI l).1 = 0 then (0, true) else ((blankI l).1 + (blanksI (l.drop (blankI l).1)).1, (blanksI (l.drop (blankI l).1)).2) := by
  unfold blanksI
  rw [blanksF]
  by_cases a : (blankI l).2 = false
  · rw [if_pos a, if_pos a]
  · rw [if_neg a, if_neg a]
    by_cases b : (blankI l).1 = 0
    · rw [if_pos b, if_pos b]
    · rw [if_neg b, if_neg b]
      have le := blankI_le l
      rw [blanksF_more l.length _ (l.drop (blankI l).1) (by rw [List.length_drop]; omega) (Nat.lt_succ_self _)]

theorem blanksI_le (l : List UInt8) : (blanksI l).1 ≤ l.length := by
  suffices h : ∀ k l, (blanksF k l).1 ≤ l.length from h _ _
  intro k
  induction k with
  | zero => intro l; exact Nat.zero_le _
  | succ k ih =>
    intro l
    rw [blanksF]
    split
    · exact Nat.zero_le _
    · split
      · exact Nat.zero_le _
      · have le := blankI_le l
        have := ih (l.drop (blankI l).1)
        rw [List.length_drop] at this
        show (blankI l).1 + _ ≤ _
        omega

/-- kind, place, text, number -/
structure Tok where
  kind : Nat
  pl : Nat
  text : List UInt8
  num : Nat

def zt : Tok := ⟨0, 0, [], 0⟩

def nlB (l : List UInt8) (n : Nat) : Nat := if 0 < oneP pDot (l.drop n) ∧ 0 < oneP pDig (l.drop (n + 1)) then n + (1 + cntP pDig (l.drop (n + 1))) else n
def nlC (l : List UInt8) (n : Nat) : Nat := if 0 < oneP pExp (l.drop n) then n + 1 + oneP pSig (l.drop (n + 1)) + cntP pDig (l.drop (n + 1 + oneP pSig (l.drop (n + 1)))) else n
def numLen (l : List UInt8) : Nat := if Go.Lib.hasPrefix l [48, 120] = true then 2 + cntP pHex (l.drop 2) else nlC l (nlB l (cntP pDig l))

theorem nlB_le (l : List UInt8) (n : Nat) (h : n ≤ l.length) : n ≤ nlB l n ∧ nlB l n ≤ l.length := by
  unfold nlB
  split
  · rename_i c
    have a := oneP_le pDot (l.drop n)
    have b := cntP_le pDig (l.drop (n + 1))
    rw [List.length_drop] at a b
    omega
  · omega

theorem nlC_le (l : List UInt8) (n : Nat) (h : n ≤ l.length) : n ≤ nlC l n ∧ nlC l n ≤ l.length := by
  unfold nlC
  split
  · rename_i c
    have a := oneP_le pExp (l.drop n)
    have b := oneP_le pSig (l.drop (n + 1))
    have d := cntP_le pDig (l.drop (n + 1 + oneP pSig (l.drop (n + 1))))
    rw [List.length_drop] at a b d
    omega
  · omega

theorem numLen_le (l : List UInt8) : numLen l ≤ l.length := by
  unfold numLen
  split
  · rename_i h
    have := hasPrefix_len _ _ h
    have g := cntP_le pHex (l.drop 2)
    rw [List.length_drop] at g
    simp only [List.length_cons, List.length_nil] at this
    omega
  · exact (nlC_le _ _ (nlB_le _ _ (cntP_le _ _)).2).2

def numI (lit : List UInt8 → Nat × Bool) (l : List UInt8) : Tok × Nat × Nat :=
  if (lit (l.take (numLen l))).2 = true ∧ oneP pSmall (l.drop (numLen l)) = 0 then (⟨3, 0, [], (lit (l.take (numLen l))).1⟩, numLen l, 0) else (zt, 0, 54)

def keptL : List (List UInt8) := [[98, 114, 101, 97, 107], [99, 97, 116, 99, 104], [99, 111, 110, 115, 116], [99, 111, 110, 116, 105, 110, 117, 101], [100, 101, 108, 101, 116, 101], [101, 108, 115, 101], [102, 97, 108, 115, 101], [102, 105, 110, 97, 108, 108, 121], [102, 111, 114], [102, 117, 110, 99, 116, 105, 111, 110], [105, 102], [105, 110], [105, 110, 115, 116, 97, 110, 99, 101, 111, 102], [108, 101, 116], [110, 101, 119], [110, 117, 108, 108], [114, 101, 116, 117, 114, 110], [116, 104, 105, 115], [116, 104, 114, 111, 119], [116, 114, 117, 101], [116, 114, 121], [116, 121, 112, 101, 111, 102], [117, 110, 100, 101, 102, 105, 110, 101, 100], [118, 111, 105, 100], [119, 104, 105, 108, 101], [121, 105, 101, 108, 100]]
def keptI (l : List UInt8) : Bool := keptL.contains l

def nameI (l : List UInt8) : Tok × Nat × Nat :=
  if 32 < cntP pSmall l then (zt, 0, 53)
  else if keptI (l.take (cntP pSmall l)) = true then (⟨2, 0, l.take (cntP pSmall l), 0⟩, cntP pSmall l, 0)
  else (⟨1, 0, l.take (cntP pSmall l), 0⟩, cntP pSmall l, 0)

def signL : List (List UInt8) := [[62, 62, 62, 61], [61, 61, 61], [33, 61, 61], [60, 60, 61], [62, 62, 61], [62, 62, 62], [61, 61], [33, 61], [60, 61], [62, 61], [43, 43], [45, 45], [60, 60], [62, 62], [38, 38], [124, 124], [43, 61], [45, 61], [42, 61], [47, 61], [37, 61], [38, 61], [124, 61], [94, 61], [40], [41], [123], [125], [91], [93], [59], [44], [46], [58], [63], [61], [60], [62], [43], [45], [42], [47], [37], [38], [124], [94], [126], [33]]

def signF : List (List UInt8) → List UInt8 → Tok × Nat × Nat
  | [], l => (zt, 0, 57)
  | t :: ts, l => if Go.Lib.hasPrefix l t = true then (⟨5, 0, t, 0⟩, t.length, 0) else signF ts l
def signI (l : List UInt8) : Tok × Nat × Nat := signF signL l

/-- withinQuotes's closure: escaped, ended -/
def quoG (q : Nat) (st : Bool × Bool) (c : Nat) : (Bool × Bool) × Bool := ((c == 92 && !st.1, c == q && !st.1), !(c == q && !st.1) && c != 10)
def bodyI (q : Nat) (l : List UInt8) : List UInt8 × Bool := (l.take (goOn (quoG q) (false, false) l).1, (goOn (quoG q) (false, false) l).2.2)

def nib (c : Nat) : Nat := if pDig c = true then c - 48 else if 97 ≤ c then c - 87 else c - 55

/-- an escape: the byte, and how many stand for it -/
def escI (l : List UInt8) : UInt8 × Nat :=
  match l with
  | _ :: c :: r =>
    if c = 110 then (10, 2) else if c = 116 then (9, 2) else if c = 92 ∨ c = 39 ∨ c = 34 then (c, 2)
    else if c = 120 then (match r with
      | a :: b :: _ => if pHex a.toNat = true ∧ pHex b.toNat = true then (UInt8.ofNat (nib a.toNat * 16 + nib b.toNat), 4) else (0, 0)
      | _ => (0, 0))
    else (0, 0)
  | _ => (0, 0)

theorem escI_le (l : List UInt8) : (escI l).2 ≤ l.length := by
  unfold escI
  split
  · repeat' split
    all_goals simp
  · simp

def saidF : Nat → List UInt8 → List UInt8 × Bool
  | 0, _ => ([], false)
  | k + 1, l =>
    if l.drop (cntP pRaw l) = [] then (l.take (cntP pRaw l), true)
    else if (escI (l.drop (cntP pRaw l))).2 = 0 then ([], false)
    else if (saidF k (l.drop (cntP pRaw l + (escI (l.drop (cntP pRaw l))).2))).2 = true then (l.take (cntP pRaw l) ++ (escI (l.drop (cntP pRaw l))).1 :: (saidF k (l.drop (cntP pRaw l + (escI (l.drop (cntP pRaw l))).2))).1, true) else ([], false)
def saidI (l : List UInt8) : List UInt8 × Bool := saidF (l.length + 1) l

theorem saidF_more (k m : Nat) (l : List UInt8) (hk : l.length < k) (hm : l.length < m) : saidF k l = saidF m l := by
  induction k generalizing m l with
  | zero => omega
  | succ k ih =>
    cases m with
    | zero => omega
    | succ m =>
      rw [saidF, saidF]
      by_cases a : l.drop (cntP pRaw l) = []
      · rw [if_pos a, if_pos a]
      · rw [if_neg a, if_neg a]
        by_cases b : (escI (l.drop (cntP pRaw l))).2 = 0
        · rw [if_pos b, if_pos b]
        · rw [if_neg b, if_neg b]
          have q : 0 < l.length := by
            cases l with
            | nil => exact absurd rfl a
            | cons c r => simp
          rw [ih m (l.drop (cntP pRaw l + (escI (l.drop (cntP pRaw l))).2)) (by rw [List.length_drop]; omega) (by rw [List.length_drop]; omega)]

theorem saidI_eq (l : List UInt8) : saidI l =
    if l.drop (cntP pRaw l) = [] then (l.take (cntP pRaw l), true)
    else if (escI (l.drop (cntP pRaw l))).2 = 0 then ([], false)
    else if (saidI (l.drop (cntP pRaw l + (escI (l.drop (cntP pRaw l))).2))).2 = true then (l.take (cntP pRaw l) ++ (escI (l.drop (cntP pRaw l))).1 :: (saidI (l.drop (cntP pRaw l + (escI (l.drop (cntP pRaw l))).2))).1, true) else ([], false) := by
  unfold saidI
  rw [saidF]
  by_cases a : l.drop (cntP pRaw l) = []
  · rw [if_pos a, if_pos a]
  · rw [if_neg a, if_neg a]
    by_cases b : (escI (l.drop (cntP pRaw l))).2 = 0
    · rw [if_pos b, if_pos b]
    · rw [if_neg b, if_neg b]
      have q : 0 < l.length := by
        cases l with
        | nil => exact absurd rfl a
        | cons c r => simp
      rw [saidF_more l.length _ (l.drop (cntP pRaw l + (escI (l.drop (cntP pRaw l))).2)) (by rw [List.length_drop]; omega) (Nat.lt_succ_self _)]

def quoI (l : List UInt8) : Tok × Nat × Nat :=
  match l with
  | [] => (zt, 0, 55)
  | q :: r =>
    if (bodyI q.toNat r).2 = true ∧ (saidI (bodyI q.toNat r).1).2 = true then
      (if 4096 < (saidI (bodyI q.toNat r).1).1.length then (zt, 0, 56) else (⟨4, 0, (saidI (bodyI q.toNat r).1).1, 0⟩, (bodyI q.toNat r).1.length + 2, 0))
    else (zt, 0, 55)

def tokI (lit : List UInt8 → Nat × Bool) (l : List UInt8) : Tok × Nat × Nat :=
  if 0 < oneP pDig l then numI lit l
  else if 0 < oneP pSmall l then nameI l
  else if l.head? = some 39 ∨ l.head? = some 34 then quoI l
  else signI l

/-- the tokens from a place on: ts, place, error -/
def scanF (lit : List UInt8 → Nat × Bool) : Nat → Nat → List UInt8 → List Tok × Nat × Nat
  | 0, _, _ => ([], 0, 0)
  | k + 1, at', l =>
    if (blanksI l).2 = false then ([], at' + (blanksI l).1, 52)
    else if l.drop (blanksI l).1 = [] then ([⟨0, at' + (blanksI l).1, [], 0⟩], 0, 0)
    else if (tokI lit (l.drop (blanksI l).1)).2.2 ≠ 0 then ([], at' + (blanksI l).1, (tokI lit (l.drop (blanksI l).1)).2.2)
    else
      if (scanF lit k (at' + (blanksI l).1 + (tokI lit (l.drop (blanksI l).1)).2.1) (l.drop ((blanksI l).1 + (tokI lit (l.drop (blanksI l).1)).2.1))).2.2 = 0 then
        ({ (tokI lit (l.drop (blanksI l).1)).1 with pl := at' + (blanksI l).1 } :: (scanF lit k (at' + (blanksI l).1 + (tokI lit (l.drop (blanksI l).1)).2.1) (l.drop ((blanksI l).1 + (tokI lit (l.drop (blanksI l).1)).2.1))).1, 0, 0)
      else ([], (scanF lit k (at' + (blanksI l).1 + (tokI lit (l.drop (blanksI l).1)).2.1) (l.drop ((blanksI l).1 + (tokI lit (l.drop (blanksI l).1)).2.1))).2)

def scanI (lit : List UInt8 → Nat × Bool) (l : List UInt8) : List Tok × Nat × Nat :=
  if 65536 < l.length then ([], 0, 50)
  else if cntP pProg l < l.length then ([], cntP pProg l, 51)
  else scanF lit (l.length + 1) 0 l

end Go.Proofs.YtaikkmehmiiffaaGreatDoor.Lx
