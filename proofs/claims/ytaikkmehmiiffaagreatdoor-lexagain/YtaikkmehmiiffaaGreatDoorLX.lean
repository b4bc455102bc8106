/- LexParts: plain, as the law asks it. -/
import Derived.Test.YtaikkmehmiiffaaGreatDoorLV
namespace Go.Proofs.YtaikkmehmiiffaaGreatDoor.Lx
set_option linter.unusedVariables false

def shiftT (d : Nat) (t : Tok) : Tok := ⟨t.kind, t.pl + d, t.text, t.num⟩

theorem scanF_shift (lit : List UInt8 → Nat × Bool) (k p d : Nat) (l : List UInt8) :
    scanF lit k (p + d) l = ((scanF lit k p l).1.map (shiftT d), if (scanF lit k p l).2.2 = 0 then 0 else (scanF lit k p l).2.1 + d, (scanF lit k p l).2.2) := by
  induction k generalizing p l with
  | zero => rfl
  | succ k ih =>
    rw [scanF, scanF]
    by_cases a : (blanksI l).2 = false
    · rw [if_pos a, if_pos a]
      refine Prod.ext rfl (Prod.ext ?_ rfl)
      show p + d + (blanksI l).1 = p + (blanksI l).1 + d
      omega
    · rw [if_neg a, if_neg a]
      by_cases b : l.drop (blanksI l).1 = []
      · rw [if_pos b, if_pos b]
        refine Prod.ext ?_ rfl
        show [(⟨0, p + d + (blanksI l).1, [], 0⟩ : Tok)] = [⟨0, p + (blanksI l).1 + d, [], 0⟩]
        rw [show p + d + (blanksI l).1 = p + (blanksI l).1 + d from by omega]
      · rw [if_neg b, if_neg b]
        by_cases c : (tokI lit (l.drop (blanksI l).1)).2.2 ≠ 0
        · rw [if_pos c, if_pos c]
          refine Prod.ext rfl (Prod.ext ?_ rfl)
          show p + d + (blanksI l).1 = if (tokI lit (l.drop (blanksI l).1)).2.2 = 0 then 0 else p + (blanksI l).1 + d
          rw [if_neg c]
          omega
        · rw [if_neg c, if_neg c]
          rw [show p + d + (blanksI l).1 + (tokI lit (l.drop (blanksI l).1)).2.1 = p + (blanksI l).1 + (tokI lit (l.drop (blanksI l).1)).2.1 + d from by omega, ih]
          generalize scanF lit k (p + (blanksI l).1 + (tokI lit (l.drop (blanksI l).1)).2.1) (l.drop ((blanksI l).1 + (tokI lit (l.drop (blanksI l).1)).2.1)) = R
          by_cases e : R.2.2 = 0
          · simp only [e, if_true, List.map_cons, shiftT]
            rw [show p + d + (blanksI l).1 = p + (blanksI l).1 + d from by omega]
          · simp [e]

theorem signF_errs (ts : List (List UInt8)) (l : List UInt8) : (signF ts l).2.2 ≠ 51 := by
  induction ts with
  | nil => simp [signF]
  | cons t ts ih =>
    rw [signF]
    split
    · simp
    · exact ih

theorem tok_errs (lit : List UInt8 → Nat × Bool) (l : List UInt8) : (tokI lit l).2.2 ≠ 51 := by
  unfold tokI
  split
  · unfold numI; split <;> simp
  · split
    · unfold nameI
      split
      · simp
      · split <;> simp
    · split
      · unfold quoI
        split
        · simp
        · split
          · split <;> simp
          · simp
      · exact signF_errs _ _

theorem scanF_errs (lit : List UInt8 → Nat × Bool) (k p : Nat) (l : List UInt8) : (scanF lit k p l).2.2 ≠ 51 := by
  induction k generalizing p l with
  | zero => simp [scanF]
  | succ k ih =>
    rw [scanF]
    split
    · simp
    · split
      · simp
      · split
        · exact tok_errs lit _
        · split
          · simp
          · exact ih _ _

theorem cntP_app_lt (p : Nat → Bool) (x y : List UInt8) (h : cntP p x < x.length) : cntP p (x ++ y) = cntP p x := by
  induction x with
  | nil => simp at h
  | cons c r ih =>
    rw [List.cons_append, cntP, cntP]
    rw [cntP] at h
    by_cases q : p c.toNat = true
    · rw [if_pos q, if_pos q, ih (by rw [if_pos q] at h; simpa using h)]
    · rw [if_neg q, if_neg q]

theorem cntP_app_eq (p : Nat → Bool) (x y : List UInt8) (h : cntP p x = x.length) : cntP p (x ++ y) = x.length + cntP p y := by
  have m := cntP_mem _ _ h
  clear h
  induction x with
  | nil => simp
  | cons c r ih =>
    rw [List.cons_append, cntP, if_pos (m c (by simp)), ih (fun d hd => m d (by simp [hd]))]
    simp only [List.length_cons]
    omega

/-- what LexParts asks -/
structure Parts (X Y Z : List Tok × Nat × Nat) (n : Nat) : Prop where
  both : X.2.2 = 0 → Y.2.2 = 0 → Z = (X.1.dropLast ++ Y.1.map (shiftT n), 0, 0)
  one : X.2.2 ≠ 0 ∨ Y.2.2 ≠ 0 → Z.2.2 ≠ 0 ∨ X.2.2 = 52
  two : X.2.2 = 0 ∨ X.2.2 = 52 ∨ (Y.2.2 = 51 ∧ X.2.2 ≠ 51) ∨ (Z.2.2 = X.2.2 ∧ Z.2.1 = X.2.1)

theorem parts_plain (lit : List UInt8 → Nat × Bool) (a b : List UInt8) (h : a.length + 1 + b.length ≤ 65536) : Parts (scanI lit a) (scanI lit b) (scanI lit (a ++ 10 :: b)) (a.length + 1) := by
  have hl : (a ++ 10 :: b).length = a.length + 1 + b.length := by simp; omega
  unfold scanI
  rw [hl, if_neg (show ¬ 65536 < a.length from by omega), if_neg (show ¬ 65536 < b.length from by omega), if_neg (show ¬ 65536 < a.length + 1 + b.length from by omega)]
  have la := cntP_le pProg a
  have lb := cntP_le pProg b
  by_cases ca : cntP pProg a < a.length
  · rw [if_pos ca, cntP_app_lt _ _ _ ca, if_pos (show cntP pProg a < a.length + 1 + b.length from by omega)]
    exact ⟨fun h => absurd h (by simp), fun _ => Or.inl (by simp), Or.inr (Or.inr (Or.inr ⟨rfl, rfl⟩))⟩
  · rw [if_neg ca]
    have ea : cntP pProg a = a.length := by omega
    have e1 : cntP pProg (10 :: b) = 1 + cntP pProg b := by rw [cntP, if_pos (by decide)]; omega
    rw [cntP_app_eq _ _ _ ea, e1]
    have X51 := scanF_errs lit (a.length + 1) 0 a
    by_cases cb : cntP pProg b < b.length
    · rw [if_pos cb, if_pos (show a.length + (1 + cntP pProg b) < a.length + 1 + b.length from by omega)]
      refine ⟨fun _ h => absurd h (by simp), fun _ => Or.inl (by simp), Or.inr (Or.inr (Or.inl ⟨rfl, X51⟩))⟩
    · rw [if_neg cb, if_neg (show ¬ a.length + (1 + cntP pProg b) < a.length + 1 + b.length from by omega)]
      obtain ⟨n1, n2⟩ := scanF_nl lit (a.length + 1) (a.length + 1 + b.length + 1) 0 a b (by omega) (by omega)
      rw [show 0 + a.length + 1 = 0 + (a.length + 1) from by omega, scanF_shift, scanF_more lit (a.length + 1 + b.length + 1) (b.length + 1) 0 b (by omega) (by omega)] at n1
      generalize scanF lit (a.length + 1) 0 a = X at *
      generalize scanF lit (b.length + 1) 0 b = Y at *
      generalize scanF lit (a.length + 1 + b.length + 1) 0 (a ++ 10 :: b) = Z at *
      refine ⟨?_, ?_, ?_⟩
      · intro hx hy
        rw [n1 hx]
        unfold joinT
        rw [if_pos (by exact hy)]
      · intro hxy
        by_cases hx : X.2.2 = 0
        · rcases hxy with h | hy
          · exact absurd hx h
          · rw [n1 hx]
            unfold joinT
            rw [if_neg (by exact hy)]
            exact Or.inl hy
        · by_cases h52 : X.2.2 = 52
          · exact Or.inr h52
          · rw [n2 hx h52]
            exact Or.inl hx
      · by_cases hx : X.2.2 = 0
        · exact Or.inl hx
        · by_cases h52 : X.2.2 = 52
          · exact Or.inr (Or.inl h52)
          · rw [n2 hx h52]
            exact Or.inr (Or.inr (Or.inr ⟨rfl, rfl⟩))

end Go.Proofs.YtaikkmehmiiffaaGreatDoor.Lx
