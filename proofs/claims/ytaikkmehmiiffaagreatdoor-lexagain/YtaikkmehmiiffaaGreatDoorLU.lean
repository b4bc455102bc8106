/- LexTiles: plain, the chain of tokens. -/
import Derived.Test.YtaikkmehmiiffaaGreatDoorLT
namespace Go.Proofs.YtaikkmehmiiffaaGreatDoor.Lx
set_option linter.unusedVariables false

def plainK (k : Nat) : Prop := k = 1 ∨ k = 2 ∨ k = 5

/-- what the law asks of a token and the next -/
structure Link (lit : List UInt8 → Nat × Bool) (s : List UInt8) (t t' : Tok) : Prop where
  low : 1 ≤ t.kind
  high : t.kind ≤ 5
  rise : t.pl < t'.pl
  fit : t'.pl ≤ s.length
  behind : plainK t.kind → t.pl + t.text.length ≤ t'.pl
  text : plainK t.kind → (s.drop t.pl).take t.text.length = t.text
  gap : plainK t.kind → scanI lit ((s.take t'.pl).drop (t.pl + t.text.length)) = ([⟨0, t'.pl - (t.pl + t.text.length), [], 0⟩], 0, 0)

def Chain (lit : List UInt8 → Nat × Bool) (s : List UInt8) : List Tok → Prop
  | [] => False
  | [e] => e = ⟨0, s.length, [], 0⟩
  | t :: t' :: r => Link lit s t t' ∧ Chain lit s (t' :: r)

theorem scanF_head (lit : List UInt8 → Nat × Bool) (k p : Nat) (l : List UInt8) (hk : 0 < k) (h : (scanF lit k p l).2.2 = 0) :
    (blanksI l).2 = true ∧ ∃ t ts, (scanF lit k p l).1 = t :: ts ∧ t.pl = p + (blanksI l).1 := by
  cases k with
  | zero => omega
  | succ k =>
    rw [scanF] at h ⊢
    by_cases a : (blanksI l).2 = false
    · rw [if_pos a] at h; simp at h
    · rw [if_neg a] at h ⊢
      refine ⟨by simpa using a, ?_⟩
      by_cases b : l.drop (blanksI l).1 = []
      · rw [if_pos b]; exact ⟨_, _, rfl, rfl⟩
      · rw [if_neg b] at h ⊢
        by_cases c : (tokI lit (l.drop (blanksI l).1)).2.2 ≠ 0
        · rw [if_pos c] at h; exact absurd h c
        · rw [if_neg c] at h ⊢
          by_cases d : (scanF lit k (p + (blanksI l).1 + (tokI lit (l.drop (blanksI l).1)).2.1) (l.drop ((blanksI l).1 + (tokI lit (l.drop (blanksI l).1)).2.1))).2.2 = 0
          · rw [if_pos d]; exact ⟨_, _, rfl, rfl⟩
          · rw [if_neg d] at h; exact absurd h d

theorem scan_gap (lit : List UInt8 → Nat × Bool) (l : List UInt8) (hl : l.length ≤ 65536) (hp : ∀ c ∈ l, pProg c.toNat = true) (hb : (blanksI l).2 = true) :
    scanI lit (l.take (blanksI l).1) = ([⟨0, (blanksI l).1, [], 0⟩], 0, 0) := by
  have le := blanksI_le l
  have hlen : (l.take (blanksI l).1).length = (blanksI l).1 := by rw [List.length_take]; omega
  unfold scanI
  rw [hlen, if_neg (by omega), cntP_all, if_neg (by omega), scanF, blanks_take l hb]
  · simp only
    rw [if_neg (by simp), if_pos (by rw [List.drop_of_length_le (by omega)])]
    simp
  · intro c hc
    exact hp c (List.mem_of_mem_take hc)

theorem scanF_chain (lit : List UInt8 → Nat × Bool) (s : List UInt8) (hs : s.length ≤ 65536) (hp : ∀ c ∈ s, pProg c.toNat = true) (k p : Nat) (hk : (s.drop p).length < k) (hps : p ≤ s.length)
    (h : (scanF lit k p (s.drop p)).2.2 = 0) : Chain lit s (scanF lit k p (s.drop p)).1 ∧ (scanF lit k p (s.drop p)).2.1 = 0 := by
  induction k generalizing p with
  | zero => omega
  | succ k ih =>
    rw [scanF] at h ⊢
    have le := blanksI_le (s.drop p)
    rw [List.length_drop] at le hk
    by_cases a : (blanksI (s.drop p)).2 = false
    · rw [if_pos a] at h; simp at h
    · rw [if_neg a] at h ⊢
      by_cases b : (s.drop p).drop (blanksI (s.drop p)).1 = []
      · rw [if_pos b]
        rw [List.drop_drop, List.drop_eq_nil_iff] at b
        refine ⟨?_, rfl⟩
        show (⟨0, _, [], 0⟩ : Tok) = ⟨0, _, [], 0⟩
        congr 1
        omega
      · rw [if_neg b] at h ⊢
        by_cases c : (tokI lit ((s.drop p).drop (blanksI (s.drop p)).1)).2.2 ≠ 0
        · rw [if_pos c] at h; exact absurd h c
        · rw [if_neg c] at h ⊢
          have c' : (tokI lit ((s.drop p).drop (blanksI (s.drop p)).1)).2.2 = 0 := by simpa using c
          have T := tok_ok lit _ c'
          generalize hB : (blanksI (s.drop p)).1 = B at *
          generalize hT : tokI lit ((s.drop p).drop B) = T0 at *
          have dd : (s.drop p).drop (B + T0.2.1) = s.drop (p + B + T0.2.1) := by rw [List.drop_drop]; congr 1; omega
          rw [dd] at h ⊢
          by_cases d : (scanF lit k (p + B + T0.2.1) (s.drop (p + B + T0.2.1))).2.2 = 0
          · rw [if_pos d]
            have tp := T.pos
            have tl := T.le
            rw [List.drop_drop, List.length_drop] at tl
            have I := ih (p + B + T0.2.1) (by rw [List.length_drop]; omega) (by omega) d
            obtain ⟨hb2, t, ts, e, epl⟩ := scanF_head lit k _ _ (by omega) d
            rw [e] at I ⊢
            refine ⟨⟨?_, I.1⟩, rfl⟩
            have le2 := blanksI_le (s.drop (p + B + T0.2.1))
            rw [List.length_drop] at le2
            have key : plainK T0.1.kind → T0.1.text.length = T0.2.1 := by
              intro q
              rw [T.text q, List.length_take, List.drop_drop, List.length_drop]
              omega
            refine ⟨T.low, T.high, ?_, ?_, ?_, ?_, ?_⟩
            · show p + B < t.pl
              omega
            · omega
            · intro q
              have := key q
              show p + B + T0.1.text.length ≤ t.pl
              omega
            · intro q
              show (s.drop (p + B)).take T0.1.text.length = T0.1.text
              rw [key q, T.text q, List.drop_drop]
            · intro q
              show scanI lit ((s.take t.pl).drop (p + B + T0.1.text.length)) = ([⟨0, t.pl - (p + B + T0.1.text.length), [], 0⟩], 0, 0)
              rw [key q, epl, List.drop_take, Nat.add_sub_cancel_left]
              exact scan_gap lit _ (by rw [List.length_drop]; omega) (fun c hc => hp c (List.mem_of_mem_drop hc)) hb2
          · rw [if_neg d] at h; exact absurd h d

theorem scanF_err (lit : List UInt8 → Nat × Bool) (s : List UInt8) (k p : Nat) (hps : p ≤ s.length) (h : (scanF lit k p (s.drop p)).2.2 ≠ 0) :
    (scanF lit k p (s.drop p)).1 = [] ∧ (scanF lit k p (s.drop p)).2.1 ≤ s.length := by
  induction k generalizing p with
  | zero => simp [scanF] at h
  | succ k ih =>
    rw [scanF] at h ⊢
    have le := blanksI_le (s.drop p)
    rw [List.length_drop] at le
    by_cases a : (blanksI (s.drop p)).2 = false
    · rw [if_pos a]
      refine ⟨rfl, ?_⟩
      show p + (blanksI (s.drop p)).1 ≤ _
      omega
    · rw [if_neg a] at h ⊢
      by_cases b : (s.drop p).drop (blanksI (s.drop p)).1 = []
      · rw [if_pos b] at h; simp at h
      · rw [if_neg b] at h ⊢
        by_cases c : (tokI lit ((s.drop p).drop (blanksI (s.drop p)).1)).2.2 ≠ 0
        · rw [if_pos c]
          refine ⟨rfl, ?_⟩
          show p + (blanksI (s.drop p)).1 ≤ _
          omega
        · rw [if_neg c] at h ⊢
          have c' : (tokI lit ((s.drop p).drop (blanksI (s.drop p)).1)).2.2 = 0 := by simpa using c
          have T := tok_ok lit _ c'
          generalize hB : (blanksI (s.drop p)).1 = B at *
          generalize hT : tokI lit ((s.drop p).drop B) = T0 at *
          have dd : (s.drop p).drop (B + T0.2.1) = s.drop (p + B + T0.2.1) := by rw [List.drop_drop]; congr 1; omega
          rw [dd] at h ⊢
          by_cases d : (scanF lit k (p + B + T0.2.1) (s.drop (p + B + T0.2.1))).2.2 = 0
          · rw [if_pos d] at h; simp at h
          · rw [if_neg d]
            have tl := T.le
            rw [List.drop_drop, List.length_drop] at tl
            exact ⟨rfl, (ih (p + B + T0.2.1) (by omega) d).2⟩

theorem cntP_mem (p : Nat → Bool) (l : List UInt8) (h : cntP p l = l.length) : ∀ c ∈ l, p c.toNat = true := by
  induction l with
  | nil => intro c hc; simp at hc
  | cons d r ih =>
    rw [cntP] at h
    by_cases k : p d.toNat = true
    · rw [if_pos k] at h
      intro c hc
      rcases List.mem_cons.1 hc with rfl | hc
      · exact k
      · exact ih (by simpa using h) c hc
    · rw [if_neg k] at h; simp at h

theorem scan_chain (lit : List UInt8 → Nat × Bool) (s : List UInt8) (h : (scanI lit s).2.2 = 0) : Chain lit s (scanI lit s).1 ∧ (scanI lit s).2.1 = 0 ∧ s.length ≤ 65536 ∧ ∀ c ∈ s, pProg c.toNat = true := by
  unfold scanI at h ⊢
  by_cases a : 65536 < s.length
  · rw [if_pos a] at h; simp at h
  · rw [if_neg a] at h ⊢
    by_cases b : cntP pProg s < s.length
    · rw [if_pos b] at h; simp at h
    · rw [if_neg b] at h ⊢
      have m := cntP_mem pProg s (by have := cntP_le pProg s; omega)
      have := scanF_chain lit s (by omega) m (s.length + 1) 0 (by simp) (Nat.zero_le _) h
      exact ⟨this.1, this.2, by omega, m⟩

theorem scan_err (lit : List UInt8 → Nat × Bool) (s : List UInt8) (h : (scanI lit s).2.2 ≠ 0) : (scanI lit s).1 = [] ∧ (scanI lit s).2.1 ≤ s.length := by
  unfold scanI at h ⊢
  by_cases a : 65536 < s.length
  · rw [if_pos a]; exact ⟨rfl, Nat.zero_le _⟩
  · rw [if_neg a] at h ⊢
    by_cases b : cntP pProg s < s.length
    · rw [if_pos b]; exact ⟨rfl, Nat.le_of_lt b⟩
    · rw [if_neg b] at h ⊢
      exact scanF_err lit s (s.length + 1) 0 (Nat.zero_le _) h

end Go.Proofs.YtaikkmehmiiffaaGreatDoor.Lx
