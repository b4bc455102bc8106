/- LexStrings: plain. -/
import Derived.Test.YtaikkmehmiiffaaGreatDoorLP
namespace Go.Proofs.YtaikkmehmiiffaaGreatDoor.Lx
set_option linter.unusedVariables false

/-- a digit base sixteen -/
def hexd (n : Nat) : UInt8 := if n < 10 then UInt8.ofNat (48 + n) else UInt8.ofNat (87 + n)

def encB (q : UInt8) (h : Bool) (c : UInt8) : List UInt8 :=
  if h = true ∨ c.toNat < 32 ∨ 126 < c.toNat ∨ c = q ∨ c = 92 then [92, 120, hexd (c.toNat / 16), hexd (c.toNat % 16)] else [c]

def encs (q : UInt8) : List UInt8 → List Bool → List UInt8
  | [], _ => []
  | c :: r, hw => encB q (hw.headD false) c ++ encs q r hw.tail

theorem hexd_facts (n : Nat) (h : n < 16) : pHex (hexd n).toNat = true ∧ nib (hexd n).toNat = n ∧ pProg (hexd n).toNat = true ∧ (hexd n).toNat ≠ 92 ∧ (hexd n).toNat ≠ 39 ∧ (hexd n).toNat ≠ 34 ∧ (hexd n).toNat ≠ 10 := by
  have : ∀ n, n < 16 → (pHex (hexd n).toNat = true ∧ nib (hexd n).toNat = n ∧ pProg (hexd n).toNat = true ∧ (hexd n).toNat ≠ 92 ∧ (hexd n).toNat ≠ 39 ∧ (hexd n).toNat ≠ 34 ∧ (hexd n).toNat ≠ 10) := by decide
  exact this n h

theorem nat_u8 (a : UInt8) (n : Nat) (hn : n < 256) : a = UInt8.ofNat n ↔ a.toNat = n := by
  constructor
  · rintro rfl; simp [Nat.mod_eq_of_lt hn]
  · intro h; rw [← h]; simp

/-- an item keeps the closure at its beginning's state -/
theorem quo_item (q : UInt8) (hq : q = 39 ∨ q = 34) (h : Bool) (c : UInt8) (b : List UInt8) :
    goOn (quoG q.toNat) (false, false) (encB q h c ++ b) = ((encB q h c).length + (goOn (quoG q.toNat) (false, false) b).1, (goOn (quoG q.toNat) (false, false) b).2) := by
  have c16 : c.toNat < 256 := c.toNat_lt
  unfold encB
  split
  · obtain ⟨_, _, _, a1, a2, a3, a4⟩ := hexd_facts (c.toNat / 16) (by omega)
    obtain ⟨_, _, _, b1, b2, b3, b4⟩ := hexd_facts (c.toNat % 16) (by omega)
    generalize hexd (c.toNat / 16) = x at *
    generalize hexd (c.toNat % 16) = y at *
    have e1 : quoG q.toNat (false, false) 92 = ((true, false), true) := by rcases hq with rfl | rfl <;> rfl
    have e2 : quoG q.toNat (true, false) 120 = ((false, false), true) := by rcases hq with rfl | rfl <;> rfl
    have e3 : ∀ z : Nat, z ≠ 92 → z ≠ 39 → z ≠ 34 → z ≠ 10 → quoG q.toNat (false, false) z = ((false, false), true) := by
      intro z z1 z2 z3 z4
      unfold quoG
      rcases hq with rfl | rfl <;> simp [z1, z2, z3, z4]
    have e4 := e3 x.toNat a1 a2 a3 a4
    have e5 := e3 y.toNat b1 b2 b3 b4
    simp only [List.cons_append, List.nil_append]
    rw [goOn, show (92 : UInt8).toNat = 92 from rfl, e1, goOn, show (120 : UInt8).toNat = 120 from rfl, e2, goOn, e4, goOn, e5]
    simp only [if_true, List.length_cons, List.length_nil]
    refine Prod.ext ?_ rfl
    show _ + 1 + 1 + 1 + 1 = _
    omega
  · rename_i hn
    have hn1 : ¬ c.toNat < 32 := fun k => hn (Or.inr (Or.inl k))
    have hn2 : c ≠ q := fun k => hn (Or.inr (Or.inr (Or.inr (Or.inl k))))
    have hn3 : c ≠ 92 := fun k => hn (Or.inr (Or.inr (Or.inr (Or.inr k))))
    have n3 : c.toNat ≠ 92 := fun k => hn3 (by rw [show (92 : UInt8) = UInt8.ofNat 92 from rfl, nat_u8 c 92 (by omega)]; exact k)
    have n2 : c.toNat ≠ q.toNat := fun k => hn2 (UInt8.toNat_inj.1 k)
    have e : quoG q.toNat (false, false) c.toNat = ((false, false), true) := by
      unfold quoG
      have n10 : c.toNat ≠ 10 := by omega
      simp [n3, n2, n10]
    simp only [List.cons_append, List.nil_append]
    rw [goOn, e]
    simp only [if_true, List.length_cons, List.length_nil]
    refine Prod.ext ?_ rfl
    show _ + 1 = _
    omega

theorem quo_all (q : UInt8) (hq : q = 39 ∨ q = 34) (s : List UInt8) (hw : List Bool) : goOn (quoG q.toNat) (false, false) (encs q s hw ++ [q]) = ((encs q s hw).length, (false, true)) := by
  induction s generalizing hw with
  | nil =>
    rw [encs, List.nil_append, goOn]
    rcases hq with rfl | rfl <;> rfl
  | cons c r ih =>
    rw [encs, List.append_assoc, quo_item q hq, ih]
    simp

theorem body_all (q : UInt8) (hq : q = 39 ∨ q = 34) (s : List UInt8) (hw : List Bool) : bodyI q.toNat (encs q s hw ++ [q]) = (encs q s hw, true) := by
  unfold bodyI
  rw [quo_all q hq]
  simp

theorem said_raw (c : UInt8) (r : List UInt8) (hc : c.toNat ≠ 92) : saidI (c :: r) = if (saidI r).2 = true then (c :: (saidI r).1, true) else ([], false) := by
  have hp : cntP pRaw (c :: r) = cntP pRaw r + 1 := by rw [cntP, if_pos (by simp [pRaw, hc])]
  rw [saidI_eq (c :: r), saidI_eq r, hp]
  have d : ∀ m, (c :: r).drop (cntP pRaw r + 1 + m) = r.drop (cntP pRaw r + m) := by
    intro m
    rw [show cntP pRaw r + 1 + m = (cntP pRaw r + m) + 1 from by omega, List.drop_succ_cons]
  rw [List.drop_succ_cons, List.take_succ_cons, d]
  by_cases a : r.drop (cntP pRaw r) = []
  · rw [if_pos a, if_pos a]; simp
  · rw [if_neg a, if_neg a]
    by_cases b : (escI (r.drop (cntP pRaw r))).2 = 0
    · rw [if_pos b, if_pos b]; simp
    · rw [if_neg b, if_neg b]
      by_cases e : (saidI (r.drop (cntP pRaw r + (escI (r.drop (cntP pRaw r))).2))).2 = true
      · rw [if_pos e, if_pos e]; simp
      · rw [if_neg e, if_neg e]; simp

theorem said_hex (a b : UInt8) (r : List UInt8) (ha : pHex a.toNat = true) (hb : pHex b.toNat = true) :
    saidI (92 :: 120 :: a :: b :: r) = if (saidI r).2 = true then (UInt8.ofNat (nib a.toNat * 16 + nib b.toNat) :: (saidI r).1, true) else ([], false) := by
  have hp : cntP pRaw (92 :: 120 :: a :: b :: r) = 0 := by rw [cntP, if_neg (by decide)]
  have he : escI (92 :: 120 :: a :: b :: r) = (UInt8.ofNat (nib a.toNat * 16 + nib b.toNat), 4) := by
    unfold escI
    simp [ha, hb]
  rw [saidI_eq (92 :: 120 :: a :: b :: r), hp, List.drop_zero, he]
  rw [if_neg (by simp), if_neg (by simp)]
  simp only [List.take_zero, List.nil_append, Nat.zero_add, List.drop_succ_cons, List.drop_zero]

theorem said_item (q : UInt8) (h : Bool) (c : UInt8) (r : List UInt8) : saidI (encB q h c ++ r) = if (saidI r).2 = true then (c :: (saidI r).1, true) else ([], false) := by
  have c16 : c.toNat < 256 := c.toNat_lt
  unfold encB
  split
  · obtain ⟨a1, a2, _⟩ := hexd_facts (c.toNat / 16) (by omega)
    obtain ⟨b1, b2, _⟩ := hexd_facts (c.toNat % 16) (by omega)
    simp only [List.cons_append, List.nil_append]
    rw [said_hex _ _ r a1 b1, a2, b2, show c.toNat / 16 * 16 + c.toNat % 16 = c.toNat from by omega]
    simp
  · rename_i hn
    have hn3 : c ≠ 92 := fun k => hn (Or.inr (Or.inr (Or.inr (Or.inr k))))
    have n3 : c.toNat ≠ 92 := fun k => hn3 (by rw [show (92 : UInt8) = UInt8.ofNat 92 from rfl, nat_u8 c 92 (by omega)]; exact k)
    simp only [List.cons_append, List.nil_append]
    exact said_raw c r n3

theorem said_all (q : UInt8) (s : List UInt8) (hw : List Bool) : saidI (encs q s hw) = (s, true) := by
  induction s generalizing hw with
  | nil => rfl
  | cons c r ih => rw [encs, said_item, ih]; simp

theorem cntP_all (p : Nat → Bool) (l : List UInt8) (h : ∀ c ∈ l, p c.toNat = true) : cntP p l = l.length := by
  induction l with
  | nil => rfl
  | cons c r ih =>
    rw [cntP, if_pos (h c (by simp)), ih (fun d hd => h d (by simp [hd]))]
    simp

theorem encs_prog (q : UInt8) (s : List UInt8) (hw : List Bool) : ∀ c ∈ encs q s hw, pProg c.toNat = true := by
  induction s generalizing hw with
  | nil => intro c hc; simp [encs] at hc
  | cons d r ih =>
    intro c hc
    rw [encs, List.mem_append] at hc
    rcases hc with hc | hc
    · have d16 : d.toNat < 256 := d.toNat_lt
      unfold encB at hc
      split at hc
      · simp only [List.mem_cons, List.not_mem_nil, or_false] at hc
        rcases hc with rfl | rfl | rfl | rfl
        · rfl
        · rfl
        · exact (hexd_facts _ (by omega)).2.2.1
        · exact (hexd_facts _ (by omega)).2.2.1
      · rename_i hn
        have hn1 : ¬ d.toNat < 32 := fun k => hn (Or.inr (Or.inl k))
        have hn2 : ¬ 126 < d.toNat := fun k => hn (Or.inr (Or.inr (Or.inl k)))
        simp only [List.mem_cons, List.not_mem_nil, or_false] at hc
        subst hc
        unfold pProg
        simp
        omega
    · exact ih _ c hc

theorem encs_len (q : UInt8) (s : List UInt8) (hw : List Bool) : (encs q s hw).length ≤ 4 * s.length := by
  induction s generalizing hw with
  | nil => simp [encs]
  | cons d r ih =>
    rw [encs, List.length_append]
    have := ih hw.tail
    have e : (encB q (hw.headD false) d).length ≤ 4 := by unfold encB; split <;> simp
    simp only [List.length_cons]
    omega

theorem blank_quote (q : UInt8) (hq : q = 39 ∨ q = 34) (r : List UInt8) : blanksI (q :: r) = (0, true) := by
  have : blankI (q :: r) = (0, true) := by
    rcases hq with rfl | rfl <;> rfl
  rw [blanksI_eq, this]
  simp

theorem strings_plain (lit : List UInt8 → Nat × Bool) (q : UInt8) (hq : q = 39 ∨ q = 34) (s : List UInt8) (hw : List Bool) (hs : s.length ≤ 5000) :
    scanI lit (q :: (encs q s hw ++ [q])) = if 4096 < s.length then ([], 0, 56) else ([⟨4, 0, s, 0⟩, ⟨0, (encs q s hw).length + 2, [], 0⟩], 0, 0) := by
  have el := encs_len q s hw
  have hl : (q :: (encs q s hw ++ [q])).length = (encs q s hw).length + 2 := by simp
  unfold scanI
  rw [if_neg (by rw [hl]; omega), cntP_all, if_neg (by omega)]
  · rw [hl]
    rw [scanF, blank_quote q hq]
    simp only [List.drop_zero, Nat.zero_add, Nat.add_zero]
    have ht : tokI lit (q :: (encs q s hw ++ [q])) = quoI (q :: (encs q s hw ++ [q])) := by
      unfold tokI
      rw [if_neg (by rcases hq with rfl | rfl <;> simp [oneP, pDig]), if_neg (by rcases hq with rfl | rfl <;> simp [oneP, pSmall, pDig]), if_pos (by rcases hq with rfl | rfl <;> simp)]
    rw [ht]
    have hQ : quoI (q :: (encs q s hw ++ [q])) = if 4096 < s.length then (zt, 0, 56) else (⟨4, 0, s, 0⟩, (encs q s hw).length + 2, 0) := by
      unfold quoI
      simp only [body_all q hq, said_all]
      simp
    rw [hQ]
    rw [if_neg (by simp), if_neg (by simp)]
    by_cases c : 4096 < s.length
    · simp only [if_pos c]
      rfl
    · simp only [if_neg c]
      rw [if_neg (by simp)]
      rw [List.drop_of_length_le (by simp)]
      rw [scanF]
      simp [show blanksI [] = (0, true) from rfl]
  · intro c hc
    simp only [List.mem_cons, List.mem_append, List.not_mem_nil, or_false] at hc
    have pq : pProg q.toNat = true := by rcases hq with rfl | rfl <;> rfl
    rcases hc with rfl | hc | rfl
    · exact pq
    · exact encs_prog q s hw c hc
    · exact pq

end Go.Proofs.YtaikkmehmiiffaaGreatDoor.Lx
