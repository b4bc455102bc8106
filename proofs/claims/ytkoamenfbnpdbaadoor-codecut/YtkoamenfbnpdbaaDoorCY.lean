/- Plain: code that is cut. -/
import Derived.Test.YtkoamenfbnpdbaaDoorCQ
namespace Go.Proofs.YtkoamenfbnpdbaaDoor.Cd
set_option linter.unusedVariables false

/-- a function whose code is cut -/
def cutF (f : Fn) (k : Nat) : Fn := { f with code := ⟨f.code.at', f.code.cap, f.code.xs.take k⟩ }

theorem means_cut (f : Fn) (k : Nat) (y : Ins) (l o n : Int) (h : l ≠ 116) : meansB (cutF f k) y l o n = meansB f y l o n := by
  unfold meansB
  simp only [h, if_false]
  rfl

theorem means_116 (f : Fn) (k : Nat) (hk : k ≤ f.code.xs.length) (y : Ins) (o n : Int) (h : meansB f y 116 o n = true) : meansB (cutF f k) y 116 o n = decide (o < (k : Int)) := by
  have h1 : 0 ≤ o ∧ o < (f.code.xs.length : Int) := within_out h
  have h2 : meansB (cutF f k) y 116 o n = withinB o ((cutF f k).code.xs.length) := rfl
  have h3 : (cutF f k).code.xs.length = k := by
    show (f.code.xs.take k).length = k
    rw [List.length_take]
    omega
  rw [h2, h3]
  unfold withinB
  rw [decide_eq_true h1.1, Bool.true_and]

def shape116 : List UInt8 → Bool
  | [a, b, c] => (a.toNat != 116) && (b.toNat != 116) && (c.toNat != 116)
  | _ => true

theorem shL_116 : ∀ k, k < 63 → k ≠ 57 → k ≠ 58 → k ≠ 59 → ∀ t, shL[k]? = some t → shape116 t = true := by
  intro k hk h1 h2 h3 t ht
  have hall : ∀ j : Fin 63, j.val ≠ 57 → j.val ≠ 58 → j.val ≠ 59 → shape116 ((shL[j.val]?).getD []) = true := by decide
  have := hall ⟨k, hk⟩ h1 h2 h3
  simp only [ht, Option.getD_some] at this
  exact this

theorem shape_116 (op : Int) (h1 : op ≠ 57) (h2 : op ≠ 58) (h3 : op ≠ 59) : shape116 (shapeI op) = true := by
  by_cases h0 : op < 0 ∨ 63 ≤ op
  · rw [shapeI_out op h0]
    rfl
  · obtain ⟨k, rfl⟩ : ∃ k : Nat, op = (k : Int) := ⟨op.toNat, by omega⟩
    obtain ⟨t, e1, e2⟩ := shapeI_in k (by omega)
    rw [e2]
    exact shL_116 k (by omega) (by omega) (by omega) (by omega) t e1

/-- what is left of an instruction's operands when code is cut -/
theorem fits_cut (f : Fn) (k : Nat) (hk : k ≤ f.code.xs.length) (y : Ins) (n : Int) (h : fitsB f y n = true) : fitsB (cutF f k) y n = (!(jumpI y).2 || decide ((jumpI y).1 < (k : Int))) := by
  by_cases h57 : y.op = 57
  · have hj : jumpI y = (y.a, true) := by unfold jumpI; rw [if_pos h57]
    rw [hj]
    unfold fitsB at h ⊢
    rw [h57, show shapeI 57 = [116, 45, 45] from rfl] at h ⊢
    simp only [Bool.and_eq_true] at h
    obtain ⟨⟨a1, a2⟩, a3⟩ := h
    have e1 := means_116 f k hk y y.a n a1
    have e2 := means_cut f k y 45 y.b n (by decide)
    have e3 := means_cut f k y 45 y.c n (by decide)
    have r : ∀ z : UInt8, ((116 : UInt8).toNat : Int) = 116 := fun _ => rfl
    show (meansB (cutF f k) y 116 y.a n && meansB (cutF f k) y 45 y.b n && meansB (cutF f k) y 45 y.c n) = _
    rw [e1, e2, e3]
    have a2' : meansB f y 45 y.b n = true := a2
    have a3' : meansB f y 45 y.c n = true := a3
    rw [a2', a3']
    simp
  by_cases h58 : y.op = 58 ∨ y.op = 59
  · have hj : jumpI y = (y.b, true) := by unfold jumpI; rw [if_neg h57, if_pos h58]
    have hs : shapeI y.op = [114, 116, 45] := by rcases h58 with e | e <;> rw [e] <;> rfl
    rw [hj]
    unfold fitsB at h ⊢
    rw [hs] at h ⊢
    simp only [Bool.and_eq_true] at h
    obtain ⟨⟨a1, a2⟩, a3⟩ := h
    have e1 := means_cut f k y 114 y.a n (by decide)
    have e2 := means_116 f k hk y y.b n a2
    have e3 := means_cut f k y 45 y.c n (by decide)
    show (meansB (cutF f k) y 114 y.a n && meansB (cutF f k) y 116 y.b n && meansB (cutF f k) y 45 y.c n) = _
    rw [e1, e2, e3]
    have a1' : meansB f y 114 y.a n = true := a1
    have a3' : meansB f y 45 y.c n = true := a3
    rw [a1', a3']
    simp
  · have hj : jumpI y = (0, false) := by unfold jumpI; rw [if_neg h57, if_neg h58]
    rw [hj]
    have hs := shape_116 y.op h57 (fun e => h58 (Or.inl e)) (fun e => h58 (Or.inr e))
    unfold fitsB at h ⊢
    cases hsh : shapeI y.op with
    | nil => rw [hsh] at h; cases h
    | cons a r =>
      rw [hsh] at h hs
      match r, h, hs with
      | [b, c], h, hs =>
        simp only [shape116, Bool.and_eq_true, bne_iff_ne] at hs
        obtain ⟨⟨s1, s2⟩, s3⟩ := hs
        show (meansB (cutF f k) y a.toNat y.a n && meansB (cutF f k) y b.toNat y.b n && meansB (cutF f k) y c.toNat y.c n) = _
        rw [means_cut f k y _ _ n (by omega), means_cut f k y _ _ n (by omega), means_cut f k y _ _ n (by omega)]
        have h' : (meansB f y a.toNat y.a n && meansB f y b.toNat y.b n && meansB f y c.toNat y.c n) = true := h
        rw [h']
        rfl

theorem jumps_all (k : Int) : ∀ l : List Ins, (jumpsL l).all (fun n => decide (n < k)) = l.all (fun y => !(jumpI y).2 || decide ((jumpI y).1 < k))
  | [] => rfl
  | y :: l => by
    rw [jumpsL, List.all_append, List.all_cons, jumps_all k l]
    congr 1
    cases h : (jumpI y).2 with
    | true => simp
    | false => simp

theorem all_congr2 {α : Type} (p q : α → Bool) : ∀ l : List α, (∀ x ∈ l, p x = q x) → l.all p = l.all q
  | [], _ => rfl
  | x :: l, h => by
    rw [List.all_cons, List.all_cons, h x (by simp), all_congr2 p q l (fun y hy => h y (by simp [hy]))]

theorem risen_all (p : Int → Bool) (l : List Int) : (risen l).all p = l.all p := by
  cases h : l.all p with
  | true =>
    rw [List.all_eq_true] at h ⊢
    intro x hx
    exact h x ((risen_mem l x).1 hx)
  | false =>
    cases h2 : (risen l).all p with
    | false => rfl
    | true =>
      rw [List.all_eq_true] at h2
      have : l.all p = true := by
        rw [List.all_eq_true]
        intro x hx
        exact h2 x ((risen_mem l x).2 hx)
      rw [this] at h
      cases h

theorem filled_cut (f : Fn) (k : Nat) (hk : k ≤ f.code.xs.length) (h : filledB f [f] = true) : filledB (cutF f k) [cutF f k] = (jumpsL (f.code.xs.take k)).all (fun n => decide (n < (k : Int))) := by
  rw [jumps_all]
  unfold filledB
  show (f.code.xs.take k).all _ = _
  refine all_congr2 _ _ _ fun y hy => ?_
  have hin : insB f [f] y = true := List.all_eq_true.1 h y (List.mem_of_mem_take hy)
  unfold insB at hin
  simp only [Bool.and_eq_true] at hin
  obtain ⟨⟨h1, h2⟩, h3⟩ := hin
  have h12 : y.op ≠ 12 := by
    intro e
    have := fits_closure f y _ h1 e
    simp at this
    omega
  have e1 := fits_cut f k hk y _ h1
  unfold insB
  show (fitsB (cutF f k) y (([cutF f k] : List Fn).length : Nat) && (decide (y.op ≠ 60) || f.gen) && (decide (y.op ≠ 12) || makesB (cutF f k) [cutF f k] y)) = _
  have e1' : fitsB (cutF f k) y (([cutF f k] : List Fn).length : Nat) = (!(jumpI y).2 || decide ((jumpI y).1 < (k : Int))) := e1
  rw [e1', h2, decide_eq_true h12]
  simp

theorem hnds_cut (n k : Nat) : ∀ l : List Hnd, l.all (hndB n) = true → l.all (hndB k) = ((tgL l).all (fun x => decide (x < (k : Int))) && l.all (fun h => decide (h.to ≤ (k : Int))))
  | [], _ => rfl
  | h :: l, ha => by
    rw [List.all_cons, Bool.and_eq_true] at ha
    have e := hnds_cut n k l ha.2
    have h1 := ha.1
    unfold hndB withinB at h1
    simp only [Bool.and_eq_true, decide_eq_true_eq] at h1
    obtain ⟨⟨⟨a1, a2⟩, a3⟩, a4, a5⟩ := h1
    have e2 : hndB k h = (decide (h.target < (k : Int)) && decide (h.to ≤ (k : Int))) := by
      unfold hndB withinB
      rw [decide_eq_true a1, decide_eq_true a2, decide_eq_true a4]
      simp [Bool.and_comm]
    unfold tgL at e ⊢
    rw [List.all_cons, e, e2, List.map_cons, List.all_cons, List.all_cons]
    cases decide (h.target < (k : Int)) <;> cases decide (h.to ≤ (k : Int)) <;> simp

/-- code that is cut may be run just if nothing in it goes beyond the cut, and it ends there -/
theorem cut_check (f : Fn) (k : Nat) (y : Ins) (h : checkB [f] = true) (hk0 : 1 ≤ k) (hk : k ≤ f.code.xs.length) (hy : f.code.xs[k - 1]? = some y) :
    checkB [cutF f k] = ((!goesB y.op && (risen (startL (cutF f k))).all (fun n => decide (n < (k : Int)))) && f.hnds.xs.all (fun h => decide (h.to ≤ (k : Int)))) := by
  obtain ⟨c1, c2, c3⟩ := check_each h
  obtain ⟨hs, hfl, hfi⟩ := fnOk_out (c3 f (by simp))
  obtain ⟨z0, z1, z2, z3, z4, z5, z6⟩ := sized_out hs
  obtain ⟨hl, hh⟩ := flows_out hfl
  have lk : (cutF f k).code.xs.length = k := by
    show (f.code.xs.take k).length = k
    rw [List.length_take]
    omega
  have e1 : headB [cutF f k] = true := c2
  have e2 : sizedB (cutF f k) = true := by
    unfold sizedB withinB
    rw [lk]
    show (decide (1 ≤ k) && decide (k ≤ 65536) && decide (f.consts.xs.length ≤ 65536) && decide (0 ≤ f.regs) && decide (f.regs ≤ 400) && (decide (0 ≤ f.params) && decide (f.params < f.regs + 1))) = true
    simp only [Bool.and_eq_true, decide_eq_true_eq]
    omega
  have e3 : lastOp (cutF f k) = y.op := by
    unfold lastOp
    rw [lk]
    show (((f.code.xs.take k)[k - 1]?).map (·.op)).getD 0 = y.op
    rw [List.getElem?_take_of_lt (by omega), hy]
    rfl
  have e4 : flowsB (cutF f k) = (!goesB y.op && ((tgL f.hnds.xs).all (fun x => decide (x < (k : Int))) && f.hnds.xs.all (fun h => decide (h.to ≤ (k : Int))))) := by
    unfold flowsB
    rw [e3, lk]
    show (!goesB y.op && f.hnds.xs.all (hndB k)) = _
    rw [hnds_cut _ k f.hnds.xs hh]
  have e5 := filled_cut f k hk hfi
  have e6 : (risen (startL (cutF f k))).all (fun n => decide (n < (k : Int))) = ((jumpsL (f.code.xs.take k)).all (fun n => decide (n < (k : Int))) && (tgL f.hnds.xs).all (fun x => decide (x < (k : Int)))) := by
    rw [risen_all]
    unfold startL
    rw [List.all_append]
    rfl
  unfold checkB
  rw [e1, e6]
  show (decide (([cutF f k] : List Fn).length ≤ 200) && true && [cutF f k].all (fnOkB [cutF f k])) = _
  rw [List.all_cons, List.all_nil]
  unfold fnOkB
  rw [e2, e4, e5]
  simp
  cases goesB y.op <;> cases (jumpsL (f.code.xs.take k)).all (fun n => decide (n < (k : Int))) <;> cases (tgL f.hnds.xs).all (fun x => decide (x < (k : Int))) <;> cases f.hnds.xs.all (fun h => decide (h.to ≤ (k : Int))) <;> rfl

end Go.Proofs.YtkoamenfbnpdbaaDoor.Cd
