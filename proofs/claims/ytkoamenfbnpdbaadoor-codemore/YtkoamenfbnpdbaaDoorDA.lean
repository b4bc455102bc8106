/- Plain: code that may be run stays so with more registers, constants, functions. -/
import Derived.Test.YtkoamenfbnpdbaaDoorCQ
namespace Go.Proofs.YtkoamenfbnpdbaaDoor.Cd
set_option linter.unusedVariables false

/-- a function has what another has, and perhaps more registers and constants -/
structure More (f g : Fn) : Prop where
  params : g.params = f.params
  gen : g.gen = f.gen
  code : g.code.xs = f.code.xs
  caps : g.caps.xs = f.caps.xs
  hnds : g.hnds.xs = f.hnds.xs
  regs : f.regs ≤ g.regs
  regs4 : g.regs ≤ 400
  consts : ∃ t, g.consts.xs = f.consts.xs ++ t
  many : g.consts.xs.length ≤ 65536

theorem within_more {o n m : Int} (h : withinB o n = true) (hm : n ≤ m) : withinB o m = true := by
  have := within_out h
  unfold withinB
  simp
  omega

theorem means_more {f g : Fn} (h : More f g) (y : Ins) (l o n m : Int) (hnm : n ≤ m) (hm : meansB f y l o n = true) : meansB g y l o m = true := by
  obtain ⟨t, ht⟩ := h.consts
  have hl : (f.consts.xs.length : Int) ≤ g.consts.xs.length := by rw [ht, List.length_append]; omega
  have hr := h.regs
  unfold meansB at hm ⊢
  rw [h.caps, h.code]
  by_cases h1 : l = 119
  · rw [if_pos h1] at hm ⊢; exact within_more hm hr
  rw [if_neg h1] at hm ⊢
  by_cases h2 : l = 114
  · rw [if_pos h2] at hm ⊢; exact within_more hm hr
  rw [if_neg h2] at hm ⊢
  by_cases h3 : l = 107
  · rw [if_pos h3] at hm ⊢; exact within_more hm hl
  rw [if_neg h3] at hm ⊢
  by_cases h4 : l = 120
  · rw [if_pos h4] at hm ⊢
    rw [Bool.and_eq_true] at hm ⊢
    refine ⟨within_more hm.1 hl, ?_⟩
    have hw := within_out hm.1
    have h5 := hm.2
    unfold textAt at h5 ⊢
    rw [ht, List.getElem?_append_left (by omega)]
    exact h5
  rw [if_neg h4] at hm ⊢
  by_cases h5 : l = 115
  · rw [if_pos h5] at hm ⊢; exact hm
  rw [if_neg h5] at hm ⊢
  by_cases h6 : l = 102
  · rw [if_pos h6] at hm ⊢
    simp at hm ⊢
    omega
  rw [if_neg h6] at hm ⊢
  by_cases h7 : l = 99
  · rw [if_pos h7] at hm ⊢; exact hm
  rw [if_neg h7] at hm ⊢
  by_cases h8 : l = 98
  · rw [if_pos h8] at hm ⊢; exact hm
  rw [if_neg h8] at hm ⊢
  by_cases h9 : l = 116
  · rw [if_pos h9] at hm ⊢; exact hm
  rw [if_neg h9] at hm ⊢
  by_cases h10 : l = 104
  · rw [if_pos h10] at hm ⊢; exact hm
  rw [if_neg h10] at hm ⊢
  by_cases h11 : l = 110
  · rw [if_pos h11] at hm ⊢; exact within_more hm (by omega)
  rw [if_neg h11] at hm ⊢
  exact hm

theorem fits_more {f g : Fn} (h : More f g) (y : Ins) (n m : Int) (hnm : n ≤ m) (hf : fitsB f y n = true) : fitsB g y m = true := by
  unfold fitsB at hf ⊢
  cases hsh : shapeI y.op with
  | nil => rw [hsh] at hf; cases hf
  | cons a r =>
    rw [hsh] at hf
    match r, hf with
    | [b, c], hf =>
      have hf' : (meansB f y a.toNat y.a n && meansB f y b.toNat y.b n && meansB f y c.toNat y.c n) = true := hf
      simp only [Bool.and_eq_true] at hf'
      obtain ⟨⟨h1, h2⟩, h3⟩ := hf'
      show (meansB g y a.toNat y.a m && meansB g y b.toNat y.b m && meansB g y c.toNat y.c m) = true
      rw [means_more h y _ _ n m hnm h1, means_more h y _ _ n m hnm h2, means_more h y _ _ n m hnm h3]
      rfl

/-- the functions of a program, each perhaps with more, and perhaps others behind them -/
structure MoreL (fs gs : List Fn) : Prop where
  len : fs.length ≤ gs.length
  each : ∀ (j : Nat) f, fs[j]? = some f → ∃ g, gs[j]? = some g ∧ More f g

theorem met_more {f g : Fn} (h : More f g) (r fr : Int) (hm : metB r fr f = true) : metB r fr g = true := by
  have hr := h.regs
  unfold metB at hm ⊢
  rw [h.caps]
  simp at hm ⊢
  omega

theorem makes_more {fs gs : List Fn} {f g : Fn} (hL : MoreL fs gs) (h : More f g) (y : Ins) (hm : makesB f fs y = true) : makesB g gs y = true := by
  unfold makesB at hm ⊢
  cases hb : fs[y.b.toNat]? with
  | none => rw [hb] at hm; cases hm
  | some q =>
    rw [hb] at hm
    obtain ⟨q', h1, h2⟩ := hL.each _ q hb
    rw [h1]
    simp only at hm ⊢
    have e : wantOf q' = wantOf q := by unfold wantOf; rw [h2.caps]
    rw [e]
    exact met_more h _ _ hm

theorem fnOk_more {fs gs : List Fn} {f g : Fn} (hL : MoreL fs gs) (h : More f g) (hf : fnOkB fs f = true) : fnOkB gs g = true := by
  obtain ⟨h1, h2, h3⟩ := fnOk_out hf
  obtain ⟨z0, z1, z2, z3, z4, z5, z6⟩ := sized_out h1
  have e1 : sizedB g = true := by
    have := h.regs
    have := h.regs4
    have := h.many
    unfold sizedB withinB
    rw [h.code, h.params]
    simp only [Bool.and_eq_true, decide_eq_true_eq]
    have := List.length_pos_iff.2 z0
    omega
  have e2 : flowsB g = true := by
    unfold flowsB lastOp at h2 ⊢
    rw [h.code, h.hnds]
    exact h2
  have e3 : filledB g gs = true := by
    unfold filledB at h3 ⊢
    rw [h.code]
    rw [List.all_eq_true] at h3 ⊢
    intro y hy
    have hi := h3 y hy
    unfold insB at hi ⊢
    rw [h.gen]
    simp only [Bool.and_eq_true] at hi ⊢
    obtain ⟨⟨i1, i2⟩, i3⟩ := hi
    refine ⟨⟨fits_more h y _ _ (by have := hL.len; omega) i1, i2⟩, ?_⟩
    rw [Bool.or_eq_true] at i3 ⊢
    rcases i3 with i3 | i3
    · exact Or.inl i3
    · exact Or.inr (makes_more hL h y i3)
  unfold fnOkB
  rw [e1, e2, e3]
  rfl

theorem more_refl {fs : List Fn} {f : Fn} (hf : fnOkB fs f = true) : More f f := by
  obtain ⟨h1, _, _⟩ := fnOk_out hf
  obtain ⟨z0, z1, z2, z3, z4, z5, z6⟩ := sized_out h1
  exact ⟨rfl, rfl, rfl, rfl, rfl, Int.le_refl _, z4, ⟨[], by simp⟩, z2⟩

/-- a program with more may be run -/
theorem check_more {fs gs : List Fn} (h : checkB fs = true) (hL : MoreL fs gs) (h200 : gs.length ≤ 200) (hg : ∀ g ∈ gs, ∃ f ∈ fs, More f g) : checkB gs = true := by
  obtain ⟨c1, c2, c3⟩ := check_each h
  have e1 : headB gs = true := by
    cases fs with
    | nil => cases c2
    | cons f r =>
      obtain ⟨g, g1, g2⟩ := hL.each 0 f rfl
      cases gs with
      | nil => cases g1
      | cons g' r' =>
        simp at g1
        subst g1
        have c2' : firstB f = true := c2
        show firstB g' = true
        unfold firstB at c2' ⊢
        rw [g2.params, g2.gen, g2.caps]
        exact c2'
  have e2 : gs.all (fnOkB gs) = true := by
    rw [List.all_eq_true]
    intro g hgm
    obtain ⟨f, hf, hm⟩ := hg g hgm
    exact fnOk_more hL hm (c3 f hf)
  unfold checkB
  rw [e1, e2, decide_eq_true h200]
  rfl

end Go.Proofs.YtkoamenfbnpdbaaDoor.Cd
