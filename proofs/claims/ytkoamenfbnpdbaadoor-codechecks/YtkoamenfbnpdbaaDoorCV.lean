/- Plain: which programs may be run, by the document and by the program. -/
import Derived.Test.YtkoamenfbnpdbaaDoorCT
namespace Go.Proofs.YtkoamenfbnpdbaaDoor.Cd
set_option linter.unusedVariables false

/-- a maker has what is taken along -/
def capOkB (f : Fn) (c : Cap) : Bool := decide (0 ≤ c.idx) && decide (c.idx < (if c.free then (f.caps.xs.length : Int) else f.regs))

/-- what an instruction makes, its function can make -/
def closB (f : Fn) (fs : List Fn) (y : Ins) : Bool := decide (y.op ≠ 12) || (match fs[y.b.toNat]? with | some g => g.caps.xs.all (capOkB f) | none => false)

def rcheckB (fs : List Fn) : Bool := decide (fs.length ≤ 200) && headB fs && fs.all (functionB fs.length) && fs.all (fun f => f.code.xs.all (closB f fs))

theorem met_caps (f : Fn) (h1 : f.regs ≤ 9223372036854775807) (h2 : (f.caps.xs.length : Int) ≤ 9223372036854775807) : ∀ (l : List Cap) (r fr : Int),
    metB (wantF r fr l).1 (wantF r fr l).2 f = (decide (r < f.regs) && decide (fr < (f.caps.xs.length : Int)) && l.all (capOkB f))
  | [], r, fr => by
    unfold metB wantF
    simp
  | c :: l, r, fr => by
    rw [wantF]
    by_cases h : c.idx < 0
    · rw [if_pos h]
      have e1 : metB 9223372036854775807 9223372036854775807 f = false := by
        unfold metB
        rw [decide_eq_false (by omega)]
        rfl
      have e2 : capOkB f c = false := by
        unfold capOkB
        rw [decide_eq_false (by omega)]
        rfl
      rw [List.all_cons, e2]
      simp [e1]
    · rw [if_neg h]
      cases hc : c.free with
      | true =>
        rw [if_pos rfl, met_caps f h1 h2 l, List.all_cons]
        have e2 : capOkB f c = decide (c.idx < (f.caps.xs.length : Int)) := by
          unfold capOkB
          rw [hc, decide_eq_true (by omega)]
          rfl
        rw [e2]
        have e3 : decide (max fr c.idx < (f.caps.xs.length : Int)) = (decide (fr < (f.caps.xs.length : Int)) && decide (c.idx < (f.caps.xs.length : Int))) := by
          by_cases a : fr < (f.caps.xs.length : Int) <;> by_cases b : c.idx < (f.caps.xs.length : Int) <;> simp [a, b] <;> omega
        rw [e3]
        simp only [Bool.and_assoc]
      | false =>
        rw [if_neg (by simp), met_caps f h1 h2 l, List.all_cons]
        have e2 : capOkB f c = decide (c.idx < f.regs) := by
          unfold capOkB
          rw [hc, decide_eq_true (by omega)]
          rfl
        rw [e2]
        have e3 : decide (max r c.idx < f.regs) = (decide (r < f.regs) && decide (c.idx < f.regs)) := by
          by_cases a : r < f.regs <;> by_cases b : c.idx < f.regs <;> simp [a, b] <;> omega
        rw [e3]
        cases decide (r < f.regs) <;> cases decide (c.idx < f.regs) <;> cases decide (fr < (f.caps.xs.length : Int)) <;> rfl

theorem clos_makes (f : Fn) (fs : List Fn) (y : Ins) (h1 : 0 ≤ f.regs) (h2 : f.regs ≤ 400) (h3 : (f.caps.xs.length : Int) ≤ 9223372036854775807) : (decide (y.op ≠ 12) || makesB f fs y) = closB f fs y := by
  unfold closB makesB
  cases hb : fs[y.b.toNat]? with
  | none => rfl
  | some g =>
    simp only
    unfold wantOf
    rw [met_caps f (by omega) h3, decide_eq_true (show (-1 : Int) < f.regs by omega), decide_eq_true (show (-1 : Int) < (f.caps.xs.length : Int) by omega), Bool.true_and, Bool.true_and]

theorem all_and {α : Type} (p q : α → Bool) : ∀ l : List α, l.all (fun x => p x && q x) = (l.all p && l.all q)
  | [] => rfl
  | x :: l => by
    rw [List.all_cons, List.all_cons, List.all_cons, all_and p q l]
    cases p x <;> cases q x <;> cases l.all p <;> rfl

theorem all_congr' {α : Type} (p q : α → Bool) : ∀ l : List α, (∀ x ∈ l, p x = q x) → l.all p = l.all q
  | [], _ => rfl
  | x :: l, h => by
    rw [List.all_cons, List.all_cons, h x (by simp), all_congr' p q l (fun y hy => h y (by simp [hy]))]

theorem filled_both (f : Fn) (fs : List Fn) (h1 : 0 ≤ f.regs) (h2 : f.regs ≤ 400) (h3 : (f.caps.xs.length : Int) ≤ 9223372036854775807) : filledB f fs = (f.code.xs.all (rinsB f fs.length) && f.code.xs.all (closB f fs)) := by
  unfold filledB
  rw [← all_and]
  refine all_congr' _ _ _ fun y _ => ?_
  unfold insB
  rw [clos_makes f fs y h1 h2 h3]
  rfl

theorem rcheck_same (fs : List Fn) (h3 : ∀ f ∈ fs, (f.caps.xs.length : Int) ≤ 9223372036854775807) : rcheckB fs = checkB fs := by
  unfold rcheckB checkB
  rw [Bool.and_assoc, ← all_and]
  congr 1
  refine all_congr' _ _ _ fun f hf => ?_
  unfold functionB fnOkB
  cases hs : sizedB f with
  | false => rfl
  | true =>
    obtain ⟨_, _, _, g1, g2, _, _⟩ := sized_out hs
    rw [filled_both f fs g1 g2 (h3 f hf)]
    cases f.code.xs.all (rinsB f fs.length) <;> cases flowsB f <;> cases f.code.xs.all (closB f fs) <;> rfl

end Go.Proofs.YtkoamenfbnpdbaaDoor.Cd
