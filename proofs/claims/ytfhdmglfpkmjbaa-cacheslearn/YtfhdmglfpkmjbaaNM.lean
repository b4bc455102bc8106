/- CachesForward: who says it, and the states. -/
import Derived.Test.YtfhdmglfpkmjbaaNL
namespace Go.Proofs.Ytfhdmglfpkmjbaa.Hp
open Go.RowKit
set_option linter.unusedVariables false
set_option linter.unusedSimpArgs false

/-- a list of numbers that is handed in, in a variable -/
structure VaS (vb : Nat) (m : Sli Int) (w : World) : Prop where
  box : w.heap[vb]? = some (.cells #[m.val] 27 (0, 0))
  ok : m.ok iC 1 w
theorem VaS.below {vb : Nat} {m : Sli Int} {w w' : World} (h : VaS vb m w) (hb : Below w.heap.size w w') : VaS vb m w' :=
  ⟨by rw [hb.block vb (Array.getElem?_eq_some_iff.1 h.box).1]; exact h.box, h.ok.kept (cells_below hb)⟩

set_option maxRecDepth 100000 in
theorem ask_fwd (vb : Nat) (m : Sli Int) : Ask (VaS vb m) 17 #[.pointer (some ⟨vb, 0, none⟩)] (inB m.xs) := by
  refine ⟨fun _ _ => by kernel_rfl, fun h hb => h.below hb, fun c w hX => ?_⟩
  have c0 : w.cell? ⟨vb, 0, none⟩ = some m.val := cell_of_row w vb 0 _ _ (0, 0) hX.box
  have ki := in_any m c w hX.ok
  unfold Sli.val at c0 ki
  generalize inB m.xs c = R at *
  clear hX
  show Calls Try.prog 17 #[.int .i64 c, .pointer (some ⟨vb, 0, none⟩)] w _
  go_enter Try.func17, Try.ntmps17
  go_wp2_with fail
  refine ki.mono ?_
  rintro ee w2 ⟨rfl, rfl⟩
  go_wp2_with fail
  go_ret
  exact ⟨rfl, Below.refl _ _⟩

set_option maxRecDepth 100000 in
theorem ask_lrn (vb : Nat) (m : Sli Int) : Ask (VaS vb m) 9 #[.pointer (some ⟨vb, 0, none⟩)] (inB m.xs) := by
  refine ⟨fun _ _ => by kernel_rfl, fun h hb => h.below hb, fun c w hX => ?_⟩
  have c0 : w.cell? ⟨vb, 0, none⟩ = some m.val := cell_of_row w vb 0 _ _ (0, 0) hX.box
  have ki := in_any m c w hX.ok
  unfold Sli.val at c0 ki
  generalize inB m.xs c = R at *
  clear hX
  show Calls Try.prog 9 #[.int .i64 c, .pointer (some ⟨vb, 0, none⟩)] w _
  go_enter Try.func9, Try.ntmps9
  go_wp2_with fail
  refine ki.mono ?_
  rintro ee w2 ⟨rfl, rfl⟩
  go_wp2_with fail
  go_ret
  exact ⟨rfl, Below.refl _ _⟩

theorem lrn_state {vf : Int → Bool} {st : Int} {es : List En} {e : En} (h : 0 ≤ st ∧ st ≤ 3) : ((lrnP vf st es e).1 = 3 ∧ (lrnP vf st es e).2 = []) ∨ (st ≤ (lrnP vf st es e).1 ∧ 1 ≤ (lrnP vf st es e).1 ∧ (lrnP vf st es e).1 < 3 ∧ e ∈ (lrnP vf st es e).2) := by
  unfold lrnP
  by_cases c3 : st = 3
  · rw [if_pos c3]; exact Or.inl ⟨rfl, rfl⟩
  rw [if_neg c3]
  by_cases c4 : 4 < (othE vf e.sh es ++ [e]).length
  · rw [if_pos c4]; exact Or.inl ⟨rfl, rfl⟩
  rw [if_neg c4]
  by_cases c1 : 1 < (othE vf e.sh es ++ [e]).length ∨ st = 2
  · rw [if_pos c1]; exact Or.inr ⟨by show st ≤ 2; omega, by show (1 : Int) ≤ 2; omega, by show (2 : Int) < 3; omega, by simp⟩
  · rw [if_neg c1]
    have : st ≠ 2 := fun q => c1 (Or.inr q)
    exact Or.inr ⟨by show st ≤ 1; omega, by show (1 : Int) ≤ 1; omega, by show (1 : Int) < 3; omega, by simp⟩

/-- a site on its way through CachesForward -/
def FwS (w0 w : World) (sb : Nat) : Prop := ∃ st ad cp es, SiS w0 w sb st ad cp es ∧ Fine es ∧ 0 ≤ st ∧ st ≤ 3
theorem FwS.bel {w0 w : World} {sb : Nat} (h : FwS w0 w sb) : Below w0.heap.size w0 w := by obtain ⟨_, _, _, _, h1, _⟩ := h; exact h1.bel
theorem FwS.below {w0 w w' : World} {sb : Nat} (h : FwS w0 w sb) (hb : Below w.heap.size w w') : FwS w0 w' sb := by obtain ⟨_, _, _, _, h1, h2⟩ := h; exact ⟨_, _, _, _, h1.below hb, h2⟩
theorem fine_ne {es : List En} (h : Fine es) {i k : Nat} {x y : En} (hi : es[i]? = some x) (hk : es[k]? = some y) (hne : k < i) : x.sh ≠ y.sh := by
  intro q
  have h1 : (es.map En.sh)[i]? = some x.sh := by rw [List.getElem?_map, hi]; rfl
  have h2 : (es.map En.sh)[k]? = some y.sh := by rw [List.getElem?_map, hk]; rfl
  obtain ⟨p1, p2⟩ := List.getElem?_eq_some_iff.1 h1
  obtain ⟨p3, p4⟩ := List.getElem?_eq_some_iff.1 h2
  have := (List.getElem_inj h.1).1 (p2.trans (q.trans p4.symm))
  omega
end Go.Proofs.Ytfhdmglfpkmjbaa.Hp
