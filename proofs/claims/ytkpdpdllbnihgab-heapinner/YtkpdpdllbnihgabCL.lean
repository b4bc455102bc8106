/- Make. -/
import Derived.Test.YtkpdpdllbnihgabCK
import Derived.Deep.RegionLaw
import Derived.Deep.Cut
namespace Go.Proofs.Ytkpdpdllbnihgab.Ce
open Go.RowKit Go.Proofs.Ytkpdpdllbnihgab.Hp
set_option linter.unusedVariables false

/-- what a call leaves: cells, and all else that was there -/
def Went (w : World) (B cb : Nat) (O : Nat → Prop) (l : List Cel) (w' : World) : Prop := ∃ O', Cs w' B cb O' l ∧ Chg O w w' ∧ ∀ b, O' b → O b ∨ w.heap.size ≤ b

theorem Went.same {w w' : World} {B cb : Nat} {O : Nat → Prop} {l : List Cel} (h : Cs w B cb O l) (hb : Below w.heap.size w w') : Went w B cb O l w' :=
  ⟨O, h.below hb, Chg.of_below hb, fun b q => Or.inl q⟩

theorem Went.drew {w w' : World} {B cb : Nat} {O : Nat → Prop} {l : List Cel} (h : Went w B cb O l w') : Went w B cb O l w'.drew := by
  obtain ⟨O', h1, h2, h3⟩ := h
  exact ⟨O', h1.below ((Below.refl _ _).drew), h2.drew, h3⟩

/-- the cells with an entry more -/
theorem cs_push {w w5 : World} {B cb : Nat} {O : Nat → Prop} {E : List En} {v v5 : Value} (h : CsAt w B cb O E v) {x : En} (ho : OwnR enC 3 102 B w5 v5 (E ++ [x])) (hc : Chg (fun b => v.ownBlock = some b) w w5) (hv5 : ∀ b, v5.ownBlock = some b → v.ownBlock = some b ∨ w.heap.size ≤ b) :
    ∃ O', CsAt (w5.setCell ⟨cb, 0, none⟩ v5) B cb O' (E ++ [x]) v5 ∧ Chg O w (w5.setCell ⟨cb, 0, none⟩ v5) ∧ ∀ b, O' b → O b ∨ w.heap.size ≤ b := by
  have hcb : cb < w.heap.size := (Array.getElem?_eq_some_iff.1 h.box).1
  have hbox5 : w5.heap[cb]? = some (.cells #[v] 71 (0, 0)) := by rw [hc.block cb hcb (fun q => h.n2 q)]; exact h.box
  have hne : ∀ b, v5.ownBlock = some b → b ≠ cb := fun b hb e => by
    subst e
    rcases hv5 b hb with q | q
    · exact h.n2 q
    · omega
  refine ⟨fun b => b = cb ∨ v5.ownBlock = some b, ⟨heap_setCell_same w5 cb 0 _ 71 v5 hbox5, ho.set (a := ⟨cb, 0, none⟩) hne v5, h.b1, fun q => hne cb q rfl, fun b => Iff.rfl⟩, ?_, ?_⟩
  · refine (hc.mono (S' := O) (fun k q => (h.os k).2 (Or.inr q))).trans (Chg.set (S := fun b => b = cb) w5 ⟨cb, 0, none⟩ v5 rfl) (fun i _ q => (h.os i).2 (Or.inl q))
  · intro b q
    rcases q with q | q
    · exact Or.inl ((h.os b).2 (Or.inl q))
    · rcases hv5 b q with c | c
      · exact Or.inl ((h.os b).2 (Or.inr c))
      · exact Or.inr c

/-- from the entries' world on -/
theorem went_push {w wc w5 : World} {B cb mb : Nat} {O : Nat → Prop} {E : List En} {l : List Cel} {ad : Option Addr} {cap : Nat} (h : CsAt wc B cb O E (.slice ad E.length cap)) (hw : Chg O w wc) {x : En} (hr : Rl (E ++ [x]) l) (hi : Inv l) (ht : l.length ≤ top)
    {g cap5 : Nat} (ho : OwnR enC 3 102 B w5 (.slice (some ⟨g, 0, none⟩) (E.length + 1) cap5) (E ++ [x])) (hc : Chg (fun b => (Value.slice ad E.length cap).ownBlock = some b) wc w5) (hg : (Value.slice ad E.length cap).ownBlock = some g ∨ wc.heap.size ≤ g) :
    Went w B cb O l (w5.setCell ⟨cb, 0, none⟩ (.slice (some ⟨g, 0, none⟩) (E.length + 1) cap5)) := by
  obtain ⟨O', h1, h2, h3⟩ := cs_push h ho hc (fun b hb => by
    simp [Value.ownBlock] at hb
    subst hb
    exact hg)
  exact ⟨O', ⟨_, _, h1, hr, hi, ht⟩, hw.trans h2 (fun _ _ q => q), fun b q => (h3 b q).imp id (fun q => Nat.le_trans hw.size q)⟩



end Go.Proofs.Ytkpdpdllbnihgab.Ce
