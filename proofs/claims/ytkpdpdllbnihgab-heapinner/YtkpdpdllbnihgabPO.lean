/- New. -/
import Derived.Test.YtkpdpdllbnihgabPH
namespace Go.Proofs.Ytkpdpdllbnihgab.Sp
open Go.RowKit Go.Proofs.Ytkpdpdllbnihgab.Hp
set_option linter.unusedVariables false

set_option maxRecDepth 100000 in
theorem new_any (w : World) (most : Int) :
    Calls Try.prog 26 #[.int .i64 most] w fun e w' => ∃ tb O, e = .returned (.pointer (some ⟨tb, 0, none⟩)) ∧ Tree w' w.heap.size tb O most [] ∧ Below w.heap.size w w' := by
  have HM : Hid (∀ w' , w' = (w.alloc (.map #[] 0)).alloc (.cells #[.int .i64 most, .slice none 0 0, .map (some w.heap.size)] 90) → Tree w' w.heap.size (w.heap.size + 1) (fun b => b = w.heap.size + 1 ∨ b = w.heap.size ∨ (Value.slice none 0 0).ownBlock = some b) most [] ∧ Below w.heap.size w w') := by
    rintro w' rfl
    refine ⟨⟨[], .slice none 0 0, w.heap.size, ⟨at_two _ _ _, OwnR.nil _ _, ⟨#[], 0, at_old _ _ _ _ (at_new _ _), rfl⟩, ⟨rfl, fun i l s h => by simp at h, fun i j a b h => by simp at h⟩, fun x hx => by simp at hx, by simp, by omega, by omega, by omega, by simp [Value.ownBlock], by simp [Value.ownBlock], fun b => Iff.rfl⟩⟩, B2 _ _ _⟩
  have hmm : (Instr.makeMap 87 none).run Try.prog w = .ok (.map (some w.heap.size)) (w.alloc (.map #[] 0)) := rfl
  go_enter Try.func26, Try.ntmps26
  go_wp2_with fail
  go_ret
  obtain ⟨h1, h2⟩ := HM.out _ rfl
  exact ⟨_, _, rfl, h1, h2⟩

end Go.Proofs.Ytkpdpdllbnihgab.Sp
