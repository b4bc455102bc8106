/- Rows that were told. -/
import Derived.Test.YtihmdcdifakepaaB23
import Derived.Test.YtihmdcdifakepaaB25
namespace Go.Proofs.Ytihmdcdifakepaa.Rv
open Go.RowKit Go.Proofs.Ytihmdcdifakepaa.Sc Go.Proofs.Ytihmdcdifakepaa.Rz
set_option linter.unusedVariables false
set_option linter.unusedSimpArgs false

/-- a variable that holds what was told -/
theorem row_cells {β : Type} {enc : β → List Value} {k : Nat} {e : TypeId} {B : Nat} {w : World} {p : Option Addr} {m q : Nat} {xs : List β} (hk : ∀ y, (enc y).length = k) (h : OwnR enc k e B w (.slice p m q) xs) {i : Nat} {y : β} (hi : xs[i]? = some y) :
    ∃ g, p = some ⟨g, 0, none⟩ ∧ ∀ (W : World), Below w.heap.size w W → ∀ (j : Nat) (u : Value), (enc y)[j]? = some u → W.cell? ⟨g, i * k + j, none⟩ = some u := by
  obtain ⟨ad, cap, e1, l1, l2, hg⟩ := own_slice h
  cases e1
  obtain ⟨g, rfl⟩ := hg (fun e => by rw [e] at hi; simp at hi)
  obtain ⟨_, _, hlt, _, _, r6, _⟩ := h.read hk
  exact ⟨g, rfl, fun W hW j u hu => Sc.cells_below hW _ _ (r6 i y hi j u hu)⟩

theorem row_len {β : Type} {enc : β → List Value} {k : Nat} {e : TypeId} {B : Nat} {w : World} {v : Value} {xs : List β} (h : OwnR enc k e B w v xs) : ∃ p q, v = .slice p xs.length q := by
  obtain ⟨ad, cap, e1, _⟩ := own_slice h
  exact ⟨ad, cap, e1⟩

end Go.Proofs.Ytihmdcdifakepaa.Rv
