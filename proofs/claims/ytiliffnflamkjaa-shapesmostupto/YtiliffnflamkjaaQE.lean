/- The document's Add: its rows. -/
import Derived.Test.YtiliffnflamkjaaQD
namespace Go.Proofs.Ytiliffnflamkjaa.Sp
open Go.RowKit
set_option linter.unusedVariables false

section
variable {β : Type} {enc : β → List Value} {t e : TypeId} {k bytes : Nat}

theorem step_row2 (R : RT enc t e k bytes) {W : World} {ops : Array Oper} {o : Oper} {a : Act} {K : Act → World → Prop} {Q : Exit → Act → World → Prop} {E : Prop} (hgd : o.guard = none) (s x : Operand)
    (ho : o.op = .call { callee := .builtin .append, args := #[s, x], argTypes := #[t, t] })
    (B : Nat) (v : Value) (xs : List β) (hs : a.eval s = v) (hown : OwnR enc k e B W v xs) (cb : Nat) (y : β) (cs : Array Value) (t' : TypeId) (hx : a.eval x = .slice (some ⟨cb, 0, none⟩) 1 1) (hcb : W.heap[cb]? = some (.cells cs t' (0, 0))) (hcs : cs.toList = enc y)
    (hm : xs.length + 1 ≤ maxLen) (hb : (xs.length + 1) * bytes ≤ 140737488355328) (hB : B ≤ W.heap.size)
    (h : ∀ g cap w', OwnR enc k e B w' (.slice (some ⟨g, 0, none⟩) (xs.length + 1) cap) (xs ++ [y]) → W.grownBy w' v.ownBlock → (v.ownBlock = some g ∨ W.heap.size ≤ g) → K (a.put o.dst (.slice (some ⟨g, 0, none⟩) (xs.length + 1) cap)) w') :
    if Region.wanted o (yielded ops a.tmps) = true then Oper.wp Try.prog o a W K Q else E := by
  obtain ⟨i, z, hi, hz, h1, h2, h3⟩ := R.inf
  have hn : ∀ j u, (enc y)[j]? = some u → W.cell? ((⟨cb, 0, none⟩ : Addr).add j) = some u := by
    rw [← hcs]
    exact World.news_of_block (cs := cs) (t := t') (fr := (0, 0)) hcb
  refine step_append_lies _ hgd s x t ho B e i z k bytes R.und hi hz h1 h2 h3 R.pos v xs.length (xs.flatMap enc) hs hown ⟨cb, 0, none⟩ 1 1 (enc y) hx (by rw [R.len, Nat.one_mul]) hn (R.one y) (by decide) hm hb hB _ rfl ?_
  intro g cap w' g1 g2 g3 _
  refine h g cap w' ?_ g2 (g3.imp id (fun q => by omega))
  unfold OwnR
  rw [List.length_append, List.flatMap_append]
  have : [y].flatMap enc = enc y := by simp
  rw [this]
  exact g1

theorem own_by {B : Nat} {W w' : World} {v : Value} {xs : List β} {row : Option Nat} (hg : W.grownBy w' row) (hne : ∀ b, v.ownBlock = some b → row ≠ some b) (h : OwnR enc k e B W v xs) : OwnR enc k e B w' v xs :=
  h.kept (S := fun b => row = some b) (Chg.of_grown hg (fun k q => q)) (fun b q => hne b q)
theorem own_new {B : Nat} {W : World} {v : Value} {xs : List β} {o : Obj} (h : OwnR enc k e B W v xs) : OwnR enc k e B (W.alloc o) v xs := h.below ((Below.refl _ _).alloc (Nat.le_refl _) _)
theorem own_drew {B : Nat} {W : World} {v : Value} {xs : List β} (h : OwnR enc k e B W v xs) : OwnR enc k e B W.drew v xs := h
theorem own_okn {B : Nat} {W : World} {g n c : Nat} {xs : List β} {N : Nat → Prop} (hk : ∀ y, (enc y).length = k) (h : OwnR enc k e B W (.slice (some ⟨g, 0, none⟩) n c) xs) (hN : ∀ b, B ≤ b → N b) : Sli.okn N enc k W ⟨some ⟨g, 0, none⟩, c, xs⟩ := by
  obtain ⟨⟨a, c', x'⟩, h1, h2, h3⟩ := h.okn hk hN
  unfold Sli.val at h1
  simp only at h1 h2
  subst h2
  cases h1
  exact h3

end

theorem at_by {W w' : World} {cb : Nat} {o : Obj} {row : Option Nat} (hg : W.grownBy w' row) (hne : row ≠ some cb) (h : W.heap[cb]? = some o) : w'.heap[cb]? = some o := by
  rw [hg.block cb (Array.getElem?_eq_some_iff.1 h).1 (fun q => hne q.symm)]
  exact h
theorem at_drew {W : World} {cb : Nat} {o : Obj} (h : W.heap[cb]? = some o) : W.drew.heap[cb]? = some o := h
theorem set2_cell {w : World} {g bk o : Nat} {u x y : Value} (h : w.cell? ⟨bk, o, none⟩ = some u) (hne : bk ≠ g) : ((w.setCell ⟨g, 0, none⟩ x).setCell ⟨g, 1, none⟩ y).cell? ⟨bk, o, none⟩ = some u := by
  rw [World.cell?_setCell_other _ _ _ _ (by intro q; cases q; exact hne rfl), World.cell?_setCell_other _ _ _ _ (by intro q; cases q; exact hne rfl)]
  exact h
theorem sz_by {n : Nat} {W w' : World} {row : Option Nat} (hg : W.grownBy w' row) (h : n ≤ W.heap.size) : n ≤ w'.heap.size := Nat.le_trans h hg.size
theorem sz_new {n : Nat} {W : World} {o : Obj} (h : n ≤ W.heap.size) : n ≤ (W.alloc o).heap.size := by rw [size_new]; omega
theorem sz_drew {n : Nat} {W : World} (h : n ≤ W.heap.size) : n ≤ W.drew.heap.size := h
theorem bel_by {D : Nat} {wd W w' : World} {row : Option Nat} (hg : W.grownBy w' row) (hr : ∀ b, row = some b → D ≤ b) (hD : D ≤ wd.heap.size) (h : Below D wd W) : Below D wd w' :=
  Chg.below (Chg.of_grown (S := fun b => row = some b) hg (fun k q => q)) h (Nat.le_trans hD h.size) hr
theorem bel_new {D : Nat} {wd W : World} {o : Obj} (hD : D ≤ wd.heap.size) (h : Below D wd W) : Below D wd (W.alloc o) := h.alloc (Nat.le_trans hD h.size) o

end Go.Proofs.Ytiliffnflamkjaa.Sp
