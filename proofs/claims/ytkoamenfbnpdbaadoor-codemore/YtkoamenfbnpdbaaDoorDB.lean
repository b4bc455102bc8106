/- Functions that are put into a row of the call's own, one by one. -/
import Derived.Test.YtkoamenfbnpdbaaDoorDA
import Derived.Test.YtkoamenfbnpdbaaDoorCR
import Derived.Deep.AppendLies
namespace Go.Proofs.YtkoamenfbnpdbaaDoor.Cd
open Go.RowKit Go.Deep
set_option linter.unusedVariables false

/-- as ok, and its block is one of some -/
structure Sli.okn {β : Type} (N : Nat → Prop) (enc : β → List Value) (k : Nat) (w : World) (s : Sli β) : Prop where
  len : s.xs.length ≤ s.cap
  cap : s.cap ≤ maxLen
  cells : s.xs ≠ [] → ∃ b off, s.at' = some ⟨b, off, none⟩ ∧ N b ∧ ∀ i y, s.xs[i]? = some y → ∀ j u, (enc y)[j]? = some u → w.cell? ⟨b, off + i * k + j, none⟩ = some u

theorem Sli.okn.ok {β : Type} {N : Nat → Prop} {enc : β → List Value} {k : Nat} {w : World} {s : Sli β} (h : s.okn N enc k w) : s.ok enc k w :=
  ⟨h.len, h.cap, fun h0 => by
    obtain ⟨b, off, h1, _, h2⟩ := h.cells h0
    exact ⟨b, off, h1, h2⟩⟩

theorem Sli.okn.move {β : Type} {N N' : Nat → Prop} {enc : β → List Value} {k : Nat} {w w' : World} {s : Sli β} (h : s.okn N enc k w) (h1 : ∀ b, N b → N' b) (h2 : ∀ b j u, N b → w.cell? ⟨b, j, none⟩ = some u → w'.cell? ⟨b, j, none⟩ = some u) : s.okn N' enc k w' :=
  ⟨h.len, h.cap, fun h0 => by
    obtain ⟨b, off, e1, e2, e3⟩ := h.cells h0
    exact ⟨b, off, e1, h1 b e2, fun i y hi j u hj => h2 _ _ _ e2 (e3 i y hi j u hj)⟩⟩

theorem Sli.ok.okn {β : Type} {N : Nat → Prop} {enc : β → List Value} {k : Nat} {w : World} {s : Sli β} (h : s.ok enc k w) (he : ∀ y, 0 < (enc y).length) (hN : ∀ b, b < w.heap.size → N b) : s.okn N enc k w :=
  ⟨h.len, h.cap, fun h0 => by
    obtain ⟨b, off, e1, e2⟩ := h.cells h0
    refine ⟨b, off, e1, hN b ?_, e2⟩
    have l0 := List.length_pos_iff.2 h0
    have e3 := e2 0 _ (List.getElem?_eq_getElem l0) 0 _ (List.getElem?_eq_getElem (he _))
    exact World.block_lt_of_cell? w _ e3⟩

structure Fn.okn (N : Nat → Prop) (w : World) (f : Fn) : Prop where
  code : f.code.okn N insC 4 w
  consts : f.consts.okn N cstC 3 w
  caps : f.caps.okn N capC 2 w
  hnds : f.hnds.okn N hndC 3 w

theorem Fn.okn.ok {N : Nat → Prop} {w : World} {f : Fn} (h : f.okn N w) : f.ok w := ⟨h.code.ok, h.consts.ok, h.caps.ok, h.hnds.ok⟩
theorem Fn.okn.move {N N' : Nat → Prop} {w w' : World} {f : Fn} (h : f.okn N w) (h1 : ∀ b, N b → N' b) (h2 : ∀ b j u, N b → w.cell? ⟨b, j, none⟩ = some u → w'.cell? ⟨b, j, none⟩ = some u) : f.okn N' w' :=
  ⟨h.code.move h1 h2, h.consts.move h1 h2, h.caps.move h1 h2, h.hnds.move h1 h2⟩
theorem Fn.ok.okn {N : Nat → Prop} {w : World} {f : Fn} (h : f.ok w) (hN : ∀ b, b < w.heap.size → N b) : f.okn N w :=
  ⟨h.code.okn (fun _ => by simp [insC]) hN, h.consts.okn (fun _ => by simp [cstC]) hN, h.caps.okn (fun _ => by simp [capC]) hN, h.hnds.okn (fun _ => by simp [hndC]) hN⟩

/-- blocks that neither the variable at gq nor the row is -/
def Nq (gq : Nat) (v : Value) (w : World) (b : Nat) : Prop := b < w.heap.size ∧ b ≠ gq ∧ some b ≠ v.ownBlock

/-- the variable at gq holds a row of these functions -/
structure QAt (w2 wr : World) (gq : Nat) (v : Value) (gs : List Fn) : Prop where
  bel : Below w2.heap.size w2 wr
  gqe : w2.heap.size ≤ gq
  box : wr.heap[gq]? = some (.cells #[v] 24 (0, 0))
  own : wr.ownsRow (gq + 1) 36 8 v gs.length (gs.flatMap fnC)
  each : ∀ g ∈ gs, g.okn (Nq gq v wr) wr

theorem QAt.lt {w2 wr : World} {gq : Nat} {v : Value} {gs : List Fn} (h : QAt w2 wr gq v gs) : gq < wr.heap.size := (Array.getElem?_eq_some_iff.1 h.box).1

/-- new blocks change nothing of it -/
theorem QAt.new {w2 wr wz : World} {gq : Nat} {v : Value} {gs : List Fn} (h : QAt w2 wr gq v gs) (hb : Below wr.heap.size wr wz) : QAt w2 wz gq v gs := by
  refine ⟨h.bel.trans (hb.mono h.bel.size), h.gqe, (hb.block gq h.lt).trans h.box, World.ownsRow.kept h.own (grown_of_below hb) (by cases hv : v.ownBlock <;> simp), fun g hg => ?_⟩
  refine (h.each g hg).move (fun b hb2 => ⟨by have := hb2.1; have := hb.size; omega, hb2.2⟩) (fun b j u hn hc => ?_)
  rw [hb.cell (p := ⟨b, j, none⟩) hn.1]
  exact hc

theorem own_blk {w : World} {B e s n : Nat} {v : Value} {xs : List Value} (h : w.ownsRow B e s v n xs) : ∀ k, v.ownBlock = some k → B ≤ k ∧ k < w.heap.size := by
  intro k hk
  rcases h.2 with ⟨rfl, _⟩ | ⟨g, cap, cur, rfl, hb, hg, _⟩
  · simp [Value.ownBlock] at hk
  · simp [Value.ownBlock] at hk
    subst hk
    exact ⟨hb, (Array.getElem?_eq_some_iff.1 hg).1⟩

/-- one function more -/
theorem QAt.put {w2 wz w5 : World} {gq g cap : Nat} {v : Value} {gs : List Fn} {f : Fn} (h : QAt w2 wz gq v gs) (hf : f.okn (Nq gq v wz) wz)
    (ho : w5.ownsRow (gq + 1) 36 8 (.slice (some ⟨g, 0, none⟩) (gs.length + 1) cap) (gs.length + 1) (gs.flatMap fnC ++ fnC f)) (hg : wz.grownBy w5 v.ownBlock) (hl : v.ownBlock = some g ∨ wz.heap.size ≤ g) :
    QAt w2 (w5.setCell ⟨gq, 0, none⟩ (.slice (some ⟨g, 0, none⟩) (gs.length + 1) cap)) gq (.slice (some ⟨g, 0, none⟩) (gs.length + 1) cap) (gs ++ [f]) := by
  have hgq := h.lt
  have hne : some gq ≠ v.ownBlock := fun e => by
    have := (own_blk h.own gq e.symm).1
    omega
  have hg2 : g ≠ gq := by
    rcases hl with e | e
    · have := (own_blk h.own g e).1; omega
    · omega
  have b5 : Below w2.heap.size w2 w5 := h.bel.grown hg h.bel.size (fun k hk => by have := (own_blk h.own k hk).1; have := h.gqe; omega)
  have hbox : w5.heap[gq]? = some (.cells #[v] 24 (0, 0)) := (hg.block gq hgq hne).trans h.box
  have hcell : ∀ b j u, Nq gq v wz b → wz.cell? ⟨b, j, none⟩ = some u → (w5.setCell ⟨gq, 0, none⟩ (.slice (some ⟨g, 0, none⟩) (gs.length + 1) cap)).cell? ⟨b, j, none⟩ = some u := by
    intro b j u hn hc
    rw [World.cell?_of_block (heap_setCell_other w5 _ _ _ (show b ≠ gq from hn.2.1))]
    rw [hg.cell_far ⟨b, j, none⟩ hn.1 hn.2.2]
    exact hc
  have hN : ∀ b, Nq gq v wz b → Nq gq (.slice (some ⟨g, 0, none⟩) (gs.length + 1) cap) (w5.setCell ⟨gq, 0, none⟩ (.slice (some ⟨g, 0, none⟩) (gs.length + 1) cap)) b := by
    intro b hn
    refine ⟨by rw [World.size_setCell]; have := hn.1; have := hg.size; omega, hn.2.1, ?_⟩
    intro e
    have e' : b = g := by simpa [Value.ownBlock] using e
    rcases hl with k | k
    · exact hn.2.2 (by rw [e', k])
    · have := hn.1; omega
  refine ⟨b5.setCell (p := ⟨gq, 0, none⟩) h.gqe _, h.gqe, heap_setCell_same _ _ 0 _ _ _ hbox, ?_, ?_⟩
  · have k1 : (w5.setCell ⟨gq, 0, none⟩ (.slice (some ⟨g, 0, none⟩) (gs.length + 1) cap)).ownsRow (gq + 1) 36 8 (.slice (some ⟨g, 0, none⟩) (gs.length + 1) cap) (gs.length + 1) (gs.flatMap fnC ++ fnC f) := by
      refine ⟨ho.1, ?_⟩
      rcases ho.2 with ⟨e, _⟩ | ⟨g', cap', cur, e, a1, a2, a3⟩
      · cases e
      · cases e
        exact Or.inr ⟨g, cap, cur, rfl, a1, by rw [heap_setCell_other w5 _ _ _ (show g ≠ gq from hg2)]; exact a2, a3⟩
    rw [List.length_append, List.flatMap_append]
    have e2 : [f].flatMap fnC = fnC f := by simp
    rw [e2]
    exact k1
  · intro x hx
    rw [List.mem_append] at hx
    rcases hx with hx | hx
    · exact (h.each x hx).move hN hcell
    · rw [List.mem_singleton] at hx
      subst hx
      exact hf.move hN hcell

theorem flat8 (gs : List Fn) (i j : Nat) (hj : j < 8) (f : Fn) (h : gs[i]? = some f) : (gs.flatMap fnC)[i * 8 + j]? = (fnC f)[j]? := by
  induction gs generalizing i with
  | nil => simp at h
  | cons a r ih =>
    rw [List.flatMap_cons]
    have l8 : (fnC a).length = 8 := rfl
    cases i with
    | zero =>
      simp at h
      subst h
      rw [List.getElem?_append_left (by omega)]
      congr 1
      omega
    | succ i =>
      rw [List.getElem?_append_right (by omega), l8, show (i + 1) * 8 + j - 8 = i * 8 + j from by omega]
      exact ih i (by simpa using h)

/-- such a row, read -/
theorem QAt.fns {w2 wr : World} {gq : Nat} {v : Value} {gs : List Fn} (h : QAt w2 wr gq v gs) : ∃ ad cap, v = .slice ad gs.length cap ∧ FnsOk wr ⟨ad, cap, gs⟩ := by
  rcases h.own.2 with ⟨rfl, hn⟩ | ⟨g, cap, cur, rfl, hb, hg, hnc, hcm, hcs, ht⟩
  · have e := List.length_eq_zero_iff.1 hn
    subst e
    exact ⟨none, 0, rfl, ⟨⟨Nat.le_refl _, Nat.zero_le _, fun h => absurd rfl h⟩, fun f hf => by cases hf⟩⟩
  · refine ⟨some ⟨g, 0, none⟩, cap, rfl, ⟨⟨hnc, hcm, fun h0 => ⟨g, 0, rfl, ?_⟩⟩, fun f hf => (h.each f hf).ok⟩⟩
    intro i y hi j u hj
    have hi' : gs[i]? = some y := hi
    have jl : j < 8 := by
      rcases Nat.lt_or_ge j 8 with k | k
      · exact k
      · rw [List.getElem?_eq_none (by exact k)] at hj; cases hj
    have il : i < gs.length := by
      rcases Nat.lt_or_ge i gs.length with k | k
      · exact k
      · rw [List.getElem?_eq_none k] at hi'; cases hi'
    rw [cell_of_row wr g _ cur 36 (0, 0) hg]
    have e := flat8 gs i j jl y hi'
    rw [← ht, List.getElem?_take_of_lt (by omega), hj] at e
    simpa using e

end Go.Proofs.YtkoamenfbnpdbaaDoor.Cd
