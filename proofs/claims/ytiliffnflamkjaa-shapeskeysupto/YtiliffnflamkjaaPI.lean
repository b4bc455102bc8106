/- Rows of properties; properties. -/
import Derived.Test.YtiliffnflamkjaaPH
import Derived.OwnWalk
namespace Go.Proofs.Ytiliffnflamkjaa.Sp
open Go.RowKit
set_option linter.unusedVariables false

structure Pr where
  ke : ByteArray
  fl : Int
  la : Bool

def prC (p : Pr) : List Value := [.string p.ke, .int .i64 p.fl, .bool p.la]
theorem prC_len (p : Pr) : (prC p).length = 3 := rfl

/-- a row of properties in a block -/
def PrAt (w : World) (g : Nat) (ps : List Pr) : Prop := ∃ cur, w.heap[g]? = some (.cells cur 63 (0, 0)) ∧ cur.toList = ps.flatMap prC

theorem flat_set : ∀ (ps : List Pr) (i : Nat) (p : Pr), i < ps.length → (((ps.flatMap prC).set (i * 3) (.string p.ke)).set (i * 3 + 1) (.int .i64 p.fl)).set (i * 3 + 2) (.bool p.la) = (ps.set i p).flatMap prC
  | [], i, p, h => by simp at h
  | x :: ps, 0, p, h => by simp [prC]
  | x :: ps, i + 1, p, h => by
    have ih := flat_set ps i p (by simpa using h)
    rw [List.set_cons_succ, List.flatMap_cons, List.flatMap_cons, ← ih]
    rw [List.set_append_right _ _ (by rw [prC_len]; omega), List.set_append_right _ _ (by rw [prC_len]; omega), List.set_append_right _ _ (by rw [prC_len]; omega), prC_len]
    rw [show (i + 1) * 3 - 3 = i * 3 by omega, show (i + 1) * 3 + 1 - 3 = i * 3 + 1 by omega, show (i + 1) * 3 + 2 - 3 = i * 3 + 2 by omega]

theorem PrAt.put {w : World} {g : Nat} {ps : List Pr} (h : PrAt w g ps) (i : Nat) (p : Pr) (hi : i < ps.length) :
    PrAt (((w.setCell ⟨g, i * 3, none⟩ (.string p.ke)).setCell ⟨g, i * 3 + 1, none⟩ (.int .i64 p.fl)).setCell ⟨g, i * 3 + 2, none⟩ (.bool p.la)) g (ps.set i p) := by
  obtain ⟨cur, h1, h2⟩ := h
  refine ⟨_, heap_setCell_same _ g _ _ 63 _ (heap_setCell_same _ g _ _ 63 _ (heap_setCell_same w g _ cur 63 _ h1)), ?_⟩
  simp only [Array.toList_setIfInBounds, h2]
  exact flat_set ps i p hi

theorem PrAt.cell {w : World} {g : Nat} {ps : List Pr} (h : PrAt w g ps) (i : Nat) (p : Pr) (hp : ps[i]? = some p) (j : Nat) (u : Value) (hu : (prC p)[j]? = some u) : w.cell? ⟨g, i * 3 + j, none⟩ = some u ∧ w.frozen? ⟨g, i * 3 + j, none⟩ = false := by
  obtain ⟨cur, h1, h2⟩ := h
  refine ⟨?_, frozen_of_row w g _ cur 63 h1⟩
  rw [cell_of_row w g _ cur 63 (0, 0) h1]
  have := flat_at prC_len ps i p hp j u hu
  rw [← h2] at this
  simpa using this

theorem PrAt.kept {w w' : World} {g : Nat} {ps : List Pr} {S : Nat → Prop} (h : PrAt w g ps) (hc : Chg S w w') (hs : ¬ S g) : PrAt w' g ps := by
  obtain ⟨cur, h1, h2⟩ := h
  exact ⟨cur, by rw [hc.block g (Array.getElem?_eq_some_iff.1 h1).1 hs]; exact h1, h2⟩

theorem PrAt.lt {w : World} {g : Nat} {ps : List Pr} (h : PrAt w g ps) : g < w.heap.size := by
  obtain ⟨cur, h1, h2⟩ := h
  exact (Array.getElem?_eq_some_iff.1 h1).1

theorem made_flat (n : Nat) : (madeCells (Value.agg #[.string ⟨#[]⟩, .int .i64 0, .bool false]).cells (n * 3)).toList = (List.replicate n (⟨⟨#[]⟩, 0, false⟩ : Pr)).flatMap prC := by
  apply List.ext_getElem?
  intro i
  have hz : (Value.agg #[.string ⟨#[]⟩, .int .i64 0, .bool false]).cells = #[.string ⟨#[]⟩, .int .i64 0, .bool false] := rfl
  rw [hz]
  rcases Nat.lt_or_ge i (n * 3) with c | c
  · have e1 : (List.replicate n (⟨⟨#[]⟩, 0, false⟩ : Pr))[i / 3]? = some ⟨⟨#[]⟩, 0, false⟩ := by rw [List.getElem?_replicate, if_pos (by omega)]
    have hi : i = i / 3 * 3 + i % 3 := by omega
    have h3 : i % 3 < 3 := Nat.mod_lt _ (by omega)
    have : (madeCells #[.string ⟨#[]⟩, .int .i64 0, .bool false] (n * 3)).toList[i]? = (prC ⟨⟨#[]⟩, 0, false⟩)[i % 3]? := by
      simp only [madeCells, Array.toList_map, Array.toList_range, List.getElem?_map, List.getElem?_range c, Option.map_some]
      show some (#[Value.string ⟨#[]⟩, .int .i64 0, .bool false][i % 3]!) = _
      generalize i % 3 = r at h3
      match r, h3 with
      | 0, _ => rfl
      | 1, _ => rfl
      | 2, _ => rfl
    rw [this]
    have hl : i % 3 < (prC ⟨⟨#[]⟩, 0, false⟩).length := h3
    have e2 := flat_at prC_len _ (i / 3) _ e1 (i % 3) _ (List.getElem?_eq_getElem hl)
    rw [← hi] at e2
    rw [e2]
    exact List.getElem?_eq_getElem hl
  · rw [List.getElem?_eq_none (by rw [Array.length_toList, size_madeCells]; exact c), List.getElem?_eq_none (by rw [flat_len prC_len, List.length_replicate]; exact c)]

theorem prAt_made {w' : World} {B g n : Nat} (h : w'.ownsRow B 63 3 (.slice (some ⟨g, 0, none⟩) n n) n (madeCells (Value.agg #[.string ⟨#[]⟩, .int .i64 0, .bool false]).cells (n * 3)).toList) : PrAt w' g (List.replicate n ⟨⟨#[]⟩, 0, false⟩) := by
  rcases h.2 with ⟨h0, _⟩ | ⟨g', cap, cur, hv, _, hg, _, _, hs, ht⟩
  · cases h0
  · cases hv
    refine ⟨cur, hg, ?_⟩
    rw [← made_flat, ← ht, List.take_of_length_le (by rw [Array.length_toList, hs]; exact Nat.le_refl _)]

/-- the properties of a shape, as they come to be known, at one of the shapes from which it came -/
structure PrInv (ps : List Pr) (y S : Sh) : Prop where
  len : ps.length = S.ks.length
  le : y.ks.length ≤ S.ks.length
  all : ∀ (i : Nat) (p : Pr), ps[i]? = some p → (p.la = true ∧ S.ks[i]? = some p.ke ∧ S.fs[i]? = some p.fl) ∨ (p.la = false ∧ y.ks[i]? = S.ks[i]? ∧ y.fs[i]? = S.fs[i]?)

theorem PrInv.start (S : Sh) : PrInv (List.replicate S.ks.length ⟨⟨#[]⟩, 0, false⟩) S S := by
  refine ⟨by simp, Nat.le_refl _, fun i p h => ?_⟩
  rw [List.getElem?_replicate] at h
  split at h
  · cases h
    exact Or.inr ⟨rfl, rfl, rfl⟩
  · cases h

/-- they are all known at the end -/
def propsOf (S : Sh) : List Pr := (S.ks.zip S.fs).map fun x => ⟨x.1, x.2, true⟩

theorem PrInv.done {ps : List Pr} {y S : Sh} (h : PrInv ps y S) (hf : S.fs.length = S.ks.length) (hy : y.ks = []) : ps = propsOf S := by
  apply List.ext_getElem?
  intro i
  unfold propsOf
  rw [List.getElem?_map]
  cases hp : ps[i]? with
  | none =>
    have : ps.length ≤ i := List.getElem?_eq_none_iff.1 hp
    rw [List.getElem?_eq_none (by rw [List.length_zip]; have := h.len; omega)]
    rfl
  | some p =>
    have hil : i < ps.length := (List.getElem?_eq_some_iff.1 hp).1
    rcases h.all i p hp with ⟨a, b, c⟩ | ⟨a, b, c⟩
    · have : (S.ks.zip S.fs)[i]? = some (p.ke, p.fl) := List.getElem?_zip_eq_some.2 ⟨b, c⟩
      rw [this]
      obtain ⟨pk, pf, pl⟩ := p
      simp only at a
      subst a
      rfl
    · rw [hy] at b
      have hil2 : i < S.ks.length := by rw [← h.len]; exact hil
      rw [List.getElem?_eq_getElem hil2] at b
      simp at b

/-- a step back -/
theorem PrInv.step {T : List Ly} {L : List Sh} (hr : Rel T L) {j : Nat} {x : Ly} {y S : Sh} (hx : T[j]? = some x) (hy : L[j]? = some y) {ps : List Pr} (h : PrInv ps y S) :
    (x.kd = 0 ∧ y.ks = []) ∨ (x.kd ≠ 0 ∧ x.sl < ps.length ∧ ∃ p q, ps[x.sl]? = some p ∧ x.fr < j ∧ L[x.fr]? = some q ∧ ((p.la = true ∧ PrInv ps q S) ∨ (p.la = false ∧ PrInv (ps.set x.sl ⟨x.ke, x.fl, true⟩) q S))) := by
  rcases prop_step hr hx hy with a | ⟨a1, a2, a3, a4, q, a5, a6, a7, a8⟩
  · exact Or.inl a
  · have hl : x.sl < ps.length := by have := h.len; have := h.le; omega
    refine Or.inr ⟨a1, hl, ps[x.sl], q, List.getElem?_eq_getElem hl, a5, a6, ?_⟩
    have hp := List.getElem?_eq_getElem hl
    generalize ps[x.sl] = p at hp
    have hle : q.ks.length ≤ S.ks.length := Nat.le_trans a7 h.le
    rcases h.all _ _ hp with ⟨b1, b2, b3⟩ | ⟨b1, b2, b3⟩
    · refine Or.inl ⟨b1, ⟨h.len, hle, fun i p' hi => ?_⟩⟩
      by_cases c : i = x.sl
      · subst c
        rw [hp] at hi
        cases hi
        exact Or.inl ⟨b1, b2, b3⟩
      · rcases h.all i p' hi with d | ⟨d1, d2, d3⟩
        · exact Or.inl d
        · exact Or.inr ⟨d1, by rw [← (a8 i c).1]; exact d2, by rw [← (a8 i c).2]; exact d3⟩
    · refine Or.inr ⟨b1, ⟨by rw [List.length_set]; exact h.len, hle, fun i p' hi => ?_⟩⟩
      by_cases c : i = x.sl
      · subst c
        rw [List.getElem?_set_self hl] at hi
        cases hi
        exact Or.inl ⟨rfl, by rw [← b2]; exact a3, by rw [← b3]; exact a4⟩
      · rw [List.getElem?_set_ne (fun e => c e.symm)] at hi
        rcases h.all i p' hi with d | ⟨d1, d2, d3⟩
        · exact Or.inl d
        · exact Or.inr ⟨d1, by rw [← (a8 i c).1]; exact d2, by rw [← (a8 i c).2]; exact d3⟩

end Go.Proofs.Ytiliffnflamkjaa.Sp
