/- take. -/
import Derived.Test.YtkpdpdllbnihgaaB1
namespace Go.Proofs.Ytkpdpdllbnihgaa.Sp
open Go.RowKit Go.Proofs.Ytkpdpdllbnihgaa.Hp
set_option linter.unusedVariables false

theorem lay_hit {T : List Ly} {L : List Sh} (h : Rel T L) {l : Ly} {s : Sh} (hp : Pair L L.length l s) {j : Nat} {x : Ly} (hx : T[j]? = some x) (hs : sameStep x l) (most : Int) : layD most L s = (L, (j : Int), true) := by
  have hj : j < L.length := by rw [← h.len]; exact (List.getElem?_eq_some_iff.1 hx).1
  have hy := List.getElem?_eq_getElem hj
  have h1 := (step_iff h (Nat.le_refl _) hp hx hy).1.1 hs
  unfold layD
  cases e : hit L s with
  | none => exact absurd h1 (hit_none e j _ hy)
  | some i =>
    obtain ⟨z, g1, g2, g3, _⟩ := hit_some e
    have := h.once i j z _ g1 hy (by rw [g2, h1.1]) (by rw [g3, h1.2])
    rw [this]

theorem lay_new {T : List Ly} {L : List Sh} (h : Rel T L) {l : Ly} {s : Sh} (hp : Pair L L.length l s) (hn : ∀ x ∈ T, ¬ sameStep x l) : hit L s = none := by
  cases e : hit L s with
  | none => rfl
  | some i =>
    obtain ⟨z, g1, g2, g3, _⟩ := hit_some e
    obtain ⟨x, k1, k2, k3, k4⟩ := h.at' g1
    exact absurd ((step_iff h (Nat.le_refl _) hp k1 g1).1.2 ⟨g2, g3⟩) (hn x (List.mem_of_getElem? k1))

/-- what a call leaves: a tree, and all else that was there -/
def Went (w : World) (B tb : Nat) (O : Nat → Prop) (most : Int) (L : List Sh) (w' : World) : Prop := ∃ O', Tree w' B tb O' most L ∧ Chg O w w' ∧ ∀ b, O' b → O b ∨ w.heap.size ≤ b

theorem Went.same {w w' : World} {B tb : Nat} {O : Nat → Prop} {most : Int} {L : List Sh} (h : Tree w B tb O most L) (hb : Below w.heap.size w w') : Went w B tb O most L w' :=
  ⟨O, h.below hb, Chg.of_below hb, fun b q => Or.inl q⟩

theorem Went.drew {w w' : World} {B tb : Nat} {O : Nat → Prop} {most : Int} {L : List Sh} (h : Went w B tb O most L w') : Went w B tb O most L w'.drew := by
  obtain ⟨O', h1, h2, h3⟩ := h
  exact ⟨O', h1.below ((Below.refl _ _).drew), h2.drew, h3⟩

/-- a call behind a call -/
theorem Went.trans {w w1 w2 : World} {B tb : Nat} {O : Nat → Prop} {most : Int} {L L' : List Sh} (h : Went w B tb O most L w1) (k : ∀ O', Tree w1 B tb O' most L → Went w1 B tb O' most L' w2) : Went w B tb O most L' w2 := by
  obtain ⟨O1, h1, h2, h3⟩ := h
  obtain ⟨O2, k1, k2, k3⟩ := k O1 h1
  refine ⟨O2, k1, h2.trans k2 (fun i hi q => ?_), fun b q => ?_⟩
  · rcases h3 i q with c | c
    · exact c
    · omega
  · rcases k3 b q with c | c
    · exact h3 b c
    · exact Or.inr (Nat.le_trans h2.size c)

def lyV (l : Ly) : Value := .agg #[.int .i64 l.kd, .int .u64 l.pr, .int .i64 l.fr, .string l.ke, .int .i64 l.fl, .int .i64 l.sl, .int .i64 l.sz]

theorem info97 : (Try.prog.info? 97).map (fun i => (i.zero, i.size, i.bytes)) = some (some (.agg #[.int .i64 0, .int .u64 0, .int .i64 0, .string ⟨#[]⟩, .int .i64 0, .int .i64 0, .int .i64 0]), 7, 64) := by kernel_rfl

theorem below_dN {B : Nat} {w w' : World} (h : Below B w w') : Below B w w'.drew := h.drew

/-- the tree with a layout more: first its row, then its map -/
theorem tree_push {w w5 : World} {B tb : Nat} {O : Nat → Prop} {most : Int} {L : List Sh} {T : List Ly} {v : Value} {mb : Nat} (h : TreeAt w B tb O most L T v mb) {l : Ly} {s : Sh} (hl : l.wf) (hp : Pair L L.length l s) (hh : hit L s = none) (hn : ∀ x ∈ T, ¬ sameStep x l) (hcap : L.length + 1 ≤ top)
    {v5 : Value} (ho : OwnR lyC 7 97 B w5 v5 (T ++ [l])) (hc : Chg (fun b => v.ownBlock = some b) w w5) (hv5 : ∀ b, v5.ownBlock = some b → v.ownBlock = some b ∨ w.heap.size ≤ b) :
    ∃ w7, (Instr.mapUpdate 105 (.map (some mb)) (stV l) (.int .i64 (T.length : Int))).run Try.prog (w5.setCell ⟨tb, 1, none⟩ v5).drew = .ok () w7 ∧ Went w B tb O most (L ++ [s]) w7 := by
  have htb : tb < w.heap.size := (Array.getElem?_eq_some_iff.1 h.box).1
  have n2 := h.n2
  have n3 := h.n3
  have hmb : mb < w.heap.size := (h.lt mb ((h.os mb).2 (Or.inr (Or.inl rfl)))).2
  have hbox5 : w5.heap[tb]? = some (.cells #[.int .i64 most, v, .map (some mb)] 108 (0, 0)) := by rw [hc.block tb htb (fun q => n2 q)]; exact h.box
  have hset := heap_setCell_same w5 tb 1 _ 108 v5 hbox5
  have hne1 : ∀ b, v5.ownBlock = some b → b ≠ tb := fun b hb e => by
    subst e
    rcases hv5 b hb with q | q
    · exact n2 q
    · omega
  have hne2 : ∀ b, v5.ownBlock = some b → b ≠ mb := fun b hb e => by
    subst e
    rcases hv5 b hb with q | q
    · exact n3 q
    · omega
  have c6 : Chg (fun b => b = tb ∨ v.ownBlock = some b) w (w5.setCell ⟨tb, 1, none⟩ v5) := (hc.mono (fun k q => Or.inr q)).trans (Chg.set (S := fun b => b = tb) w5 ⟨tb, 1, none⟩ v5 rfl) (fun i _ q => Or.inl q)
  have hmap : MapAt (w5.setCell ⟨tb, 1, none⟩ v5) mb T := by
    obtain ⟨es, clock, hm, he⟩ := h.map
    refine ⟨es, clock, ?_, he⟩
    rw [c6.block mb hmb (by rintro (q | q); exact h.n1 q.symm; exact n3 q)]
    exact hm
  obtain ⟨w7, r1, r2, r3, r4⟩ := (show MapAt (w5.setCell ⟨tb, 1, none⟩ v5).drew mb T from hmap).put h.wf l hl hn
  have ho6 : OwnR lyC 7 97 B (w5.setCell ⟨tb, 1, none⟩ v5) v5 (T ++ [l]) := ho.set (a := ⟨tb, 1, none⟩) hne1 v5
  have c7 : Chg (fun b => b = mb) (w5.setCell ⟨tb, 1, none⟩ v5) w7 := Chg.of_grown (grown_undrew r3) (fun k q => by cases q; rfl)
  refine ⟨w7, r1, fun b => b = tb ∨ b = mb ∨ v5.ownBlock = some b, ⟨T ++ [l], v5, mb, ?_, ho6.kept c7 hne2, r2, rel_push h.rel hp hh, ?_, ?_, h.b1, h.b2, h.n1, fun q => hne1 tb q rfl, fun q => hne2 mb q rfl, fun b => Iff.rfl⟩, ?_, ?_⟩
  · rw [c7.block tb (by have := c6.size; omega) (fun q => h.n1 q)]
    exact hset
  · intro x hx
    rcases List.mem_append.1 hx with q | q
    · exact h.wf x q
    · rw [List.mem_singleton.1 q]; exact hl
  · rw [List.length_append]; exact hcap
  · refine (c6.mono (S' := O) (fun k q => ?_)).trans c7 (fun i _ q => ?_)
    · rcases q with q | q
      · exact (h.os k).2 (Or.inl q)
      · exact (h.os k).2 (Or.inr (Or.inr q))
    · exact (h.os i).2 (Or.inr (Or.inl q))
  · intro b q
    rcases q with q | q | q
    · exact Or.inl ((h.os b).2 (Or.inl q))
    · exact Or.inl ((h.os b).2 (Or.inr (Or.inl q)))
    · rcases hv5 b q with c | c
      · exact Or.inl ((h.os b).2 (Or.inr (Or.inr c)))
      · exact Or.inr c

end Go.Proofs.Ytkpdpdllbnihgaa.Sp
