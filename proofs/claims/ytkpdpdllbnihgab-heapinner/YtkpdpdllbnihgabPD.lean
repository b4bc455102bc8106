/- The program's tree in memory; Count, there, Proto, Find. -/
import Derived.Test.YtkpdpdllbnihgabPB
namespace Go.Proofs.Ytkpdpdllbnihgab.Sp
open Go.RowKit Go.Proofs.Ytkpdpdllbnihgab.Hp
set_option linter.unusedVariables false

def lyC (l : Ly) : List Value := [.int .i64 l.kd, .int .u64 l.pr, .int .i64 l.fr, .string l.ke, .int .i64 l.fl, .int .i64 l.sl, .int .i64 l.sz]
theorem lyC_len (l : Ly) : (lyC l).length = 7 := rfl

/-- the greatest number of shapes that is spoken of -/
def top : Nat := 1700000000000

structure TreeAt (w : World) (B tb : Nat) (O : Nat → Prop) (most : Int) (L : List Sh) (T : List Ly) (v : Value) (mb : Nat) : Prop where
  box : w.heap[tb]? = some (.cells #[.int .i64 most, v, .map (some mb)] 90 (0, 0))
  own : OwnR lyC 7 83 B w v T
  map : MapAt w mb T
  rel : Rel T L
  wf : ∀ x ∈ T, x.wf
  cap : L.length ≤ top
  b1 : B ≤ tb
  b2 : B ≤ mb
  n1 : tb ≠ mb
  n2 : v.ownBlock ≠ some tb
  n3 : v.ownBlock ≠ some mb
  os : ∀ b, O b ↔ (b = tb ∨ b = mb ∨ v.ownBlock = some b)

def Tree (w : World) (B tb : Nat) (O : Nat → Prop) (most : Int) (L : List Sh) : Prop := ∃ T v mb, TreeAt w B tb O most L T v mb

theorem TreeAt.kept {w w' : World} {B tb : Nat} {O S : Nat → Prop} {most : Int} {L : List Sh} {T : List Ly} {v : Value} {mb : Nat} (h : TreeAt w B tb O most L T v mb) (hc : Chg S w w') (hs : ∀ b, O b → ¬ S b) : TreeAt w' B tb O most L T v mb := by
  refine ⟨?_, h.own.kept hc (fun b hb => hs b ((h.os b).2 (Or.inr (Or.inr hb)))), ?_, h.rel, h.wf, h.cap, h.b1, h.b2, h.n1, h.n2, h.n3, h.os⟩
  · rw [hc.block tb (Array.getElem?_eq_some_iff.1 h.box).1 (hs tb ((h.os tb).2 (Or.inl rfl)))]
    exact h.box
  · obtain ⟨es, clock, hb, he⟩ := h.map
    exact ⟨es, clock, by rw [hc.block mb (Array.getElem?_eq_some_iff.1 hb).1 (hs mb ((h.os mb).2 (Or.inr (Or.inl rfl))))]; exact hb, he⟩

theorem TreeAt.lt {w : World} {B tb : Nat} {O : Nat → Prop} {most : Int} {L : List Sh} {T : List Ly} {v : Value} {mb : Nat} (h : TreeAt w B tb O most L T v mb) : ∀ b, O b → B ≤ b ∧ b < w.heap.size := by
  intro b hb
  rcases (h.os b).1 hb with rfl | rfl | hb
  · exact ⟨h.b1, (Array.getElem?_eq_some_iff.1 h.box).1⟩
  · obtain ⟨es, clock, hm, he⟩ := h.map
    exact ⟨h.b2, (Array.getElem?_eq_some_iff.1 hm).1⟩
  · exact h.own.lt b hb

theorem Tree.kept {w w' : World} {B tb : Nat} {O S : Nat → Prop} {most : Int} {L : List Sh} (h : Tree w B tb O most L) (hc : Chg S w w') (hs : ∀ b, O b → ¬ S b) : Tree w' B tb O most L := by
  obtain ⟨T, v, mb, h⟩ := h
  exact ⟨T, v, mb, h.kept hc hs⟩
theorem Tree.below {w w' : World} {B tb : Nat} {O : Nat → Prop} {most : Int} {L : List Sh} (h : Tree w B tb O most L) (hc : Below w.heap.size w w') : Tree w' B tb O most L := h.kept (S := fun _ => False) (Chg.of_below hc) (fun _ _ q => q)
theorem Tree.lt {w : World} {B tb : Nat} {O : Nat → Prop} {most : Int} {L : List Sh} (h : Tree w B tb O most L) : ∀ b, O b → B ≤ b ∧ b < w.heap.size := by
  obtain ⟨T, v, mb, h⟩ := h
  exact h.lt

/-- the tree's cells, its row as a slice -/
theorem TreeAt.open {w : World} {B tb : Nat} {O : Nat → Prop} {most : Int} {L : List Sh} {T : List Ly} {v : Value} {mb : Nat} (h : TreeAt w B tb O most L T v mb) :
    ∃ s : Sli Ly, v = s.val ∧ s.xs = T ∧ s.ok lyC 7 w ∧ w.cell? ⟨tb, 0, none⟩ = some (.int .i64 most) ∧ w.cell? ⟨tb, 1, none⟩ = some (.slice s.at' s.xs.length s.cap) ∧ w.cell? ⟨tb, 2, none⟩ = some (.map (some mb)) := by
  obtain ⟨s, h1, h2, h3, _⟩ := h.own.sl lyC_len
  have hb := h.box
  rw [h1] at hb
  unfold Sli.val at hb
  refine ⟨s, h1, h2, h3, ?_, ?_, ?_⟩
  · rw [cell_of_row w tb 0 _ 90 (0, 0) hb]; rfl
  · rw [cell_of_row w tb 1 _ 90 (0, 0) hb]; rfl
  · rw [cell_of_row w tb 2 _ 90 (0, 0) hb]; rfl

set_option maxRecDepth 100000 in
theorem count_any (w : World) (B tb : Nat) (O : Nat → Prop) (most : Int) (L : List Sh) (h : Tree w B tb O most L) :
    Calls Try.prog 51 #[.pointer (some ⟨tb, 0, none⟩)] w fun e w' => e = .returned (.int .i64 (L.length : Int)) ∧ w' = w := by
  obtain ⟨T, v, mb, h⟩ := h
  obtain ⟨⟨ad, cap, xs⟩, rfl, h2, h3, c0, c1, c2⟩ := h.open
  have hl := h.rel.len
  simp only at h2
  subst h2
  simp only at c1
  rw [hl] at c1
  clear h h3
  go_enter Try.func51, Try.ntmps51
  go_wp2_with fail
  go_ret
  exact ⟨rfl, rfl⟩

def thereB (L : List Sh) (n : Int) : Bool := decide (0 ≤ n) && decide (n < (L.length : Int))

set_option maxRecDepth 100000 in
theorem there_any (w : World) (B tb : Nat) (O : Nat → Prop) (most : Int) (L : List Sh) (h : Tree w B tb O most L) (n : Int) :
    Calls Try.prog 44 #[.pointer (some ⟨tb, 0, none⟩), .int .i64 n] w fun e w' => e = .returned (.bool (thereB L n)) ∧ w' = w := by
  have kc := count_any w B tb O most L h
  unfold thereB
  clear h
  go_enter Try.func44, Try.ntmps44
  by_cases c : 0 ≤ n
  · have hc : decide (0 ≤ n) = true := decide_eq_true c
    rw [hc, Bool.true_and]
    go_wp2_with fail
    refine kc.mono ?_
    rintro e w2 ⟨rfl, rfl⟩
    clear kc
    go_wp2_with fail
    go_ret
    exact ⟨rfl, rfl⟩
  · have hc : decide (0 ≤ n) = false := decide_eq_false c
    rw [hc, Bool.false_and]
    go_wp2_with fail
    go_ret
    exact ⟨rfl, rfl⟩

theorem there_of {L : List Sh} {n : Int} (h : thereB L n = true) : ∃ (j : Nat) (s : Sh), n = (j : Int) ∧ L[j]? = some s ∧ shOf L n = some s ∧ j < L.length := by
  unfold thereB at h
  rw [Bool.and_eq_true] at h
  have h1 := of_decide_eq_true h.1
  have h2 := of_decide_eq_true h.2
  obtain ⟨j, rfl⟩ : ∃ j : Nat, n = j := ⟨n.toNat, by omega⟩
  have hj : j < L.length := by omega
  refine ⟨j, L[j], rfl, List.getElem?_eq_getElem hj, ?_, hj⟩
  unfold shOf
  rw [if_pos h1, Int.toNat_natCast]
  exact List.getElem?_eq_getElem hj

theorem there_not {L : List Sh} {n : Int} (h : thereB L n = false) : shOf L n = none := by
  unfold thereB at h
  unfold shOf
  split
  · rename_i c
    rw [decide_eq_true c, Bool.true_and] at h
    have h2 := of_decide_eq_false h
    exact List.getElem?_eq_none (by omega)
  · rfl


end Go.Proofs.Ytkpdpdllbnihgab.Sp
