/- The laws' alive. -/
import Derived.Test.YtjkemkggcnholaaGD
import Derived.Test.YtjkemkggcnholaaGE
namespace Go.Proofs.Ytjkemkggcnholaa.Fu
open Go.RowKit
set_option linter.unusedVariables false

def aFn (n : Nat) : Fn := ⟨⟨#[]⟩, 0, 1, false, ⟨some ⟨n, 0, none⟩, 3, [⟨3, 0, 0, 0⟩, ⟨3, 0, 0, 0⟩, ⟨55, 0, 0, 0⟩]⟩, ⟨none, 0, []⟩, ⟨none, 0, []⟩, ⟨none, 0, []⟩⟩

theorem aStart (n : Nat) : risen (startL (aFn n)) = [] := by
  have : startL (aFn n) = [] := rfl
  rw [this, risen_nil]

theorem aGroups (n : Nat) : groupsI (aFn n).code.xs [] = [⟨0, 2, 4⟩, ⟨2, 1, 0⟩] := rfl

theorem aOk (n : Nat) (w0 : World) (h0 : w0.heap[n]? = some (.cells #[.int .i64 3, .int .i64 0, .int .i64 0, .int .i64 0, .int .i64 3, .int .i64 0, .int .i64 0, .int .i64 0, .int .i64 55, .int .i64 0, .int .i64 0, .int .i64 0] 41 (0, 0))) : (aFn n).ok w0 := by
  refine ⟨⟨Nat.le_refl _, by show 3 ≤ maxLen; unfold maxLen; omega, fun _ => ⟨n, 0, rfl, ?_⟩⟩, ⟨Nat.le_refl _, Nat.zero_le _, fun h => absurd rfl h⟩, ⟨Nat.le_refl _, Nat.zero_le _, fun h => absurd rfl h⟩, ⟨Nat.le_refl _, Nat.zero_le _, fun h => absurd rfl h⟩⟩
  intro i y hi j u hj
  have jl : j < 4 := by
    rcases Nat.lt_or_ge j 4 with k | k
    · exact k
    · rw [List.getElem?_eq_none (by exact k)] at hj; cases hj
  rw [cell_of_row w0 n _ _ 41 (0, 0) h0]
  have j4 : j = 0 ∨ j = 1 ∨ j = 2 ∨ j = 3 := by omega
  match i, hi with
  | 0, hi =>
    simp [aFn] at hi
    subst hi
    rcases j4 with rfl | rfl | rfl | rfl <;> exact hj
  | 1, hi =>
    simp [aFn] at hi
    subst hi
    rcases j4 with rfl | rfl | rfl | rfl <;> exact hj
  | 2, hi =>
    simp [aFn] at hi
    subst hi
    rcases j4 with rfl | rfl | rfl | rfl <;> exact hj
  | i + 3, hi => simp [aFn] at hi

set_option maxRecDepth 100000 in
set_option maxHeartbeats 8000000 in
theorem alive_any (w : World) : Calls Try.prog 10 #[] w fun e w' => e = .returned (.bool true) ∧ Below w.heap.size w w' := by
  have B1 := below_new (Below.refl w.heap.size w) (Nat.le_refl _) (.cells #[.int .i64 3, .int .i64 0, .int .i64 0, .int .i64 0, .int .i64 3, .int .i64 0, .int .i64 0, .int .i64 0, .int .i64 55, .int .i64 0, .int .i64 0, .int .i64 0] 41)
  have ok := aOk w.heap.size (w.alloc (.cells #[.int .i64 3, .int .i64 0, .int .i64 0, .int .i64 0, .int .i64 3, .int .i64 0, .int .i64 0, .int .i64 0, .int .i64 55, .int .i64 0, .int .i64 0, .int .i64 0] 41)) (by show (w.heap.push _)[w.heap.size]? = _; rw [Array.getElem?_push_size])
  have kg := groups_any (aFn w.heap.size) _ ok (by show (3 + 0 + 1) * 8 ≤ _; omega) (by show (3 + 1) * 24 ≤ _; omega)
  rw [aStart, aGroups] at kg
  have HX : Hid (∀ w', Below (w.alloc (.cells #[.int .i64 3, .int .i64 0, .int .i64 0, .int .i64 0, .int .i64 3, .int .i64 0, .int .i64 0, .int .i64 0, .int .i64 55, .int .i64 0, .int .i64 0, .int .i64 0] 41)).heap.size (w.alloc (.cells #[.int .i64 3, .int .i64 0, .int .i64 0, .int .i64 0, .int .i64 3, .int .i64 0, .int .i64 0, .int .i64 0, .int .i64 55, .int .i64 0, .int .i64 0, .int .i64 0] 41)) w' → Below w.heap.size w w') := fun w' h => B1.trans (h.mono B1.size)
  clear ok B1
  unfold fnV aFn Sli.val at kg
  simp only [List.length_cons, List.length_nil, Nat.zero_add] at kg
  go_enter Try.func10, Try.ntmps10
  go_wp2_with fail
  refine kg.mono ?_
  rintro e w4 ⟨v4, rfl, ho4, hb4⟩
  have HB4 : Hid (Below w.heap.size w w4) := HX.out w4 hb4
  obtain ⟨s, rfl, hxs, hok⟩ := ho4.sl
  have kw := where_any s 1 w4 hok (by rw [hxs]; intro g hg; simp at hg; rcases hg with rfl | rfl <;> simp) (by omega) (by omega)
  have ew : whereF 1 0 s.xs = (0, 1, true) := by rw [hxs]; rfl
  rw [ew] at kw
  have hok2 := fun w' (h : Below w4.heap.size w4 w') => hok.kept (cells_below h)
  obtain ⟨ad, cap, xs⟩ := s
  simp only at hxs
  subst hxs
  obtain ⟨b, off, had, _⟩ := hok.cells (by simp)
  simp only at had
  subst had
  have HC : Hid (∀ w', Below w4.heap.size w4 w' → w'.cell? ⟨b, off + 2, none⟩ = some (.int .i64 4) ∧ w'.cell? ⟨b, off + 1, none⟩ = some (.int .i64 2)) := by
    intro w' h
    obtain ⟨b', o', e1, hc⟩ := (hok2 w' h).cells (by simp)
    cases e1
    exact ⟨by simpa using hc 0 ⟨0, 2, 4⟩ rfl 2 _ rfl, by simpa using hc 0 ⟨0, 2, 4⟩ rfl 1 _ rfl⟩
  clear kg hb4 HX hok hok2 ho4 ew
  unfold Sli.val at *
  simp only [List.length_cons, List.length_nil, Nat.zero_add] at *
  go_wp2_with fail
  refine kw.mono ?_
  rintro e w5 ⟨rfl, hb5⟩
  obtain ⟨g2, g1⟩ := HC.out w5 hb5
  have hb5' := HB4.out.trans (hb5.mono HB4.out.size)
  clear kw HC
  go_wp2_with fail
  go_ret
  exact ⟨rfl, hb5'⟩

end Go.Proofs.Ytjkemkggcnholaa.Fu
