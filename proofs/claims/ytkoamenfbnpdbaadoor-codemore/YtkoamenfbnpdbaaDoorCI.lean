/- The law's alive. -/
import Derived.Test.YtkoamenfbnpdbaaDoorCH
namespace Go.Proofs.YtkoamenfbnpdbaaDoor.Cd
open Go.RowKit
set_option linter.unusedVariables false

/-- the program that the law looks at -/
def aFn (n : Nat) : Fn := ⟨⟨#[]⟩, 0, 1, false, ⟨some ⟨n, 0, none⟩, 2, [⟨2, 0, 0, 0⟩, ⟨55, 0, 0, 0⟩]⟩, ⟨none, 0, []⟩, ⟨none, 0, []⟩, ⟨none, 0, []⟩⟩
def aFns (n : Nat) : Sli Fn := ⟨some ⟨n + 1, 0, none⟩, 1, [aFn n]⟩

theorem aCheck (n : Nat) : checkI [aFn n] = 0 := rfl

theorem aNext (n : Nat) : (nextI (aFn n) 0).length = 1 := by
  have h := nextI_in (aFn n) 0 ⟨2, 0, 0, 0⟩ rfl
  rw [risen_put] at h
  have h2 : nextI (aFn n) 0 = [1] := h
  rw [h2]
  rfl

theorem aCells (w0 : World) (n : Nat) (h0 : w0.heap[n]? = some (.cells #[.int .i64 2, .int .i64 0, .int .i64 0, .int .i64 0, .int .i64 55, .int .i64 0, .int .i64 0, .int .i64 0] 43 (0, 0)))
    (h1 : w0.heap[n + 1]? = some (.cells #[.string ⟨#[]⟩, .int .i64 0, .int .i64 1, .bool false, .slice (some ⟨n, 0, none⟩) 2 2, .slice none 0 0, .slice none 0 0, .slice none 0 0] 36 (0, 0))) : FnsOk w0 (aFns n) := by
  have hm : (2 : Nat) ≤ maxLen := by unfold maxLen; omega
  constructor
  · refine ⟨Nat.le_refl _, by show 1 ≤ maxLen; omega, fun _ => ⟨n + 1, 0, rfl, ?_⟩⟩
    intro i y hi j u hj
    cases i with
    | zero =>
      simp [aFns] at hi
      subst hi
      rw [cell_of_row w0 (n + 1) _ _ 36 (0, 0) h1]
      simp only [Nat.zero_mul, Nat.zero_add]
      have hj' : ([.string ⟨#[]⟩, .int .i64 0, .int .i64 1, .bool false, .slice (some ⟨n, 0, none⟩) 2 2, .slice none 0 0, .slice none 0 0, .slice none 0 0] : List Value)[j]? = some u := hj
      rw [← hj']
      exact List.getElem?_toArray
    | succ i => simp [aFns] at hi
  · intro f hf
    simp [aFns] at hf
    subst hf
    refine ⟨⟨Nat.le_refl _, hm, fun _ => ⟨n, 0, rfl, ?_⟩⟩, ⟨Nat.le_refl _, Nat.zero_le _, fun h => absurd rfl h⟩, ⟨Nat.le_refl _, Nat.zero_le _, fun h => absurd rfl h⟩, ⟨Nat.le_refl _, Nat.zero_le _, fun h => absurd rfl h⟩⟩
    intro i y hi j u hj
    have jl : j < 4 := by
      rcases Nat.lt_or_ge j 4 with k | k
      · exact k
      · rw [List.getElem?_eq_none (by exact k)] at hj; cases hj
    rw [cell_of_row w0 n _ _ 43 (0, 0) h0]
    match i, hi with
    | 0, hi =>
      simp [aFn] at hi
      subst hi
      have : j = 0 ∨ j = 1 ∨ j = 2 ∨ j = 3 := by omega
      rcases this with rfl | rfl | rfl | rfl <;> exact hj
    | 1, hi =>
      simp [aFn] at hi
      subst hi
      have : j = 0 ∨ j = 1 ∨ j = 2 ∨ j = 3 := by omega
      rcases this with rfl | rfl | rfl | rfl <;> exact hj
    | i + 2, hi => simp [aFn] at hi

set_option maxRecDepth 100000 in
set_option maxHeartbeats 8000000 in
theorem alive_any (w : World) (hS : ShAt w) : Calls Tryd.prog 9 #[] w fun e w' => e = .returned (.bool true) ∧ Below w.heap.size w w' := by
  have B1 := below_new (Below.refl w.heap.size w) (Nat.le_refl _) (.cells #[.int .i64 2, .int .i64 0, .int .i64 0, .int .i64 0, .int .i64 55, .int .i64 0, .int .i64 0, .int .i64 0] 43)
  have B2 := below_new B1 B1.size (.cells #[.string ⟨#[]⟩, .int .i64 0, .int .i64 1, .bool false, .slice (some ⟨w.heap.size, 0, none⟩) 2 2, .slice none 0 0, .slice none 0 0, .slice none 0 0] 36)
  have B3 := below_new B2 B2.size (.cells #[.slice (some ⟨w.heap.size + 1, 0, none⟩) 1 1] 24)
  have r1 : ((w.alloc (.cells #[.int .i64 2, .int .i64 0, .int .i64 0, .int .i64 0, .int .i64 55, .int .i64 0, .int .i64 0, .int .i64 0] 43)).alloc (.cells #[.string ⟨#[]⟩, .int .i64 0, .int .i64 1, .bool false, .slice (some ⟨w.heap.size, 0, none⟩) 2 2, .slice none 0 0, .slice none 0 0, .slice none 0 0] 36)).heap.size = w.heap.size + 2 := by rw [size_new, size_new]
  have ok : FnsOk (((w.alloc (.cells #[.int .i64 2, .int .i64 0, .int .i64 0, .int .i64 0, .int .i64 55, .int .i64 0, .int .i64 0, .int .i64 0] 43)).alloc (.cells #[.string ⟨#[]⟩, .int .i64 0, .int .i64 1, .bool false, .slice (some ⟨w.heap.size, 0, none⟩) 2 2, .slice none 0 0, .slice none 0 0, .slice none 0 0] 36)).alloc (.cells #[.slice (some ⟨w.heap.size + 1, 0, none⟩) 1 1] 24)) (aFns w.heap.size) := by
    apply aCells
    · show ((( w.heap.push _).push _).push _)[w.heap.size]? = _
      rw [Array.getElem?_push_lt (by simp; omega), Array.getElem_push_lt (by simp), Array.getElem_push_eq]
    · show ((( w.heap.push _).push _).push _)[w.heap.size + 1]? = _
      rw [Array.getElem?_push_lt (by simp), Array.getElem_push]
      simp
  have hS3 := hS.below B3
  have m0 : (((w.alloc (.cells #[.int .i64 2, .int .i64 0, .int .i64 0, .int .i64 0, .int .i64 55, .int .i64 0, .int .i64 0, .int .i64 0] 43)).alloc (.cells #[.string ⟨#[]⟩, .int .i64 0, .int .i64 1, .bool false, .slice (some ⟨w.heap.size, 0, none⟩) 2 2, .slice none 0 0, .slice none 0 0, .slice none 0 0] 36)).alloc (.cells #[.slice (some ⟨w.heap.size + 1, 0, none⟩) 1 1] 24)).cell? ⟨w.heap.size + 2, 0, none⟩ = some (.slice (some ⟨w.heap.size + 1, 0, none⟩) 1 1) := by
    rw [cell_of_row _ (w.heap.size + 2) 0 #[.slice (some ⟨w.heap.size + 1, 0, none⟩) 1 1] 24 (0, 0) (by show ((( w.heap.push _).push _).push _)[w.heap.size + 2]? = _; rw [show w.heap.size + 2 = ((w.heap.push (.cells #[.int .i64 2, .int .i64 0, .int .i64 0, .int .i64 0, .int .i64 55, .int .i64 0, .int .i64 0, .int .i64 0] 43)).push (.cells #[.string ⟨#[]⟩, .int .i64 0, .int .i64 1, .bool false, .slice (some ⟨w.heap.size, 0, none⟩) 2 2, .slice none 0 0, .slice none 0 0, .slice none 0 0] 36)).size from by simp, Array.getElem?_push_size])]
    rfl
  have kc := check_any (aFns w.heap.size) _ ok hS3
  have e0 : checkI (aFns w.heap.size).xs = 0 := aCheck _
  rw [e0] at kc
  have HX : Hid (∀ w', Below (((w.alloc (.cells #[.int .i64 2, .int .i64 0, .int .i64 0, .int .i64 0, .int .i64 55, .int .i64 0, .int .i64 0, .int .i64 0] 43)).alloc (.cells #[.string ⟨#[]⟩, .int .i64 0, .int .i64 1, .bool false, .slice (some ⟨w.heap.size, 0, none⟩) 2 2, .slice none 0 0, .slice none 0 0, .slice none 0 0] 36)).alloc (.cells #[.slice (some ⟨w.heap.size + 1, 0, none⟩) 1 1] 24)).heap.size (((w.alloc (.cells #[.int .i64 2, .int .i64 0, .int .i64 0, .int .i64 0, .int .i64 55, .int .i64 0, .int .i64 0, .int .i64 0] 43)).alloc (.cells #[.string ⟨#[]⟩, .int .i64 0, .int .i64 1, .bool false, .slice (some ⟨w.heap.size, 0, none⟩) 2 2, .slice none 0 0, .slice none 0 0, .slice none 0 0] 36)).alloc (.cells #[.slice (some ⟨w.heap.size + 1, 0, none⟩) 1 1] 24)) w' → FnsOk w' (aFns w.heap.size) ∧ ShAt w' ∧ w'.cell? ⟨w.heap.size + 2, 0, none⟩ = some (.slice (some ⟨w.heap.size + 1, 0, none⟩) 1 1) ∧ Below w.heap.size w w') :=
    fun w' h => ⟨ok.kept (cells_below h), hS3.below h, cells_below h _ _ m0, B3.trans (h.mono B3.size)⟩
  clear ok hS3 hS r1 B1 B2 B3 m0 e0
  unfold aFns Sli.val at kc
  simp only [List.length_cons, List.length_nil, Nat.zero_add] at kc
  go_enter Tryd.func9, Tryd.ntmps9
  go_wp2_with fail
  refine kc.mono ?_
  rintro e w4 ⟨rfl, hb4⟩
  obtain ⟨ok4, sh4, m4, bl4⟩ := HX.out w4 hb4
  have HB4 : Hid (Below w.heap.size w w4) := bl4
  clear kc hb4 HX bl4
  have k12 := shape_any 21 w4 sh4
  have es : bs (shapeI 21) = ⟨#[119, 114, 114]⟩ := rfl
  rw [es] at k12
  obtain ⟨b, off, had, hcc⟩ := ok4.all.cells (by simp [aFns])
  have had' : b = w.heap.size + 1 ∧ off = 0 := by
    have : (some (⟨w.heap.size + 1, 0, none⟩ : Addr)) = some ⟨b, off, none⟩ := had
    cases this
    exact ⟨rfl, rfl⟩
  obtain ⟨rfl, rfl⟩ := had'
  have g0 := hcc 0 (aFn w.heap.size) rfl 0 _ rfl
  have g1 := hcc 0 (aFn w.heap.size) rfl 1 _ rfl
  have g2 := hcc 0 (aFn w.heap.size) rfl 2 _ rfl
  have g3 := hcc 0 (aFn w.heap.size) rfl 3 _ rfl
  have g4 := hcc 0 (aFn w.heap.size) rfl 4 _ rfl
  have g5 := hcc 0 (aFn w.heap.size) rfl 5 _ rfl
  have g6 := hcc 0 (aFn w.heap.size) rfl 6 _ rfl
  have g7 := hcc 0 (aFn w.heap.size) rfl 7 _ rfl
  have kn := next_any (aFn w.heap.size) 0 w4 (ok4.each _ (by simp [aFns]))
  have HLn : Hid ((nextI (aFn w.heap.size) 0).length = 1) := aNext _
  generalize nextI (aFn w.heap.size) 0 = NL at *
  clear hcc ok4 sh4 had es
  unfold fnV aFn Sli.val at kn
  unfold aFn at g0 g1 g2 g3 g4 g5 g6 g7
  unfold Sli.val at g4 g5 g6 g7
  simp only [Nat.zero_mul, Nat.add_zero, Nat.zero_add, List.length_cons, List.length_nil] at kn g0 g1 g2 g3 g4 g5 g6 g7
  go_wp2_with fail
  refine k12.mono ?_
  rintro e w5 ⟨rfl, rfl⟩
  go_wp2_with fail
  refine kn.mono ?_
  rintro e w6 ⟨v6, rfl, ho6, hb6⟩
  obtain ⟨ad, cap, rfl, _, _, _⟩ := ho6.ints
  have HB6 : Hid (Below w.heap.size w w6) := HB4.out.trans (hb6.mono HB4.out.size)
  rw [HLn.out]
  clear kn k12 ho6 hb6 g0 g1 g2 g3 g4 g5 g6 g7
  go_wp2_with fail
  go_ret
  exact ⟨rfl, HB6.out⟩

end Go.Proofs.YtkoamenfbnpdbaaDoor.Cd
