/- Package fuse: what a group may begin with; first. -/
import Derived.Test.YtjkemkggcnholaaFE
namespace Go.Proofs.Ytjkemkggcnholaa.Fu
open Go.RowKit
set_option linter.unusedVariables false

def arithB : List Ins → Bool
  | a :: b :: c :: _ => decide (a.op = 13) && decide (b.op = 13) && decide (21 ≤ c.op) && decide (c.op ≤ 35) && decide (c.b = a.a) && decide (c.c = b.a)
  | _ => false
def testB : List Ins → Bool
  | a :: b :: _ => decide (32 ≤ a.op) && decide (a.op ≤ 39) && decide (b.op = 58 ∨ b.op = 59) && decide (b.a = a.a)
  | _ => false
def freeB : List Ins → Bool
  | a :: b :: _ => decide (a.op = 10) && decide (b.op = 8) && decide (b.b = a.a)
  | _ => false
def movesB : List Ins → Bool
  | a :: b :: _ => decide (a.op = 3) && decide (b.op = 3)
  | _ => false

/-- the kind of the group with which instructions begin, and how many are of it -/
def firstI (l : List Ins) : Int × Nat := if arithB l then (1, 3) else if testB l then (2, 2) else if freeB l then (3, 2) else if movesB l then (4, 2) else (0, 1)

/-- two instructions at the front of a slice -/
theorem two_cells {s : Sli Ins} {w : World} (hs : s.ok insC 4 w) {a b : Ins} {r : List Ins} (h : s.xs = a :: b :: r) :
    ∃ g off, s.at' = some ⟨g, off, none⟩ ∧ (w.cell? ⟨g, off, none⟩ = some (.int .i64 a.op) ∧ w.cell? ⟨g, off + 1, none⟩ = some (.int .i64 a.a)) ∧
      (w.cell? ⟨g, off + 4, none⟩ = some (.int .i64 b.op) ∧ w.cell? ⟨g, off + 4 + 1, none⟩ = some (.int .i64 b.a) ∧ w.cell? ⟨g, off + 4 + 2, none⟩ = some (.int .i64 b.b)) ∧
      (∀ c r', r = c :: r' → w.cell? ⟨g, off + 8, none⟩ = some (.int .i64 c.op) ∧ w.cell? ⟨g, off + 8 + 2, none⟩ = some (.int .i64 c.b) ∧ w.cell? ⟨g, off + 8 + 3, none⟩ = some (.int .i64 c.c)) := by
  obtain ⟨g, off, h1, h2⟩ := hs.cells (by rw [h]; simp)
  rw [h] at h2
  refine ⟨g, off, h1, ⟨?_, ?_⟩, ⟨?_, ?_, ?_⟩, ?_⟩
  · exact h2 0 a rfl 0 _ rfl
  · have := h2 0 a rfl 1 _ rfl; simpa using this
  · have := h2 1 b rfl 0 _ rfl; simpa using this
  · have := h2 1 b rfl 1 _ rfl; simpa using this
  · have := h2 1 b rfl 2 _ rfl; simpa using this
  · rintro c r' rfl
    refine ⟨?_, ?_, ?_⟩
    · have := h2 2 c rfl 0 _ rfl; simpa using this
    · have := h2 2 c rfl 2 _ rfl; simpa using this
    · have := h2 2 c rfl 3 _ rfl; simpa using this

set_option maxRecDepth 100000 in
theorem isMoves_any (s : Sli Ins) (w : World) (hs : s.ok insC 4 w) : Calls Try.prog 25 #[s.val] w fun e w' => e = .returned (.bool (movesB s.xs)) ∧ Below w.heap.size w w' := by
  obtain ⟨ad, cap, xs⟩ := s
  have hl : (xs.length : Int) ≤ 9223372036854775807 := by have h1 := hs.len; have h2 := hs.cap; simp only at h1 h2; unfold maxLen at h2; omega
  unfold Sli.val
  rcases xs with _ | ⟨a, _ | ⟨b, r⟩⟩
  · clear hs hl
    simp only [movesB, List.length_nil]
    go_enter Try.func25, Try.ntmps25
    go_wp2
    go_ret
    exact ⟨rfl, Below.refl _ _⟩
  · clear hs hl
    simp only [movesB, List.length_cons, List.length_nil]
    go_enter Try.func25, Try.ntmps25
    go_wp2
    go_ret
    exact ⟨rfl, Below.refl _ _⟩
  · obtain ⟨g, off, e1, ⟨a0, a1⟩, ⟨b0, b1, b2⟩, hr3⟩ := two_cells hs rfl
    simp only at e1
    subst e1
    clear hs hr3
    obtain ⟨ao, aa, ab, ac⟩ := a
    obtain ⟨bo, ba, bb, bc⟩ := b
    simp only at a0 a1 b0 b1 b2
    have HM : Hid (movesB (⟨ao, aa, ab, ac⟩ :: ⟨bo, ba, bb, bc⟩ :: r) = (decide (ao = 3) && decide (bo = 3))) := rfl
    generalize movesB (⟨ao, aa, ab, ac⟩ :: ⟨bo, ba, bb, bc⟩ :: r) = M at *
    have hL : (2 : Int) ≤ ((⟨ao, aa, ab, ac⟩ :: ⟨bo, ba, bb, bc⟩ :: r).length : Int) := by simp only [List.length_cons]; omega
    generalize (⟨ao, aa, ab, ac⟩ :: ⟨bo, ba, bb, bc⟩ :: r).length = L at *
    by_cases h00 : ao = 3
    · skip
      by_cases h10 : bo = 3
      · skip
        have HM2 : Hid (M = true) := by show _ = _; rw [HM.out]; simp [h00, h10]
        go_enter Try.func25, Try.ntmps25
        go_wp2_with fail
        go_ret
        rw [HM2.out]
        exact ⟨rfl, Below.refl _ _⟩
      have e10 : (bo == 3) = false := by simpa using h10
      have HM2 : Hid (M = false) := by show _ = _; rw [HM.out]; simp [h00, h10]
      go_enter Try.func25, Try.ntmps25
      go_wp2_with fail
      go_ret
      rw [HM2.out]
      exact ⟨rfl, Below.refl _ _⟩
    have e00 : (ao == 3) = false := by simpa using h00
    have HM2 : Hid (M = false) := by show _ = _; rw [HM.out]; simp [h00]
    go_enter Try.func25, Try.ntmps25
    go_wp2_with fail
    go_ret
    rw [HM2.out]
    exact ⟨rfl, Below.refl _ _⟩

set_option maxRecDepth 100000 in
theorem isFree_any (s : Sli Ins) (w : World) (hs : s.ok insC 4 w) : Calls Try.prog 24 #[s.val] w fun e w' => e = .returned (.bool (freeB s.xs)) ∧ Below w.heap.size w w' := by
  obtain ⟨ad, cap, xs⟩ := s
  have hl : (xs.length : Int) ≤ 9223372036854775807 := by have h1 := hs.len; have h2 := hs.cap; simp only at h1 h2; unfold maxLen at h2; omega
  unfold Sli.val
  rcases xs with _ | ⟨a, _ | ⟨b, r⟩⟩
  · clear hs hl
    simp only [freeB, List.length_nil]
    go_enter Try.func24, Try.ntmps24
    go_wp2_with fail; go_quiet (fail); go_wp2_with fail
    go_ret
    exact ⟨rfl, below_dN (Below.refl _ _) _⟩
  · clear hs hl
    simp only [freeB, List.length_cons, List.length_nil]
    go_enter Try.func24, Try.ntmps24
    go_wp2_with fail; go_quiet (fail); go_wp2_with fail
    go_ret
    exact ⟨rfl, below_dN (Below.refl _ _) _⟩
  · obtain ⟨g, off, e1, ⟨a0, a1⟩, ⟨b0, b1, b2⟩, hr3⟩ := two_cells hs rfl
    simp only at e1
    subst e1
    clear hs hr3
    obtain ⟨ao, aa, ab, ac⟩ := a
    obtain ⟨bo, ba, bb, bc⟩ := b
    simp only at a0 a1 b0 b1 b2
    have HM : Hid (freeB (⟨ao, aa, ab, ac⟩ :: ⟨bo, ba, bb, bc⟩ :: r) = (decide (ao = 10) && decide (bo = 8) && decide (bb = aa))) := rfl
    generalize freeB (⟨ao, aa, ab, ac⟩ :: ⟨bo, ba, bb, bc⟩ :: r) = M at *
    have hL : (2 : Int) ≤ ((⟨ao, aa, ab, ac⟩ :: ⟨bo, ba, bb, bc⟩ :: r).length : Int) := by simp only [List.length_cons]; omega
    generalize (⟨ao, aa, ab, ac⟩ :: ⟨bo, ba, bb, bc⟩ :: r).length = L at *
    by_cases h00 : ao = 10
    · skip
      by_cases h10 : bo = 8
      · skip
        by_cases h20 : bb = aa
        · skip
          have HM2 : Hid (M = true) := by show _ = _; rw [HM.out]; simp [h00, h10, h20]
          go_enter Try.func24, Try.ntmps24
          go_wp2_with fail
          go_quiet (fail)
          go_wp2_with fail
          go_ret
          rw [HM2.out]
          exact ⟨rfl, below_dN (Below.refl _ _) _⟩
        have e20 : (bb == aa) = false := by simpa using h20
        have HM2 : Hid (M = false) := by show _ = _; rw [HM.out]; simp [h00, h10, h20]
        go_enter Try.func24, Try.ntmps24
        go_wp2_with fail
        go_quiet (fail)
        go_wp2_with fail
        go_ret
        rw [HM2.out]
        exact ⟨rfl, below_dN (Below.refl _ _) _⟩
      have e10 : (bo == 8) = false := by simpa using h10
      have HM2 : Hid (M = false) := by show _ = _; rw [HM.out]; simp [h00, h10]
      go_enter Try.func24, Try.ntmps24
      go_wp2_with fail
      go_quiet (fail)
      go_wp2_with fail
      go_ret
      rw [HM2.out]
      exact ⟨rfl, below_dN (Below.refl _ _) _⟩
    have e00 : (ao == 10) = false := by simpa using h00
    have HM2 : Hid (M = false) := by show _ = _; rw [HM.out]; simp [h00]
    go_enter Try.func24, Try.ntmps24
    go_wp2_with fail
    go_quiet (fail)
    go_wp2_with fail
    go_ret
    rw [HM2.out]
    exact ⟨rfl, below_dN (Below.refl _ _) _⟩

set_option maxRecDepth 100000 in
theorem isTest_any (s : Sli Ins) (w : World) (hs : s.ok insC 4 w) : Calls Try.prog 23 #[s.val] w fun e w' => e = .returned (.bool (testB s.xs)) ∧ Below w.heap.size w w' := by
  obtain ⟨ad, cap, xs⟩ := s
  have hl : (xs.length : Int) ≤ 9223372036854775807 := by have h1 := hs.len; have h2 := hs.cap; simp only at h1 h2; unfold maxLen at h2; omega
  unfold Sli.val
  rcases xs with _ | ⟨a, _ | ⟨b, r⟩⟩
  · clear hs hl
    simp only [testB, List.length_nil]
    go_enter Try.func23, Try.ntmps23
    go_wp2_with fail; go_quiet (fail); go_wp2_with fail
    go_ret
    exact ⟨rfl, below_dN (Below.refl _ _) _⟩
  · clear hs hl
    simp only [testB, List.length_cons, List.length_nil]
    go_enter Try.func23, Try.ntmps23
    go_wp2_with fail; go_quiet (fail); go_wp2_with fail
    go_ret
    exact ⟨rfl, below_dN (Below.refl _ _) _⟩
  · obtain ⟨g, off, e1, ⟨a0, a1⟩, ⟨b0, b1, b2⟩, hr3⟩ := two_cells hs rfl
    simp only at e1
    subst e1
    clear hs hr3
    obtain ⟨ao, aa, ab, ac⟩ := a
    obtain ⟨bo, ba, bb, bc⟩ := b
    simp only at a0 a1 b0 b1 b2
    have HM : Hid (testB (⟨ao, aa, ab, ac⟩ :: ⟨bo, ba, bb, bc⟩ :: r) = (decide (32 ≤ ao) && decide (ao ≤ 39) && decide (bo = 58 ∨ bo = 59) && decide (ba = aa))) := rfl
    generalize testB (⟨ao, aa, ab, ac⟩ :: ⟨bo, ba, bb, bc⟩ :: r) = M at *
    have hL : (2 : Int) ≤ ((⟨ao, aa, ab, ac⟩ :: ⟨bo, ba, bb, bc⟩ :: r).length : Int) := by simp only [List.length_cons]; omega
    generalize (⟨ao, aa, ab, ac⟩ :: ⟨bo, ba, bb, bc⟩ :: r).length = L at *
    by_cases h00 : 32 ≤ ao
    · skip
      have d00 : decide (32 ≤ ao) = true := decide_eq_true h00
      by_cases h10 : ao ≤ 39
      · skip
        have d10 : decide (ao ≤ 39) = true := decide_eq_true h10
        by_cases h20 : bo = 58
        · skip
          by_cases h30 : ba = aa
          · skip
            have HM2 : Hid (M = true) := by show _ = _; rw [HM.out]; simp [h00, h10, h20, h30]
            go_enter Try.func23, Try.ntmps23
            go_wp2_with fail
            go_quiet (fail)
            go_wp2_with fail
            go_ret
            rw [HM2.out]
            exact ⟨rfl, below_dN (Below.refl _ _) _⟩
          have e30 : (ba == aa) = false := by simpa using h30
          have HM2 : Hid (M = false) := by show _ = _; rw [HM.out]; simp [h00, h10, h20, h30]
          go_enter Try.func23, Try.ntmps23
          go_wp2_with fail
          go_quiet (fail)
          go_wp2_with fail
          go_ret
          rw [HM2.out]
          exact ⟨rfl, below_dN (Below.refl _ _) _⟩
        by_cases h21 : bo = 59
        · skip
          have d20 : (bo == 58) = false := by simpa using h20
          by_cases h30 : ba = aa
          · skip
            have HM2 : Hid (M = true) := by show _ = _; rw [HM.out]; simp [h00, h10, h21, h30]
            go_enter Try.func23, Try.ntmps23
            go_wp2_with fail
            go_quiet (fail)
            go_wp2_with fail
            go_ret
            rw [HM2.out]
            exact ⟨rfl, below_dN (Below.refl _ _) _⟩
          have e30 : (ba == aa) = false := by simpa using h30
          have HM2 : Hid (M = false) := by show _ = _; rw [HM.out]; simp [h00, h10, h21, h30]
          go_enter Try.func23, Try.ntmps23
          go_wp2_with fail
          go_quiet (fail)
          go_wp2_with fail
          go_ret
          rw [HM2.out]
          exact ⟨rfl, below_dN (Below.refl _ _) _⟩
        have e20 : (bo == 58) = false := by simpa using h20
        have e21 : (bo == 59) = false := by simpa using h21
        have HM2 : Hid (M = false) := by show _ = _; rw [HM.out]; simp [h00, h10, h20, h21]
        go_enter Try.func23, Try.ntmps23
        go_wp2_with fail
        go_quiet (fail)
        go_wp2_with fail
        go_ret
        rw [HM2.out]
        exact ⟨rfl, below_dN (Below.refl _ _) _⟩
      have e10 : decide (ao ≤ 39) = false := decide_eq_false h10
      have HM2 : Hid (M = false) := by show _ = _; rw [HM.out]; simp [h00, h10]
      go_enter Try.func23, Try.ntmps23
      go_wp2_with fail
      go_quiet (fail)
      go_wp2_with fail
      go_ret
      rw [HM2.out]
      exact ⟨rfl, below_dN (Below.refl _ _) _⟩
    have e00 : decide (32 ≤ ao) = false := decide_eq_false h00
    have HM2 : Hid (M = false) := by show _ = _; rw [HM.out]; simp [h00]
    go_enter Try.func23, Try.ntmps23
    go_wp2_with fail
    go_quiet (fail)
    go_wp2_with fail
    go_ret
    rw [HM2.out]
    exact ⟨rfl, below_dN (Below.refl _ _) _⟩

set_option maxRecDepth 100000 in
theorem isArith_any (s : Sli Ins) (w : World) (hs : s.ok insC 4 w) : Calls Try.prog 22 #[s.val] w fun e w' => e = .returned (.bool (arithB s.xs)) ∧ Below w.heap.size w w' := by
  obtain ⟨ad, cap, xs⟩ := s
  have hl : (xs.length : Int) ≤ 9223372036854775807 := by have h1 := hs.len; have h2 := hs.cap; simp only at h1 h2; unfold maxLen at h2; omega
  unfold Sli.val
  rcases xs with _ | ⟨a, _ | ⟨b, _ | ⟨c, r⟩⟩⟩
  · clear hs hl
    simp only [arithB, List.length_nil]
    go_enter Try.func22, Try.ntmps22
    go_wp2_with fail; go_quiet (fail); go_wp2_with fail
    go_ret
    exact ⟨rfl, below_dN (Below.refl _ _) _⟩
  · clear hs hl
    simp only [arithB, List.length_cons, List.length_nil]
    go_enter Try.func22, Try.ntmps22
    go_wp2_with fail; go_quiet (fail); go_wp2_with fail
    go_ret
    exact ⟨rfl, below_dN (Below.refl _ _) _⟩
  · clear hs hl
    simp only [arithB, List.length_cons, List.length_nil]
    go_enter Try.func22, Try.ntmps22
    go_wp2_with fail; go_quiet (fail); go_wp2_with fail
    go_ret
    exact ⟨rfl, below_dN (Below.refl _ _) _⟩
  · obtain ⟨g, off, e1, ⟨a0, a1⟩, ⟨b0, b1, b2⟩, hr3⟩ := two_cells hs rfl
    obtain ⟨c0, c2, c3⟩ := hr3 c r rfl
    simp only at e1
    subst e1
    clear hs hr3
    obtain ⟨ao, aa, ab, ac⟩ := a
    obtain ⟨bo, ba, bb, bc⟩ := b
    obtain ⟨co, ca, cb, cc⟩ := c
    simp only at a0 a1 b0 b1 b2 c0 c2 c3
    have HM : Hid (arithB (⟨ao, aa, ab, ac⟩ :: ⟨bo, ba, bb, bc⟩ :: ⟨co, ca, cb, cc⟩ :: r) = (decide (ao = 13) && decide (bo = 13) && decide (21 ≤ co) && decide (co ≤ 35) && decide (cb = aa) && decide (cc = ba))) := rfl
    generalize arithB (⟨ao, aa, ab, ac⟩ :: ⟨bo, ba, bb, bc⟩ :: ⟨co, ca, cb, cc⟩ :: r) = M at *
    have hL : (3 : Int) ≤ ((⟨ao, aa, ab, ac⟩ :: ⟨bo, ba, bb, bc⟩ :: ⟨co, ca, cb, cc⟩ :: r).length : Int) := by simp only [List.length_cons]; omega
    generalize (⟨ao, aa, ab, ac⟩ :: ⟨bo, ba, bb, bc⟩ :: ⟨co, ca, cb, cc⟩ :: r).length = L at *
    by_cases h00 : ao = 13
    · skip
      by_cases h10 : bo = 13
      · skip
        by_cases h20 : 21 ≤ co
        · skip
          have d20 : decide (21 ≤ co) = true := decide_eq_true h20
          by_cases h30 : co ≤ 35
          · skip
            have d30 : decide (co ≤ 35) = true := decide_eq_true h30
            by_cases h40 : cb = aa
            · skip
              by_cases h50 : cc = ba
              · skip
                have HM2 : Hid (M = true) := by show _ = _; rw [HM.out]; simp [h00, h10, h20, h30, h40, h50]
                go_enter Try.func22, Try.ntmps22
                go_wp2_with fail
                go_quiet (fail)
                go_wp2_with fail
                go_ret
                rw [HM2.out]
                exact ⟨rfl, below_dN (Below.refl _ _) _⟩
              have e50 : (cc == ba) = false := by simpa using h50
              have HM2 : Hid (M = false) := by show _ = _; rw [HM.out]; simp [h00, h10, h20, h30, h40, h50]
              go_enter Try.func22, Try.ntmps22
              go_wp2_with fail
              go_quiet (fail)
              go_wp2_with fail
              go_ret
              rw [HM2.out]
              exact ⟨rfl, below_dN (Below.refl _ _) _⟩
            have e40 : (cb == aa) = false := by simpa using h40
            have HM2 : Hid (M = false) := by show _ = _; rw [HM.out]; simp [h00, h10, h20, h30, h40]
            go_enter Try.func22, Try.ntmps22
            go_wp2_with fail
            go_quiet (fail)
            go_wp2_with fail
            go_ret
            rw [HM2.out]
            exact ⟨rfl, below_dN (Below.refl _ _) _⟩
          have e30 : decide (co ≤ 35) = false := decide_eq_false h30
          have HM2 : Hid (M = false) := by show _ = _; rw [HM.out]; simp [h00, h10, h20, h30]
          go_enter Try.func22, Try.ntmps22
          go_wp2_with fail
          go_quiet (fail)
          go_wp2_with fail
          go_ret
          rw [HM2.out]
          exact ⟨rfl, below_dN (Below.refl _ _) _⟩
        have e20 : decide (21 ≤ co) = false := decide_eq_false h20
        have HM2 : Hid (M = false) := by show _ = _; rw [HM.out]; simp [h00, h10, h20]
        go_enter Try.func22, Try.ntmps22
        go_wp2_with fail
        go_quiet (fail)
        go_wp2_with fail
        go_ret
        rw [HM2.out]
        exact ⟨rfl, below_dN (Below.refl _ _) _⟩
      have e10 : (bo == 13) = false := by simpa using h10
      have HM2 : Hid (M = false) := by show _ = _; rw [HM.out]; simp [h00, h10]
      go_enter Try.func22, Try.ntmps22
      go_wp2_with fail
      go_quiet (fail)
      go_wp2_with fail
      go_ret
      rw [HM2.out]
      exact ⟨rfl, below_dN (Below.refl _ _) _⟩
    have e00 : (ao == 13) = false := by simpa using h00
    have HM2 : Hid (M = false) := by show _ = _; rw [HM.out]; simp [h00]
    go_enter Try.func22, Try.ntmps22
    go_wp2_with fail
    go_quiet (fail)
    go_wp2_with fail
    go_ret
    rw [HM2.out]
    exact ⟨rfl, below_dN (Below.refl _ _) _⟩

theorem first_any (s : Sli Ins) (w0 : World) (hs : s.ok insC 4 w0) : Calls Try.prog 16 #[s.val] w0 fun e w' => e = .returned (.tuple #[.int .i64 (firstI s.xs).1, .int .i64 ((firstI s.xs).2 : Int)]) ∧ Below w0.heap.size w0 w' := by
  have k1 := fun w' (hb : Below w0.heap.size w0 w') => isArith_any s w' (hs.kept (cells_below hb))
  have k2 := fun w' (hb : Below w0.heap.size w0 w') => isTest_any s w' (hs.kept (cells_below hb))
  have k3 := fun w' (hb : Below w0.heap.size w0 w') => isFree_any s w' (hs.kept (cells_below hb))
  have k4 := fun w' (hb : Below w0.heap.size w0 w') => isMoves_any s w' (hs.kept (cells_below hb))
  have b0 := Below.refl w0.heap.size w0
  unfold firstI
  generalize s.val = v at *
  clear hs
  cases h1 : arithB s.xs with
  | true =>
    rw [h1] at k1
    rw [if_pos rfl]
    go_enter Try.func16, Try.ntmps16
    go_wp2_with fail
    refine (k1 w0 b0).mono ?_
    rintro e w1 ⟨rfl, b1'⟩
    have b1 := b0.trans (b1'.mono b0.size)
    go_wp2_with fail
    go_ret2
    exact ⟨rfl, b1⟩
  | false =>
  rw [h1] at k1
  rw [if_neg (by simp)]
  cases h2 : testB s.xs with
  | true =>
    rw [h2] at k2
    rw [if_pos rfl]
    go_enter Try.func16, Try.ntmps16
    go_wp2_with fail
    refine (k1 w0 b0).mono ?_
    rintro e w1 ⟨rfl, b1'⟩
    have b1 := b0.trans (b1'.mono b0.size)
    go_wp2_with fail
    refine (k2 w1 b1).mono ?_
    rintro e w2 ⟨rfl, b2'⟩
    have b2 := b1.trans (b2'.mono b1.size)
    go_wp2_with fail
    go_ret2
    exact ⟨rfl, b2⟩
  | false =>
  rw [h2] at k2
  rw [if_neg (by simp)]
  cases h3 : freeB s.xs with
  | true =>
    rw [h3] at k3
    rw [if_pos rfl]
    go_enter Try.func16, Try.ntmps16
    go_wp2_with fail
    refine (k1 w0 b0).mono ?_
    rintro e w1 ⟨rfl, b1'⟩
    have b1 := b0.trans (b1'.mono b0.size)
    go_wp2_with fail
    refine (k2 w1 b1).mono ?_
    rintro e w2 ⟨rfl, b2'⟩
    have b2 := b1.trans (b2'.mono b1.size)
    go_wp2_with fail
    refine (k3 w2 b2).mono ?_
    rintro e w3 ⟨rfl, b3'⟩
    have b3 := b2.trans (b3'.mono b2.size)
    go_wp2_with fail
    go_ret2
    exact ⟨rfl, b3⟩
  | false =>
  rw [h3] at k3
  rw [if_neg (by simp)]
  cases h4 : movesB s.xs with
  | true =>
    rw [h4] at k4
    rw [if_pos rfl]
    go_enter Try.func16, Try.ntmps16
    go_wp2_with fail
    refine (k1 w0 b0).mono ?_
    rintro e w1 ⟨rfl, b1'⟩
    have b1 := b0.trans (b1'.mono b0.size)
    go_wp2_with fail
    refine (k2 w1 b1).mono ?_
    rintro e w2 ⟨rfl, b2'⟩
    have b2 := b1.trans (b2'.mono b1.size)
    go_wp2_with fail
    refine (k3 w2 b2).mono ?_
    rintro e w3 ⟨rfl, b3'⟩
    have b3 := b2.trans (b3'.mono b2.size)
    go_wp2_with fail
    refine (k4 w3 b3).mono ?_
    rintro e w4 ⟨rfl, b4'⟩
    have b4 := b3.trans (b4'.mono b3.size)
    go_wp2_with fail
    go_ret2
    exact ⟨rfl, b4⟩
  | false =>
  rw [h4] at k4
  rw [if_neg (by simp)]
  · go_enter Try.func16, Try.ntmps16
    go_wp2_with fail
    refine (k1 w0 b0).mono ?_
    rintro e w1 ⟨rfl, b1'⟩
    have b1 := b0.trans (b1'.mono b0.size)
    go_wp2_with fail
    refine (k2 w1 b1).mono ?_
    rintro e w2 ⟨rfl, b2'⟩
    have b2 := b1.trans (b2'.mono b1.size)
    go_wp2_with fail
    refine (k3 w2 b2).mono ?_
    rintro e w3 ⟨rfl, b3'⟩
    have b3 := b2.trans (b3'.mono b2.size)
    go_wp2_with fail
    refine (k4 w3 b3).mono ?_
    rintro e w4 ⟨rfl, b4'⟩
    have b4 := b3.trans (b4'.mono b3.size)
    go_wp2_with fail
    go_ret2
    exact ⟨rfl, b4⟩
end Go.Proofs.Ytjkemkggcnholaa.Fu
