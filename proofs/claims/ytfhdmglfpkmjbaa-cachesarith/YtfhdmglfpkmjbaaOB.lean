/- Caches: Arith and Call, by the program and by the document. -/
import Derived.Test.YtfhdmglfpkmjbaaOA
namespace Go.Proofs.Ytfhdmglfpkmjbaa.Hp
open Go.RowKit
set_option linter.unusedVariables false
set_option linter.unusedSimpArgs false

def mxI (a b : Int) : Int := if a < b then b else a
def arI (s a b : Int) : Int := if 3 < mxI (mxI s (rkI a)) (rkI b) then 3 else mxI (mxI s (rkI a)) (rkI b)

set_option maxRecDepth 100000 in
theorem greatest_two (s a b : Int) (g : Nat) (w : World) (c0 : w.cell? ⟨g, 0, none⟩ = some (.int .i64 a)) (c1 : w.cell? ⟨g, 1, none⟩ = some (.int .i64 b)) :
    Calls Try.prog 29 #[.int .i64 s, .slice (some ⟨g, 0, none⟩) 2 2] w fun e w' => e = .returned (.int .i64 (mxI (mxI s a) b)) ∧ w' = w := by
  go_enter Try.func29, Try.ntmps29
  go_wp2_with fail
  go_loopw [0, 9] (fun p q wr => ((p = .int .i64 s ∧ q = .int .i64 0) ∨ (p = .int .i64 (mxI s a) ∧ q = .int .i64 1) ∨ (p = .int .i64 (mxI (mxI s a) b) ∧ q = .int .i64 2)) ∧ wr = w) (fun p q wr => (2 - intOf q).toNat)
  case atStart => exact ⟨Or.inl ⟨rfl, rfl⟩, rfl⟩
  case round =>
    obtain ⟨⟨rfl, rfl⟩ | ⟨rfl, rfl⟩ | ⟨rfl, rfl⟩, rfl⟩ := hrel
    · go_wp2_with fail
      exact ⟨⟨Or.inr (Or.inl ⟨rfl, rfl⟩), trivial⟩, by simp [intOf]⟩
    · go_wp2_with fail
      exact ⟨⟨Or.inr (Or.inr ⟨rfl, rfl⟩), trivial⟩, by simp [intOf]⟩
    · go_wp2_with fail
      go_ret
      exact ⟨rfl, rfl⟩

set_option maxRecDepth 100000 in
theorem arith_any (s a b : Int) (w : World) (a0 : 0 ≤ a) (a1 : a < 18446744073709551616) (b0 : 0 ≤ b) (b1 : b < 18446744073709551616) :
    Calls Try.prog 19 #[.int .i64 s, .int .u64 a, .int .u64 b] w fun e w' => e = .returned (.int .i64 (arI s a b)) ∧ Below w.heap.size w w' := by
  have ka := stateOf_any a w a0 a1
  have HB : Hid (∀ w : World, Calls Try.prog 30 #[.int .u64 b] w fun e w' => e = .returned (.int .i64 (rkI b)) ∧ Below w.heap.size w w') := fun w => stateOf_any b w b0 b1
  obtain ⟨R, hR⟩ : ∃ R, R = arI s a b := ⟨_, rfl⟩
  have HR : Hid (R = if 3 < mxI (mxI s (rkI a)) (rkI b) then 3 else mxI (mxI s (rkI a)) (rkI b)) := hR
  rw [← hR]
  generalize rkI a = x at *
  generalize rkI b = y at *
  clear hR
  go_enter Try.func19, Try.ntmps19
  go_wp2_with fail
  refine ka.mono ?_
  rintro e w1 ⟨rfl, hb1⟩
  have HB1 : Hid (Below w.heap.size w w1) := hb1
  have kb := HB.out w1
  clear ka hb1
  go_wp2_with fail
  refine kb.mono ?_
  rintro e w2 ⟨rfl, hb2⟩
  have HB2 : Hid (Below w.heap.size w w2) := HB1.out.trans (hb2.mono HB1.out.size)
  clear kb hb2 HB1
  have kg := greatest_two s x y w2.heap.size (w2.alloc (.cells #[.int .i64 x, .int .i64 y] 3)) (box_new w2 _ _ 0 _ rfl) (box_new w2 _ _ 1 _ rfl)
  generalize mxI (mxI s x) y = z at *
  go_wp2_with fail
  refine kg.mono ?_
  rintro e w3 ⟨rfl, rfl⟩
  clear kg
  by_cases c : 3 < z
  · rw [if_pos c] at HR
    go_wp2_with fail
    go_ret
    rw [HR.out]
    exact ⟨rfl, below_new HB2.out HB2.out.size _⟩
  · rw [if_neg c] at HR
    go_wp2_with fail
    go_ret
    rw [HR.out]
    exact ⟨rfl, below_new HB2.out HB2.out.size _⟩

set_option maxRecDepth 100000 in
theorem rarith_any (s a b : Int) (w : World) (a0 : 0 ≤ a) (a1 : a < 18446744073709551616) (b0 : 0 ≤ b) (b1 : b < 18446744073709551616) :
    Calls Try.prog 20 #[.int .i64 s, .int .u64 a, .int .u64 b] w fun e w' => e = .returned (.int .i64 (arI s a b)) ∧ Below w.heap.size w w' := by
  have ka := rank_any a w a0 a1
  have HB : Hid (∀ w : World, Calls Try.prog 31 #[.int .u64 b] w fun e w' => e = .returned (.int .i64 (rkI b)) ∧ Below w.heap.size w w') := fun w => rank_any b w b0 b1
  obtain ⟨R, hR⟩ : ∃ R, R = arI s a b := ⟨_, rfl⟩
  have HR : Hid (R = if 3 < mxI (mxI s (rkI a)) (rkI b) then 3 else mxI (mxI s (rkI a)) (rkI b)) := hR
  rw [← hR]
  generalize rkI a = x at *
  generalize rkI b = y at *
  unfold mxI at HR
  clear hR
  go_enter Try.func20, Try.ntmps20
  go_wp2_with fail
  refine ka.mono ?_
  rintro e w1 ⟨rfl, hb1⟩
  have HB1 : Hid (Below w.heap.size w w1) := hb1
  have kb := HB.out w1
  clear ka hb1
  go_wp2_with fail
  refine kb.mono ?_
  rintro e w2 ⟨rfl, hb2⟩
  have HB2 : Hid (Below w.heap.size w w2) := HB1.out.trans (hb2.mono HB1.out.size)
  clear kb hb2 HB1
  by_cases c1 : s < x
  · rw [if_pos c1] at HR
    by_cases c2 : x < y
    · rw [if_pos c2] at HR
      by_cases c3 : 3 < y
      · rw [if_pos c3] at HR
        go_wp2_with fail
        go_ret
        rw [HR.out]
        exact ⟨rfl, HB2.out⟩
      · rw [if_neg c3] at HR
        go_wp2_with fail
        go_ret
        rw [HR.out]
        exact ⟨rfl, HB2.out⟩
    · rw [if_neg c2] at HR
      by_cases c3 : 3 < x
      · rw [if_pos c3] at HR
        go_wp2_with fail
        go_ret
        rw [HR.out]
        exact ⟨rfl, HB2.out⟩
      · rw [if_neg c3] at HR
        go_wp2_with fail
        go_ret
        rw [HR.out]
        exact ⟨rfl, HB2.out⟩
  · rw [if_neg c1] at HR
    by_cases c2 : s < y
    · rw [if_pos c2] at HR
      by_cases c3 : 3 < y
      · rw [if_pos c3] at HR
        go_wp2_with fail
        go_ret
        rw [HR.out]
        exact ⟨rfl, HB2.out⟩
      · rw [if_neg c3] at HR
        go_wp2_with fail
        go_ret
        rw [HR.out]
        exact ⟨rfl, HB2.out⟩
    · rw [if_neg c2] at HR
      by_cases c3 : 3 < s
      · rw [if_pos c3] at HR
        go_wp2_with fail
        go_ret
        rw [HR.out]
        exact ⟨rfl, HB2.out⟩
      · rw [if_neg c3] at HR
        go_wp2_with fail
        go_ret
        rw [HR.out]
        exact ⟨rfl, HB2.out⟩

/-- the state of a call, and its target -/
def caI (st tg c : Int) : Int × Int := if st = 0 then (1, c) else if st = 1 ∧ c = tg then (1, tg) else (2, 18445336698825998336)

set_option maxRecDepth 100000 in
theorem call_any (st tg c : Int) (w : World) : Calls Try.prog 21 #[.int .i64 st, .int .u64 tg, .int .u64 c] w fun e w' => e = .returned (.tuple #[.int .i64 (caI st tg c).1, .int .u64 (caI st tg c).2]) ∧ w' = w := by
  obtain ⟨R, hR⟩ : ∃ R, R = caI st tg c := ⟨_, rfl⟩
  have HR : Hid (R = if st = 0 then (1, c) else if st = 1 ∧ c = tg then (1, tg) else (2, 18445336698825998336)) := hR
  rw [← hR]
  clear hR
  by_cases c0 : st = 0
  · rw [if_pos c0] at HR
    subst c0
    go_enter Try.func21, Try.ntmps21
    go_wp2_with fail
    go_ret2
    rw [HR.out]
    exact ⟨rfl, rfl⟩
  · rw [if_neg c0] at HR
    have h0 : (st == (0 : Int)) = false := by simpa using c0
    by_cases c1 : st = 1
    · subst c1
      by_cases c2 : c = tg
      · rw [if_pos ⟨rfl, c2⟩] at HR
        subst c2
        clear c0 h0
        go_enter Try.func21, Try.ntmps21
        go_wp2_with fail
        go_ret2
        rw [HR.out]
        exact ⟨rfl, rfl⟩
      · rw [if_neg (fun q => c2 q.2)] at HR
        have h2 : (c == tg) = false := by simpa using c2
        clear c0 h0
        go_enter Try.func21, Try.ntmps21
        go_wp2_with fail
        go_ret2
        rw [HR.out]
        exact ⟨rfl, rfl⟩
    · rw [if_neg (fun q => c1 q.1)] at HR
      have h1 : (st == (1 : Int)) = false := by simpa using c1
      go_enter Try.func21, Try.ntmps21
      go_wp2_with fail
      go_ret2
      rw [HR.out]
      exact ⟨rfl, rfl⟩
end Go.Proofs.Ytfhdmglfpkmjbaa.Hp
