/- The walk of Mul at two finite ones. -/
import Derived.Test.YtnocnodiecihnaaW8
namespace Go.Proofs.Ytnocnodiecihnaa
open Go.RowKit

set_option maxHeartbeats 1000000 in
theorem mul_11 (a b sa ma ea sb mb eb S Z Ma Ea Mb Eb H L K : Int) (w : World) (ca : ∀ w : World, Calls Try.prog 38 #[.int .u64 a] w fun e w' => e = .returned (.agg #[.int .i64 1, .int .u64 sa, .int .u64 ma, .int .i64 ea]) ∧ Below w.heap.size w w')
    (cb : ∀ w : World, Calls Try.prog 38 #[.int .u64 b] w fun e w' => e = .returned (.agg #[.int .i64 1, .int .u64 sb, .int .u64 mb, .int .i64 eb]) ∧ Below w.heap.size w w')
    (hS : bits .xor .u64 sa sb = S)
    (sc1 : ∀ w : World, Calls Try.prog 42 #[.agg #[.int .i64 1, .int .u64 sa, .int .u64 ma, .int .i64 ea]] w fun e' w' => e' = .returned (.agg #[.int .i64 1, .int .u64 sa, .int .u64 Ma, .int .i64 Ea]) ∧ Below w.heap.size w w')
    (sc2 : ∀ w : World, Calls Try.prog 42 #[.agg #[.int .i64 1, .int .u64 sb, .int .u64 mb, .int .i64 eb]] w fun e' w' => e' = .returned (.agg #[.int .i64 1, .int .u64 sb, .int .u64 Mb, .int .i64 Eb]) ∧ Below w.heap.size w w')
    (m64 : ∀ w : World, Calls Try.prog 43 #[.int .u64 Ma, .int .u64 Mb] w fun e w' => e = .returned (.tuple #[.int .u64 H, .int .u64 L]) ∧ w' = w)
    (stc : ∀ w : World, Calls Try.prog 45 #[.int .u64 H, .bool (L != 0)] w fun e w' => e = .returned (.int .u64 K) ∧ w' = w)
    (rnd : ∀ w : World, Calls Try.prog 44 #[.int .u64 S, .int .u64 K, .int .i64 (IntKind.i64.wrap (IntKind.i64.wrap (Ea + Eb) + 64))] w fun e w' => e = .returned (.int .u64 Z) ∧ Below w.heap.size w w')
    (_ea0 : -10000 ≤ Ea) (_ea1 : Ea ≤ 10000) (_eb0 : -10000 ≤ Eb) (_eb1 : Eb ≤ 10000) :
    Calls Try.prog 14 #[.int .u64 a, .int .u64 b] w fun e w' => e = .returned (.int .u64 Z) ∧ Below w.heap.size w w' := by
  go_enter Try.func14, Try.ntmps14
  go_wp2_with fail
  refine (ca _).mono ?_
  rintro e w1 ⟨rfl, hb1⟩
  go_wp2_with fail
  refine (cb _).mono ?_
  rintro e w2 ⟨rfl, hb2⟩
  go_wp2_with fail
  refine (either_any _ _ _ _ _ _ _ _ _ _).mono ?_
  rintro e w3 ⟨rfl, hb3⟩
  have B3 := (boxes_new w2 _ _ _ _ _ _ _ _ 44).keep hb3
  have B := B3
  unfold Boxes at B
  obtain ⟨⟨x0, x1, x2, x3⟩, ⟨y0, y1, y2, y3⟩, ⟨f0, f1, f2, f3⟩, ⟨g0, g1, g2, g3⟩, hz⟩ := B
  go_wp2_with fail
  refine (either_any _ _ _ _ _ _ _ _ _ _).mono ?_
  rintro e w4 ⟨rfl, hb4⟩
  have B4 := B3.keep hb4
  clear x0 x1 x2 x3 y0 y1 y2 y3 f0 f1 f2 f3 g0 g1 g2 g3 hz B3
  have B := B4
  unfold Boxes at B
  obtain ⟨⟨x0, x1, x2, x3⟩, ⟨y0, y1, y2, y3⟩, ⟨f0, f1, f2, f3⟩, ⟨g0, g1, g2, g3⟩, hz⟩ := B
  go_wp2_with fail
  refine (either_any _ _ _ _ _ _ _ _ _ _).mono ?_
  rintro e w5 ⟨rfl, hb5⟩
  have B5 := B4.keep hb5
  clear x0 x1 x2 x3 y0 y1 y2 y3 f0 f1 f2 f3 g0 g1 g2 g3 hz B4
  have B := B5
  unfold Boxes at B
  obtain ⟨⟨x0, x1, x2, x3⟩, ⟨y0, y1, y2, y3⟩, ⟨f0, f1, f2, f3⟩, ⟨g0, g1, g2, g3⟩, hz⟩ := B
  go_wp2_with fail
  refine (either_any _ _ _ _ _ _ _ _ _ _).mono ?_
  rintro e w6 ⟨rfl, hb6⟩
  have B6 := B5.keep hb6
  clear x0 x1 x2 x3 y0 y1 y2 y3 f0 f1 f2 f3 g0 g1 g2 g3 hz B5
  have B := B6
  unfold Boxes at B
  obtain ⟨⟨x0, x1, x2, x3⟩, ⟨y0, y1, y2, y3⟩, ⟨f0, f1, f2, f3⟩, ⟨g0, g1, g2, g3⟩, hz⟩ := B
  go_wp2_with fail
  have G2 : Below w.heap.size w w2 := bt hb1 hb2
  have G6 : Below w.heap.size w w6 := bt (bt (bt (bt G2 (bt (b2 _ _) hb3)) hb4) hb5) hb6
  have n2 : w.heap.size ≤ w2.heap.size := G2.size
  have n2' : w.heap.size ≤ w2.heap.size + 1 := by omega
  clear hb1 hb2 hb3 hb4 hb5 hb6
  go_cut [7] (fun s wx => s = .int .u64 S ∧ Boxes wx w2.heap.size (.int .i64 1) (.int .u64 sa) (.int .u64 Ma) (.int .i64 Ea) (.int .i64 1) (.int .u64 sb) (.int .u64 Mb) (.int .i64 Eb) ∧ Below w.heap.size w wx)
  case first =>
    go_region_with (first | (go_at_call_of 42 ma; refine (sc1 _).mono ?_; rintro e w7 ⟨rfl, hb7⟩; have G7 := bt (w := w) (by first | exact G7 | exact G7.drew | exact G6 | exact G6.drew) hb7; have B7 := Boxes.keep (by first | exact B7 | exact B6) hb7; have B := B7; unfold Boxes at B; obtain ⟨⟨x0, x1, x2, x3⟩, ⟨y0, y1, y2, y3⟩, ⟨f0, f1, f2, f3⟩, ⟨g0, g1, g2, g3⟩, hz⟩ := B) | (go_at_call_of 42 mb; refine (sc2 _).mono ?_; rintro e w7 ⟨rfl, hb7⟩; have G7 := bt (w := w) (by first | exact G7 | exact G7.drew | exact G6 | exact G6.drew) hb7; have B7 := Boxes.keep (by first | exact B7 | exact B6) hb7; have B := B7; unfold Boxes at B; obtain ⟨⟨x0, x1, x2, x3⟩, ⟨y0, y1, y2, y3⟩, ⟨f0, f1, f2, f3⟩, ⟨g0, g1, g2, g3⟩, hz⟩ := B))
    all_goals (
      go_wp2_with fail
      go_meet
      case rel =>
        exact ⟨rfl, B7.stored G7 n2 _ _ _ _ _ _ _ _⟩)
  case rest =>
    obtain ⟨rfl, Bx, Gx⟩ := hcut
    have B := Bx
    unfold Boxes at B
    clear x0 x1 x2 x3 y0 y1 y2 y3 f0 f1 f2 f3 g0 g1 g2 g3 hz B6
    obtain ⟨⟨x0, x1, x2, x3⟩, ⟨y0, y1, y2, y3⟩, ⟨f0, f1, f2, f3⟩, ⟨g0, g1, g2, g3⟩, hz⟩ := B
    go_wp2_with fail
    refine (m64 _).mono ?_
    rintro e w8 ⟨rfl, hw⟩
    subst hw
    go_wp2_with fail
    go_region_with (first | (go_at_call 45; refine (stc _).mono ?_; rintro e w9 ⟨rfl, hw⟩; subst hw) | (go_at_call 44; refine (rnd _).mono ?_; rintro e w9 ⟨rfl, hb9⟩))
    all_goals (
      go_wp2
      go_ret
      exact ⟨rfl, bt Gx.drew hb9⟩)

end Go.Proofs.Ytnocnodiecihnaa
