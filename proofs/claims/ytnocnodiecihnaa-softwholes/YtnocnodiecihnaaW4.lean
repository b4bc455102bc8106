/- The walk of Add, case by case. -/
import Derived.Test.YtnocnodiecihnaaW3
namespace Go.Proofs.Ytnocnodiecihnaa
open Go.RowKit

theorem bcell {W w1 : World} (hb : Below W.heap.size W w1) : (∀ b o, b < W.heap.size → w1.cell? ⟨b, o, none⟩ = W.cell? ⟨b, o, none⟩) ∧ (∀ b o, b < W.heap.size → w1.frozen? ⟨b, o, none⟩ = W.frozen? ⟨b, o, none⟩) :=
  ⟨fun b o h => hb.cell (p := ⟨b, o, none⟩) h, fun b o h => hb.frozen (p := ⟨b, o, none⟩) h⟩

theorem b2 {w : World} (a b : Obj) : Below w.heap.size w ((w.alloc a).alloc b) :=
  ((Below.refl _ _).alloc (Nat.le_refl _) _).alloc (by simp) _

set_option maxHeartbeats 1000000 in
theorem add_nan_l (a b sa ma ea sb mb eb kb : Int) (w : World) (ca : ∀ w : World, Calls Try.prog 38 #[.int .u64 a] w fun e w' => e = .returned (.agg #[.int .i64 3, .int .u64 sa, .int .u64 ma, .int .i64 ea]) ∧ Below w.heap.size w w')
    (cb : ∀ w : World, Calls Try.prog 38 #[.int .u64 b] w fun e w' => e = .returned (.agg #[.int .i64 kb, .int .u64 sb, .int .u64 mb, .int .i64 eb]) ∧ Below w.heap.size w w')
     :
    Calls Try.prog 11 #[.int .u64 a, .int .u64 b] w fun e w' => e = .returned (.int .u64 9221120237041090560) ∧ Below w.heap.size w w' := by
  go_enter Try.func11, Try.ntmps11
  go_wp2_with fail
  refine (ca _).mono ?_
  rintro e w1 ⟨rfl, hb1⟩
  go_wp2_with fail
  refine (cb _).mono ?_
  rintro e w2 ⟨rfl, hb2⟩
  go_wp2_with fail
  refine (either_any _ _ _ _ _ _ _ _ _ _).mono ?_
  rintro e w3 ⟨rfl, hb3⟩
  obtain ⟨hc, hf⟩ := bcell hb3
  go_wp2
  go_ret
  exact ⟨rfl, bt (bt hb1 hb2) (bt (b2 _ _) hb3)⟩

set_option maxHeartbeats 1000000 in
theorem add_nan_r (a b sa ma ea sb mb eb ka : Int) (w : World) (ca : ∀ w : World, Calls Try.prog 38 #[.int .u64 a] w fun e w' => e = .returned (.agg #[.int .i64 ka, .int .u64 sa, .int .u64 ma, .int .i64 ea]) ∧ Below w.heap.size w w')
    (cb : ∀ w : World, Calls Try.prog 38 #[.int .u64 b] w fun e w' => e = .returned (.agg #[.int .i64 3, .int .u64 sb, .int .u64 mb, .int .i64 eb]) ∧ Below w.heap.size w w')
     :
    Calls Try.prog 11 #[.int .u64 a, .int .u64 b] w fun e w' => e = .returned (.int .u64 9221120237041090560) ∧ Below w.heap.size w w' := by
  go_enter Try.func11, Try.ntmps11
  go_wp2_with fail
  refine (ca _).mono ?_
  rintro e w1 ⟨rfl, hb1⟩
  go_wp2_with fail
  refine (cb _).mono ?_
  rintro e w2 ⟨rfl, hb2⟩
  go_wp2_with fail
  refine (either_any _ _ _ _ _ _ _ _ _ _).mono ?_
  rintro e w3 ⟨rfl, hb3⟩
  obtain ⟨hc, hf⟩ := bcell hb3
  go_wp2
  go_ret
  exact ⟨rfl, bt (bt hb1 hb2) (bt (b2 _ _) hb3)⟩

set_option maxHeartbeats 1000000 in
theorem add_inf_ne (a b sa ma ea sb mb eb : Int) (w : World) (ca : ∀ w : World, Calls Try.prog 38 #[.int .u64 a] w fun e w' => e = .returned (.agg #[.int .i64 2, .int .u64 sa, .int .u64 ma, .int .i64 ea]) ∧ Below w.heap.size w w')
    (cb : ∀ w : World, Calls Try.prog 38 #[.int .u64 b] w fun e w' => e = .returned (.agg #[.int .i64 2, .int .u64 sb, .int .u64 mb, .int .i64 eb]) ∧ Below w.heap.size w w')
    (hs : (sa != sb) = true) :
    Calls Try.prog 11 #[.int .u64 a, .int .u64 b] w fun e w' => e = .returned (.int .u64 9221120237041090560) ∧ Below w.heap.size w w' := by
  go_enter Try.func11, Try.ntmps11
  go_wp2_with fail
  refine (ca _).mono ?_
  rintro e w1 ⟨rfl, hb1⟩
  go_wp2_with fail
  refine (cb _).mono ?_
  rintro e w2 ⟨rfl, hb2⟩
  go_wp2_with fail
  refine (either_any _ _ _ _ _ _ _ _ _ _).mono ?_
  rintro e w3 ⟨rfl, hb3⟩
  obtain ⟨hc, hf⟩ := bcell hb3
  go_wp2
  go_ret
  exact ⟨rfl, bt (bt hb1 hb2) (bt (b2 _ _) hb3)⟩

set_option maxHeartbeats 1000000 in
theorem add_inf_eq (a b sa ma ea sb mb eb : Int) (w : World) (ca : ∀ w : World, Calls Try.prog 38 #[.int .u64 a] w fun e w' => e = .returned (.agg #[.int .i64 2, .int .u64 sa, .int .u64 ma, .int .i64 ea]) ∧ Below w.heap.size w w')
    (cb : ∀ w : World, Calls Try.prog 38 #[.int .u64 b] w fun e w' => e = .returned (.agg #[.int .i64 2, .int .u64 sb, .int .u64 mb, .int .i64 eb]) ∧ Below w.heap.size w w')
    (hs : (sa != sb) = false) :
    Calls Try.prog 11 #[.int .u64 a, .int .u64 b] w fun e w' => e = .returned (.int .u64 a) ∧ Below w.heap.size w w' := by
  go_enter Try.func11, Try.ntmps11
  go_wp2_with fail
  refine (ca _).mono ?_
  rintro e w1 ⟨rfl, hb1⟩
  go_wp2_with fail
  refine (cb _).mono ?_
  rintro e w2 ⟨rfl, hb2⟩
  go_wp2_with fail
  refine (either_any _ _ _ _ _ _ _ _ _ _).mono ?_
  rintro e w3 ⟨rfl, hb3⟩
  obtain ⟨hc, hf⟩ := bcell hb3
  go_wp2
  go_ret
  exact ⟨rfl, bt (bt hb1 hb2) (bt (b2 _ _) hb3)⟩

set_option maxHeartbeats 1000000 in
theorem add_inf_l (a b sa ma ea sb mb eb kb : Int) (w : World) (ca : ∀ w : World, Calls Try.prog 38 #[.int .u64 a] w fun e w' => e = .returned (.agg #[.int .i64 2, .int .u64 sa, .int .u64 ma, .int .i64 ea]) ∧ Below w.heap.size w w')
    (cb : ∀ w : World, Calls Try.prog 38 #[.int .u64 b] w fun e w' => e = .returned (.agg #[.int .i64 kb, .int .u64 sb, .int .u64 mb, .int .i64 eb]) ∧ Below w.heap.size w w')
    (k1 : (kb == 3) = false) (k2 : (kb == 2) = false) :
    Calls Try.prog 11 #[.int .u64 a, .int .u64 b] w fun e w' => e = .returned (.int .u64 a) ∧ Below w.heap.size w w' := by
  go_enter Try.func11, Try.ntmps11
  go_wp2_with fail
  refine (ca _).mono ?_
  rintro e w1 ⟨rfl, hb1⟩
  go_wp2_with fail
  refine (cb _).mono ?_
  rintro e w2 ⟨rfl, hb2⟩
  go_wp2_with fail
  refine (either_any _ _ _ _ _ _ _ _ _ _).mono ?_
  rintro e w3 ⟨rfl, hb3⟩
  obtain ⟨hc, hf⟩ := bcell hb3
  go_wp2
  go_ret
  exact ⟨rfl, bt (bt hb1 hb2) (bt (b2 _ _) hb3)⟩

set_option maxHeartbeats 1000000 in
theorem add_inf_r (a b sa ma ea sb mb eb ka : Int) (w : World) (ca : ∀ w : World, Calls Try.prog 38 #[.int .u64 a] w fun e w' => e = .returned (.agg #[.int .i64 ka, .int .u64 sa, .int .u64 ma, .int .i64 ea]) ∧ Below w.heap.size w w')
    (cb : ∀ w : World, Calls Try.prog 38 #[.int .u64 b] w fun e w' => e = .returned (.agg #[.int .i64 2, .int .u64 sb, .int .u64 mb, .int .i64 eb]) ∧ Below w.heap.size w w')
    (k1 : (ka == 3) = false) (k2 : (ka == 2) = false) :
    Calls Try.prog 11 #[.int .u64 a, .int .u64 b] w fun e w' => e = .returned (.int .u64 b) ∧ Below w.heap.size w w' := by
  go_enter Try.func11, Try.ntmps11
  go_wp2_with fail
  refine (ca _).mono ?_
  rintro e w1 ⟨rfl, hb1⟩
  go_wp2_with fail
  refine (cb _).mono ?_
  rintro e w2 ⟨rfl, hb2⟩
  go_wp2_with fail
  refine (either_any _ _ _ _ _ _ _ _ _ _).mono ?_
  rintro e w3 ⟨rfl, hb3⟩
  obtain ⟨hc, hf⟩ := bcell hb3
  go_wp2
  go_ret
  exact ⟨rfl, bt (bt hb1 hb2) (bt (b2 _ _) hb3)⟩

set_option maxHeartbeats 1000000 in
theorem add_00 (a b sa ma ea sb mb eb : Int) (w : World) (ca : ∀ w : World, Calls Try.prog 38 #[.int .u64 a] w fun e w' => e = .returned (.agg #[.int .i64 0, .int .u64 sa, .int .u64 ma, .int .i64 ea]) ∧ Below w.heap.size w w')
    (cb : ∀ w : World, Calls Try.prog 38 #[.int .u64 b] w fun e w' => e = .returned (.agg #[.int .i64 0, .int .u64 sb, .int .u64 mb, .int .i64 eb]) ∧ Below w.heap.size w w')
     :
    Calls Try.prog 11 #[.int .u64 a, .int .u64 b] w fun e w' => e = .returned (.int .u64 (bits .and .u64 a b)) ∧ Below w.heap.size w w' := by
  go_enter Try.func11, Try.ntmps11
  go_wp2_with fail
  refine (ca _).mono ?_
  rintro e w1 ⟨rfl, hb1⟩
  go_wp2_with fail
  refine (cb _).mono ?_
  rintro e w2 ⟨rfl, hb2⟩
  go_wp2_with fail
  refine (either_any _ _ _ _ _ _ _ _ _ _).mono ?_
  rintro e w3 ⟨rfl, hb3⟩
  obtain ⟨hc, hf⟩ := bcell hb3
  go_wp2
  go_ret
  exact ⟨rfl, bt (bt hb1 hb2) (bt (b2 _ _) hb3)⟩

set_option maxHeartbeats 1000000 in
theorem add_01 (a b sa ma ea sb mb eb : Int) (w : World) (ca : ∀ w : World, Calls Try.prog 38 #[.int .u64 a] w fun e w' => e = .returned (.agg #[.int .i64 0, .int .u64 sa, .int .u64 ma, .int .i64 ea]) ∧ Below w.heap.size w w')
    (cb : ∀ w : World, Calls Try.prog 38 #[.int .u64 b] w fun e w' => e = .returned (.agg #[.int .i64 1, .int .u64 sb, .int .u64 mb, .int .i64 eb]) ∧ Below w.heap.size w w')
     :
    Calls Try.prog 11 #[.int .u64 a, .int .u64 b] w fun e w' => e = .returned (.int .u64 b) ∧ Below w.heap.size w w' := by
  go_enter Try.func11, Try.ntmps11
  go_wp2_with fail
  refine (ca _).mono ?_
  rintro e w1 ⟨rfl, hb1⟩
  go_wp2_with fail
  refine (cb _).mono ?_
  rintro e w2 ⟨rfl, hb2⟩
  go_wp2_with fail
  refine (either_any _ _ _ _ _ _ _ _ _ _).mono ?_
  rintro e w3 ⟨rfl, hb3⟩
  obtain ⟨hc, hf⟩ := bcell hb3
  go_wp2
  go_ret
  exact ⟨rfl, bt (bt hb1 hb2) (bt (b2 _ _) hb3)⟩

set_option maxHeartbeats 1000000 in
theorem add_10 (a b sa ma ea sb mb eb : Int) (w : World) (ca : ∀ w : World, Calls Try.prog 38 #[.int .u64 a] w fun e w' => e = .returned (.agg #[.int .i64 1, .int .u64 sa, .int .u64 ma, .int .i64 ea]) ∧ Below w.heap.size w w')
    (cb : ∀ w : World, Calls Try.prog 38 #[.int .u64 b] w fun e w' => e = .returned (.agg #[.int .i64 0, .int .u64 sb, .int .u64 mb, .int .i64 eb]) ∧ Below w.heap.size w w')
     :
    Calls Try.prog 11 #[.int .u64 a, .int .u64 b] w fun e w' => e = .returned (.int .u64 a) ∧ Below w.heap.size w w' := by
  go_enter Try.func11, Try.ntmps11
  go_wp2_with fail
  refine (ca _).mono ?_
  rintro e w1 ⟨rfl, hb1⟩
  go_wp2_with fail
  refine (cb _).mono ?_
  rintro e w2 ⟨rfl, hb2⟩
  go_wp2_with fail
  refine (either_any _ _ _ _ _ _ _ _ _ _).mono ?_
  rintro e w3 ⟨rfl, hb3⟩
  obtain ⟨hc, hf⟩ := bcell hb3
  go_wp2
  go_ret
  exact ⟨rfl, bt (bt hb1 hb2) (bt (b2 _ _) hb3)⟩

set_option maxHeartbeats 1000000 in
theorem add_11 (a b sa ma ea sb mb eb Z : Int) (w : World) (ca : ∀ w : World, Calls Try.prog 38 #[.int .u64 a] w fun e w' => e = .returned (.agg #[.int .i64 1, .int .u64 sa, .int .u64 ma, .int .i64 ea]) ∧ Below w.heap.size w w')
    (cb : ∀ w : World, Calls Try.prog 38 #[.int .u64 b] w fun e w' => e = .returned (.agg #[.int .i64 1, .int .u64 sb, .int .u64 mb, .int .i64 eb]) ∧ Below w.heap.size w w')
    (cs : ∀ w : World, Calls Try.prog 40 #[.agg #[.int .i64 1, .int .u64 sa, .int .u64 ma, .int .i64 ea], .agg #[.int .i64 1, .int .u64 sb, .int .u64 mb, .int .i64 eb]] w fun e w' => e = .returned (.int .u64 Z) ∧ Below w.heap.size w w') :
    Calls Try.prog 11 #[.int .u64 a, .int .u64 b] w fun e w' => e = .returned (.int .u64 Z) ∧ Below w.heap.size w w' := by
  go_enter Try.func11, Try.ntmps11
  go_wp2_with fail
  refine (ca _).mono ?_
  rintro e w1 ⟨rfl, hb1⟩
  go_wp2_with fail
  refine (cb _).mono ?_
  rintro e w2 ⟨rfl, hb2⟩
  go_wp2_with fail
  refine (either_any _ _ _ _ _ _ _ _ _ _).mono ?_
  rintro e w3 ⟨rfl, hb3⟩
  obtain ⟨hc, hf⟩ := bcell hb3
  go_wp2_with fail
  refine (cs _).mono ?_
  rintro e w4 ⟨rfl, hb4⟩
  go_wp2
  go_ret
  exact ⟨rfl, bt (bt (bt hb1 hb2) (bt (b2 _ _) hb3)) hb4⟩
end Go.Proofs.Ytnocnodiecihnaa
