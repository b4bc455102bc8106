/- ScopeRights: the walk. -/
import Derived.Test.YtihmdcdifakepaaYI
namespace Go.Proofs.Ytihmdcdifakepaa.Sc
open Go.RowKit
set_option linter.unusedVariables false
set_option linter.unusedSimpArgs false

set_option maxRecDepth 100000 in
set_option maxHeartbeats 2000000 in
theorem rights_walk (n : Nat) (t : Tr n) (w : World) (hok : okT n w t) : Calls Try.prog 3 #[valT n t] w fun e w' => e = .returned (.bool true) ∧ Below w.heap.size w w' := by
  cases n with
  | zero => exact nomatch (t : Empty)
  | succ n =>
    obtain ⟨⟨kind, pl, name, num, op⟩, ⟨ad, cap, xs⟩⟩ := t
    obtain ⟨R, hR⟩ : ∃ R, R = rootP (n + 1) ((⟨kind, pl, name, num, op⟩, ⟨ad, cap, xs⟩) : Nd × Sli (Tr n)) := ⟨_, rfl⟩
    have HP : Hid (∀ w1, Below w.heap.size w w1 → Calls Try.prog 9 #[.agg #[.int .i64 kind, .int .i64 pl, .string name, .int .u64 num, .string op, .slice ad xs.length cap]] w1 fun e w' => e = .returned (.bool R) ∧ Below w1.heap.size w1 w') := by
      intro w1 hb
      rw [hR]
      exact Right_any (n + 1) _ w1 (okT_kept hok (cells_below hb))
    have HQ : Hid (∀ w1, Below w.heap.size w w1 → Calls Try.prog 10 #[.agg #[.int .i64 kind, .int .i64 pl, .string name, .int .u64 num, .string op, .slice ad xs.length cap]] w1 fun e w' => e = .returned (.bool R) ∧ Below w1.heap.size w1 w') := by
      intro w1 hb
      rw [hR.trans (root_same (n + 1) _)]
      exact refRight_any (n + 1) _ w1 (okT_kept hok (cells_below hb))
    show Calls Try.prog 3 #[.agg #[.int .i64 kind, .int .i64 pl, .string name, .int .u64 num, .string op, .slice ad xs.length cap]] w fun e w' => e = .returned (.bool true) ∧ Below w.heap.size w w'
    obtain ⟨wb, hwb⟩ : ∃ wb, wb = w.alloc (.cells #[.int .i64 kind, .int .i64 pl, .string name, .int .u64 num, .string op, .slice ad xs.length cap] 25) := ⟨_, rfl⟩
    have hbl : Below w.heap.size w wb := by rw [hwb]; exact (Below.refl _ _).alloc (Nat.le_refl _) _
    have HB : Hid (Below w.heap.size w wb) := hbl
    have b0 : wb.cell? ⟨w.heap.size, 0, none⟩ = some (.int .i64 kind) := by rw [hwb]; exact box_new w _ _ 0 _ rfl
    have b1 : wb.cell? ⟨w.heap.size, 1, none⟩ = some (.int .i64 pl) := by rw [hwb]; exact box_new w _ _ 1 _ rfl
    have b2 : wb.cell? ⟨w.heap.size, 2, none⟩ = some (.string name) := by rw [hwb]; exact box_new w _ _ 2 _ rfl
    have b3 : wb.cell? ⟨w.heap.size, 3, none⟩ = some (.int .u64 num) := by rw [hwb]; exact box_new w _ _ 3 _ rfl
    have b4 : wb.cell? ⟨w.heap.size, 4, none⟩ = some (.string op) := by rw [hwb]; exact box_new w _ _ 4 _ rfl
    have b5 : wb.cell? ⟨w.heap.size, 5, none⟩ = some (.slice ad xs.length cap) := by rw [hwb]; exact box_new w _ _ 5 _ rfl
    have hal := alive_any wb.drew
    have HDR : Hid (Below wb.heap.size wb wb.drew) := (Below.refl wb.heap.size wb).drew
    clear hR hok hbl
    go_enter Try.func3, Try.ntmps3
    go_upto_region 1 with fail
    rw [← hwb]
    clear hwb
    go_wp2_with fail
    go_region_held_law (fun w' => w'.cell? ⟨w.heap.size, 0, none⟩ = some (.int .i64 kind) ∧ w'.cell? ⟨w.heap.size, 1, none⟩ = some (.int .i64 pl) ∧ w'.cell? ⟨w.heap.size, 2, none⟩ = some (.string name) ∧ w'.cell? ⟨w.heap.size, 3, none⟩ = some (.int .u64 num) ∧ w'.cell? ⟨w.heap.size, 4, none⟩ = some (.string op) ∧ w'.cell? ⟨w.heap.size, 5, none⟩ = some (.slice ad xs.length cap)) (first | exact kk3 | exact kk2 | exact kk1 | go_keep)
      ((first
        | (go_at_call 8; refine hal.mono ?_; rintro e w1 ⟨rfl, hb1⟩; have g1 : Below wb.heap.size wb w1 := HDR.out.trans (hb1.mono HDR.out.size); have kk1 := And.intro (cells_below g1 _ _ b0) (And.intro (cells_below g1 _ _ b1) (And.intro (cells_below g1 _ _ b2) (And.intro (cells_below g1 _ _ b3) (And.intro (cells_below g1 _ _ b4) (cells_below g1 _ _ b5))))); have h1 := HP.out w1 (HB.out.trans (g1.mono HB.out.size)))
        | (go_at_call 9; refine h1.mono ?_; rintro e w2 ⟨rfl, hb2⟩; have g2 : Below wb.heap.size wb w2 := g1.trans (hb2.mono g1.size); have kk2 := And.intro (cells_below g2 _ _ b0) (And.intro (cells_below g2 _ _ b1) (And.intro (cells_below g2 _ _ b2) (And.intro (cells_below g2 _ _ b3) (And.intro (cells_below g2 _ _ b4) (cells_below g2 _ _ b5))))); have h2 := HQ.out w2 (HB.out.trans (g2.mono HB.out.size)))
        | (go_at_call 10; refine h2.mono ?_; rintro e w3 ⟨rfl, hb3⟩; have g3 : Below wb.heap.size wb w3 := g2.trans (hb3.mono g2.size); have kk3 := And.intro (cells_below g3 _ _ b0) (And.intro (cells_below g3 _ _ b1) (And.intro (cells_below g3 _ _ b2) (And.intro (cells_below g3 _ _ b3) (And.intro (cells_below g3 _ _ b4) (cells_below g3 _ _ b5))))))))
    all_goals
      go_wp2
      go_ret
    all_goals exact ⟨rfl, HB.out.trans (g3.mono HB.out.size)⟩
end Go.Proofs.Ytihmdcdifakepaa.Sc
