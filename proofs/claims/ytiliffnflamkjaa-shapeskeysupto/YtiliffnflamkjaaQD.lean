/- The document's Root. -/
import Derived.Test.YtiliffnflamkjaaQC
namespace Go.Proofs.Ytiliffnflamkjaa.Sp
open Go.RowKit
set_option linter.unusedVariables false

/-- a tree of the document's behind a call, once the result is laid into its block -/
theorem RTree.laid {N : Nat → Prop} {w2 : World} {s : Sli RS} {L : List Sh} {rb : Nat} (h : RTree (fun b => N b ∧ b ≠ rb) w2 s L) (x y : Value) : RTree N ((w2.setCell ⟨rb, 0, none⟩ x).setCell ⟨rb, 1, none⟩ y) s L :=
  (h.kept (S := fun b => b = rb) ((Chg.set (S := fun b => b = rb) _ _ _ rfl).trans (Chg.set (S := fun b => b = rb) _ _ _ rfl) (fun _ _ q => q)) (fun b q _ e => q.2 e)).mono (fun b q _ => q.1)

theorem RTree.inside {N : Nat → Prop} {w w' : World} {s : Sli RS} {L : List Sh} (h : RTree N w s L) (hb : Below w.heap.size w w') (rb : Nat) (hrb : w.heap.size ≤ rb) : RTree (fun b => N b ∧ b ≠ rb) w' s L :=
  (h.mono (fun b q hl => ⟨q, by omega⟩)).below hb

theorem okn_nil {β : Type} {N : Nat → Prop} {enc : β → List Value} {k : Nat} {w : World} : Sli.okn N enc k w ⟨none, 0, []⟩ := ⟨⟨Nat.le_refl _, Nat.zero_le _, fun h => absurd rfl h⟩, fun h => absurd rfl h⟩

set_option maxRecDepth 100000 in
set_option maxHeartbeats 2000000 in
theorem rroot_any (N : Nat → Prop) (w : World) (m : Int) (s : Sli RS) (L : List Sh) (h : RTree N w s L) (p : Int) (hN : ∀ b, w.heap.size ≤ b → N b) (hcap : m ≤ top ∨ L.length + 1 ≤ top) :
    Calls Try.prog 17 #[.agg #[.int .i64 m, .slice s.at' s.xs.length s.cap], .int .u64 p] w fun e w' => RWent N w m (rootD m L p) e w' := by
  obtain ⟨sa, sc, sx⟩ := s
  simp only
  obtain ⟨wb, hwb⟩ : ∃ wb, wb = (w.alloc (.cells #[.int .i64 m, .slice sa sx.length sc] 27)).alloc (.cells #[.int .i64 0, .slice none 0 0] 27) := ⟨_, rfl⟩
  have hB : Below w.heap.size w wb := by rw [hwb]; exact B2 _ _ _
  have g0 : wb.heap[w.heap.size]? = some (.cells #[.int .i64 m, .slice sa sx.length sc] 27 (0, 0)) := by rw [hwb]; exact at_old _ _ _ _ (at_new _ _)
  have g1 : wb.heap[w.heap.size + 1]? = some (.cells #[.int .i64 0, .slice none 0 0] 27 (0, 0)) := by rw [hwb]; exact at_two _ _ _
  have hsz : wb.heap.size = w.heap.size + 2 := by rw [hwb, size_new, size_new]
  have a0 : wb.cell? ⟨w.heap.size, 0, none⟩ = some (.int .i64 m) := by rw [cell_of_row wb _ 0 _ 27 (0, 0) g0]; rfl
  have a1 : wb.cell? ⟨w.heap.size, 1, none⟩ = some (.slice sa sx.length sc) := by rw [cell_of_row wb _ 1 _ 27 (0, 0) g0]; rfl
  have kl := rlay_any (fun b => N b ∧ b ≠ w.heap.size + 1) wb m ⟨sa, sc, sx⟩ L (h.inside hB _ (by omega)) ⟨p, ⟨none, 0, []⟩, ⟨none, 0, []⟩, ⟨none, 0, []⟩⟩ ⟨okn_nil, okn_nil, okn_nil⟩ (fun b q => ⟨hN b (by omega), by omega⟩) hcap
  unfold rsV RS.sh at kl
  simp only [List.length_nil] at kl
  unfold rootD
  have HG : Hid (wb.heap[w.heap.size + 1]? = some (.cells #[.int .i64 0, .slice none 0 0] 27 (0, 0)) ∧ wb.heap.size = w.heap.size + 2 ∧ Below w.heap.size w wb) := ⟨g1, hsz, hB⟩
  generalize layD m L ⟨p, [], [], []⟩ = r at *
  clear h hN hcap g0 g1 hsz hB
  go_enter Try.func17, Try.ntmps17
  go_upto_region 1 with fail
  rw [← hwb]
  clear hwb
  go_wp2_with fail
  refine kl.mono ?_
  rintro e w2 ⟨⟨za, zc, zx⟩, rfl, hrt, hb2⟩
  have bl : w2.heap[w.heap.size + 1]? = some (.cells #[.int .i64 0, .slice none 0 0] 27 (0, 0)) := (hb2.block _ (by have := HG.out.2.1; omega)).trans HG.out.1
  have c0 : w2.cell? ⟨w.heap.size + 1, 0, none⟩ = some (.int .i64 0) := by rw [cell_of_row w2 _ 0 _ 27 (0, 0) bl]; rfl
  have c1 : w2.cell? ⟨w.heap.size + 1, 1, none⟩ = some (.slice none 0 0) := by rw [cell_of_row w2 _ 1 _ 27 (0, 0) bl]; rfl
  have f0 := frozen_of_row w2 _ 0 _ 27 bl
  have f1 := frozen_of_row w2 _ 1 _ 27 bl
  have HBL : Hid (w2.heap[w.heap.size + 1]? = some (.cells #[.int .i64 0, .slice none 0 0] 27 (0, 0)) ∧ RTree (fun b => N b ∧ b ≠ w.heap.size + 1) w2 ⟨za, zc, zx⟩ r.1 ∧ Below w.heap.size w w2) := ⟨bl, hrt, HG.out.2.2.trans (hb2.mono HG.out.2.2.size)⟩
  clear bl hrt hb2 kl a0 a1
  simp only
  go_wp2_with fail
  refine bodyPost_ret (res3 rfl _ _ (w.heap.size + 1) 27 _ (0, 0) _ rfl (set2_same w2 _ _ _ _ _ HBL.out.1) Try.underlying27 rfl (by kernel_rfl)) rfl ?_
  exact ⟨⟨za, zc, zx⟩, rfl, HBL.out.2.1.laid _ _, set2_below HBL.out.2.2 (by omega) _ _⟩

end Go.Proofs.Ytiliffnflamkjaa.Sp
