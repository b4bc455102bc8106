/- The law's step. -/
import Derived.Test.YtiliffnflamkjaaQJ
namespace Go.Proofs.Ytiliffnflamkjaa.Sp
open Go.RowKit
set_option linter.unusedVariables false

def stepW (w : World) (m : Int) (s : Sli RS) (o : Cl) : World := (((w.alloc (.cells #[.int .i64 m, .slice s.at' s.xs.length s.cap] 27)).alloc (.cells #[.int .i64 o.kd, .int .i64 o.sh, .int .i64 o.fl, .int .u64 o.pr, .string o.ke] 33)).alloc (.cells #[.int .i64 0, .slice none 0 0] 27)).alloc (.cells #[.int .i64 m, .slice s.at' s.xs.length s.cap] 27)

structure StW (w wb : World) (m : Int) (s : Sli RS) (o : Cl) : Prop where
  a : wb.heap[w.heap.size]? = some (.cells #[.int .i64 m, .slice s.at' s.xs.length s.cap] 27 (0, 0))
  b : wb.heap[w.heap.size + 1]? = some (.cells #[.int .i64 o.kd, .int .i64 o.sh, .int .i64 o.fl, .int .u64 o.pr, .string o.ke] 33 (0, 0))
  c : wb.heap[w.heap.size + 1 + 1]? = some (.cells #[.int .i64 0, .slice none 0 0] 27 (0, 0))
  d : wb.heap[w.heap.size + 1 + 1 + 1]? = some (.cells #[.int .i64 m, .slice s.at' s.xs.length s.cap] 27 (0, 0))
  sz : wb.heap.size = w.heap.size + 4
  bel : Below w.heap.size w wb

theorem stW (w : World) (m : Int) (s : Sli RS) (o : Cl) : StW w (stepW w m s o) m s o :=
  ⟨at_old _ _ _ _ (at_old _ _ _ _ (at_old _ _ _ _ (at_new _ _))), at_old _ _ _ _ (at_old _ _ _ _ (at_two _ _ _)), at_old _ _ _ _ (at_three _ _ _ _), at_four _ _ _ _ _, by unfold stepW; rw [size_new, size_new, size_new, size_new], below_new (below_new (B2 _ _ _) (by rw [size_new, size_new]; omega) _) (by rw [size_new, size_new, size_new]; omega) _⟩

/-- behind the program's call -/
structure Beh (X : Nat → Prop) (w w2 : World) (B : Nat) (O2 : Nat → Prop) (m : Int) (s : Sli RS) (o : Cl) (L : List Sh) : Prop where
  tree : RTree (NS X O2 w.heap.size) w2 s L
  ns : ∀ b, w2.heap.size ≤ b → NS X O2 w.heap.size b
  a : w2.heap[w.heap.size]? = some (.cells #[.int .i64 m, .slice s.at' s.xs.length s.cap] 27 (0, 0))
  b : w2.heap[w.heap.size + 1]? = some (.cells #[.int .i64 o.kd, .int .i64 o.sh, .int .i64 o.fl, .int .u64 o.pr, .string o.ke] 33 (0, 0))
  c : w2.heap[w.heap.size + 1 + 1]? = some (.cells #[.int .i64 0, .slice none 0 0] 27 (0, 0))
  d : w2.heap[w.heap.size + 1 + 1 + 1]? = some (.cells #[.int .i64 m, .slice s.at' s.xs.length s.cap] 27 (0, 0))
  sz : w.heap.size + 4 ≤ w2.heap.size
  bel : Below B w w2
  os : ∀ b, O2 b → b < w.heap.size ∨ w.heap.size + 4 ≤ b
  ox : ∀ b, O2 b → ¬ X b
  keep : ∀ b, X b → w2.heap[b]? = w.heap[b]?

theorem beh_of {X : Nat → Prop} {w wb w2 : World} {B tb : Nat} {O O2 : Nat → Prop} {most m : Int} {L L2 : List Sh} {s : Sli RS} {o : Cl} (hT : Tree w B tb O most L) (hR : RTree (fun b => ¬ O b ∧ ¬ X b) w s L) (hX : ∀ b, X b → b < w.heap.size) (hOX : ∀ b, O b → ¬ X b) (hS : StW w wb m s o) (hBw : B ≤ w.heap.size)
    (hT2 : Tree w2 B tb O2 most L2) (hc : Chg O wb w2) (hO : ∀ b, O2 b → O b ∨ wb.heap.size ≤ b) : Beh X w w2 B O2 m s o L := by
  have hl := hT.lt
  have hsz := hS.sz
  have hcs := hc.size
  have os : ∀ b, O2 b → b < w.heap.size ∨ w.heap.size + 4 ≤ b := fun b q => by
    rcases hO b q with q | q
    · exact Or.inl (hl b q).2
    · exact Or.inr (by omega)
  have bl : ∀ (k : Nat) (x : Obj), w.heap.size ≤ k → k < wb.heap.size → wb.heap[k]? = some x → w2.heap[k]? = some x := fun k x h1 h2 h3 => (hc.block k h2 (fun q => by have := (hl k q).2; omega)).trans h3
  refine ⟨?_, fun b hb => ⟨⟨⟨fun q => ?_, fun q => by have := hX b q; omega⟩, by omega⟩, by omega⟩, bl _ _ (by omega) (by omega) hS.a, bl _ _ (by omega) (by omega) hS.b, bl _ _ (by omega) (by omega) hS.c, bl _ _ (by omega) (by omega) hS.d, by omega, ?_, os, fun b q => ?_, fun b q => ?_⟩
  · have h1 : RTree (fun b => (¬ O b ∧ ¬ X b) ∧ b < w.heap.size) wb s L := (hR.mono (fun b q hl => ⟨q, hl⟩)).below hS.bel
    have h2 := h1.kept hc (fun b q _ e => q.1.1 e)
    refine h2.mono (fun b q _ => ⟨⟨⟨fun e => ?_, q.1.2⟩, by omega⟩, by omega⟩)
    rcases hO b e with e | e
    · exact q.1.1 e
    · omega
  · have := (hT2.lt b q).2
    omega
  · exact hc.below (hS.bel.mono hBw) (by omega) (fun k q => (hl k q).1)
  · rcases hO b q with q | q
    · exact hOX b q
    · intro e; have := hX b e; omega
  · have := hX b q
    exact (hc.block b (by omega) (fun e => hOX b e q)).trans (hS.bel.block b this)

/-- behind the document's call, its tree laid into the law's variable -/
theorem mid_of {X : Nat → Prop} {w wb w2 w3 : World} {B tb : Nat} {O2 : Nat → Prop} {most : Int} {L L2 : List Sh} {s s3 : Sli RS} {o : Cl} (hb : Beh X w w2 B O2 (max most 0) s o L) (hX : ∀ b, X b → b < w.heap.size) (hBw : B ≤ w.heap.size) (hT2 : Tree w2 B tb O2 most L2) (h3 : RTree (NS X O2 w.heap.size) w3 s3 L2) (hb3 : Below w2.heap.size w2 w3) :
    Mid X w wb ((w3.setCell ⟨w.heap.size + 1 + 1 + 1, 0, none⟩ (.int .i64 (max most 0))).setCell ⟨w.heap.size + 1 + 1 + 1, 1, none⟩ (.slice s3.at' s3.xs.length s3.cap)) B tb most o L2 s3 := by
  have hsz := hb.sz
  have hs3 := hb3.size
  have hx : w3.heap[w.heap.size + 1 + 1 + 1]? = some (.cells #[.int .i64 (max most 0), .slice s.at' s.xs.length s.cap] 27 (0, 0)) := (hb3.block _ (by omega)).trans hb.d
  have hcg : Chg (fun b => b = w.heap.size + 1 + 1 + 1) w3 ((w3.setCell ⟨w.heap.size + 1 + 1 + 1, 0, none⟩ (.int .i64 (max most 0))).setCell ⟨w.heap.size + 1 + 1 + 1, 1, none⟩ (.slice s3.at' s3.xs.length s3.cap)) := chg_set2 (Chg.refl _ _) _ _
  refine ⟨⟨O2, (hT2.below hb3).kept hcg (fun b q e => by have := hb.os b q; omega), h3.kept hcg (fun b q _ e => q.2 e), hb.os, hb.ox⟩, ?_, ?_, set2_same w3 _ _ _ _ _ hx, ?_, ?_, fun b q => ?_⟩
  · exact (hcg.block _ (by omega) (by omega)).trans ((hb3.block _ (by omega)).trans hb.b)
  · exact (hcg.block _ (by omega) (by omega)).trans ((hb3.block _ (by omega)).trans hb.c)
  · have := hcg.size; omega
  · exact hcg.below (hb.bel.trans (hb3.mono (by omega))) (by omega) (fun k q => by omega)
  · have := hX b q
    exact (hcg.block b (by omega) (by omega)).trans ((hb3.block b (by omega)).trans (hb.keep b q))

/-- at the end of a step -/
theorem fin_of {X : Nat → Prop} {w wb wq w7 : World} {B tb : Nat} {most : Int} {o : Cl} {L : List Sh} {s : Sli RS} (h : Mid X w wb wq B tb most o L s) (hX : ∀ b, X b → b < w.heap.size) (hBw : B ≤ w.heap.size) (hb : Below wq.heap.size wq w7) (x y : Value) :
    Both X ((w7.setCell ⟨w.heap.size + 1 + 1, 0, none⟩ x).setCell ⟨w.heap.size + 1 + 1, 1, none⟩ y) B tb most L s ∧ Below B w ((w7.setCell ⟨w.heap.size + 1 + 1, 0, none⟩ x).setCell ⟨w.heap.size + 1 + 1, 1, none⟩ y) ∧ ∀ b, X b → ((w7.setCell ⟨w.heap.size + 1 + 1, 0, none⟩ x).setCell ⟨w.heap.size + 1 + 1, 1, none⟩ y).heap[b]? = w.heap[b]? := by
  obtain ⟨O', h1, h2, h3, h4⟩ := h.at'
  have hsz := h.sz
  have hs7 := hb.size
  have hcg : Chg (fun b => b = w.heap.size + 1 + 1) w7 ((w7.setCell ⟨w.heap.size + 1 + 1, 0, none⟩ x).setCell ⟨w.heap.size + 1 + 1, 1, none⟩ y) := chg_set2 (Chg.refl _ _) _ _
  refine ⟨⟨O', (h1.below hb).kept hcg (fun b q e => by have := h3 b q; omega), ((h2.below hb).kept hcg (fun b q _ e => q.1.2 e)).mono (fun b q _ => q.1.1), h4⟩, ?_, fun b q => ?_⟩
  · exact hcg.below (h.bel.trans (hb.mono (by omega))) (by omega) (fun k q => by omega)
  · have := hX b q
    exact (hcg.block b (by omega) (by omega)).trans ((hb.block b (by omega)).trans (h.keep b q))

theorem Both.drew {X : Nat → Prop} {w : World} {B tb : Nat} {most : Int} {L : List Sh} {s : Sli RS} (h : Both X w B tb most L s) : Both X w.drew B tb most L s := h.below (Below.refl _ _).drew

set_option maxRecDepth 100000 in
set_option maxHeartbeats 16000000 in
theorem step_any (X : Nat → Prop) (w : World) (B tb : Nat) (most : Int) (L : List Sh) (s : Sli RS) (h : Both X w B tb most L s) (hX : ∀ b, X b → b < w.heap.size) (hBw : B ≤ w.heap.size) (o : Cl) (ho : o.wf) (hroom : Room most L) :
    Calls Try.prog 10 #[.pointer (some ⟨tb, 0, none⟩), .agg #[.int .i64 (max most 0), .slice s.at' s.xs.length s.cap], clV o] w fun e w' => ∃ s', e = .returned (.tuple #[.agg #[.int .i64 (max most 0), .slice s'.at' s'.xs.length s'.cap], .bool true]) ∧ Both X w' B tb most (opD most L o).1 s' ∧ Below B w w' ∧ ∀ b, X b → w'.heap[b]? = w.heap[b]? := by
  obtain ⟨O, hT, hR, hOX⟩ := h
  have hS := stW w (max most 0) s o
  have hTb := hT.below hS.bel
  have hrel : (∃ T, Rel T L) ∧ L.length ≤ top := by obtain ⟨T, v, mb, h⟩ := hT; exact ⟨⟨T, h.rel⟩, h.cap⟩
  obtain ⟨hre, htop⟩ := hrel
  have hsizes := (let ⟨T, hT'⟩ := hre; rel_sizes hT' htop)
  have hcap1 := hroom.one
  have hcapm : max most 0 ≤ (top : Int) ∨ L.length + 1 ≤ top := hcap1.imp top_max id
  have hcapm2 : max most 0 ≤ (top : Int) ∨ ∀ s ∈ L, L.length + s.ks.length + 1 ≤ top := hroom.all.imp top_max id
  have HPA : Hid _ := hS
  -- the last part
  have HFIN : Hid (∀ (wq : World) (L' : List Sh) (s' : Sli RS), Mid X w (stepW w (max most 0) s o) wq B tb most o L' s' → Calls Try.prog 12 #[.pointer (some ⟨tb, 0, none⟩)] wq.drew (fun e w' => e = .returned (.int .i64 (L'.length : Int)) ∧ w' = wq.drew) ∧ Calls Try.prog 23 #[.pointer (some ⟨tb, 0, none⟩), .agg #[.int .i64 (max most 0), .slice s'.at' s'.xs.length s'.cap], clV o] wq.drew (fun e w' => e = .returned (.bool true) ∧ Below wq.heap.size wq w') ∧ s'.xs.length = L'.length) := fun wq L' s' hm => by
    obtain ⟨O', h1, h2, h3, h4⟩ := hm.at'
    have hd : Below wq.heap.size wq wq.drew := (Below.refl _ _).drew
    refine ⟨count_any wq.drew B tb O' most L' (h1.below hd), ?_, h2.len⟩
    refine (told_any (NS X O' w.heap.size) wq.drew B tb O' most (max most 0) L' (h1.below hd) s' (h2.below hd) o).mono ?_
    rintro e w' ⟨rfl, hb⟩
    exact ⟨rfl, hd.trans hb⟩
  have HBW : Hid (B ≤ w.heap.size) := hBw
  have HX : Hid (∀ b, X b → b < w.heap.size) := hX
  obtain ⟨kd, sh, fl, pr, ke⟩ := o
  obtain ⟨sa, sc, sx⟩ := s
  unfold clV at *
  obtain ⟨wb, hwb⟩ : ∃ wb, wb = stepW w (max most 0) ⟨sa, sc, sx⟩ ⟨kd, sh, fl, pr, ke⟩ := ⟨_, rfl⟩
  rw [← hwb] at hS hTb HFIN
  unfold stepW at hwb
  simp only at *
  have HS := (show Hid _ from hS)
  have a0 : wb.cell? ⟨w.heap.size, 0, none⟩ = some (.int .i64 (max most 0)) := by rw [cell_of_row wb _ 0 _ 27 (0, 0) hS.a]; rfl
  have a1 : wb.cell? ⟨w.heap.size, 1, none⟩ = some (.slice sa sx.length sc) := by rw [cell_of_row wb _ 1 _ 27 (0, 0) hS.a]; rfl
  have p0 : wb.cell? ⟨w.heap.size + 1, 0, none⟩ = some (.int .i64 kd) := by rw [cell_of_row wb _ 0 _ 33 (0, 0) hS.b]; rfl
  have p1 : wb.cell? ⟨w.heap.size + 1, 1, none⟩ = some (.int .i64 sh) := by rw [cell_of_row wb _ 1 _ 33 (0, 0) hS.b]; rfl
  have p2 : wb.cell? ⟨w.heap.size + 1, 2, none⟩ = some (.int .i64 fl) := by rw [cell_of_row wb _ 2 _ 33 (0, 0) hS.b]; rfl
  have p3 : wb.cell? ⟨w.heap.size + 1, 3, none⟩ = some (.int .u64 pr) := by rw [cell_of_row wb _ 3 _ 33 (0, 0) hS.b]; rfl
  have p4 : wb.cell? ⟨w.heap.size + 1, 4, none⟩ = some (.string ke) := by rw [cell_of_row wb _ 4 _ 33 (0, 0) hS.b]; rfl
  by_cases k0 : kd = 0
  · subst k0
    have hop : opD most L ⟨0, sh, fl, pr, ke⟩ = rootD most L pr := by unfold opD; simp
    rw [hop]
    have kr := root_any wb B tb O most L hTb pr ho.pr1 ho.pr2 hcap1
    have HREF : Hid (∀ w2 O2, Beh X w w2 B O2 (max most 0) ⟨sa, sc, sx⟩ ⟨0, sh, fl, pr, ke⟩ L → Calls Try.prog 17 #[.agg #[.int .i64 (max most 0), .slice sa sx.length sc], .int .u64 pr] w2 fun e w' => RWent (NS X O2 w.heap.size) w2 (max most 0) (rootD most L pr) e w') := fun w2 O2 hb => by
      have := rroot_any (NS X O2 w.heap.size) w2 (max most 0) ⟨sa, sc, sx⟩ L hb.tree pr hb.ns hcapm
      rw [root_max] at this
      exact this
    have HBEH : Hid (∀ w2 O2 L2, Tree w2 B tb O2 most L2 → Chg O wb w2 → (∀ b, O2 b → O b ∨ wb.heap.size ≤ b) → Beh X w w2 B O2 (max most 0) ⟨sa, sc, sx⟩ ⟨0, sh, fl, pr, ke⟩ L) := fun w2 O2 L2 z1 z2 z3 => beh_of hT hR HX.out hOX HS.out HBW.out z1 z2 z3
    generalize hr : rootD most L pr = r at *
    obtain ⟨L1, n1, ok1⟩ := r
    simp only at kr HREF ⊢
    clear hr hop hT hR hTb hS hre htop hsizes hcap1 hcapm hcapm2 hroom ho HPA hBw hX hOX
    go_enter Try.func10, Try.ntmps10
    go_upto_region 6 with fail
    rw [← hwb]
    clear hwb
    go_wp2_with fail
    refine kr.mono ?_
    rintro e w2 ⟨rfl, O2, z1, z2, z3⟩
    have hbeh := HBEH.out w2 O2 _ z1 z2 z3
    have kq := HREF.out w2 O2 hbeh
    have HBE : Hid (Beh X w w2 B O2 (max most 0) ⟨sa, sc, sx⟩ ⟨0, sh, fl, pr, ke⟩ L ∧ Tree w2 B tb O2 most L1) := ⟨hbeh, z1⟩
    have a0 : w2.cell? ⟨w.heap.size, 0, none⟩ = some (.int .i64 (max most 0)) := by rw [cell_of_row w2 _ 0 _ 27 (0, 0) hbeh.a]; rfl
    have a1 : w2.cell? ⟨w.heap.size, 1, none⟩ = some (.slice sa sx.length sc) := by rw [cell_of_row w2 _ 1 _ 27 (0, 0) hbeh.a]; rfl
    have p0 : w2.cell? ⟨w.heap.size + 1, 0, none⟩ = some (.int .i64 0) := by rw [cell_of_row w2 _ 0 _ 33 (0, 0) hbeh.b]; rfl
    have p1 : w2.cell? ⟨w.heap.size + 1, 1, none⟩ = some (.int .i64 sh) := by rw [cell_of_row w2 _ 1 _ 33 (0, 0) hbeh.b]; rfl
    have p2 : w2.cell? ⟨w.heap.size + 1, 2, none⟩ = some (.int .i64 fl) := by rw [cell_of_row w2 _ 2 _ 33 (0, 0) hbeh.b]; rfl
    have p3 : w2.cell? ⟨w.heap.size + 1, 3, none⟩ = some (.int .u64 pr) := by rw [cell_of_row w2 _ 3 _ 33 (0, 0) hbeh.b]; rfl
    have p4 : w2.cell? ⟨w.heap.size + 1, 4, none⟩ = some (.string ke) := by rw [cell_of_row w2 _ 4 _ 33 (0, 0) hbeh.b]; rfl
    clear kr z1 z2 z3 hbeh HREF HBEH
    go_wp2_with fail
    refine kq.mono ?_
    rintro e w3 ⟨⟨za, zc, zx⟩, rfl, hrt, hb3⟩
    have hmid := mid_of (wb := wb) HBE.out.1 HX.out HBW.out HBE.out.2 hrt hb3
    have HM0 := (show Hid _ from hmid)
    have bx : w3.heap[w.heap.size + 1 + 1 + 1]? = some (.cells #[.int .i64 (max most 0), .slice sa sx.length sc] 27 (0, 0)) := (hb3.block _ (by have := HBE.out.1.sz; omega)).trans HBE.out.1.d
    have x0 : w3.cell? ⟨w.heap.size + 1 + 1 + 1, 0, none⟩ = some (.int .i64 (max most 0)) := by rw [cell_of_row w3 _ 0 _ 27 (0, 0) bx]; rfl
    have x1 : w3.cell? ⟨w.heap.size + 1 + 1 + 1, 1, none⟩ = some (.slice sa sx.length sc) := by rw [cell_of_row w3 _ 1 _ 27 (0, 0) bx]; rfl
    have y0 := frozen_of_row w3 _ 0 _ 27 bx
    have y1 := frozen_of_row w3 _ 1 _ 27 bx
    clear kq hrt hb3 hmid bx HBE a0 a1 p0 p1 p2 p3 p4
    simp only at HM0
    go_upto_region 19 with fail
    obtain ⟨wq, hwq⟩ : ∃ wq, wq = (w3.setCell ⟨w.heap.size + 1 + 1 + 1, 0, none⟩ (.int .i64 (max most 0))).setCell ⟨w.heap.size + 1 + 1 + 1, 1, none⟩ (.slice za zx.length zc) := ⟨_, rfl⟩
    have HM : Hid (Mid X w wb wq B tb most ⟨0, sh, fl, pr, ke⟩ L1 ⟨za, zc, zx⟩) := by rw [hwq]; exact HM0.out
    rw [← hwq]
    clear hwq HM0 x0 x1 y0 y1
    obtain ⟨kc, kt, hll⟩ := HFIN.out wq _ _ HM.out
    have HLL := (show Hid _ from hll)
    have x0 : wq.cell? ⟨w.heap.size + 1 + 1 + 1, 0, none⟩ = some (.int .i64 (max most 0)) := by rw [cell_of_row wq _ 0 _ 27 (0, 0) HM.out.x]; rfl
    have x1 : wq.cell? ⟨w.heap.size + 1 + 1 + 1, 1, none⟩ = some (.slice za zx.length zc) := by rw [cell_of_row wq _ 1 _ 27 (0, 0) HM.out.x]; rfl
    have p0 : wq.cell? ⟨w.heap.size + 1, 0, none⟩ = some (.int .i64 0) := by rw [cell_of_row wq _ 0 _ 33 (0, 0) HM.out.op]; rfl
    have p1 : wq.cell? ⟨w.heap.size + 1, 1, none⟩ = some (.int .i64 sh) := by rw [cell_of_row wq _ 1 _ 33 (0, 0) HM.out.op]; rfl
    have p2 : wq.cell? ⟨w.heap.size + 1, 2, none⟩ = some (.int .i64 fl) := by rw [cell_of_row wq _ 2 _ 33 (0, 0) HM.out.op]; rfl
    have p3 : wq.cell? ⟨w.heap.size + 1, 3, none⟩ = some (.int .u64 pr) := by rw [cell_of_row wq _ 3 _ 33 (0, 0) HM.out.op]; rfl
    have p4 : wq.cell? ⟨w.heap.size + 1, 4, none⟩ = some (.string ke) := by rw [cell_of_row wq _ 4 _ 33 (0, 0) HM.out.op]; rfl
    simp only at kc kt hll
    rw [← hll] at kc
    have t5 : ((n1 : Int) == n1) = true := by simp
    have t6 : ((ok1 : Bool) == ok1) = true := by simp
    have t7 : ((zx.length : Int) == zx.length) = true := by simp
    have HEND : Hid (∀ w7, Below wq.heap.size wq w7 → w7.heap[w.heap.size + 1 + 1]? = some (.cells #[.int .i64 0, .slice none 0 0] 27 (0, 0)) ∧ (∀ a u, wq.cell? a = some u → w7.cell? a = some u)) := fun w7 hb => ⟨(hb.block _ (by have := HM.out.sz; omega)).trans HM.out.res, cells_below hb⟩
    clear HFIN hll
    go_region_held_law (fun W => W.cell? ⟨w.heap.size + 1 + 1 + 1, 0, none⟩ = some (.int .i64 (max most 0)) ∧ W.cell? ⟨w.heap.size + 1 + 1 + 1, 1, none⟩ = some (.slice za zx.length zc) ∧ W.cell? ⟨w.heap.size + 1, 0, none⟩ = some (.int .i64 0) ∧ W.cell? ⟨w.heap.size + 1, 1, none⟩ = some (.int .i64 sh) ∧ W.cell? ⟨w.heap.size + 1, 2, none⟩ = some (.int .i64 fl) ∧ W.cell? ⟨w.heap.size + 1, 3, none⟩ = some (.int .u64 pr) ∧ W.cell? ⟨w.heap.size + 1, 4, none⟩ = some (.string ke)) (first | exact ⟨hk7 _ _ x0, hk7 _ _ x1, hk7 _ _ p0, hk7 _ _ p1, hk7 _ _ p2, hk7 _ _ p3, hk7 _ _ p4⟩ | exact ⟨set2_cell (hk7 _ _ x0) (by omega), set2_cell (hk7 _ _ x1) (by omega), set2_cell (hk7 _ _ p0) (by omega), set2_cell (hk7 _ _ p1) (by omega), set2_cell (hk7 _ _ p2) (by omega), set2_cell (hk7 _ _ p3) (by omega), set2_cell (hk7 _ _ p4) (by omega)⟩ | exact ⟨x0, x1, p0, p1, p2, p3, p4⟩ | go_keep) ((first | (go_at_call 12; refine kc.mono ?_; rintro e w6 ⟨rfl, rfl⟩) | (go_at_call 23; refine kt.mono ?_; rintro e w7 ⟨rfl, hb7⟩; obtain ⟨bl7, hk7⟩ := HEND.out w7 hb7; have c70 := cell_of_row w7 (w.heap.size + 1 + 1) 0 _ 27 (0, 0) bl7; have c71 := cell_of_row w7 (w.heap.size + 1 + 1) 1 _ 27 (0, 0) bl7; have f70 := frozen_of_row w7 (w.heap.size + 1 + 1) 0 _ 27 bl7; have f71 := frozen_of_row w7 (w.heap.size + 1 + 1) 1 _ 27 bl7; have HB7 : Hid (w7.heap[w.heap.size + 1 + 1]? = some (.cells #[.int .i64 0, .slice none 0 0] 27 (0, 0)) ∧ Below wq.heap.size wq w7) := ⟨bl7, hb7⟩; clear bl7 hb7)))
    all_goals
      go_wp2_with fail
      refine bodyPost_ret (res2 rfl _ _ (w.heap.size + 1 + 1) 27 _ (0, 0) _ rfl (set2_same w7 _ _ _ _ _ HB7.out.1) Try.underlying27 rfl (by kernel_rfl)) rfl ?_
      have hfin := fin_of HM.out HX.out HBW.out HB7.out.2 (.int .i64 (max most 0)) (.slice za zx.length zc)
      exact ⟨⟨za, zc, zx⟩, rfl, hfin.1, hfin.2.1, hfin.2.2⟩
  by_cases k1 : kd = 1
  · subst k1
    have hop : opD most L ⟨1, sh, fl, pr, ke⟩ = addD most L sh ke fl := by unfold opD; simp
    rw [hop]
    have kr := add_any wb B tb O most L hTb sh ke fl ho.key hcap1
    have HREF : Hid (∀ w2 O2, Beh X w w2 B O2 (max most 0) ⟨sa, sc, sx⟩ ⟨1, sh, fl, pr, ke⟩ L → Calls Try.prog 18 #[.agg #[.int .i64 (max most 0), .slice sa sx.length sc], .int .i64 sh, .string ke, .int .i64 fl] w2 fun e w' => RWent (NS X O2 w.heap.size) w2 (max most 0) (addD most L sh ke fl) e w') := fun w2 O2 hb => by
      have := radd_any (NS X O2 w.heap.size) w2 (max most 0) ⟨sa, sc, sx⟩ L hb.tree sh ke fl hb.ns hcapm hsizes.1
      rw [add_max] at this
      exact this
    have HBEH : Hid (∀ w2 O2 L2, Tree w2 B tb O2 most L2 → Chg O wb w2 → (∀ b, O2 b → O b ∨ wb.heap.size ≤ b) → Beh X w w2 B O2 (max most 0) ⟨sa, sc, sx⟩ ⟨1, sh, fl, pr, ke⟩ L) := fun w2 O2 L2 z1 z2 z3 => beh_of hT hR HX.out hOX HS.out HBW.out z1 z2 z3
    generalize hr : addD most L sh ke fl = r at *
    obtain ⟨L1, n1, ok1⟩ := r
    simp only at kr HREF ⊢
    clear hr hop hT hR hTb hS hre htop hsizes hcap1 hcapm hcapm2 hroom ho HPA hBw hX hOX
    go_enter Try.func10, Try.ntmps10
    go_upto_region 6 with fail
    rw [← hwb]
    clear hwb
    go_wp2_with fail
    refine kr.mono ?_
    rintro e w2 ⟨rfl, O2, z1, z2, z3⟩
    have hbeh := HBEH.out w2 O2 _ z1 z2 z3
    have kq := HREF.out w2 O2 hbeh
    have HBE : Hid (Beh X w w2 B O2 (max most 0) ⟨sa, sc, sx⟩ ⟨1, sh, fl, pr, ke⟩ L ∧ Tree w2 B tb O2 most L1) := ⟨hbeh, z1⟩
    have a0 : w2.cell? ⟨w.heap.size, 0, none⟩ = some (.int .i64 (max most 0)) := by rw [cell_of_row w2 _ 0 _ 27 (0, 0) hbeh.a]; rfl
    have a1 : w2.cell? ⟨w.heap.size, 1, none⟩ = some (.slice sa sx.length sc) := by rw [cell_of_row w2 _ 1 _ 27 (0, 0) hbeh.a]; rfl
    have p0 : w2.cell? ⟨w.heap.size + 1, 0, none⟩ = some (.int .i64 1) := by rw [cell_of_row w2 _ 0 _ 33 (0, 0) hbeh.b]; rfl
    have p1 : w2.cell? ⟨w.heap.size + 1, 1, none⟩ = some (.int .i64 sh) := by rw [cell_of_row w2 _ 1 _ 33 (0, 0) hbeh.b]; rfl
    have p2 : w2.cell? ⟨w.heap.size + 1, 2, none⟩ = some (.int .i64 fl) := by rw [cell_of_row w2 _ 2 _ 33 (0, 0) hbeh.b]; rfl
    have p3 : w2.cell? ⟨w.heap.size + 1, 3, none⟩ = some (.int .u64 pr) := by rw [cell_of_row w2 _ 3 _ 33 (0, 0) hbeh.b]; rfl
    have p4 : w2.cell? ⟨w.heap.size + 1, 4, none⟩ = some (.string ke) := by rw [cell_of_row w2 _ 4 _ 33 (0, 0) hbeh.b]; rfl
    clear kr z1 z2 z3 hbeh HREF HBEH
    go_wp2_with fail
    refine kq.mono ?_
    rintro e w3 ⟨⟨za, zc, zx⟩, rfl, hrt, hb3⟩
    have hmid := mid_of (wb := wb) HBE.out.1 HX.out HBW.out HBE.out.2 hrt hb3
    have HM0 := (show Hid _ from hmid)
    have bx : w3.heap[w.heap.size + 1 + 1 + 1]? = some (.cells #[.int .i64 (max most 0), .slice sa sx.length sc] 27 (0, 0)) := (hb3.block _ (by have := HBE.out.1.sz; omega)).trans HBE.out.1.d
    have x0 : w3.cell? ⟨w.heap.size + 1 + 1 + 1, 0, none⟩ = some (.int .i64 (max most 0)) := by rw [cell_of_row w3 _ 0 _ 27 (0, 0) bx]; rfl
    have x1 : w3.cell? ⟨w.heap.size + 1 + 1 + 1, 1, none⟩ = some (.slice sa sx.length sc) := by rw [cell_of_row w3 _ 1 _ 27 (0, 0) bx]; rfl
    have y0 := frozen_of_row w3 _ 0 _ 27 bx
    have y1 := frozen_of_row w3 _ 1 _ 27 bx
    clear kq hrt hb3 hmid bx HBE a0 a1 p0 p1 p2 p3 p4
    simp only at HM0
    go_upto_region 19 with fail
    obtain ⟨wq, hwq⟩ : ∃ wq, wq = (w3.setCell ⟨w.heap.size + 1 + 1 + 1, 0, none⟩ (.int .i64 (max most 0))).setCell ⟨w.heap.size + 1 + 1 + 1, 1, none⟩ (.slice za zx.length zc) := ⟨_, rfl⟩
    have HM : Hid (Mid X w wb wq B tb most ⟨1, sh, fl, pr, ke⟩ L1 ⟨za, zc, zx⟩) := by rw [hwq]; exact HM0.out
    rw [← hwq]
    clear hwq HM0 x0 x1 y0 y1
    obtain ⟨kc, kt, hll⟩ := HFIN.out wq _ _ HM.out
    have HLL := (show Hid _ from hll)
    have x0 : wq.cell? ⟨w.heap.size + 1 + 1 + 1, 0, none⟩ = some (.int .i64 (max most 0)) := by rw [cell_of_row wq _ 0 _ 27 (0, 0) HM.out.x]; rfl
    have x1 : wq.cell? ⟨w.heap.size + 1 + 1 + 1, 1, none⟩ = some (.slice za zx.length zc) := by rw [cell_of_row wq _ 1 _ 27 (0, 0) HM.out.x]; rfl
    have p0 : wq.cell? ⟨w.heap.size + 1, 0, none⟩ = some (.int .i64 1) := by rw [cell_of_row wq _ 0 _ 33 (0, 0) HM.out.op]; rfl
    have p1 : wq.cell? ⟨w.heap.size + 1, 1, none⟩ = some (.int .i64 sh) := by rw [cell_of_row wq _ 1 _ 33 (0, 0) HM.out.op]; rfl
    have p2 : wq.cell? ⟨w.heap.size + 1, 2, none⟩ = some (.int .i64 fl) := by rw [cell_of_row wq _ 2 _ 33 (0, 0) HM.out.op]; rfl
    have p3 : wq.cell? ⟨w.heap.size + 1, 3, none⟩ = some (.int .u64 pr) := by rw [cell_of_row wq _ 3 _ 33 (0, 0) HM.out.op]; rfl
    have p4 : wq.cell? ⟨w.heap.size + 1, 4, none⟩ = some (.string ke) := by rw [cell_of_row wq _ 4 _ 33 (0, 0) HM.out.op]; rfl
    simp only at kc kt hll
    rw [← hll] at kc
    have t5 : ((n1 : Int) == n1) = true := by simp
    have t6 : ((ok1 : Bool) == ok1) = true := by simp
    have t7 : ((zx.length : Int) == zx.length) = true := by simp
    have HEND : Hid (∀ w7, Below wq.heap.size wq w7 → w7.heap[w.heap.size + 1 + 1]? = some (.cells #[.int .i64 0, .slice none 0 0] 27 (0, 0)) ∧ (∀ a u, wq.cell? a = some u → w7.cell? a = some u)) := fun w7 hb => ⟨(hb.block _ (by have := HM.out.sz; omega)).trans HM.out.res, cells_below hb⟩
    clear HFIN hll
    go_region_held_law (fun W => W.cell? ⟨w.heap.size + 1 + 1 + 1, 0, none⟩ = some (.int .i64 (max most 0)) ∧ W.cell? ⟨w.heap.size + 1 + 1 + 1, 1, none⟩ = some (.slice za zx.length zc) ∧ W.cell? ⟨w.heap.size + 1, 0, none⟩ = some (.int .i64 1) ∧ W.cell? ⟨w.heap.size + 1, 1, none⟩ = some (.int .i64 sh) ∧ W.cell? ⟨w.heap.size + 1, 2, none⟩ = some (.int .i64 fl) ∧ W.cell? ⟨w.heap.size + 1, 3, none⟩ = some (.int .u64 pr) ∧ W.cell? ⟨w.heap.size + 1, 4, none⟩ = some (.string ke)) (first | exact ⟨hk7 _ _ x0, hk7 _ _ x1, hk7 _ _ p0, hk7 _ _ p1, hk7 _ _ p2, hk7 _ _ p3, hk7 _ _ p4⟩ | exact ⟨set2_cell (hk7 _ _ x0) (by omega), set2_cell (hk7 _ _ x1) (by omega), set2_cell (hk7 _ _ p0) (by omega), set2_cell (hk7 _ _ p1) (by omega), set2_cell (hk7 _ _ p2) (by omega), set2_cell (hk7 _ _ p3) (by omega), set2_cell (hk7 _ _ p4) (by omega)⟩ | exact ⟨x0, x1, p0, p1, p2, p3, p4⟩ | go_keep) ((first | (go_at_call 12; refine kc.mono ?_; rintro e w6 ⟨rfl, rfl⟩) | (go_at_call 23; refine kt.mono ?_; rintro e w7 ⟨rfl, hb7⟩; obtain ⟨bl7, hk7⟩ := HEND.out w7 hb7; have c70 := cell_of_row w7 (w.heap.size + 1 + 1) 0 _ 27 (0, 0) bl7; have c71 := cell_of_row w7 (w.heap.size + 1 + 1) 1 _ 27 (0, 0) bl7; have f70 := frozen_of_row w7 (w.heap.size + 1 + 1) 0 _ 27 bl7; have f71 := frozen_of_row w7 (w.heap.size + 1 + 1) 1 _ 27 bl7; have HB7 : Hid (w7.heap[w.heap.size + 1 + 1]? = some (.cells #[.int .i64 0, .slice none 0 0] 27 (0, 0)) ∧ Below wq.heap.size wq w7) := ⟨bl7, hb7⟩; clear bl7 hb7)))
    all_goals
      go_wp2_with fail
      refine bodyPost_ret (res2 rfl _ _ (w.heap.size + 1 + 1) 27 _ (0, 0) _ rfl (set2_same w7 _ _ _ _ _ HB7.out.1) Try.underlying27 rfl (by kernel_rfl)) rfl ?_
      have hfin := fin_of HM.out HX.out HBW.out HB7.out.2 (.int .i64 (max most 0)) (.slice za zx.length zc)
      exact ⟨⟨za, zc, zx⟩, rfl, hfin.1, hfin.2.1, hfin.2.2⟩
  by_cases k2 : kd = 2
  · subst k2
    have hop : opD most L ⟨2, sh, fl, pr, ke⟩ = changeD most L sh ke fl := by unfold opD; simp
    rw [hop]
    have kr := change_any wb B tb O most L hTb sh ke fl ho.key hcap1
    have HREF : Hid (∀ w2 O2, Beh X w w2 B O2 (max most 0) ⟨sa, sc, sx⟩ ⟨2, sh, fl, pr, ke⟩ L → Calls Try.prog 20 #[.agg #[.int .i64 (max most 0), .slice sa sx.length sc], .int .i64 sh, .string ke, .int .i64 fl] w2 fun e w' => RWent (NS X O2 w.heap.size) w2 (max most 0) (changeD most L sh ke fl) e w') := fun w2 O2 hb => by
      have := rchange_any (NS X O2 w.heap.size) w2 (max most 0) ⟨sa, sc, sx⟩ L hb.tree sh ke fl hb.ns hcapm hsizes.1 hsizes.2
      rw [change_max] at this
      exact this
    have HBEH : Hid (∀ w2 O2 L2, Tree w2 B tb O2 most L2 → Chg O wb w2 → (∀ b, O2 b → O b ∨ wb.heap.size ≤ b) → Beh X w w2 B O2 (max most 0) ⟨sa, sc, sx⟩ ⟨2, sh, fl, pr, ke⟩ L) := fun w2 O2 L2 z1 z2 z3 => beh_of hT hR HX.out hOX HS.out HBW.out z1 z2 z3
    generalize hr : changeD most L sh ke fl = r at *
    obtain ⟨L1, n1, ok1⟩ := r
    simp only at kr HREF ⊢
    clear hr hop hT hR hTb hS hre htop hsizes hcap1 hcapm hcapm2 hroom ho HPA hBw hX hOX
    go_enter Try.func10, Try.ntmps10
    go_upto_region 6 with fail
    rw [← hwb]
    clear hwb
    go_wp2_with fail
    refine kr.mono ?_
    rintro e w2 ⟨rfl, O2, z1, z2, z3⟩
    have hbeh := HBEH.out w2 O2 _ z1 z2 z3
    have kq := HREF.out w2 O2 hbeh
    have HBE : Hid (Beh X w w2 B O2 (max most 0) ⟨sa, sc, sx⟩ ⟨2, sh, fl, pr, ke⟩ L ∧ Tree w2 B tb O2 most L1) := ⟨hbeh, z1⟩
    have a0 : w2.cell? ⟨w.heap.size, 0, none⟩ = some (.int .i64 (max most 0)) := by rw [cell_of_row w2 _ 0 _ 27 (0, 0) hbeh.a]; rfl
    have a1 : w2.cell? ⟨w.heap.size, 1, none⟩ = some (.slice sa sx.length sc) := by rw [cell_of_row w2 _ 1 _ 27 (0, 0) hbeh.a]; rfl
    have p0 : w2.cell? ⟨w.heap.size + 1, 0, none⟩ = some (.int .i64 2) := by rw [cell_of_row w2 _ 0 _ 33 (0, 0) hbeh.b]; rfl
    have p1 : w2.cell? ⟨w.heap.size + 1, 1, none⟩ = some (.int .i64 sh) := by rw [cell_of_row w2 _ 1 _ 33 (0, 0) hbeh.b]; rfl
    have p2 : w2.cell? ⟨w.heap.size + 1, 2, none⟩ = some (.int .i64 fl) := by rw [cell_of_row w2 _ 2 _ 33 (0, 0) hbeh.b]; rfl
    have p3 : w2.cell? ⟨w.heap.size + 1, 3, none⟩ = some (.int .u64 pr) := by rw [cell_of_row w2 _ 3 _ 33 (0, 0) hbeh.b]; rfl
    have p4 : w2.cell? ⟨w.heap.size + 1, 4, none⟩ = some (.string ke) := by rw [cell_of_row w2 _ 4 _ 33 (0, 0) hbeh.b]; rfl
    clear kr z1 z2 z3 hbeh HREF HBEH
    go_wp2_with fail
    refine kq.mono ?_
    rintro e w3 ⟨⟨za, zc, zx⟩, rfl, hrt, hb3⟩
    have hmid := mid_of (wb := wb) HBE.out.1 HX.out HBW.out HBE.out.2 hrt hb3
    have HM0 := (show Hid _ from hmid)
    have bx : w3.heap[w.heap.size + 1 + 1 + 1]? = some (.cells #[.int .i64 (max most 0), .slice sa sx.length sc] 27 (0, 0)) := (hb3.block _ (by have := HBE.out.1.sz; omega)).trans HBE.out.1.d
    have x0 : w3.cell? ⟨w.heap.size + 1 + 1 + 1, 0, none⟩ = some (.int .i64 (max most 0)) := by rw [cell_of_row w3 _ 0 _ 27 (0, 0) bx]; rfl
    have x1 : w3.cell? ⟨w.heap.size + 1 + 1 + 1, 1, none⟩ = some (.slice sa sx.length sc) := by rw [cell_of_row w3 _ 1 _ 27 (0, 0) bx]; rfl
    have y0 := frozen_of_row w3 _ 0 _ 27 bx
    have y1 := frozen_of_row w3 _ 1 _ 27 bx
    clear kq hrt hb3 hmid bx HBE a0 a1 p0 p1 p2 p3 p4
    simp only at HM0
    go_upto_region 19 with fail
    obtain ⟨wq, hwq⟩ : ∃ wq, wq = (w3.setCell ⟨w.heap.size + 1 + 1 + 1, 0, none⟩ (.int .i64 (max most 0))).setCell ⟨w.heap.size + 1 + 1 + 1, 1, none⟩ (.slice za zx.length zc) := ⟨_, rfl⟩
    have HM : Hid (Mid X w wb wq B tb most ⟨2, sh, fl, pr, ke⟩ L1 ⟨za, zc, zx⟩) := by rw [hwq]; exact HM0.out
    rw [← hwq]
    clear hwq HM0 x0 x1 y0 y1
    obtain ⟨kc, kt, hll⟩ := HFIN.out wq _ _ HM.out
    have HLL := (show Hid _ from hll)
    have x0 : wq.cell? ⟨w.heap.size + 1 + 1 + 1, 0, none⟩ = some (.int .i64 (max most 0)) := by rw [cell_of_row wq _ 0 _ 27 (0, 0) HM.out.x]; rfl
    have x1 : wq.cell? ⟨w.heap.size + 1 + 1 + 1, 1, none⟩ = some (.slice za zx.length zc) := by rw [cell_of_row wq _ 1 _ 27 (0, 0) HM.out.x]; rfl
    have p0 : wq.cell? ⟨w.heap.size + 1, 0, none⟩ = some (.int .i64 2) := by rw [cell_of_row wq _ 0 _ 33 (0, 0) HM.out.op]; rfl
    have p1 : wq.cell? ⟨w.heap.size + 1, 1, none⟩ = some (.int .i64 sh) := by rw [cell_of_row wq _ 1 _ 33 (0, 0) HM.out.op]; rfl
    have p2 : wq.cell? ⟨w.heap.size + 1, 2, none⟩ = some (.int .i64 fl) := by rw [cell_of_row wq _ 2 _ 33 (0, 0) HM.out.op]; rfl
    have p3 : wq.cell? ⟨w.heap.size + 1, 3, none⟩ = some (.int .u64 pr) := by rw [cell_of_row wq _ 3 _ 33 (0, 0) HM.out.op]; rfl
    have p4 : wq.cell? ⟨w.heap.size + 1, 4, none⟩ = some (.string ke) := by rw [cell_of_row wq _ 4 _ 33 (0, 0) HM.out.op]; rfl
    simp only at kc kt hll
    rw [← hll] at kc
    have t5 : ((n1 : Int) == n1) = true := by simp
    have t6 : ((ok1 : Bool) == ok1) = true := by simp
    have t7 : ((zx.length : Int) == zx.length) = true := by simp
    have HEND : Hid (∀ w7, Below wq.heap.size wq w7 → w7.heap[w.heap.size + 1 + 1]? = some (.cells #[.int .i64 0, .slice none 0 0] 27 (0, 0)) ∧ (∀ a u, wq.cell? a = some u → w7.cell? a = some u)) := fun w7 hb => ⟨(hb.block _ (by have := HM.out.sz; omega)).trans HM.out.res, cells_below hb⟩
    clear HFIN hll
    go_region_held_law (fun W => W.cell? ⟨w.heap.size + 1 + 1 + 1, 0, none⟩ = some (.int .i64 (max most 0)) ∧ W.cell? ⟨w.heap.size + 1 + 1 + 1, 1, none⟩ = some (.slice za zx.length zc) ∧ W.cell? ⟨w.heap.size + 1, 0, none⟩ = some (.int .i64 2) ∧ W.cell? ⟨w.heap.size + 1, 1, none⟩ = some (.int .i64 sh) ∧ W.cell? ⟨w.heap.size + 1, 2, none⟩ = some (.int .i64 fl) ∧ W.cell? ⟨w.heap.size + 1, 3, none⟩ = some (.int .u64 pr) ∧ W.cell? ⟨w.heap.size + 1, 4, none⟩ = some (.string ke)) (first | exact ⟨hk7 _ _ x0, hk7 _ _ x1, hk7 _ _ p0, hk7 _ _ p1, hk7 _ _ p2, hk7 _ _ p3, hk7 _ _ p4⟩ | exact ⟨set2_cell (hk7 _ _ x0) (by omega), set2_cell (hk7 _ _ x1) (by omega), set2_cell (hk7 _ _ p0) (by omega), set2_cell (hk7 _ _ p1) (by omega), set2_cell (hk7 _ _ p2) (by omega), set2_cell (hk7 _ _ p3) (by omega), set2_cell (hk7 _ _ p4) (by omega)⟩ | exact ⟨x0, x1, p0, p1, p2, p3, p4⟩ | go_keep) ((first | (go_at_call 12; refine kc.mono ?_; rintro e w6 ⟨rfl, rfl⟩) | (go_at_call 23; refine kt.mono ?_; rintro e w7 ⟨rfl, hb7⟩; obtain ⟨bl7, hk7⟩ := HEND.out w7 hb7; have c70 := cell_of_row w7 (w.heap.size + 1 + 1) 0 _ 27 (0, 0) bl7; have c71 := cell_of_row w7 (w.heap.size + 1 + 1) 1 _ 27 (0, 0) bl7; have f70 := frozen_of_row w7 (w.heap.size + 1 + 1) 0 _ 27 bl7; have f71 := frozen_of_row w7 (w.heap.size + 1 + 1) 1 _ 27 bl7; have HB7 : Hid (w7.heap[w.heap.size + 1 + 1]? = some (.cells #[.int .i64 0, .slice none 0 0] 27 (0, 0)) ∧ Below wq.heap.size wq w7) := ⟨bl7, hb7⟩; clear bl7 hb7)))
    all_goals
      go_wp2_with fail
      refine bodyPost_ret (res2 rfl _ _ (w.heap.size + 1 + 1) 27 _ (0, 0) _ rfl (set2_same w7 _ _ _ _ _ HB7.out.1) Try.underlying27 rfl (by kernel_rfl)) rfl ?_
      have hfin := fin_of HM.out HX.out HBW.out HB7.out.2 (.int .i64 (max most 0)) (.slice za zx.length zc)
      exact ⟨⟨za, zc, zx⟩, rfl, hfin.1, hfin.2.1, hfin.2.2⟩
  by_cases k3 : kd = 3
  · subst k3
    have hop : opD most L ⟨3, sh, fl, pr, ke⟩ = moveD most L sh pr := by unfold opD; simp
    rw [hop]
    have kr := move_any wb B tb O most L hTb sh pr ho.pr1 ho.pr2 hroom.all
    have HREF : Hid (∀ w2 O2, Beh X w w2 B O2 (max most 0) ⟨sa, sc, sx⟩ ⟨3, sh, fl, pr, ke⟩ L → Calls Try.prog 22 #[.agg #[.int .i64 (max most 0), .slice sa sx.length sc], .int .i64 sh, .int .u64 pr] w2 fun e w' => RWent (NS X O2 w.heap.size) w2 (max most 0) (moveD most L sh pr) e w') := fun w2 O2 hb => by
      have := rmove_any radd_any (NS X O2 w.heap.size) w2 (max most 0) ⟨sa, sc, sx⟩ L hb.tree sh pr hb.ns hcapm2 hre htop
      rw [move_max] at this
      exact this
    have HBEH : Hid (∀ w2 O2 L2, Tree w2 B tb O2 most L2 → Chg O wb w2 → (∀ b, O2 b → O b ∨ wb.heap.size ≤ b) → Beh X w w2 B O2 (max most 0) ⟨sa, sc, sx⟩ ⟨3, sh, fl, pr, ke⟩ L) := fun w2 O2 L2 z1 z2 z3 => beh_of hT hR HX.out hOX HS.out HBW.out z1 z2 z3
    generalize hr : moveD most L sh pr = r at *
    obtain ⟨L1, n1, ok1⟩ := r
    simp only at kr HREF ⊢
    clear hr hop hT hR hTb hS hre htop hsizes hcap1 hcapm hcapm2 hroom ho HPA hBw hX hOX
    go_enter Try.func10, Try.ntmps10
    go_upto_region 6 with fail
    rw [← hwb]
    clear hwb
    go_wp2_with fail
    refine kr.mono ?_
    rintro e w2 ⟨rfl, O2, z1, z2, z3⟩
    have hbeh := HBEH.out w2 O2 _ z1 z2 z3
    have kq := HREF.out w2 O2 hbeh
    have HBE : Hid (Beh X w w2 B O2 (max most 0) ⟨sa, sc, sx⟩ ⟨3, sh, fl, pr, ke⟩ L ∧ Tree w2 B tb O2 most L1) := ⟨hbeh, z1⟩
    have a0 : w2.cell? ⟨w.heap.size, 0, none⟩ = some (.int .i64 (max most 0)) := by rw [cell_of_row w2 _ 0 _ 27 (0, 0) hbeh.a]; rfl
    have a1 : w2.cell? ⟨w.heap.size, 1, none⟩ = some (.slice sa sx.length sc) := by rw [cell_of_row w2 _ 1 _ 27 (0, 0) hbeh.a]; rfl
    have p0 : w2.cell? ⟨w.heap.size + 1, 0, none⟩ = some (.int .i64 3) := by rw [cell_of_row w2 _ 0 _ 33 (0, 0) hbeh.b]; rfl
    have p1 : w2.cell? ⟨w.heap.size + 1, 1, none⟩ = some (.int .i64 sh) := by rw [cell_of_row w2 _ 1 _ 33 (0, 0) hbeh.b]; rfl
    have p2 : w2.cell? ⟨w.heap.size + 1, 2, none⟩ = some (.int .i64 fl) := by rw [cell_of_row w2 _ 2 _ 33 (0, 0) hbeh.b]; rfl
    have p3 : w2.cell? ⟨w.heap.size + 1, 3, none⟩ = some (.int .u64 pr) := by rw [cell_of_row w2 _ 3 _ 33 (0, 0) hbeh.b]; rfl
    have p4 : w2.cell? ⟨w.heap.size + 1, 4, none⟩ = some (.string ke) := by rw [cell_of_row w2 _ 4 _ 33 (0, 0) hbeh.b]; rfl
    clear kr z1 z2 z3 hbeh HREF HBEH
    go_wp2_with fail
    refine kq.mono ?_
    rintro e w3 ⟨⟨za, zc, zx⟩, rfl, hrt, hb3⟩
    have hmid := mid_of (wb := wb) HBE.out.1 HX.out HBW.out HBE.out.2 hrt hb3
    have HM0 := (show Hid _ from hmid)
    have bx : w3.heap[w.heap.size + 1 + 1 + 1]? = some (.cells #[.int .i64 (max most 0), .slice sa sx.length sc] 27 (0, 0)) := (hb3.block _ (by have := HBE.out.1.sz; omega)).trans HBE.out.1.d
    have x0 : w3.cell? ⟨w.heap.size + 1 + 1 + 1, 0, none⟩ = some (.int .i64 (max most 0)) := by rw [cell_of_row w3 _ 0 _ 27 (0, 0) bx]; rfl
    have x1 : w3.cell? ⟨w.heap.size + 1 + 1 + 1, 1, none⟩ = some (.slice sa sx.length sc) := by rw [cell_of_row w3 _ 1 _ 27 (0, 0) bx]; rfl
    have y0 := frozen_of_row w3 _ 0 _ 27 bx
    have y1 := frozen_of_row w3 _ 1 _ 27 bx
    clear kq hrt hb3 hmid bx HBE a0 a1 p0 p1 p2 p3 p4
    simp only at HM0
    go_upto_region 19 with fail
    obtain ⟨wq, hwq⟩ : ∃ wq, wq = (w3.setCell ⟨w.heap.size + 1 + 1 + 1, 0, none⟩ (.int .i64 (max most 0))).setCell ⟨w.heap.size + 1 + 1 + 1, 1, none⟩ (.slice za zx.length zc) := ⟨_, rfl⟩
    have HM : Hid (Mid X w wb wq B tb most ⟨3, sh, fl, pr, ke⟩ L1 ⟨za, zc, zx⟩) := by rw [hwq]; exact HM0.out
    rw [← hwq]
    clear hwq HM0 x0 x1 y0 y1
    obtain ⟨kc, kt, hll⟩ := HFIN.out wq _ _ HM.out
    have HLL := (show Hid _ from hll)
    have x0 : wq.cell? ⟨w.heap.size + 1 + 1 + 1, 0, none⟩ = some (.int .i64 (max most 0)) := by rw [cell_of_row wq _ 0 _ 27 (0, 0) HM.out.x]; rfl
    have x1 : wq.cell? ⟨w.heap.size + 1 + 1 + 1, 1, none⟩ = some (.slice za zx.length zc) := by rw [cell_of_row wq _ 1 _ 27 (0, 0) HM.out.x]; rfl
    have p0 : wq.cell? ⟨w.heap.size + 1, 0, none⟩ = some (.int .i64 3) := by rw [cell_of_row wq _ 0 _ 33 (0, 0) HM.out.op]; rfl
    have p1 : wq.cell? ⟨w.heap.size + 1, 1, none⟩ = some (.int .i64 sh) := by rw [cell_of_row wq _ 1 _ 33 (0, 0) HM.out.op]; rfl
    have p2 : wq.cell? ⟨w.heap.size + 1, 2, none⟩ = some (.int .i64 fl) := by rw [cell_of_row wq _ 2 _ 33 (0, 0) HM.out.op]; rfl
    have p3 : wq.cell? ⟨w.heap.size + 1, 3, none⟩ = some (.int .u64 pr) := by rw [cell_of_row wq _ 3 _ 33 (0, 0) HM.out.op]; rfl
    have p4 : wq.cell? ⟨w.heap.size + 1, 4, none⟩ = some (.string ke) := by rw [cell_of_row wq _ 4 _ 33 (0, 0) HM.out.op]; rfl
    simp only at kc kt hll
    rw [← hll] at kc
    have t5 : ((n1 : Int) == n1) = true := by simp
    have t6 : ((ok1 : Bool) == ok1) = true := by simp
    have t7 : ((zx.length : Int) == zx.length) = true := by simp
    have HEND : Hid (∀ w7, Below wq.heap.size wq w7 → w7.heap[w.heap.size + 1 + 1]? = some (.cells #[.int .i64 0, .slice none 0 0] 27 (0, 0)) ∧ (∀ a u, wq.cell? a = some u → w7.cell? a = some u)) := fun w7 hb => ⟨(hb.block _ (by have := HM.out.sz; omega)).trans HM.out.res, cells_below hb⟩
    clear HFIN hll
    go_region_held_law (fun W => W.cell? ⟨w.heap.size + 1 + 1 + 1, 0, none⟩ = some (.int .i64 (max most 0)) ∧ W.cell? ⟨w.heap.size + 1 + 1 + 1, 1, none⟩ = some (.slice za zx.length zc) ∧ W.cell? ⟨w.heap.size + 1, 0, none⟩ = some (.int .i64 3) ∧ W.cell? ⟨w.heap.size + 1, 1, none⟩ = some (.int .i64 sh) ∧ W.cell? ⟨w.heap.size + 1, 2, none⟩ = some (.int .i64 fl) ∧ W.cell? ⟨w.heap.size + 1, 3, none⟩ = some (.int .u64 pr) ∧ W.cell? ⟨w.heap.size + 1, 4, none⟩ = some (.string ke)) (first | exact ⟨hk7 _ _ x0, hk7 _ _ x1, hk7 _ _ p0, hk7 _ _ p1, hk7 _ _ p2, hk7 _ _ p3, hk7 _ _ p4⟩ | exact ⟨set2_cell (hk7 _ _ x0) (by omega), set2_cell (hk7 _ _ x1) (by omega), set2_cell (hk7 _ _ p0) (by omega), set2_cell (hk7 _ _ p1) (by omega), set2_cell (hk7 _ _ p2) (by omega), set2_cell (hk7 _ _ p3) (by omega), set2_cell (hk7 _ _ p4) (by omega)⟩ | exact ⟨x0, x1, p0, p1, p2, p3, p4⟩ | go_keep) ((first | (go_at_call 12; refine kc.mono ?_; rintro e w6 ⟨rfl, rfl⟩) | (go_at_call 23; refine kt.mono ?_; rintro e w7 ⟨rfl, hb7⟩; obtain ⟨bl7, hk7⟩ := HEND.out w7 hb7; have c70 := cell_of_row w7 (w.heap.size + 1 + 1) 0 _ 27 (0, 0) bl7; have c71 := cell_of_row w7 (w.heap.size + 1 + 1) 1 _ 27 (0, 0) bl7; have f70 := frozen_of_row w7 (w.heap.size + 1 + 1) 0 _ 27 bl7; have f71 := frozen_of_row w7 (w.heap.size + 1 + 1) 1 _ 27 bl7; have HB7 : Hid (w7.heap[w.heap.size + 1 + 1]? = some (.cells #[.int .i64 0, .slice none 0 0] 27 (0, 0)) ∧ Below wq.heap.size wq w7) := ⟨bl7, hb7⟩; clear bl7 hb7)))
    all_goals
      go_wp2_with fail
      refine bodyPost_ret (res2 rfl _ _ (w.heap.size + 1 + 1) 27 _ (0, 0) _ rfl (set2_same w7 _ _ _ _ _ HB7.out.1) Try.underlying27 rfl (by kernel_rfl)) rfl ?_
      have hfin := fin_of HM.out HX.out HBW.out HB7.out.2 (.int .i64 (max most 0)) (.slice za zx.length zc)
      exact ⟨⟨za, zc, zx⟩, rfl, hfin.1, hfin.2.1, hfin.2.2⟩
  · skip
    have hop : opD most L ⟨kd, sh, fl, pr, ke⟩ = (L, 0, true) := by unfold opD; simp [k0, k1, k2, k3]
    rw [hop]
    have b0 : (kd == 0) = false := by simpa using k0
    have b1 : (kd == 1) = false := by simpa using k1
    have b2 : (kd == 2) = false := by simpa using k2
    have b3 : (kd == 3) = false := by simpa using k3
    have hbeh := beh_of hT hR HX.out hOX HS.out HBW.out hTb (Chg.refl O wb) (fun b q => Or.inl q)
    have HM : Hid (Mid X w wb wb B tb most ⟨kd, sh, fl, pr, ke⟩ L ⟨sa, sc, sx⟩) := ⟨⟨O, hTb, hbeh.tree, hbeh.os, hbeh.ox⟩, hbeh.b, hbeh.c, hbeh.d, hbeh.sz, hbeh.bel, hbeh.keep⟩
    clear hop hT hR hTb hS hre htop hsizes hcap1 hcapm hcapm2 hroom ho HPA hBw hX hOX hbeh k0 k1 k2 k3
    go_enter Try.func10, Try.ntmps10
    go_upto_region 6 with fail
    rw [← hwb]
    clear hwb
    go_upto_region 19 with fail
    clear a0 a1 p0 p1 p2 p3 p4
    generalize hwq : wb = wq at *
    clear hwq
    obtain ⟨kc, kt, hll⟩ := HFIN.out wq _ _ HM.out
    have HLL := (show Hid _ from hll)
    have x0 : wq.cell? ⟨w.heap.size + 1 + 1 + 1, 0, none⟩ = some (.int .i64 (max most 0)) := by rw [cell_of_row wq _ 0 _ 27 (0, 0) HM.out.x]; rfl
    have x1 : wq.cell? ⟨w.heap.size + 1 + 1 + 1, 1, none⟩ = some (.slice sa sx.length sc) := by rw [cell_of_row wq _ 1 _ 27 (0, 0) HM.out.x]; rfl
    have p0 : wq.cell? ⟨w.heap.size + 1, 0, none⟩ = some (.int .i64 kd) := by rw [cell_of_row wq _ 0 _ 33 (0, 0) HM.out.op]; rfl
    have p1 : wq.cell? ⟨w.heap.size + 1, 1, none⟩ = some (.int .i64 sh) := by rw [cell_of_row wq _ 1 _ 33 (0, 0) HM.out.op]; rfl
    have p2 : wq.cell? ⟨w.heap.size + 1, 2, none⟩ = some (.int .i64 fl) := by rw [cell_of_row wq _ 2 _ 33 (0, 0) HM.out.op]; rfl
    have p3 : wq.cell? ⟨w.heap.size + 1, 3, none⟩ = some (.int .u64 pr) := by rw [cell_of_row wq _ 3 _ 33 (0, 0) HM.out.op]; rfl
    have p4 : wq.cell? ⟨w.heap.size + 1, 4, none⟩ = some (.string ke) := by rw [cell_of_row wq _ 4 _ 33 (0, 0) HM.out.op]; rfl
    simp only at kc kt hll
    rw [← hll] at kc
    have t5 : ((0 : Int) == 0) = true := by simp
    have t6 : ((true : Bool) == true) = true := by simp
    have t7 : ((sx.length : Int) == sx.length) = true := by simp
    have HEND : Hid (∀ w7, Below wq.heap.size wq w7 → w7.heap[w.heap.size + 1 + 1]? = some (.cells #[.int .i64 0, .slice none 0 0] 27 (0, 0)) ∧ (∀ a u, wq.cell? a = some u → w7.cell? a = some u)) := fun w7 hb => ⟨(hb.block _ (by have := HM.out.sz; omega)).trans HM.out.res, cells_below hb⟩
    clear HFIN hll
    go_region_held_law (fun W => W.cell? ⟨w.heap.size + 1 + 1 + 1, 0, none⟩ = some (.int .i64 (max most 0)) ∧ W.cell? ⟨w.heap.size + 1 + 1 + 1, 1, none⟩ = some (.slice sa sx.length sc) ∧ W.cell? ⟨w.heap.size + 1, 0, none⟩ = some (.int .i64 kd) ∧ W.cell? ⟨w.heap.size + 1, 1, none⟩ = some (.int .i64 sh) ∧ W.cell? ⟨w.heap.size + 1, 2, none⟩ = some (.int .i64 fl) ∧ W.cell? ⟨w.heap.size + 1, 3, none⟩ = some (.int .u64 pr) ∧ W.cell? ⟨w.heap.size + 1, 4, none⟩ = some (.string ke)) (first | exact ⟨hk7 _ _ x0, hk7 _ _ x1, hk7 _ _ p0, hk7 _ _ p1, hk7 _ _ p2, hk7 _ _ p3, hk7 _ _ p4⟩ | exact ⟨set2_cell (hk7 _ _ x0) (by omega), set2_cell (hk7 _ _ x1) (by omega), set2_cell (hk7 _ _ p0) (by omega), set2_cell (hk7 _ _ p1) (by omega), set2_cell (hk7 _ _ p2) (by omega), set2_cell (hk7 _ _ p3) (by omega), set2_cell (hk7 _ _ p4) (by omega)⟩ | exact ⟨x0, x1, p0, p1, p2, p3, p4⟩ | go_keep) ((first | (go_at_call 12; refine kc.mono ?_; rintro e w6 ⟨rfl, rfl⟩) | (go_at_call 23; refine kt.mono ?_; rintro e w7 ⟨rfl, hb7⟩; obtain ⟨bl7, hk7⟩ := HEND.out w7 hb7; have c70 := cell_of_row w7 (w.heap.size + 1 + 1) 0 _ 27 (0, 0) bl7; have c71 := cell_of_row w7 (w.heap.size + 1 + 1) 1 _ 27 (0, 0) bl7; have f70 := frozen_of_row w7 (w.heap.size + 1 + 1) 0 _ 27 bl7; have f71 := frozen_of_row w7 (w.heap.size + 1 + 1) 1 _ 27 bl7; have HB7 : Hid (w7.heap[w.heap.size + 1 + 1]? = some (.cells #[.int .i64 0, .slice none 0 0] 27 (0, 0)) ∧ Below wq.heap.size wq w7) := ⟨bl7, hb7⟩; clear bl7 hb7)))
    all_goals
      go_wp2_with fail
      refine bodyPost_ret (res2 rfl _ _ (w.heap.size + 1 + 1) 27 _ (0, 0) _ rfl (set2_same w7 _ _ _ _ _ HB7.out.1) Try.underlying27 rfl (by kernel_rfl)) rfl ?_
      have hfin := fin_of HM.out HX.out HBW.out HB7.out.2 (.int .i64 (max most 0)) (.slice sa sx.length sc)
      exact ⟨⟨sa, sc, sx⟩, rfl, hfin.1, hfin.2.1, hfin.2.2⟩

end Go.Proofs.Ytiliffnflamkjaa.Sp
