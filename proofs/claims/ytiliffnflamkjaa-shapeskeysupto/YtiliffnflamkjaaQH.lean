/- The document's Move, by its Add. -/
import Derived.Test.YtiliffnflamkjaaQG
namespace Go.Proofs.Ytiliffnflamkjaa.Sp
open Go.RowKit
set_option linter.unusedVariables false

/-- what is known of the document's Add -/
def RAdd : Prop := ∀ (N : Nat → Prop) (w : World) (m : Int) (s : Sli RS) (L : List Sh) (h : RTree N w s L) (n : Int) (k : ByteArray) (f : Int) (hN : ∀ b, w.heap.size ≤ b → N b) (hcap : m ≤ top ∨ L.length + 1 ≤ top) (hks : ∀ s ∈ L, s.ks.length ≤ top ∧ s.fs.length ≤ top ∧ s.st.length ≤ top),
    Calls Try.prog 18 #[.agg #[.int .i64 m, .slice s.at' s.xs.length s.cap], .int .i64 n, .string k, .int .i64 f] w fun e w' => RWent N w m (addD m L n k f) e w'

theorem rel_lay {T : List Ly} {L : List Sh} (h : Rel T L) {l : Ly} {s : Sh} (hp : Pair L L.length l s) (most : Int) : ∃ T', Rel T' (layD most L s).1 := by
  unfold layD
  cases e : hit L s with
  | some i => exact ⟨T, h⟩
  | none =>
    simp only
    split
    · exact ⟨T, h⟩
    · exact ⟨_, rel_push h hp e⟩

theorem lay_top {most : Int} {L : List Sh} {s : Sh} (hl : L.length ≤ top) (hc : most ≤ top ∨ L.length + 1 ≤ top) : (layD most L s).1.length ≤ top := by
  unfold layD
  cases hit L s with
  | some i => exact hl
  | none =>
    simp only
    split
    · exact hl
    · rename_i c
      simp only [List.length_append, List.length_singleton]
      rcases hc with q | q
      · unfold top at *; omega
      · exact q

theorem rel_sizes {T : List Ly} {L : List Sh} (h : Rel T L) (hl : L.length ≤ top) : (∀ s ∈ L, s.ks.length ≤ top ∧ s.fs.length ≤ top ∧ s.st.length ≤ top) ∧ ∀ s ∈ L, s.fs.length = s.ks.length := by
  refine ⟨fun s hs => ?_, fun s hs => ?_⟩
  · obtain ⟨j, hj⟩ := List.mem_iff_getElem?.1 hs
    have hf := h.fin hj
    have hl2 := (List.getElem?_eq_some_iff.1 hj).1
    have := hf.kl
    have := hf.sl
    have := hf.fl
    exact ⟨by omega, by omega, by omega⟩
  · obtain ⟨j, hj⟩ := List.mem_iff_getElem?.1 hs
    exact (h.fin hj).fl

theorem pair_grow {L : List Sh} {m : Nat} {q : Sh} (hq : L[m]? = some q) {k : ByteArray} (hn : idx q.ks k = none) (f : Int) : Pair L L.length ⟨1, q.pr, m, k, f, q.ks.length, q.ks.length + 1⟩ (grow q k f) :=
  Or.inr (Or.inl ⟨q, (List.getElem?_eq_some_iff.1 hq).1, hq, rfl, rfl, rfl, rfl, hn, rfl⟩)

/-- the blocks in which the document's tree may lie while Move goes on -/
def NM (N : Nat → Prop) (A : Nat) : Nat → Prop := fun b => (N b ∧ b ≠ A) ∧ b ≠ A + 1

/-- the variables of the document's Move in memory -/
structure MrAt (N : Nat → Prop) (A : Nat) (wd wr : World) (m : Int) (L : List Sh) (S : Sh) (R : List Sh × Int × Bool) (i : Nat) (n : Int) (ok : Bool) : Prop where
  at' : ∃ r s, r.2.1 = n ∧ r.2.2 = ok ∧ MvP m L S R i r ∧ (∃ T, Rel T r.1) ∧ r.1.length ≤ top ∧ RTree (NM N A) wr s r.1 ∧ wr.heap[A]? = some (.cells #[.int .i64 m, .slice s.at' s.xs.length s.cap] 27 (0, 0))
  chg : Chg (fun b => b = A) wd wr

theorem RTree.store {N : Nat → Prop} {A : Nat} {w : World} {s : Sli RS} {L : List Sh} (h : RTree (NM N A) w s L) (x y : Value) : RTree (NM N A) ((w.setCell ⟨A, 0, none⟩ x).setCell ⟨A, 1, none⟩ y) s L :=
  h.kept (S := fun b => b = A) ((Chg.set (S := fun b => b = A) _ _ _ rfl).trans (Chg.set (S := fun b => b = A) _ _ _ rfl) (fun _ _ q => q)) (fun b q _ e => q.1.2 e)

theorem chg_set2 {A : Nat} {wd w : World} (h : Chg (fun b => b = A) wd w) (x y : Value) : Chg (fun b => b = A) wd ((w.setCell ⟨A, 0, none⟩ x).setCell ⟨A, 1, none⟩ y) :=
  (h.trans (Chg.set (S := fun b => b = A) _ ⟨A, 0, none⟩ _ rfl) (fun _ _ q => q)).trans (Chg.set (S := fun b => b = A) _ ⟨A, 1, none⟩ _ rfl) (fun _ _ q => q)

theorem MrAt.drew {N : Nat → Prop} {A : Nat} {wd wr : World} {m : Int} {L : List Sh} {S : Sh} {R : List Sh × Int × Bool} {i : Nat} {n : Int} {ok : Bool} (h : MrAt N A wd wr m L S R i n ok) : MrAt N A wd wr.drew m L S R i n ok := by
  obtain ⟨r, s, h1, h2, h3, h4, h5, h6, h7⟩ := h.at'
  exact ⟨⟨r, s, h1, h2, h3, h4, h5, h6.below (Below.refl _ _).drew, h7⟩, h.chg.drew⟩

set_option maxRecDepth 100000 in
set_option maxHeartbeats 8000000 in
theorem rmove_any (hadd : RAdd) (N : Nat → Prop) (w : World) (m : Int) (s : Sli RS) (L : List Sh) (h : RTree N w s L) (n : Int) (p : Int) (hN : ∀ b, w.heap.size ≤ b → N b) (hcap : m ≤ top ∨ ∀ s ∈ L, L.length + s.ks.length + 1 ≤ top) (hrel : ∃ T, Rel T L) (htop : L.length ≤ top) :
    Calls Try.prog 22 #[.agg #[.int .i64 m, .slice s.at' s.xs.length s.cap], .int .i64 n, .int .u64 p] w fun e w' => RWent N w m (moveD m L n p) e w' := by
  obtain ⟨sa, sc, sx⟩ := s
  simp only
  obtain ⟨hlim, hlen⟩ := h.lim
  simp only at hlim hlen
  have HLEN : Hid (sx.length = L.length) := hlen
  clear hlen
  obtain ⟨wb, hwb⟩ : ∃ wb, wb = (w.alloc (.cells #[.int .i64 m, .slice sa sx.length sc] 27)).alloc (.cells #[.int .i64 0, .slice none 0 0] 27) := ⟨_, rfl⟩
  have hB : Below w.heap.size w wb := by rw [hwb]; exact B2 _ _ _
  have g0 : wb.heap[w.heap.size]? = some (.cells #[.int .i64 m, .slice sa sx.length sc] 27 (0, 0)) := by rw [hwb]; exact at_old _ _ _ _ (at_new _ _)
  have g1 : wb.heap[w.heap.size + 1]? = some (.cells #[.int .i64 0, .slice none 0 0] 27 (0, 0)) := by rw [hwb]; exact at_two _ _ _
  have hsz : wb.heap.size = w.heap.size + 2 := by rw [hwb, size_new, size_new]
  have a0 : wb.cell? ⟨w.heap.size, 0, none⟩ = some (.int .i64 m) := by rw [cell_of_row wb _ 0 _ 27 (0, 0) g0]; rfl
  have a1 : wb.cell? ⟨w.heap.size, 1, none⟩ = some (.slice sa sx.length sc) := by rw [cell_of_row wb _ 1 _ 27 (0, 0) g0]; rfl
  have c0 : wb.cell? ⟨w.heap.size + 1, 0, none⟩ = some (.int .i64 0) := by rw [cell_of_row wb _ 0 _ 27 (0, 0) g1]; rfl
  have c1 : wb.cell? ⟨w.heap.size + 1, 1, none⟩ = some (.slice none 0 0) := by rw [cell_of_row wb _ 1 _ 27 (0, 0) g1]; rfl
  have f0 := frozen_of_row wb _ 0 _ 27 g1
  have f1 := frozen_of_row wb _ 1 _ 27 g1
  cases ht : thereB L n with
  | false =>
    have e0 : moveD m L n p = (L, 0, false) := by unfold moveD; rw [there_not ht]
    rw [e0]
    have ht2 : n < 0 ∨ (sx.length : Int) ≤ n := by
      unfold thereB at ht
      by_cases c : 0 ≤ n
      · rw [decide_eq_true c, Bool.true_and] at ht
        have := of_decide_eq_false ht
        have := HLEN.out
        omega
      · omega
    have HG1 : Hid (wb.heap[w.heap.size + 1]? = some (.cells #[.int .i64 0, .slice none 0 0] 27 (0, 0))) := g1
    have hbf := set2_below hB (show w.heap.size ≤ w.heap.size + 1 by omega) (.int .i64 m) (.slice sa sx.length sc)
    have HNO : Hid (RWent N w m (L, 0, false) (.returned (.tuple #[.agg #[.int .i64 m, .slice sa sx.length sc], .int .i64 0, .bool false])) ((wb.setCell ⟨w.heap.size + 1, 0, none⟩ (.int .i64 m)).setCell ⟨w.heap.size + 1, 1, none⟩ (.slice sa sx.length sc))) := ⟨⟨sa, sc, sx⟩, rfl, h.below hbf, hbf⟩
    clear h e0 ht hB g0 g1 hsz hcap hN hrel hbf hadd
    go_enter Try.func22, Try.ntmps22
    go_upto_region 1 with fail
    rw [← hwb]
    clear hwb
    by_cases c : n < 0
    · go_wp2_with fail
      refine bodyPost_ret (res3 rfl _ _ (w.heap.size + 1) 27 _ (0, 0) _ rfl (set2_same wb _ _ _ _ _ HG1.out) Try.underlying27 rfl (by kernel_rfl)) rfl ?_
      exact HNO.out
    · have c2 : (sx.length : Int) ≤ n := by omega
      have c3 : 0 ≤ n := by omega
      clear ht2
      go_wp2_with fail
      refine bodyPost_ret (res3 rfl _ _ (w.heap.size + 1) 27 _ (0, 0) _ rfl (set2_same wb _ _ _ _ _ HG1.out) Try.underlying27 rfl (by kernel_rfl)) rfl ?_
      exact HNO.out
  | true =>
    obtain ⟨j, S, rfl, hs, hs2, hj⟩ := there_of ht
    have e0 : moveD m L j p = movD m (S.ks.zip S.fs) (rootD m L p) := by unfold moveD; rw [hs2]
    rw [e0]
    obtain ⟨T0, hrel⟩ := hrel
    have hfin := hrel.fin hs
    have hcap2 : m ≤ top ∨ L.length + S.ks.length + 1 ≤ top := hcap.imp id (fun q => q S (List.mem_of_getElem? hs))
    have HM : Hid (MvP m L S (movD m (S.ks.zip S.fs) (rootD m L p)) 0 (rootD m L p) ∧ (∃ T, Rel T (rootD m L p).1) ∧ (rootD m L p).1.length ≤ top) := ⟨MvP.start S p hrel, rel_lay (l := ⟨0, p, 0, ByteArray.empty, 0, 0, 0⟩) hrel (Or.inl ⟨rfl, rfl⟩) m, lay_top htop (hcap2.imp id (fun q => by omega))⟩
    obtain ⟨b, off, r, r1, r2, r3, hc, hjl, hx1, hx2⟩ := h.open hs
    clear hx1 hx2
    simp only at r1 hjl
    subst r1
    obtain ⟨pr, ⟨ka', kc, kx⟩, ⟨fa, fc, fx⟩, ⟨ta, tc, tx⟩⟩ := r
    unfold RS.sh at r2
    simp only at r2
    have hjj : (j : Int) < sx.length := by have := HLEN.out; omega
    have hj0 : ¬ (j : Int) < 0 := by omega
    have hj1 : ¬ (sx.length : Int) ≤ j := by omega
    have hSk : S.ks = kx := by rw [← r2]
    have hSf : S.fs = fx := by rw [← r2]
    have hkl := hfin.kl
    have hffl := hfin.fl
    rw [hSk] at hkl hffl
    rw [hSf] at hffl
    have hkx : (kx.length : Int) ≤ 1700000000000 := by unfold top at htop; omega
    have hNM : ∀ W : World, w.heap.size + 2 ≤ W.heap.size → ∀ b, W.heap.size ≤ b → NM N w.heap.size b := fun W hW b hb => ⟨⟨hN b (by omega), by omega⟩, by omega⟩
    obtain ⟨wd, hwd⟩ : ∃ wd, wd = wb.alloc (.cells #[.int .u64 pr, .slice ka' kx.length kc, .slice fa fx.length fc, .slice ta tx.length tc] 74) := ⟨_, rfl⟩
    have hbd : Below wb.heap.size wb wd := by rw [hwd]; exact (Below.refl _ _).alloc (Nat.le_refl _) _
    have hsd : wd.heap.size = w.heap.size + 3 := by rw [hwd, size_new, hsz]
    have hwwd : Below w.heap.size w wd := hB.trans (hbd.mono hB.size)
    have q0 : wd.heap[w.heap.size]? = some (.cells #[.int .i64 m, .slice (some ⟨b, off, none⟩) sx.length sc] 27 (0, 0)) := (hbd.block _ (by omega)).trans g0
    have q1 : wd.heap[w.heap.size + 1]? = some (.cells #[.int .i64 0, .slice none 0 0] 27 (0, 0)) := (hbd.block _ (by omega)).trans g1
    have b0 : wd.cell? ⟨w.heap.size, 0, none⟩ = some (.int .i64 m) := by rw [cell_of_row wd _ 0 _ 27 (0, 0) q0]; rfl
    have b1 : wd.cell? ⟨w.heap.size, 1, none⟩ = some (.slice (some ⟨b, off, none⟩) sx.length sc) := by rw [cell_of_row wd _ 1 _ 27 (0, 0) q0]; rfl
    have u1 : wd.cell? ⟨wb.heap.size, 1, none⟩ = some (.slice ka' kx.length kc) := by rw [hwd]; exact box_new wb _ _ 1 _ rfl
    have u2 : wd.cell? ⟨wb.heap.size, 2, none⟩ = some (.slice fa fx.length fc) := by rw [hwd]; exact box_new wb _ _ 2 _ rfl
    have d0 := cells_below hB _ _ (hc 0 _ rfl)
    have d1 := cells_below hB _ _ (hc 1 _ rfl)
    have d2 := cells_below hB _ _ (hc 2 _ rfl)
    have d3 := cells_below hB _ _ (hc 3 _ rfl)
    rw [Nat.add_zero] at d0
    simp only at d0 d1 d2 d3
    have kr := rroot_any (NM N w.heap.size) wd m ⟨some ⟨b, off, none⟩, sc, sx⟩ L ((h.mono (fun b q hl => ⟨⟨q, by omega⟩, by omega⟩)).below hwwd) p (hNM wd (by omega)) (hcap2.imp id (fun q => by omega))
    simp only at kr
    -- what stays, whatever the tree's variable is
    have HST : Hid (∀ W, Chg (fun b => b = w.heap.size) wd W → W.cell? ⟨wb.heap.size, 1, none⟩ = some (.slice ka' kx.length kc) ∧ W.cell? ⟨wb.heap.size, 2, none⟩ = some (.slice fa fx.length fc) ∧ W.heap[w.heap.size + 1]? = some (.cells #[.int .i64 0, .slice none 0 0] 27 (0, 0)) ∧ w.heap.size + 3 ≤ W.heap.size ∧ Below w.heap.size w W ∧ Sli.ok strC 1 W ⟨ka', kc, kx⟩ ∧ Sli.ok intC 1 W ⟨fa, fc, fx⟩) := fun W hW => by
      have hb : Below w.heap.size w W := hW.below hwwd (by omega) (fun k q => by omega)
      refine ⟨hW.cell u1 (by simp only; omega), hW.cell u2 (by simp only; omega), (hW.block _ (by omega) (by omega)).trans q1, by have := hW.size; omega, hb, ?_, ?_⟩
      · exact (r3.below hb).ks.ok
      · exact (r3.below hb).fs.ok
    have HADD : Hid (∀ (W : World) (s : Sli RS) (r : List Sh × Int × Bool) (i : Nat) (k : ByteArray) (f : Int), w.heap.size + 2 ≤ W.heap.size → RTree (NM N w.heap.size) W s r.1 → (∃ T, Rel T r.1) → r.1.length ≤ top → r.1.length ≤ L.length + 1 + i → i < S.ks.length →
        Calls Try.prog 18 #[.agg #[.int .i64 m, .slice s.at' s.xs.length s.cap], .int .i64 r.2.1, .string k, .int .i64 f] W fun e w' => RWent (NM N w.heap.size) W m (addD m r.1 r.2.1 k f) e w') := fun W s r i k f hW hs' ⟨T, hT⟩ htp hl hi =>
      hadd (NM N w.heap.size) W m s r.1 hs' r.2.1 k f (hNM W hW) (hcap2.imp id (fun q => by omega)) (rel_sizes hT htp).1
    have HST0 : Hid (∀ (w3 : World) (s' : Sli RS), RTree (NM N w.heap.size) w3 s' (rootD m L p).1 → Below wd.heap.size wd w3 → MrAt N w.heap.size wd ((w3.setCell ⟨w.heap.size, 0, none⟩ (.int .i64 m)).setCell ⟨w.heap.size, 1, none⟩ (.slice s'.at' s'.xs.length s'.cap)) m L S (movD m (S.ks.zip S.fs) (rootD m L p)) 0 (rootD m L p).2.1 (rootD m L p).2.2) := fun w3 s' h1 h2 =>
      ⟨⟨_, s', rfl, rfl, HM.out.1, HM.out.2.1, HM.out.2.2, h1.store _ _, set2_same w3 _ _ _ _ _ ((h2.block _ (by omega)).trans q0)⟩, chg_set2 (Chg.of_below h2) _ _⟩
    have HQ0 : Hid (∀ w3, Below wd.heap.size wd w3 → w3.heap[w.heap.size]? = some (.cells #[.int .i64 m, .slice (some ⟨b, off, none⟩) sx.length sc] 27 (0, 0))) := fun w3 hb => (hb.block _ (by omega)).trans q0
    have HFIN : Hid (Fine S j) := hfin
    have HCAP : Hid (m ≤ top ∨ L.length + S.ks.length + 1 ≤ top) := hcap2
    have HSK : Hid (S.ks = kx ∧ S.fs = fx ∧ fx.length = kx.length) := ⟨hSk, hSf, hffl⟩
    have HWB : Hid (wb.heap.size = w.heap.size + 2) := hsz
    have hne1 : ¬ wb.heap.size = w.heap.size := by omega
    have hne2 : ¬ wb.heap.size = w.heap.size + 1 := by omega
    generalize movD m (S.ks.zip S.fs) (rootD m L p) = R at *
    generalize rootD m L p = r0 at *
    obtain ⟨L0, n0, ok0⟩ := r0
    simp only at HST0 kr
    clear h e0 ht hB g0 g1 hsz hcap hcap2 hN hNM hrel hs hs2 hfin hc r3 q0 q1 hkl hffl hSk hSf HM hadd r2 hwwd hsd htop
    go_enter Try.func22, Try.ntmps22
    go_upto_region 1 with fail
    rw [← hwb]
    clear hwb
    go_upto_region 4 with fail
    rw [← hwd]
    clear hwd a0 a1 c0 c1 f0 f1 d0 d1 d2 d3
    go_wp2_with fail
    refine kr.mono ?_
    rintro e w3 ⟨⟨za, zc, zx⟩, rfl, hrt, hb3⟩
    have bk := HQ0.out w3 hb3
    have k0 : w3.cell? ⟨w.heap.size, 0, none⟩ = some (.int .i64 m) := by rw [cell_of_row w3 _ 0 _ 27 (0, 0) bk]; rfl
    have k1 : w3.cell? ⟨w.heap.size, 1, none⟩ = some (.slice (some ⟨b, off, none⟩) sx.length sc) := by rw [cell_of_row w3 _ 1 _ 27 (0, 0) bk]; rfl
    have l0 := frozen_of_row w3 _ 0 _ 27 bk
    have l1 := frozen_of_row w3 _ 1 _ 27 bk
    have HI := (show Hid _ from HST0.out w3 _ hrt hb3)
    clear bk hrt hb3 kr HQ0 HST0 b0 b1 u1 u2
    simp only at *
    go_wp2_with fail
    go_loopw [10, 11, 12] (fun n ok i wr => ∃ (k : Nat) (nn : Int) (bb : Bool), MrAt N w.heap.size wd wr m L S R k nn bb ∧ n = .int .i64 nn ∧ ok = .bool bb ∧ i = .int .i64 k) (fun n ok i wr => kx.length - (intOf i).toNat)
    case atStart => exact ⟨0, n0, ok0, HI.out, rfl, rfl, rfl⟩
    case round =>
      clear HI k0 k1 l0 l1
      obtain ⟨k, nn, bb, hr, rfl, rfl, rfl⟩ := hrel
      have HR := (show Hid _ from hr)
      have hcg := hr.chg
      clear hr
      obtain ⟨u1, u2, bR, hszr, hbw, hks', hfs'⟩ := HST.out wr hcg
      obtain ⟨r, ⟨ya, yc, yx⟩, h1, h2, h3, h4, h5, h6, h7⟩ := HR.out.at'
      have ple : k ≤ kx.length := by rw [← HSK.out.1]; exact h3.le
      simp only at h7
      have k0 : wr.cell? ⟨w.heap.size, 0, none⟩ = some (.int .i64 m) := by rw [cell_of_row wr _ 0 _ 27 (0, 0) h7]; rfl
      have k1 : wr.cell? ⟨w.heap.size, 1, none⟩ = some (.slice ya yx.length yc) := by rw [cell_of_row wr _ 1 _ 27 (0, 0) h7]; rfl
      have x0 : wr.cell? ⟨w.heap.size + 1, 0, none⟩ = some (.int .i64 0) := by rw [cell_of_row wr _ 0 _ 27 (0, 0) bR]; rfl
      have x1 : wr.cell? ⟨w.heap.size + 1, 1, none⟩ = some (.slice none 0 0) := by rw [cell_of_row wr _ 1 _ 27 (0, 0) bR]; rfl
      have y0 := frozen_of_row wr _ 0 _ 27 bR
      have y1 := frozen_of_row wr _ 1 _ 27 bR
      have HEND : Hid ((bb = false ∨ k = kx.length) → R = r) := fun he => by
        rw [h3.val]
        rcases he with q | q
        · exact mov_stop _ _ _ (by rw [h2, q])
        · rw [List.drop_eq_nil_of_le (by rw [List.length_zip, HSK.out.1, HSK.out.2.1]; omega)]
          rfl
      have HRET : Hid (r.2.1 = nn ∧ r.2.2 = bb ∧ (bb = false → nn = 0)) := ⟨h1, h2, fun q => by rw [← h1]; exact h3.no (by rw [h2, q])⟩
      have HBR : Hid (wr.heap[w.heap.size + 1]? = some (.cells #[.int .i64 0, .slice none 0 0] 27 (0, 0)) ∧ RTree (NM N w.heap.size) wr ⟨ya, yc, yx⟩ r.1 ∧ Below w.heap.size w wr) := ⟨bR, h6, hbw⟩
      cases bb with
      | false =>
        have HE : Hid (R = r) := HEND.out (Or.inl rfl)
        clear HR hks' hfs' h3 h4 h5 h6 h7 hcg HST HADD bR hbw HEND
        go_wp2_with fail
        refine bodyPost_ret (res3 rfl _ _ (w.heap.size + 1) 27 _ (0, 0) _ rfl (set2_same wr _ _ _ _ _ HBR.out.1) Try.underlying27 rfl (by kernel_rfl)) rfl ?_
        rw [HE.out]
        refine ⟨⟨ya, yc, yx⟩, ?_, (RTree.laid HBR.out.2.1 _ _).mono (fun b q _ => q.1), set2_below HBR.out.2.2 (by omega) _ _⟩
        rw [HRET.out.1, HRET.out.2.1, HRET.out.2.2 (by trivial)]
        rfl
      | true =>
        rcases Nat.lt_or_ge k kx.length with c | c
        · have hex : ∃ ky fl, kx[k]? = some ky ∧ fx[k]? = some fl := ⟨_, _, List.getElem?_eq_getElem c, List.getElem?_eq_getElem (by have := HSK.out.2.2; omega)⟩
          obtain ⟨ky, fl, e1, e2⟩ := hex
          obtain ⟨kb, ko, ke, hkc⟩ := hks'.cells (by intro e; simp only at e; rw [e] at c; simp at c)
          obtain ⟨fb, fo, fe, hfc⟩ := hfs'.cells (by intro e; simp only at e; rw [e] at e2; simp at e2)
          simp only at ke fe
          subst ke fe
          have v1 := hkc k ky e1 0 _ rfl
          have v2 := hfc k fl e2 0 _ rfl
          rw [Nat.add_zero, Nat.mul_one] at v1 v2
          obtain ⟨mm, q, w1', w2', w3'⟩ := h3.yes h2
          obtain ⟨T', hT'⟩ := h4
          have hnx := h3.next HFIN.out hT' h2 w1' w2' w3' (by rw [HSK.out.1]; exact e1) (by rw [HSK.out.2.1]; exact e2)
          have hadd2 : addD m r.1 r.2.1 ky fl = layD m r.1 (grow q ky fl) := by rw [w1']; exact add_lay w2' hnx.1 m fl
          have hrl := rel_lay hT' (pair_grow w2' hnx.1 fl) m
          have hlen3 := h3.len
          have htp := lay_top (s := grow q ky fl) h5 (HCAP.out.imp id (fun q => by rw [HSK.out.1] at q; omega))
          have ka := HADD.out wr.drew ⟨ya, yc, yx⟩ r k ky fl (by show _ ≤ wr.heap.size; omega) (h6.below (Below.refl _ _).drew) ⟨T', hT'⟩ h5 hlen3 (by rw [HSK.out.1]; exact c)
          rw [hadd2, h1] at ka
          simp only at ka
          have HN : Hid (∀ (w5 : World) (s' : Sli RS), RTree (NM N w.heap.size) w5 s' (layD m r.1 (grow q ky fl)).1 → Below wr.heap.size wr w5 → MrAt N w.heap.size wd ((w5.setCell ⟨w.heap.size, 0, none⟩ (.int .i64 m)).setCell ⟨w.heap.size, 1, none⟩ (.slice s'.at' s'.xs.length s'.cap)) m L S R (k + 1) (layD m r.1 (grow q ky fl)).2.1 (layD m r.1 (grow q ky fl)).2.2) := fun w5 s' z1 z2 =>
            ⟨⟨_, s', rfl, rfl, hnx.2, hrl, htp, z1.store _ _, set2_same w5 _ _ _ _ _ ((z2.block _ (by omega)).trans h7)⟩, chg_set2 (hcg.trans (Chg.of_below (S := fun _ => False) z2) (fun _ _ q => q.elim)) _ _⟩
          have HB7 : Hid (∀ w5, Below wr.heap.size wr w5 → w5.heap[w.heap.size]? = some (.cells #[.int .i64 m, .slice ya yx.length yc] 27 (0, 0))) := fun w5 z2 => (z2.block _ (by omega)).trans h7
          generalize layD m r.1 (grow q ky fl) = r5 at *
          obtain ⟨L5, n5, ok5⟩ := r5
          simp only at ka HN
          have ckx : (k : Int) < kx.length := by omega
          have cfx : (k : Int) < fx.length := by have := HSK.out.2.2; omega
          clear HR hks' hfs' h1 h2 h3 h5 h6 h7 hcg HST HADD bR hbw HEND HRET HBR e1 e2 hkc hfc w1' w2' w3' hT' hnx hadd2 hrl hlen3 htp HFIN HCAP HSK
          go_wp2_with fail
          first
          | (go_region_with ((go_at_call 18; refine ka.mono ?_; rintro e w5 ⟨⟨za, zc, zx⟩, rfl, hrt5, hb5⟩; have hb5' : Below wr.heap.size wr w5 := (Below.refl wr.heap.size wr).drew.trans hb5; have HX := HN.out w5 ⟨za, zc, zx⟩ hrt5 hb5'; have HX2 := (show Hid _ from HX); have bk := HB7.out w5 hb5'; have m0 := cell_of_row w5 _ 0 _ 27 (0, 0) bk; have m1 := cell_of_row w5 _ 1 _ 27 (0, 0) bk; have n0' := frozen_of_row w5 _ 0 _ 27 bk; have n1' := frozen_of_row w5 _ 1 _ 27 bk; clear hrt5 hb5 hb5' HX bk)))
          | fail
          all_goals
            go_wp2_with fail
            refine ⟨⟨k + 1, n5, ok5, by first | exact HX2.out | exact HX2.out.drew, rfl, rfl, by go_num⟩, ?_⟩
            simp [intOf]
            omega
        · have hkk : k = kx.length := by omega
          have HE : Hid (R = r) := HEND.out (Or.inr hkk)
          clear HR hks' hfs' h3 h4 h5 h6 h7 hcg HST HADD bR hbw HEND
          have ckx : ¬ (k : Int) < kx.length := by omega
          go_wp2_with fail
          refine bodyPost_ret (res3 rfl _ _ (w.heap.size + 1) 27 _ (0, 0) _ rfl (set2_same wr _ _ _ _ _ HBR.out.1) Try.underlying27 rfl (by kernel_rfl)) rfl ?_
          rw [HE.out]
          refine ⟨⟨ya, yc, yx⟩, ?_, (RTree.laid HBR.out.2.1 _ _).mono (fun b q _ => q.1), set2_below HBR.out.2.2 (by omega) _ _⟩
          rw [HRET.out.1, HRET.out.2.1]
          rfl

end Go.Proofs.Ytiliffnflamkjaa.Sp
