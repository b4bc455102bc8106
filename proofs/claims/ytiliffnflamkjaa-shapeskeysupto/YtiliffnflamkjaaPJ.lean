/- properties: the walk. -/
import Derived.Test.YtiliffnflamkjaaPI
namespace Go.Proofs.Ytiliffnflamkjaa.Sp
open Go.RowKit
set_option linter.unusedVariables false

theorem info63 : (Try.prog.info? 63).map (fun i => (i.zero, i.size, i.bytes)) = some (some (.agg #[.string ⟨#[]⟩, .int .i64 0, .bool false]), 3, 32) := by kernel_rfl

structure PpAt (w wr : World) (L : List Sh) (S : Sh) (g i : Nat) : Prop where
  at' : ∃ y ps, L[i]? = some y ∧ PrInv ps y S ∧ PrAt wr g ps
  bel : Below w.heap.size w wr

set_option maxRecDepth 100000 in
set_option maxHeartbeats 4000000 in
theorem props_any (w : World) (B tb : Nat) (O : Nat → Prop) (most : Int) (L : List Sh) (h : Tree w B tb O most L) (j : Nat) (S : Sh) (hS : L[j]? = some S) :
    Calls Try.prog 26 #[.pointer (some ⟨tb, 0, none⟩), .int .i64 (j : Int)] w fun e w' => ∃ g, e = .returned (.slice (some ⟨g, 0, none⟩) S.ks.length S.ks.length) ∧ PrAt w' g (propsOf S) ∧ w.heap.size ≤ g ∧ Below w.heap.size w w' := by
  obtain ⟨T, v, mb, h⟩ := h
  have hcap := h.cap
  obtain ⟨b, off, cap, l, c1, hc0, hw0, hpr, hsz, hj, hlim, hlen⟩ := h.lay hS
  have d6 := hc0 6 _ rfl
  rw [hsz] at d6
  obtain ⟨⟨ad, cap', xs⟩, rfl, h2, h3, _, c1', _⟩ := h.open
  simp only at h2
  subst h2
  obtain ⟨b', off', e1, hc⟩ := h3.cells (by intro e; simp only at e; rw [e] at hj; simp at hj)
  simp only at e1 c1'
  subst e1
  rw [c1] at c1'
  simp only [Option.some.injEq, Value.slice.injEq, Addr.mk.injEq, and_true, true_and] at c1'
  obtain ⟨⟨rfl, rfl⟩, rfl⟩ := c1'
  have hfin := h.rel.fin hS
  have hkl := hfin.kl
  have hks : (S.ks.length : Int) ≤ 1700000000000 := by unfold top at hcap; omega
  have HKS : Hid (S.ks.length ≤ 1700000000000) := by show _ ≤ _; omega
  have hjj : (j : Int) < xs.length := by omega
  have HR : Hid (Rel xs L ∧ (∀ x ∈ xs, x.wf)) := ⟨h.rel, h.wf⟩
  have HC : Hid (∀ (i : Nat) (y : Ly), xs[i]? = some y → ∀ (j : Nat) (u : Value), (lyC y)[j]? = some u → w.cell? ⟨b, off + i * 7 + j, none⟩ = some u) := hc
  have HT : Hid (w.cell? ⟨tb, 1, none⟩ = some (.slice (some ⟨b, off, none⟩) xs.length cap)) := c1
  have HF : Hid (S.fs.length = S.ks.length) := hfin.fl
  have HI : Hid (∀ w1, PrAt w1 w.heap.size (List.replicate S.ks.length ⟨⟨#[]⟩, 0, false⟩) → Below w.heap.size w w1 → PpAt w w1 L S w.heap.size j) := fun w1 h1 h2 => ⟨⟨S, _, hS, PrInv.start S, h1⟩, h2⟩
  obtain ⟨i0, hi, hz0, hz1, hz2⟩ := info_parts info63
  have HBLT : Hid (b < w.heap.size ∧ tb < w.heap.size) := ⟨World.block_lt_of_cell? w _ (hc0 0 _ rfl), World.block_lt_of_cell? w _ c1⟩
  clear h h3 hc hc0 hw0 hpr hsz hfin hcap hkl hS
  generalize hN : S.ks.length = N at *
  go_enter Try.func26, Try.ntmps26
  go_wp2_with (at_make; refine wpList_make_full _ rfl _ _ 60 rfl w.heap.size 63 i0 (.agg #[.string ⟨#[]⟩, .int .i64 0, .bool false]) 3 Try.underlying60 hi hz0 hz1 _ _ _ _ N rfl rfl (by omega) (by omega) ?m1 ?m2 (Nat.le_refl _) ?_)
  case m1 => rw [hz2]; omega
  case m2 => unfold maxLen; omega
  intro w1 hmade hg1
  have hst := HI.out w1 (prAt_made hmade) (below_grown hg1)
  have c1b := cells_below (below_grown hg1) _ _ HT.out
  have HST := (show Hid _ from hst)
  clear hmade hg1 HI hi hz0 hz1 hz2 c1 d6 hst
  go_wp2_with fail
  go_loopw [6] (fun p wr => ∃ i : Nat, PpAt w wr L S w.heap.size i ∧ p = .pointer (some ⟨b, off + i * 7, none⟩)) (fun p wr => offOf p)
  case atStart => exact ⟨j, HST.out, rfl⟩
  case round =>
    clear HST c1b hjj hj
    obtain ⟨i, hr, rfl⟩ := hrel
    have HB : Hid (Below w.heap.size w wr) := hr.bel
    obtain ⟨y, ps, hy, hq, hps⟩ := hr.at'
    have hix : i < xs.length := by rw [HR.out.1.len]; exact (List.getElem?_eq_some_iff.1 hy).1
    have hex : ∃ x, xs[i]? = some x := ⟨_, List.getElem?_eq_getElem hix⟩
    obtain ⟨x, hx⟩ := hex
    have hcc := HC.out i x hx
    have d0 := cells_below HB.out _ _ (hcc 0 _ rfl)
    have d2 := cells_below HB.out _ _ (hcc 2 _ rfl)
    have d3 := cells_below HB.out _ _ (hcc 3 _ rfl)
    have d4 := cells_below HB.out _ _ (hcc 4 _ rfl)
    have d5 := cells_below HB.out _ _ (hcc 5 _ rfl)
    have c1 := cells_below HB.out _ _ HT.out
    rw [Nat.add_zero] at d0
    have hw := HR.out.2 x (List.mem_of_getElem? hx)
    have hfq := hq.step HR.out.1 hx hy
    have hf := hw.fr
    have hsl := hw.sl
    have HPS : Hid (PrAt wr w.heap.size ps ∧ ps.length = N) := ⟨hps, by rw [hq.len, hN]⟩
    have HDN : Hid (y.ks = [] → ps = propsOf S) := fun e => hq.done (by rw [hN]; exact HF.out) e
    clear hr hcc hq hw hps
    obtain ⟨xk, xp, xf, xe, xl, xs', xz⟩ := x
    simp only at *
    rcases hfq with ⟨h1, h2⟩ | ⟨h1, h2, p, q, h3, h4, h5, h6⟩
    · subst h1
      have HE : Hid (ps = propsOf S) := HDN.out h2
      clear HR HC HT HDN hy h2 hx
      go_wp2_with fail
      go_ret
      refine ⟨_, rfl, ?_, Nat.le_refl _, HB.out⟩
      rw [← HE.out]
      exact HPS.out.1
    · have hk0 : ((xk : Int) == 0) = false := by simp; omega
      have hk1 : ¬ (xk : Int) = 0 := by omega
      have hfx : (xf : Int) < xs.length := by have := HR.out.1.len; omega
      have hsx : (xs' : Int) < N := by have := HPS.out.2; omega
      obtain ⟨p2, f2⟩ := HPS.out.1.cell xs' p h3 2 _ rfl
      obtain ⟨p0, f0⟩ := HPS.out.1.cell xs' p h3 0 _ rfl
      obtain ⟨p1, f1⟩ := HPS.out.1.cell xs' p h3 1 _ rfl
      rw [Nat.add_zero] at p0 f0
      have HLT : Hid (xs' < ps.length ∧ L[xf]? = some q) := ⟨h2, h5⟩
      have hnb : ¬ b = w.heap.size := by have := HBLT.out.1; omega
      have hnt : ¬ tb = w.heap.size := by have := HBLT.out.2; omega
      rcases h6 with ⟨h6, h7⟩ | ⟨h6, h7⟩
      · rw [h6] at p2
        have HN : Hid (∀ w5, PrAt w5 w.heap.size ps → Below w.heap.size w w5 → PpAt w w5 L S w.heap.size xf) := fun w5 h1 h2 => ⟨⟨q, ps, HLT.out.2, h7, h1⟩, h2⟩
        clear HR HC HT HDN hy h7 h5 h3 hx
        go_wp2_with fail
        go_region
        all_goals
          go_wp2_with fail
          refine ⟨⟨xf, HN.out _ (HPS.out.1.kept (S := fun _ => False) (Chg.of_below (Below.refl _ _).drew) id) HB.out.drew, rfl⟩, ?_⟩
          simp [offOf]
          omega
      · rw [h6] at p2
        have HN : Hid (∀ w5, PrAt w5 w.heap.size (ps.set xs' ⟨xe, xl, true⟩) → Below w.heap.size w w5 → PpAt w w5 L S w.heap.size xf) := fun w5 h1 h2 => ⟨⟨q, _, HLT.out.2, h7, h1⟩, h2⟩
        have HX : Hid (xs[i]? = some ⟨xk, xp, xf, xe, xl, xs', xz⟩) := hx
        clear HR HDN hy h7 h5 h3 hx
        go_wp2_with fail
        go_region
        go_upto_region 4 with fail
        obtain ⟨w6, hw6⟩ : ∃ w6, w6 = (((wr.setCell ⟨w.heap.size, xs' * 3, none⟩ (.string xe)).setCell ⟨w.heap.size, xs' * 3 + 1, none⟩ (.int .i64 xl)).setCell ⟨w.heap.size, xs' * 3 + 2, none⟩ (.bool true)).drew := ⟨_, rfl⟩
        have hb6 : Below w.heap.size w w6 := by
          rw [hw6]
          exact (((HB.out.setCell (p := ⟨w.heap.size, xs' * 3, none⟩) (Nat.le_refl _) _).setCell (p := ⟨w.heap.size, xs' * 3 + 1, none⟩) (Nat.le_refl _) _).setCell (p := ⟨w.heap.size, xs' * 3 + 2, none⟩) (Nat.le_refl _) _).drew
        have hp6 : PrAt w6 w.heap.size (ps.set xs' ⟨xe, xl, true⟩) := by
          rw [hw6]
          exact HPS.out.1.put xs' ⟨xe, xl, true⟩ HLT.out.1
        have HN6 : Hid (PpAt w w6.drew L S w.heap.size xf) := HN.out _ (hp6.kept (S := fun _ => False) (Chg.of_below (Below.refl _ _).drew) id) hb6.drew
        have hcc := HC.out i _ HX.out
        have d0 := cells_below hb6 _ _ (hcc 0 _ rfl)
        have d2 := cells_below hb6 _ _ (hcc 2 _ rfl)
        have c1 := cells_below hb6 _ _ HT.out
        rw [Nat.add_zero] at d0
        simp only at d0 d2
        rw [← hw6]
        clear hw6 hb6 hp6 HN hcc HPS HB HC HT HLT HX p0 p1 p2 f0 f1 f2 d3 d4 d5
        go_wp2_with fail
        go_region
        all_goals
          go_wp2_with fail
          refine ⟨⟨xf, HN6.out, rfl⟩, ?_⟩
          simp [offOf]
          omega

end Go.Proofs.Ytiliffnflamkjaa.Sp
