/- FuseBehind: the law's walk. -/
import Derived.Test.YtjkemkggcnholaaGS
namespace Go.Proofs.Ytjkemkggcnholaa.Fu
open Go.RowKit
set_option linter.unusedVariables false

set_option maxRecDepth 100000 in
set_option maxHeartbeats 4000000 in
theorem behind_walk (f : Fn) (m : Sli Ins) (w : World) (hf : f.ok w) (hm : m.ok insC 4 w) (hz : f.code.xs.length + m.xs.length ≤ 1048576) (hh : f.hnds.xs.length ≤ 1048576) :
    Calls Try.prog 6 #[fnV f, m.val] w fun e w' => e = .returned (.bool true) ∧ Below w.heap.size w w' := by
  have B0 : Below w.heap.size w (w.alloc (fnB f)) := (Below.refl _ _).alloc (Nat.le_refl _) _
  have hf1 := hf.kept (cells_below B0)
  have kg := groups_any f (w.alloc (fnB f)) hf1 (by omega) (by omega)
  have HX : Hid (∀ w', Below (w.alloc (fnB f)).heap.size (w.alloc (fnB f)) w' → (∀ j u, (fnC f)[j]? = some u → w'.cell? ⟨w.heap.size, j, none⟩ = some u) ∧ Below w.heap.size w w' ∧ f.ok w' ∧ m.ok insC 4 w') := fun w' h => ⟨fn_cells f w w' h, B0.trans (h.mono B0.size), hf1.kept (cells_below h), (hm.kept (cells_below B0)).kept (cells_below h)⟩
  have HZ : Hid (f.code.xs.length + m.xs.length ≤ 1048576 ∧ f.hnds.xs.length ≤ 1048576) := ⟨hz, hh⟩
  have hcl : (f.code.xs.length : Int) ≤ 1048576 := by omega
  have hml : (m.xs.length : Int) ≤ 1048576 := by omega
  have cs0 := fnB_cell f w 0 _ rfl
  have cs1 := fnB_cell f w 1 _ rfl
  have cs2 := fnB_cell f w 2 _ rfl
  have cs3 := fnB_cell f w 3 _ rfl
  have cs4 := fnB_cell f w 4 _ rfl
  have cs5 := fnB_cell f w 5 _ rfl
  have cs6 := fnB_cell f w 6 _ rfl
  have cs7 := fnB_cell f w 7 _ rfl
  have HG : Hid (∀ (s : Sli Ins), s.xs = f.code.xs ++ m.xs.filter noJump → ∀ i g, i + 2 < (groupsI f.code.xs (risen (startL f))).length → (groupsI f.code.xs (risen (startL f)))[i]? = some g → (groupsI s.xs (risen (startL ⟨f.name, f.params, f.regs, f.gen, s, f.consts, f.caps, f.hnds⟩)))[i]? = some g) := by
    intro s hs i g h1 h2
    rw [start_more f m.xs s hs, hs]
    exact groups_more _ _ _ (risen_rise _) i g h1 h2
  have HGL : Hid ((groupsI f.code.xs (risen (startL f))).length ≤ f.code.xs.length) := from_len f.code.xs _ (risen_rise _) _ 0 rfl
  clear hf hf1 hm hz hh B0
  generalize groupsI f.code.xs (risen (startL f)) = gs at *
  obtain ⟨nm, pa, re, ge, ⟨ca, c1, cx⟩, ⟨ka, kc, kx⟩, ⟨pa', pc, px⟩, ⟨ha, hc, hx⟩⟩ := f
  obtain ⟨ma, mc, mx⟩ := m
  unfold fnB at *
  unfold fnV at *
  unfold Sli.val at *
  simp only at *
  go_enter Try.func6, Try.ntmps6
  go_wp2_with fail
  generalize w.alloc (.cells #[.string nm, .int .i64 pa, .int .i64 re, .bool ge, .slice ca cx.length c1, .slice ka kx.length kc, .slice pa' px.length pc, .slice ha hx.length hc] 27) = w1 at *
  refine kg.mono ?_
  rintro e w2 ⟨v2, rfl, ho2, hb2⟩
  obtain ⟨hcs, _, _⟩ := HX.out w2 hb2
  have m0 := hcs 0 _ rfl
  have m1 := hcs 1 _ rfl
  have m2 := hcs 2 _ rfl
  have m3 := hcs 3 _ rfl
  have m4 := hcs 4 _ rfl
  have m5 := hcs 5 _ rfl
  have m6 := hcs 6 _ rfl
  have m7 := hcs 7 _ rfl
  unfold Sli.val at m4 m5 m6 m7
  simp only at m0 m1 m2 m3 m4 m5 m6 m7
  have HO2 : Hid (OwnG w1.heap.size w2 v2 gs ∧ Below w1.heap.size w1 w2) := ⟨ho2, hb2⟩
  clear ho2 hb2 kg hcs cs0 cs1 cs2 cs3 cs4 cs5 cs6 cs7
  go_upto_region 3 with fail
  have hb3 := below_new (Below.refl w2.heap.size w2) (Nat.le_refl _) (.cells #[.string nm, .int .i64 pa, .int .i64 re, .bool ge, .slice ca cx.length c1, .slice ka kx.length kc, .slice pa' px.length pc, .slice ha hx.length hc] 27)
  have hgb : (w2.alloc (.cells #[.string nm, .int .i64 pa, .int .i64 re, .bool ge, .slice ca cx.length c1, .slice ka kx.length kc, .slice pa' px.length pc, .slice ha hx.length hc] 27)).heap[w2.heap.size]? = some (.cells #[.string nm, .int .i64 pa, .int .i64 re, .bool ge, .slice ca cx.length c1, .slice ka kx.length kc, .slice pa' px.length pc, .slice ha hx.length hc] 27 (0, 0)) := by show (w2.heap.push _)[w2.heap.size]? = _; rw [Array.getElem?_push_size]
  have hgs : (w2.alloc (.cells #[.string nm, .int .i64 pa, .int .i64 re, .bool ge, .slice ca cx.length c1, .slice ka kx.length kc, .slice pa' px.length pc, .slice ha hx.length hc] 27)).heap.size = w2.heap.size + 1 := size_new _ _
  generalize w2.alloc (.cells #[.string nm, .int .i64 pa, .int .i64 re, .bool ge, .slice ca cx.length c1, .slice ka kx.length kc, .slice pa' px.length pc, .slice ha hx.length hc] 27) = w3 at *
  have HB3 : Hid (Below w2.heap.size w2 w3 ∧ w3.heap[w2.heap.size]? = some (.cells #[.string nm, .int .i64 pa, .int .i64 re, .bool ge, .slice ca cx.length c1, .slice ka kx.length kc, .slice pa' px.length pc, .slice ha hx.length hc] 27 (0, 0)) ∧ w3.heap.size = w2.heap.size + 1) := ⟨hb3, hgb, hgs⟩
  have m4' := cells_below hb3 _ _ m4
  have HX2 : Hid (∀ w', Below w2.heap.size w2 w' → Fn.ok w' ⟨nm, pa, re, ge, ⟨ca, c1, cx⟩, ⟨ka, kc, kx⟩, ⟨pa', pc, px⟩, ⟨ha, hc, hx⟩⟩ ∧ Sli.ok insC 4 w' ⟨ma, mc, mx⟩ ∧ Below w.heap.size w w' ∧ OwnG w1.heap.size w' v2 gs) := fun w' h =>
    ⟨(HX.out w' (HO2.out.2.trans (h.mono HO2.out.2.size))).2.2.1, (HX.out w' (HO2.out.2.trans (h.mono HO2.out.2.size))).2.2.2, (HX.out w' (HO2.out.2.trans (h.mono HO2.out.2.size))).2.1, HO2.out.1.kept h⟩
  have hcode := (HX2.out w3 hb3).1.code
  have hb32 : (Sli.mk ca c1 cx).xs.length * 32 ≤ 140737488355328 := by have := HZ.out.1; simp only; omega
  clear hb3 hgb hgs HO2 HX m0 m1 m2 m3 m4 m5 m6 m7
  go_wp2_with (at_builtin; refine app_sl rfl _ _ rfl w3.heap.size rfl ⟨ca, c1, cx⟩ rfl hcode hb32 (Nat.le_refl _) ?_)
  intro v4 w4 ho4 hg4
  have HO4 : Hid (OwnC w3.heap.size w4 v4 cx ∧ Below w3.heap.size w3 w4) := ⟨ho4, (Below.refl _ _).grown hg4 (Nat.le_refl _) (fun k hk => by cases hk)⟩
  clear ho4 hg4 hcode hb32 m4'
  go_wp2_with fail
  go_loopw [7, 21] (fun av iv wr => ∃ k : Nat, (k ≤ mx.length ∧ OwnC w3.heap.size wr av (cx ++ (mx.take k).filter noJump) ∧ Below w3.heap.size w3 wr) ∧ iv = .int .i64 k) (fun av iv wr => mx.length - (intOf iv).toNat)
  case atStart => exact ⟨0, ⟨Nat.zero_le _, by simpa using HO4.out.1, HO4.out.2⟩, rfl⟩
  case round =>
    clear HO4
    obtain ⟨k, ⟨kle, how, hbw⟩, rfl⟩ := hrel
    have HW : Hid (OwnC w3.heap.size wr u7 (cx ++ (mx.take k).filter noJump) ∧ Below w3.heap.size w3 wr) := ⟨how, hbw⟩
    have HBW : Hid (Below w2.heap.size w2 wr) := HB3.out.1.trans (hbw.mono HB3.out.1.size)
    clear how hbw
    rcases Nat.lt_or_ge k mx.length with c | c
    · have hex : ∃ y, mx[k]? = some y := ⟨_, List.getElem?_eq_getElem c⟩
      obtain ⟨y, hy⟩ := hex
      have HT : Hid (∀ L, (cx ++ (mx.take k).filter noJump) ++ (if noJump y then [y] else []) = L → cx ++ (mx.take (k + 1)).filter noJump = L) := by
        intro L h
        rw [← h, take_at mx k y hy, List.filter_append, List.append_assoc]
        congr 2
        rw [List.filter_cons, List.filter_nil]
      obtain ⟨b, off, hma, hcc⟩ := (HX2.out wr HBW.out).2.1.cells (by intro e; simp only at e; rw [e] at c; simp at c)
      simp only at hma
      subst hma
      have g0 := hcc k y hy 0 _ rfl
      have g1 := hcc k y hy 1 _ rfl
      have g2 := hcc k y hy 2 _ rfl
      have g3 := hcc k y hy 3 _ rfl
      rw [Nat.add_zero] at g0
      have ho5 := HW.out.1.new (.cells #[.int .i64 y.op, .int .i64 y.a, .int .i64 y.b, .int .i64 y.c] 41)
      have hb5 := below_new HW.out.2 HW.out.2.size (.cells #[.int .i64 y.op, .int .i64 y.a, .int .i64 y.b, .int .i64 y.c] 41)
      have HO5 : Hid (OwnC w3.heap.size (wr.alloc (.cells #[.int .i64 y.op, .int .i64 y.a, .int .i64 y.b, .int .i64 y.c] 41)) u7 (cx ++ (mx.take k).filter noJump)) := ho5
      have HB5 := (show Hid _ from hb5)
      have ob : ((cx ++ (mx.take k).filter noJump).length + [y].length) * 32 ≤ 140737488355328 := by
        have h1 := HZ.out.1
        have h2 := List.length_filter_le noJump (mx.take k)
        rw [List.length_take] at h2
        rw [List.length_append, List.length_singleton]
        omega
      have HOB := (show Hid _ from ob)
      clear hcc hy ho5 hb5 ob
      have hjn : noJump y = !(decide (y.op = 57) || decide (y.op = 58) || decide (y.op = 59)) := rfl
      by_cases t1 : y.op = 57 ∨ y.op = 58 ∨ y.op = 59
      · have hj : noJump y = false := by rw [hjn]; rcases t1 with h | h | h <;> simp [h]
        have HV := HT.out (cx ++ (mx.take k).filter noJump) (by rw [hj]; simp)
        have HV2 : Hid (∀ w', OwnC w3.heap.size w' u7 (cx ++ (mx.take k).filter noJump) → OwnC w3.heap.size w' u7 (cx ++ (mx.take (k + 1)).filter noJump)) := fun w' h => by rw [HV]; exact h
        clear hj hjn HT HV HOB
        obtain ⟨op, ia, ib, ic⟩ := y
        simp only at *
        rcases t1 with h | h | h
        · subst h
          go_wp2_with fail
          refine ⟨⟨k + 1, ⟨c, HV2.out _ HO5.out, HB5.out⟩, by go_num⟩, ?_⟩
          simp [intOf]
          omega
        · subst h
          go_wp2_with fail
          refine ⟨⟨k + 1, ⟨c, HV2.out _ HO5.out, HB5.out⟩, by go_num⟩, ?_⟩
          simp [intOf]
          omega
        · subst h
          go_wp2_with fail
          refine ⟨⟨k + 1, ⟨c, HV2.out _ HO5.out, HB5.out⟩, by go_num⟩, ?_⟩
          simp [intOf]
          omega
      · have n1 : ¬ y.op = 57 := fun h => t1 (Or.inl h)
        have n2 : ¬ y.op = 58 := fun h => t1 (Or.inr (Or.inl h))
        have n3 : ¬ y.op = 59 := fun h => t1 (Or.inr (Or.inr h))
        have hj : noJump y = true := by rw [hjn]; simp [n1, n2, n3]
        have HV := HT.out ((cx ++ (mx.take k).filter noJump) ++ [y]) (by rw [hj]; simp)
        have HV2 : Hid (∀ v' w', OwnC w3.heap.size w' v' ((cx ++ (mx.take k).filter noJump) ++ [y]) → OwnC w3.heap.size w' v' (cx ++ (mx.take (k + 1)).filter noJump)) := fun v' w' h => by rw [HV]; exact h
        have e1 : (y.op != 57) = true := by simpa using n1
        have e2 : (y.op != 58) = true := by simpa using n2
        have e3 : (y.op != 59) = true := by simpa using n3
        clear hj hjn HT HV t1 n1 n2 n3
        have ho5 : OwnC w3.heap.size (wr.alloc (.cells #[.int .i64 y.op, .int .i64 y.a, .int .i64 y.b, .int .i64 y.c] 41)) u7 (cx ++ (mx.take k).filter noJump) := HO5.out
        have ho6 := ho5.new (.cells #[.int .i64 y.op, .int .i64 y.a, .int .i64 y.b, .int .i64 y.c] 41)
        have hb6 := below_new HB5.out HB5.out.size (.cells #[.int .i64 y.op, .int .i64 y.a, .int .i64 y.b, .int .i64 y.c] 41)
        have oi := one_ins (wr.alloc (.cells #[.int .i64 y.op, .int .i64 y.a, .int .i64 y.b, .int .i64 y.c] 41)) y
        rw [size_new] at oi
        have hB6 := hb6.size
        have ob := HOB.out
        have HB6 := (show Hid _ from hb6)
        clear ho5 HO5
        generalize cx ++ (mx.take k).filter noJump = L0 at *
        clear hb6
        obtain ⟨op, ia, ib, ic⟩ := y
        simp only at *
        go_wp2_with (at_builtin; refine app_ins rfl _ _ rfl w3.heap.size u7 L0 rfl ho6 (wr.heap.size + 1) 0 1 [⟨op, ia, ib, ic⟩] rfl oi ob hB6 ?_)
        intro v7 w7 ho7 hg7
        have HP : Hid (OwnC w3.heap.size w7 v7 (cx ++ (mx.take (k + 1)).filter noJump) ∧ Below w3.heap.size w3 w7) := ⟨HV2.out _ _ ho7, HB6.out.grown hg7 hB6 ho6.base⟩
        clear ho7 hg7 ho6 oi ob
        go_wp2_with fail
        refine ⟨⟨k + 1, ⟨c, HP.out.1, HP.out.2⟩, by go_num⟩, ?_⟩
        simp [intOf]
        omega
    · have hk : k = mx.length := by omega
      have HW2 : Hid (OwnC w3.heap.size wr u7 (cx ++ mx.filter noJump) ∧ Below w3.heap.size w3 wr) := by
        have := HW.out
        rw [hk, List.take_length] at this
        exact this
      have hdk : decide (k < mx.length) = false := decide_eq_false (by omega)
      clear HW hk
      have hgb2 : wr.heap[w2.heap.size]? = some (.cells #[.string nm, .int .i64 pa, .int .i64 re, .bool ge, .slice ca cx.length c1, .slice ka kx.length kc, .slice pa' px.length pc, .slice ha hx.length hc] 27 (0, 0)) := (HW2.out.2.block w2.heap.size (by have := HB3.out.2.2; omega)).trans HB3.out.2.1
      have fz := frozen_of_row wr w2.heap.size 4 _ 27 hgb2
      have cz := cell_of_row wr w2.heap.size 4 _ 27 (0, 0) hgb2
      obtain ⟨s, hsv, hxs, _⟩ := HW2.out.1.sl
      obtain ⟨sa, sc, sx⟩ := s
      unfold Sli.val at hsv
      simp only at hsv hxs
      subst hsv
      have hset := heap_setCell_same wr w2.heap.size 4 _ 27 (.slice sa sx.length sc) hgb2
      have hb5 : Below w2.heap.size w2 (wr.setCell ⟨w2.heap.size, 4, none⟩ (.slice sa sx.length sc)) := HBW.out.setCell (p := ⟨w2.heap.size, 4, none⟩) (Nat.le_refl _) _
      have ho5 := HW2.out.1.set (a := ⟨w2.heap.size, 4, none⟩) (by have := HB3.out.2.2; simp only; omega) (.slice sa sx.length sc)
      have HSET := (show Hid (_ ∧ _ ∧ _) from ⟨hset, hb5, ho5⟩)
      have HXS : Hid (sx = cx ++ mx.filter noJump) := hxs
      clear hgb2 hset hb5 ho5 hxs
      go_upto_region 12 with fail
      generalize wr.setCell ⟨w2.heap.size, 4, none⟩ (.slice sa sx.length sc) = w5 at *
      obtain ⟨hs5, hb5, ho5⟩ := HSET.out
      have z0 := cell_of_row w5 w2.heap.size 0 _ 27 (0, 0) hs5
      have z1 := cell_of_row w5 w2.heap.size 1 _ 27 (0, 0) hs5
      have z2 := cell_of_row w5 w2.heap.size 2 _ 27 (0, 0) hs5
      have z3 := cell_of_row w5 w2.heap.size 3 _ 27 (0, 0) hs5
      have z4 := cell_of_row w5 w2.heap.size 4 _ 27 (0, 0) hs5
      have z5 := cell_of_row w5 w2.heap.size 5 _ 27 (0, 0) hs5
      have z6 := cell_of_row w5 w2.heap.size 6 _ 27 (0, 0) hs5
      have z7 := cell_of_row w5 w2.heap.size 7 _ 27 (0, 0) hs5
      replace z0 : w5.cell? ⟨w2.heap.size, 0, none⟩ = some (.string nm) := z0
      replace z1 : w5.cell? ⟨w2.heap.size, 1, none⟩ = some (.int .i64 pa) := z1
      replace z2 : w5.cell? ⟨w2.heap.size, 2, none⟩ = some (.int .i64 re) := z2
      replace z3 : w5.cell? ⟨w2.heap.size, 3, none⟩ = some (.bool ge) := z3
      replace z4 : w5.cell? ⟨w2.heap.size, 4, none⟩ = some (.slice sa sx.length sc) := z4
      replace z5 : w5.cell? ⟨w2.heap.size, 5, none⟩ = some (.slice ka kx.length kc) := z5
      replace z6 : w5.cell? ⟨w2.heap.size, 6, none⟩ = some (.slice pa' px.length pc) := z6
      replace z7 : w5.cell? ⟨w2.heap.size, 7, none⟩ = some (.slice ha hx.length hc) := z7
      have hsx := HXS.out
      have hok5 : Fn.ok w5 ⟨nm, pa, re, ge, ⟨sa, sc, sx⟩, ⟨ka, kc, kx⟩, ⟨pa', pc, px⟩, ⟨ha, hc, hx⟩⟩ := by
        have h0 := (HX2.out w5 hb5).1
        refine ⟨?_, h0.consts, h0.caps, h0.hnds⟩
        rw [← hsx] at ho5
        obtain ⟨s', e1, e2, e3⟩ := ho5.sl
        obtain ⟨a', c', x'⟩ := s'
        simp only at e2
        subst e2
        unfold Sli.val at e1
        cases e1
        exact e3
      have hlx : sx.length ≤ 1048576 := by
        have h1 := HZ.out.1
        have h2 := List.length_filter_le noJump mx
        rw [hsx, List.length_append]
        omega
      have kg := groups_any ⟨nm, pa, re, ge, ⟨sa, sc, sx⟩, ⟨ka, kc, kx⟩, ⟨pa', pc, px⟩, ⟨ha, hc, hx⟩⟩ w5 hok5 (by have := HZ.out.2; simp only; omega) (by simp only; omega)
      have hgm := HG.out ⟨sa, sc, sx⟩ hsx
      simp only at hgm
      unfold fnV Sli.val at kg
      simp only at kg
      generalize groupsI sx (risen (startL ⟨nm, pa, re, ge, ⟨sa, sc, sx⟩, ⟨ka, kc, kx⟩, ⟨pa', pc, px⟩, ⟨ha, hc, hx⟩⟩)) = gm at *
      have HGM : Hid (∀ i g, i + 2 < gs.length → gs[i]? = some g → gm[i]? = some g) := hgm
      obtain ⟨s2, hs2v, hs2x, hs2o⟩ := (HX2.out w2 (Below.refl _ _)).2.2.2.sl
      have HL2 : Hid (∀ w', Below w2.heap.size w2 w' → s2.ok grpC 3 w' ∧ Below w.heap.size w w') := fun w' h => ⟨hs2o.kept (cells_below h), (HX2.out w' h).2.2.1⟩
      have HB5 : Hid (Below w2.heap.size w2 w5) := hb5
      have hlg : (s2.xs.length : Int) ≤ 1048576 := by
        have h1 := HGL.out
        have h2 := HZ.out.1
        rw [hs2x]
        omega
      obtain ⟨la, lc, lx⟩ := s2
      simp only at hs2x
      subst hs2x
      unfold Sli.val at hs2v
      subst hs2v
      simp only at *
      clear hs5 hb5 ho5 hsx hok5 hlx hgm hs2o HSET HXS HX2 HG HW2 HBW HB3
      go_wp2_with fail
      refine kg.mono ?_
      rintro e w6 ⟨v6, rfl, ho6, hb6⟩
      obtain ⟨s6, rfl, hx6, hk6⟩ := ho6.sl
      obtain ⟨ga, gc, gx⟩ := s6
      simp only at hx6
      subst hx6
      have HL6 : Hid (∀ w', Below w6.heap.size w6 w' → Sli.ok grpC 3 w' ⟨la, lc, lx⟩ ∧ Below w.heap.size w w' ∧ Sli.ok grpC 3 w' ⟨ga, gc, gx⟩) := fun w' h => by
        have q1 := HB5.out.trans ((hb6.trans (h.mono hb6.size)).mono HB5.out.size)
        exact ⟨(HL2.out w' q1).1, (HL2.out w' q1).2, hk6.kept (cells_below h)⟩
      have hlg6 : (gx.length : Int) ≤ 9223372036854775807 := by have h1 := hk6.len; have h2 := hk6.cap; simp only at h1 h2; unfold maxLen at h2; omega
      clear kg ho6 hb6 hk6 HL2 HB5 z0 z1 z2 z3 z4 z5 z6 z7
      unfold Sli.val
      simp only
      go_wp2_with fail
      go_loopw [11] (fun iv wq => ∃ i : Nat, (i ≤ lx.length ∧ Below w6.heap.size w6 wq) ∧ iv = .int .i64 i) (fun iv wq => lx.length - (intOf iv).toNat)
      case atStart => exact ⟨0, ⟨Nat.zero_le _, Below.refl _ _⟩, rfl⟩
      case round =>
        obtain ⟨i, ⟨hil, hbq⟩, rfl⟩ := hrel
        have HBQ : Hid (Below w6.heap.size w6 wr) := hbq
        clear hbq
        rcases Nat.lt_or_ge (i + 2) lx.length with d | d
        · have hex : ∃ y, lx[i]? = some y := ⟨_, List.getElem?_eq_getElem (by omega)⟩
          obtain ⟨y, hy⟩ := hex
          have hy' := HGM.out i y d hy
          have il : i < gx.length := by
            rcases Nat.lt_or_ge i gx.length with q | q
            · exact q
            · rw [List.getElem?_eq_none q] at hy'; cases hy'
          obtain ⟨k1, _, k2⟩ := HL6.out wr HBQ.out
          obtain ⟨b, off, h1, hc⟩ := k1.cells (by intro e; simp only at e; rw [e] at d; simp at d)
          obtain ⟨b', off', h2, hc'⟩ := k2.cells (by intro e; simp only at e; rw [e] at il; simp at il)
          simp only at h1 h2
          subst h1 h2
          have g0 := hc i _ hy 0 _ rfl
          have g1 := hc i _ hy 1 _ rfl
          have g2 := hc i _ hy 2 _ rfl
          have g0' := hc' i _ hy' 0 _ rfl
          have g1' := hc' i _ hy' 1 _ rfl
          have g2' := hc' i _ hy' 2 _ rfl
          rw [Nat.add_zero] at g0 g0'
          have d1 : (i : Int) + 2 < lx.length := by omega
          have d2 : ¬ (gx.length : Int) ≤ i := by omega
          have d3 : decide ((gx.length : Int) ≤ i) = false := decide_eq_false d2
          have d4 : (i : Int) < gx.length := by omega
          have d5 : (i : Int) < lx.length := by omega
          clear hc hc' hy hy' k1 k2 HL6 HGM
          obtain ⟨gp, gn, gk⟩ := y
          simp only at *
          go_wp2_with fail
          go_quiet (fail)
          go_wp2_with fail
          refine ⟨⟨i + 1, ⟨by omega, below_dN HBQ.out _⟩, by go_num⟩, ?_⟩
          simp [intOf]
          omega
        · have d1 : ¬ (i : Int) + 2 < lx.length := by omega
          have hi2 : (i : Int) ≤ 1048576 := by omega
          have ka := alive_any
          have HL7 : Hid (∀ w', Below w6.heap.size w6 w' → Below w.heap.size w w') := fun w' h => (HL6.out w' h).2.1
          clear HL6 HGM d hil
          go_wp2_with fail
          refine (ka _).mono ?_
          rintro e w7 ⟨rfl, hb7⟩
          have HB7 := HL7.out w7 (HBQ.out.trans (hb7.mono HBQ.out.size))
          go_wp2_with fail
          go_ret
          exact ⟨rfl, HB7⟩

end Go.Proofs.Ytjkemkggcnholaa.Fu
