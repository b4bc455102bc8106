/- FuseParts: the law's walk. -/
import Derived.Test.YtjkemkggcnholaaGK1
import Derived.Test.YtjkemkggcnholaaGK2
import Derived.Test.YtjkemkggcnholaaGK3
namespace Go.Proofs.Ytjkemkggcnholaa.Fu
open Go.RowKit
set_option linter.unusedVariables false

set_option maxRecDepth 100000 in
set_option maxHeartbeats 4000000 in
theorem parts_walk (f : Fn) (w : World) (hf : f.ok w) (hz : FnSz f) :
    Calls Try.prog 7 #[fnV f] w fun e w' => e = .returned (.bool true) ∧ Below w.heap.size w w' := by
  have B0 : Below w.heap.size w (w.alloc (fnB f)) := (Below.refl _ _).alloc (Nat.le_refl _) _
  have hf1 := hf.kept (cells_below B0)
  have kg := groups_any f (w.alloc (fnB f)) hf1 hz.a hz.b
  have hcl : (f.code.xs.length : Int) ≤ 17592186044416 := by have := hz.a; omega
  have HST : Hid ((risen (startL f)).Pairwise (· < ·)) := risen_rise _
  have HX : Hid (∀ w', Below (w.alloc (fnB f)).heap.size (w.alloc (fnB f)) w' → (∀ j u, (fnC f)[j]? = some u → w'.cell? ⟨w.heap.size, j, none⟩ = some u) ∧ Below w.heap.size w w' ∧ f.code.ok insC 4 w') := fun w' h => ⟨fn_cells f w w' h, B0.trans (h.mono B0.size), (hf1.kept (cells_below h)).code⟩
  have cs0 := fnB_cell f w 0 _ rfl
  have cs1 := fnB_cell f w 1 _ rfl
  have cs2 := fnB_cell f w 2 _ rfl
  have cs3 := fnB_cell f w 3 _ rfl
  have cs4 := fnB_cell f w 4 _ rfl
  have cs5 := fnB_cell f w 5 _ rfl
  have cs6 := fnB_cell f w 6 _ rfl
  have cs7 := fnB_cell f w 7 _ rfl
  clear hf hz B0 hf1
  generalize risen (startL f) = st at *
  obtain ⟨nm, pa, re, ge, ⟨ca, c1, cx⟩, ⟨ka, kc, kx⟩, ⟨pa', pc, px⟩, ⟨ha, hc, hx⟩⟩ := f
  unfold fnB at *
  unfold fnV at *
  unfold Sli.val at *
  simp only at *
  go_enter Try.func7, Try.ntmps7
  go_wp2_with fail
  generalize w.alloc (.cells #[.string nm, .int .i64 pa, .int .i64 re, .bool ge, .slice ca cx.length c1, .slice ka kx.length kc, .slice pa' px.length pc, .slice ha hx.length hc] 27) = w1 at *
  refine kg.mono ?_
  rintro e w2 ⟨v2, rfl, ho2, hb2⟩
  obtain ⟨s, rfl, hxs, hok⟩ := ho2.sl
  have hlg : (s.xs.length : Int) ≤ 9223372036854775807 := by have h1 := hok.len; have h2 := hok.cap; unfold maxLen at h2; omega
  have HK : Hid (∀ w', Below w2.heap.size w2 w' → Below w1.heap.size w1 w' ∧ s.ok grpC 3 w') := fun w' h => ⟨hb2.trans (h.mono hb2.size), hok.kept (cells_below h)⟩
  clear kg ho2 hok hb2 cs0 cs1 cs2 cs3 cs4 cs5 cs6 cs7
  obtain ⟨ad, cap, xs⟩ := s
  simp only at hxs
  subst hxs
  unfold Sli.val at *
  simp only at *
  have ka := alive_any
  have KA := (show Hid _ from ka)
  clear ka
  go_wp2_with fail
  go_loopw [10] (fun iv wr => ∃ i : Nat, (i ≤ (groupsI cx st).length ∧ Below w2.heap.size w2 wr) ∧ iv = .int .i64 i) (fun iv wr => (groupsI cx st).length - (intOf iv).toNat)
  case atStart => exact ⟨0, ⟨Nat.zero_le _, Below.refl _ _⟩, rfl⟩
  case round =>
    obtain ⟨i, ⟨ile, hbr⟩, rfl⟩ := hrel
    have HB : Hid (Below w2.heap.size w2 wr) := hbr
    clear hbr
    rcases Nat.lt_or_ge i (groupsI cx st).length with c | c
    · have hex : ∃ y, (groupsI cx st)[i]? = some y := ⟨_, List.getElem?_eq_getElem c⟩
      obtain ⟨y, hy⟩ := hex
      have hg := groups_ok cx st y (List.mem_of_getElem? hy)
      have hlt := hg.lt
      have hs1 := (step_in cx st y.p HST.out hlt).1
      rw [← hg.n] at hs1
      have hfi := first_is cx st y.p (y.k, y.n) (by rw [hg.n, hg.k])
      obtain ⟨b, off, rfl, hc⟩ := (HK.out wr HB.out).2.cells (by intro e; simp only at e; rw [e] at c; simp at c)
      have g0 := hc i _ hy 0 _ rfl
      have g1 := hc i _ hy 1 _ rfl
      have g2 := hc i _ hy 2 _ rfl
      rw [Nat.add_zero] at g0
      have HB3 : Below w2.heap.size w2 (wr.alloc (.cells #[.int .i64 (y.p : Nat), .int .i64 (y.n : Nat), .int .i64 y.k] 32)) := below_new HB.out HB.out.size _
      obtain ⟨hcs, _, hcd⟩ := HX.out _ (HK.out _ HB3).1
      have m4 := hcs 4 _ rfl
      obtain ⟨cb, co, hca, _⟩ := hcd.cells (by intro e; simp only at e; rw [e] at hlt; simp at hlt)
      simp only at hca
      subst hca
      have hic := fun (j : Nat) (z : Ins) (h : cx[j]? = some z) => ins_cells hcd rfl h
      have hcap : cx.length ≤ c1 := hcd.len
      have hcap2 : (c1 : Int) ≤ 9223372036854775807 := by have := hcd.cap; simp only at this; unfold maxLen at this; omega
      have n0 := one_grp wr y 0 _ rfl
      have n1 := one_grp wr y 1 _ rfl
      have n2 := one_grp wr y 2 _ rfl
      clear hc hy hcs hcd hg HX HK HST KA
      obtain ⟨gp, gn, gk⟩ := y
      unfold Sli.val at m4
      simp only at *
      have HHI := (show Hid _ from hic)
      have HHF := (show Hid _ from hfi)
      have HB4 := (show Hid _ from HB3)
      clear hic hfi HB3
      have hpn : (gp : Int) + gn ≤ cx.length := by omega
      go_upto_region 4 with fail
      generalize wr.alloc (.cells #[.int .i64 (gp : Nat), .int .i64 (gn : Nat), .int .i64 gk] 32) = w3 at *
      have hic := HHI.out
      have HB3 : Hid (Below w2.heap.size w2 w3) := HB4.out
      have hfi := HHF.out
      clear HHI HHF HB4 g0 g1 g2
      rcases hfi with ⟨hF, x0, x1, x2, i0, i1, i2, q1, q2, q3, q4, q5, q6⟩ | ⟨hF, x0, x1, i0, i1, q1, q2, q3, q4⟩ | ⟨hF, x0, x1, i0, i1, q1, q2, q3⟩ | ⟨hF, x0, x1, i0, i1, q1, q2⟩ | hF
      · cases hF
        obtain ⟨y00, y01, y02, y03⟩ := hic _ _ i0
        obtain ⟨y10, y11, y12, y13⟩ := hic _ _ i1
        rw [show co + (gp + 1) * 4 = co + gp * 4 + 4 by omega] at y10 y11 y12 y13
        obtain ⟨y20, y21, y22, y23⟩ := hic _ _ i2
        rw [show co + (gp + 2) * 4 = co + gp * 4 + 8 by omega] at y20 y21 y22 y23
        obtain ⟨xo0, xa0, xb0, xc0⟩ := x0
        obtain ⟨xo1, xa1, xb1, xc1⟩ := x1
        obtain ⟨xo2, xa2, xb2, xc2⟩ := x2
        clear i0 i1 i2 hic
        simp only at *
        subst q1 q2 q5 q6
        go_wp2_with fail
        rw [show gp + 3 - gp = 3 by omega]
        refine Code.wp_mono ?_ (reg11 w3 cb (co + gp * 4) (c1 - gp) _ _ _ q3 q4 y00 y01 y10 y11 y20 y22 y23 _ _ _ _ _ _ _ _ _ _ _ _ _ _ _ _ _ _ _ _ _ _ _ _ _ _ _ _ _ _ _ _ _ _ _ _ _ _ _ _ _ _ _ _ _ _ _ _ _ _ _ _ _ _ _ _ _ _ _ _ _ _ _ _ _ _ _ _ _ _ _ _ _ _ _ _ _ _ _ _ _ _ _ _ _ _ _ _ _ _ _ _ _ _ _ _ _ _ _ _ _ _ _ _ _ _ _ _ _ _ _ _ _ _ _ _ _ _ _ _ _ _ _ _ _ _ _ _ _ _ _ _ _ _ _ _ _ _ _ _ _ _ _ _ _ _ _ _ _ _ _ _ _ _ _ _ _ _ _ _ _ _ _ _ _ _ _ _ _ _ _ _ _ _ _ _ _ _ _ _ _ _ _ _ _ _ _ _ _ _ _ _ _ _ _ _ _ _ _)
        intro ex ax wx hp
        obtain ⟨rfl, z0, z1, z2, z3, z4, z5, z6, z7, z8, z9, z10, z11, z12, z13, z14, z15, z16, z17, z18, z19, z20, z21, z22, z23, z24, z25, z26, z27, z28, z29, z30, z31, z32, z33, z34, z35, z36, z37, z38, z39, z40, z41, z42, z43, z44, z45, z46, z47, z48, z49, z50, z51, z52, rfl, hbx⟩ := P11_out hp
        have HB7 : Hid (Below w2.heap.size w2 wx) := HB3.out.trans (hbx.mono HB3.out.size)
        clear hp hbx
        go_wp2_with fail
        refine ⟨⟨i + 1, ⟨c, HB7.out⟩, by go_num⟩, ?_⟩
        simp [intOf]
        omega
      · cases hF
        obtain ⟨y00, y01, y02, y03⟩ := hic _ _ i0
        obtain ⟨y10, y11, y12, y13⟩ := hic _ _ i1
        rw [show co + (gp + 1) * 4 = co + gp * 4 + 4 by omega] at y10 y11 y12 y13
        obtain ⟨xo0, xa0, xb0, xc0⟩ := x0
        obtain ⟨xo1, xa1, xb1, xc1⟩ := x1
        clear i0 i1 hic
        simp only at *
        subst q4
        go_wp2_with fail
        rw [show gp + 2 - gp = 2 by omega]
        refine Code.wp_mono ?_ (reg13 w3 cb (co + gp * 4) (c1 - gp) _ _ _ q1 q2 q3 y00 y01 y10 y11 _ _ _ _ _ _ _ _ _ _ _ _ _ _ _ _ _ _ _ _ _ _ _ _ _ _ _ _ _ _ _ _ _ _ _ _ _ _ _ _ _ _ _ _ _ _ _ _ _ _ _ _ _ _ _ _ _ _ _ _ _ _ _ _ _ _ _ _ _ _ _ _ _ _ _ _ _ _ _ _ _ _ _ _ _ _ _ _ _ _ _ _ _ _ _ _ _ _ _ _ _ _ _ _ _ _ _ _ _ _ _ _ _ _ _ _ _ _ _ _ _ _ _ _ _ _ _ _ _ _ _ _ _ _ _ _ _ _ _ _ _ _ _ _ _ _ _ _ _ _ _ _ _ _ _ _ _ _ _ _ _ _ _ _ _ _ _ _ _ _ _ _ _ _ _ _ _ _ _ _ _ _ _ _ _ _ _ _ _ _ _ _ _ _ _ _ _ _ _)
        intro ex ax wx hp
        obtain ⟨rfl, z0, z1, z2, z3, z4, z5, z6, z7, z8, z9, z10, z11, z12, z13, z14, z15, z16, z17, z18, z19, z20, z21, z22, z23, z24, z25, z26, z27, z28, z29, z30, z31, z32, z33, z34, z35, z36, z37, z38, z39, z40, z41, rfl, hbx⟩ := P13_out hp
        have HB7 : Hid (Below w2.heap.size w2 wx) := HB3.out.trans (hbx.mono HB3.out.size)
        clear hp hbx
        go_wp2_with fail
        refine ⟨⟨i + 1, ⟨c, HB7.out⟩, by go_num⟩, ?_⟩
        simp [intOf]
        omega
      · cases hF
        obtain ⟨y00, y01, y02, y03⟩ := hic _ _ i0
        obtain ⟨y10, y11, y12, y13⟩ := hic _ _ i1
        rw [show co + (gp + 1) * 4 = co + gp * 4 + 4 by omega] at y10 y11 y12 y13
        obtain ⟨xo0, xa0, xb0, xc0⟩ := x0
        obtain ⟨xo1, xa1, xb1, xc1⟩ := x1
        clear i0 i1 hic
        simp only at *
        subst q1 q2 q3
        go_wp2_with fail
        rw [show gp + 2 - gp = 2 by omega]
        refine Code.wp_mono ?_ (reg15 w3 cb (co + gp * 4) (c1 - gp) _ y00 y01 y10 y12 _ _ _ _ _ _ _ _ _ _ _ _ _ _ _ _ _ _ _ _ _ _ _ _ _ _ _ _ _ _ _ _ _ _ _ _ _ _ _ _ _ _ _ _ _ _ _ _ _ _ _ _ _ _ _ _ _ _ _ _ _ _ _ _ _ _ _ _ _ _ _ _ _ _ _ _ _ _ _ _ _ _ _ _ _ _ _ _ _ _ _ _ _ _ _ _ _ _ _ _ _ _ _ _ _ _ _ _ _ _ _ _ _ _ _ _ _ _ _ _ _ _ _ _ _ _ _ _ _ _ _ _ _ _ _ _ _ _ _ _ _ _ _ _ _ _ _ _ _ _ _ _ _ _ _ _ _ _ _ _ _ _ _ _ _ _ _ _ _ _ _ _ _ _ _ _ _ _ _ _ _ _ _ _ _ _ _ _ _ _ _ _ _ _ _ _ _ _ _)
        intro ex ax wx hp
        obtain ⟨rfl, z0, z1, z2, z3, z4, z5, z6, z7, z8, z9, z10, z11, z12, z13, z14, z15, z16, z17, z18, z19, z20, z21, z22, z23, z24, z25, z26, z27, rfl, hbx⟩ := P15_out hp
        have HB7 : Hid (Below w2.heap.size w2 wx) := HB3.out.trans (hbx.mono HB3.out.size)
        clear hp hbx
        go_wp2_with fail
        refine ⟨⟨i + 1, ⟨c, HB7.out⟩, by go_num⟩, ?_⟩
        simp [intOf]
        omega
      · cases hF
        obtain ⟨y00, y01, y02, y03⟩ := hic _ _ i0
        obtain ⟨y10, y11, y12, y13⟩ := hic _ _ i1
        rw [show co + (gp + 1) * 4 = co + gp * 4 + 4 by omega] at y10 y11 y12 y13
        obtain ⟨xo0, xa0, xb0, xc0⟩ := x0
        obtain ⟨xo1, xa1, xb1, xc1⟩ := x1
        clear i0 i1 hic
        simp only at *
        subst q1 q2
        go_wp2_with fail
        refine ⟨⟨i + 1, ⟨c, HB3.out⟩, by go_num⟩, ?_⟩
        simp [intOf]
        omega
      · cases hF
        clear hic
        go_wp2_with fail
        refine ⟨⟨i + 1, ⟨c, HB3.out⟩, by go_num⟩, ?_⟩
        simp [intOf]
        omega
    · have kal := KA.out
      have hdi : decide (i < (groupsI cx st).length) = false := decide_eq_false (by omega)
      have HX2 : Hid (∀ w', Below w2.heap.size w2 w' → Below w.heap.size w w') := fun w' h => (HX.out w' (HK.out w' h).1).2.1
      clear HX HK KA HST
      go_wp2_with fail
      refine (kal _).mono ?_
      rintro e w5 ⟨rfl, hb5⟩
      have HB5 := HX2.out w5 (HB.out.trans (hb5.mono HB.out.size))
      go_wp2_with fail
      go_ret
      exact ⟨rfl, HB5⟩

end Go.Proofs.Ytjkemkggcnholaa.Fu
