/- FuseGroups: the law's walk. -/
import Derived.Test.YtjkemkggcnholaaGL
import Derived.Test.YtjkemkggcnholaaGI
namespace Go.Proofs.Ytjkemkggcnholaa.Fu
open Go.RowKit
set_option linter.unusedVariables false

set_option maxRecDepth 100000 in
set_option maxHeartbeats 4000000 in
theorem groups_walk (f : Fn) (w : World) (hf : f.ok w) (hz : FnSz f) :
    Calls Try.prog 3 #[fnV f] w fun e w' => e = .returned (.bool true) ∧ Below w.heap.size w w' := by
  have B0 : Below w.heap.size w (w.alloc (fnB f)) := (Below.refl _ _).alloc (Nat.le_refl _) _
  have hf1 := hf.kept (cells_below B0)
  have kg := groups_any f (w.alloc (fnB f)) hf1 hz.a hz.b
  have hcl : (f.code.xs.length : Int) ≤ 17592186044416 := by have := hz.a; omega
  have HST : Hid ((risen (startL f)).Pairwise (· < ·)) := risen_rise _
  have HX : Hid (∀ w', Below (w.alloc (fnB f)).heap.size (w.alloc (fnB f)) w' → (∀ j u, (fnC f)[j]? = some u → w'.cell? ⟨w.heap.size, j, none⟩ = some u) ∧ Below w.heap.size w w' ∧
      Calls Try.prog 9 #[fnV f] w' fun e w'' => ∃ v, e = .returned v ∧ OwnG w'.heap.size w'' v (groupsI f.code.xs (risen (startL f))) ∧ Below w'.heap.size w' w'') := fun w' h => ⟨fn_cells f w w' h, B0.trans (h.mono B0.size), rgroups_any f w' (hf1.kept (cells_below h)) (kind_ok f hcl) hz.a hz.b⟩
  have cs0 := fnB_cell f w 0 _ rfl
  have cs1 := fnB_cell f w 1 _ rfl
  have cs2 := fnB_cell f w 2 _ rfl
  have cs3 := fnB_cell f w 3 _ rfl
  have cs4 := fnB_cell f w 4 _ rfl
  have cs5 := fnB_cell f w 5 _ rfl
  have cs6 := fnB_cell f w 6 _ rfl
  have cs7 := fnB_cell f w 7 _ rfl
  clear hf hz B0 hf1
  clear HST
  generalize groupsI f.code.xs (risen (startL f)) = gs at *
  obtain ⟨nm, pa, re, ge, ⟨ca, c1, cx⟩, ⟨ka, kc, kx⟩, ⟨pa', pc, px⟩, ⟨ha, hc, hx⟩⟩ := f
  unfold fnB at *
  unfold fnV at *
  unfold Sli.val at *
  simp only at *
  go_enter Try.func3, Try.ntmps3
  go_wp2_with fail
  generalize w.alloc (.cells #[.string nm, .int .i64 pa, .int .i64 re, .bool ge, .slice ca cx.length c1, .slice ka kx.length kc, .slice pa' px.length pc, .slice ha hx.length hc] 27) = w1 at *
  refine kg.mono ?_
  rintro e w2 ⟨v2, rfl, ho2, hb2⟩
  obtain ⟨hcs, _, kr⟩ := HX.out w2 hb2
  have m0 := hcs 0 _ rfl
  have m1 := hcs 1 _ rfl
  have m2 := hcs 2 _ rfl
  have m3 := hcs 3 _ rfl
  have m4 := hcs 4 _ rfl
  have m5 := hcs 5 _ rfl
  have m6 := hcs 6 _ rfl
  have m7 := hcs 7 _ rfl
  unfold Sli.val at m4 m5 m6 m7
  simp only at m0 m1 m2 m3 m4 m5 m6 m7
  have HXB : Hid (∀ w', Below w1.heap.size w1 w' → Below w.heap.size w w') := fun w' h => (HX.out w' h).2.1
  obtain ⟨s, rfl, hxs, hok⟩ := ho2.sl
  have HS : Hid (s.ok grpC 3 w2 ∧ Below w1.heap.size w1 w2) := ⟨hok, hb2⟩
  have hlg : (s.xs.length : Int) ≤ 9223372036854775807 := by have h1 := hok.len; have h2 := hok.cap; unfold maxLen at h2; omega
  have KA := (show Hid _ from alive_any)
  clear kg HX ho2 hok hb2 hcs cs0 cs1 cs2 cs3 cs4 cs5 cs6 cs7
  go_wp2_with fail
  refine kr.mono ?_
  rintro e w3 ⟨v3, rfl, ho3, hb3⟩
  obtain ⟨s', rfl, hxs', hok'⟩ := ho3.sl
  have HS2 : Hid (∀ w', Below w3.heap.size w3 w' → s.ok grpC 3 w' ∧ s'.ok grpC 3 w' ∧ Below w.heap.size w w') := fun w' h =>
    ⟨(HS.out.1.kept (cells_below hb3)).kept (cells_below h), hok'.kept (cells_below h), HXB.out w' (HS.out.2.trans ((hb3.trans (h.mono hb3.size)).mono HS.out.2.size))⟩
  have hlg' : (s'.xs.length : Int) ≤ 9223372036854775807 := by have h1 := hok'.len; have h2 := hok'.cap; unfold maxLen at h2; omega
  clear kr ho3 hb3 hok' HS m0 m1 m2 m3 m4 m5 m6 m7 HXB
  obtain ⟨ad, cap, xs⟩ := s
  obtain ⟨ad', cap', xs'⟩ := s'
  simp only at hxs hxs'
  subst hxs hxs'
  unfold Sli.val at *
  simp only at *
  have ka := KA.out
  go_wp2_with fail
  refine (ka _).mono ?_
  rintro e w4 ⟨rfl, hb4⟩
  have HB4 : Hid (Below w3.heap.size w3 w4) := hb4
  clear ka hb4
  go_wp2_with fail
  go_loopw [21] (fun iv wr => ∃ i : Nat, (i ≤ xs'.length ∧ Below w3.heap.size w3 wr) ∧ iv = .int .i64 i) (fun iv wr => xs'.length - (intOf iv).toNat)
  case atStart => exact ⟨0, ⟨Nat.zero_le _, HB4.out⟩, rfl⟩
  case round =>
    obtain ⟨i, ⟨ile, hbr⟩, rfl⟩ := hrel
    have HB : Hid (Below w3.heap.size w3 wr) := hbr
    clear hbr
    rcases Nat.lt_or_ge i xs'.length with c | c
    · have hex : ∃ y, xs'[i]? = some y := ⟨_, List.getElem?_eq_getElem c⟩
      obtain ⟨y, hy⟩ := hex
      obtain ⟨k1, k2, _⟩ := HS2.out wr HB.out
      obtain ⟨b, off, rfl, hc⟩ := k1.cells (by intro e; simp only at e; rw [e] at c; simp at c)
      obtain ⟨b', off', rfl, hc'⟩ := k2.cells (by intro e; simp only at e; rw [e] at c; simp at c)
      have g0 := hc i _ hy 0 _ rfl
      have g1 := hc i _ hy 1 _ rfl
      have g2 := hc i _ hy 2 _ rfl
      have g0' := hc' i _ hy 0 _ rfl
      have g1' := hc' i _ hy 1 _ rfl
      have g2' := hc' i _ hy 2 _ rfl
      rw [Nat.add_zero] at g0 g0'
      clear hc hc' hy k1 k2
      obtain ⟨gp, gn, gk⟩ := y
      simp only at *
      go_wp2_with fail
      go_quiet (fail)
      go_wp2_with fail
      refine ⟨⟨i + 1, ⟨c, below_dN HB.out _⟩, by go_num⟩, ?_⟩
      simp [intOf]
      omega
    · have hdi : decide (i < xs'.length) = false := decide_eq_false (by omega)
      have HBW := (HS2.out wr HB.out).2.2
      go_wp2_with fail
      go_ret
      exact ⟨rfl, HBW⟩

end Go.Proofs.Ytjkemkggcnholaa.Fu
