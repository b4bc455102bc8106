/- FuseWhere: the law's walk. -/
import Derived.Test.YtjkemkggcnholaaGF
import Derived.Test.YtjkemkggcnholaaGG
namespace Go.Proofs.Ytjkemkggcnholaa.Fu
open Go.RowKit
set_option linter.unusedVariables false

/-- what the laws ask of a function that came in -/
structure FnSz (f : Fn) : Prop where
  a : (f.code.xs.length + f.hnds.xs.length + 1) * 8 ≤ 140737488355328
  b : (f.code.xs.length + 1) * 24 ≤ 140737488355328

theorem fn_cells (f : Fn) (w w' : World) (h : Below (w.alloc (fnB f)).heap.size (w.alloc (fnB f)) w') : ∀ j u, (fnC f)[j]? = some u → w'.cell? ⟨w.heap.size, j, none⟩ = some u :=
  fun j u hj => cells_below h _ _ (fnB_cell f w j u hj)

set_option maxRecDepth 100000 in
set_option maxHeartbeats 4000000 in
theorem where_walk (f : Fn) (x : Int) (w : World) (hf : f.ok w) (hz : FnSz f) (hx1 : -9223372036854775808 ≤ x) (hx2 : x ≤ 9223372036854775807) :
    Calls Try.prog 5 #[fnV f, .int .i64 x] w fun e w' => e = .returned (.bool true) ∧ Below w.heap.size w w' := by
  have B0 : Below w.heap.size w (w.alloc (fnB f)) := (Below.refl _ _).alloc (Nat.le_refl _) _
  have kg := groups_any f (w.alloc (fnB f)) (hf.kept (cells_below B0)) hz.a hz.b
  have hcl : (f.code.xs.length : Int) ≤ 17592186044416 := by have := hz.a; omega
  have hsm := groups_sm f.code.xs (risen (startL f)) (by omega)
  have hin : Hid (∀ y : Nat, x = y → y < f.code.xs.length → ∃ (j : Nat) (g : Grp), (groupsI f.code.xs (risen (startL f)))[j]? = some g ∧ g.p ≤ y ∧ y < g.p + g.n ∧ whereF x 0 (groupsI f.code.xs (risen (startL f))) = ((j : Int), x - g.p, true)) := by
    intro y e hy
    subst e
    obtain ⟨j, g, h1, h2, h3, h4⟩ := where_in f.code.xs (risen (startL f)) y hy _ 0 0 rfl (Nat.zero_le _)
    exact ⟨j, g, h1, h2, h3, by rw [groups_from, h4, Nat.zero_add]⟩
  have hout : Hid (x < 0 ∨ (f.code.xs.length : Int) ≤ x → whereF x 0 (groupsI f.code.xs (risen (startL f))) = (0, 0, false)) := fun h => where_out f.code.xs _ (risen_rise _) x h _ (groups_ok _ _) 0
  have HX : Hid (∀ w', Below (w.alloc (fnB f)).heap.size (w.alloc (fnB f)) w' → w'.cell? ⟨w.heap.size, 4, none⟩ = some f.code.val ∧ Below w.heap.size w w') := fun w' h => ⟨fn_cells f w w' h 4 _ rfl, B0.trans (h.mono B0.size)⟩
  have cs0 := fnB_cell f w 0 _ rfl
  have cs1 := fnB_cell f w 1 _ rfl
  have cs2 := fnB_cell f w 2 _ rfl
  have cs3 := fnB_cell f w 3 _ rfl
  have cs4 := fnB_cell f w 4 _ rfl
  have cs5 := fnB_cell f w 5 _ rfl
  have cs6 := fnB_cell f w 6 _ rfl
  have cs7 := fnB_cell f w 7 _ rfl
  clear hf hz B0
  generalize groupsI f.code.xs (risen (startL f)) = gs at *
  obtain ⟨nm, pa, re, ge, ⟨ca, c1, cx⟩, ⟨ka, kc, kx⟩, ⟨pa', pc, px⟩, ⟨ha, hc, hx⟩⟩ := f
  unfold fnB at *
  unfold fnV at *
  unfold Sli.val at *
  simp only at *
  have HS : Hid (GrpSm gs) := hsm
  clear hsm
  go_enter Try.func5, Try.ntmps5
  go_wp2_with fail
  generalize w.alloc (.cells #[.string nm, .int .i64 pa, .int .i64 re, .bool ge, .slice ca cx.length c1, .slice ka kx.length kc, .slice pa' px.length pc, .slice ha hx.length hc] 27) = w1 at *
  refine kg.mono ?_
  rintro e w2 ⟨v2, rfl, ho2, hb2⟩
  obtain ⟨s, rfl, hxs, hok⟩ := ho2.sl
  have kw := where_any s x w2 hok (by rw [hxs]; exact HS.out) hx1 hx2
  rw [hxs] at kw
  have HK : Hid (∀ w', Below w2.heap.size w2 w' → w'.cell? ⟨w.heap.size, 4, none⟩ = some (.slice ca cx.length c1) ∧ Below w.heap.size w w' ∧ s.ok grpC 3 w') := fun w' h =>
    ⟨(HX.out w' (hb2.trans (h.mono hb2.size))).1, (HX.out w' (hb2.trans (h.mono hb2.size))).2, hok.kept (cells_below h)⟩
  have hlg : (gs.length : Int) ≤ 9223372036854775807 := by have h1 := hok.len; have h2 := hok.cap; rw [hxs] at h1; unfold maxLen at h2; omega
  clear kg ho2 hok hb2 HX HS cs0 cs1 cs2 cs3 cs4 cs5 cs6 cs7
  obtain ⟨ad, cap, xs⟩ := s
  simp only at hxs
  subst hxs
  unfold Sli.val at *
  simp only at *
  have ka := alive_any
  by_cases t : x < 0 ∨ (cx.length : Int) ≤ x
  · rw [hout.out t] at kw
    clear hin hout
    go_wp2_with fail
    refine kw.mono ?_
    rintro e w3 ⟨rfl, hb3⟩
    obtain ⟨m4, HB3, _⟩ := HK.out w3 hb3
    clear kw HK
    rcases t with t | t
    · go_wp2_with fail
      refine (ka _).mono ?_
      rintro e w5 ⟨rfl, hb5⟩
      go_wp2_with fail
      go_ret
      exact ⟨rfl, HB3.trans (hb5.mono HB3.size)⟩
    · have t' : ¬ x < 0 := by omega
      go_wp2_with fail
      refine (ka _).mono ?_
      rintro e w5 ⟨rfl, hb5⟩
      go_wp2_with fail
      go_ret
      exact ⟨rfl, HB3.trans (hb5.mono HB3.size)⟩
  · have t1 : ¬ x < 0 := fun h => t (Or.inl h)
    have t2 : x < (cx.length : Int) := by omega
    obtain ⟨j, g, h1, h2, h3, h4⟩ := hin.out x.toNat (by omega) (by omega)
    rw [h4] at kw
    have jl : (j : Int) < xs.length := by
      rcases Nat.lt_or_ge j xs.length with k | k
      · omega
      · rw [List.getElem?_eq_none k] at h1; cases h1
    have HJ : Hid (xs[j]? = some g) := h1
    have q1 : (g.p : Int) ≤ x := by omega
    have q2 : x - g.p < g.n := by omega
    clear hin hout t h1 h2 h3 h4
    go_wp2_with fail
    refine kw.mono ?_
    rintro e w3 ⟨rfl, hb3⟩
    obtain ⟨m4, HB3, _⟩ := HK.out w3 hb3
    have HK3 : Hid (∀ w', Below w3.heap.size w3 w' → ∃ b off, ad = some ⟨b, off, none⟩ ∧ w'.cell? ⟨b, off + j * 3, none⟩ = some (.int .i64 (g.p : Nat)) ∧ w'.cell? ⟨b, off + j * 3 + 1, none⟩ = some (.int .i64 (g.n : Nat))) := by
      intro w' h
      obtain ⟨b, off, e1, hc⟩ := (HK.out w' (hb3.trans (h.mono hb3.size))).2.2.cells (by intro e; simp only at e; rw [e] at jl; simp at jl; omega)
      exact ⟨b, off, e1, hc j g HJ.out 0 _ rfl, hc j g HJ.out 1 _ rfl⟩
    clear kw HK HJ
    go_wp2_with fail
    refine (ka _).mono ?_
    rintro e w5 ⟨rfl, hb5⟩
    obtain ⟨b, off, rfl, g0, g1⟩ := HK3.out w5 hb5
    go_wp2_with fail
    go_ret
    exact ⟨rfl, HB3.trans (hb5.mono HB3.size)⟩

end Go.Proofs.Ytjkemkggcnholaa.Fu
