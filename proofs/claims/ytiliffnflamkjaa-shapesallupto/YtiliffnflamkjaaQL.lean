/- A law's two trees in memory; ShapesAll's walk. -/
import Derived.Test.YtiliffnflamkjaaQK
import Derived.Test.YtiliffnflamkjaaRP
import Derived.Test.YtiliffnflamkjaaRO
namespace Go.Proofs.Ytiliffnflamkjaa.Sp
open Go.RowKit
set_option linter.unusedVariables false

/-- both trees, and the law's variable of the document's one, behind i calls -/
structure LwAt (w wr : World) (tb rb : Nat) (most : Int) (i : Nat) (L : List Sh) (s : Sli RS) : Prop where
  both : Both (fun b => b = rb) wr w.heap.size tb most L s
  box : wr.heap[rb]? = some (.cells #[.int .i64 (max most 0), .slice s.at' s.xs.length s.cap] 27 (0, 0))
  fits : Fits most L i
  bel : Below w.heap.size w wr
  lo : w.heap.size ≤ rb

theorem LwAt.below {w wr w' : World} {tb rb : Nat} {most : Int} {i : Nat} {L : List Sh} {s : Sli RS} (h : LwAt w wr tb rb most i L s) (hb : Below wr.heap.size wr w') : LwAt w w' tb rb most i L s :=
  ⟨h.both.below hb, (hb.block rb (Array.getElem?_eq_some_iff.1 h.box).1).trans h.box, h.fits, h.bel.trans (hb.mono h.bel.size), h.lo⟩

theorem LwAt.start {w w1 : World} {tb : Nat} {O : Nat → Prop} {most : Int} (hT : Tree w1 w.heap.size tb O most []) (hb : Below w.heap.size w w1) :
    LwAt w (w1.alloc (.cells #[.int .i64 (max most 0), .slice none 0 0] 27)) tb w1.heap.size most 0 [] ⟨none, 0, []⟩ := by
  have ha : Below w1.heap.size w1 (w1.alloc (.cells #[.int .i64 (max most 0), .slice none 0 0] 27)) := (Below.refl _ _).alloc (Nat.le_refl _) _
  refine ⟨⟨O, hT.below ha, ⟨okn_nil, fun r hr => (by cases hr), rfl⟩, fun b q e => ?_⟩, at_new _ _, Fits.start most, hb.trans (ha.mono hb.size), hb.size⟩
  have := (hT.lt b q).2
  omega

/-- a call of the script -/
theorem LwAt.step {w wr : World} {tb rb : Nat} {most : Int} {i : Nat} {L : List Sh} {s : Sli RS} (h : LwAt w wr tb rb most i L s) (hi : i ≤ 1048576 ∨ most ≤ top) (o : Cl) (ho : o.wf) :
    Calls Try.prog 10 #[.pointer (some ⟨tb, 0, none⟩), .agg #[.int .i64 (max most 0), .slice s.at' s.xs.length s.cap], clV o] wr fun e w' => ∃ s', e = .returned (.tuple #[.agg #[.int .i64 (max most 0), .slice s'.at' s'.xs.length s'.cap], .bool true]) ∧ w'.heap[rb]? = some (.cells #[.int .i64 (max most 0), .slice s.at' s.xs.length s.cap] 27 (0, 0)) ∧ LwAt w ((w'.setCell ⟨rb, 0, none⟩ (.int .i64 (max most 0))).setCell ⟨rb, 1, none⟩ (.slice s'.at' s'.xs.length s'.cap)) tb rb most (i + 1) (opD most L o).1 s' := by
  have hroom : Room most L := hi.elim (fun q => h.fits.room q) (fun q => Or.inl q)
  have hlt : rb < wr.heap.size := (Array.getElem?_eq_some_iff.1 h.box).1
  have hrel : ∃ T, Rel T L := by obtain ⟨O, ⟨T, v, mb, hT⟩, _⟩ := h.both; exact ⟨T, hT.rel⟩
  obtain ⟨T, hT⟩ := hrel
  refine (step_any (fun b => b = rb) wr w.heap.size tb most L s h.both (fun b q => by omega) h.bel.size o ho hroom).mono ?_
  rintro e w' ⟨s', rfl, hb, hbel, hk⟩
  have hbox : w'.heap[rb]? = some (.cells #[.int .i64 (max most 0), .slice s.at' s.xs.length s.cap] 27 (0, 0)) := (hk rb rfl).trans h.box
  refine ⟨s', rfl, hbox, ?_, set2_same w' _ _ _ _ _ hbox, h.fits.next hT o, set2_below (h.bel.trans hbel) h.lo _ _, h.lo⟩
  obtain ⟨O, h1, h2, h3⟩ := hb
  have hcg : Chg (fun b => b = rb) w' ((w'.setCell ⟨rb, 0, none⟩ (.int .i64 (max most 0))).setCell ⟨rb, 1, none⟩ (.slice s'.at' s'.xs.length s'.cap)) := chg_set2 (Chg.refl _ _) _ _
  exact ⟨O, h1.kept hcg (fun b q e => h3 b q e), h2.kept hcg (fun b q _ e => q.2 e), h3⟩

theorem LwAt.drew {w wr : World} {tb rb : Nat} {most : Int} {i : Nat} {L : List Sh} {s : Sli RS} (h : LwAt w wr tb rb most i L s) : LwAt w wr.drew tb rb most i L s := h.below (Below.refl _ _).drew

set_option maxRecDepth 100000 in
set_option maxHeartbeats 8000000 in
theorem all_walk (w : World) (most : Int) (sc : Sli Cl) (hsc : sc.ok clC 5 w) (hwf : ∀ o ∈ sc.xs, o.wf) (hsz : sc.xs.length ≤ 1048576) :
    Calls Try.prog 3 #[.int .i64 most, sc.val] w fun e w' => e = .returned (.bool true) ∧ Below w.heap.size w w' := by
  obtain ⟨ca, cc, cx⟩ := sc
  unfold Sli.val
  simp only at *
  have kn := new_any w most
  have ka := alive_any
  have KA := (show Hid _ from ka)
  have HC : Hid (∀ W, Below w.heap.size w W → Sli.ok clC 5 W ⟨ca, cc, cx⟩) := fun W hW => hsc.kept (cells_below hW)
  have HWF : Hid ((∀ o ∈ cx, o.wf) ∧ cx.length ≤ 1048576) := ⟨hwf, hsz⟩
  have hcl : (cx.length : Int) ≤ 1048576 := by omega
  clear hsc hwf ka hsz
  by_cases hm0 : most < 0
  · have em : max most 0 = 0 := by omega
    have HEM : Hid (max most 0 = 0) := em
    clear em
    go_enter Try.func3, Try.ntmps3
    go_wp2_with fail
    refine kn.mono ?_
    rintro e w1 ⟨tb, O, rfl, hT, hb1⟩
    have hst := LwAt.start hT hb1
    have HS := (show Hid _ from hst)
    clear kn hT hb1 hst
    go_upto_region 3 with fail
    have HS2 : Hid (LwAt w (w1.alloc (.cells #[.int .i64 0, .slice none 0 0] 27)) tb w1.heap.size most 0 [] ⟨none, 0, []⟩) := by have h5 := HS.out; rw [HEM.out] at h5; exact h5
    clear HS
    generalize hw2 : w1.alloc (.cells #[.int .i64 0, .slice none 0 0] 27) = w2 at *
    have kal := KA.out
    go_wp2_with fail
    refine (kal _).mono ?_
    rintro e w3 ⟨rfl, hb3⟩
    have HI := (show Hid _ from HS2.out.below hb3)
    clear kal hb3 HS2
    generalize w1.heap.size = rb at *
    clear hw2
    go_wp2_with fail
    go_loopw [7, 8] (fun ok iv wr => ∃ (i : Nat) (L : List Sh) (s : Sli RS), (i ≤ cx.length ∧ LwAt w wr tb rb most i L s) ∧ ok = .bool true ∧ iv = .int .i64 i) (fun ok iv wr => cx.length - (intOf iv).toNat)
    case atStart => exact ⟨0, _, _, ⟨Nat.zero_le _, HI.out⟩, rfl, rfl⟩
    case round =>
      clear HI
      obtain ⟨i, L, ⟨sa, sc', sx⟩, ⟨ple, hl⟩, rfl, rfl⟩ := hrel
      have HL := (show Hid _ from hl)
      have bx := hl.box
      simp only at bx
      have r0 : wr.cell? ⟨rb, 0, none⟩ = some (.int .i64 (max most 0)) := by rw [cell_of_row wr _ 0 _ 27 (0, 0) bx]; rfl
      have r1 : wr.cell? ⟨rb, 1, none⟩ = some (.slice sa sx.length sc') := by rw [cell_of_row wr _ 1 _ 27 (0, 0) bx]; rfl
      clear hl bx
      rcases Nat.lt_or_ge i cx.length with c | c
      · have hex : ∃ o, cx[i]? = some o := ⟨_, List.getElem?_eq_getElem c⟩
        obtain ⟨o, ho⟩ := hex
        obtain ⟨b, off, e1, hc⟩ := (HC.out wr HL.out.bel).cells (by intro e; simp only at e; rw [e] at c; simp at c)
        simp only at e1
        subst e1
        have d0 := hc i o ho 0 _ rfl
        have d1 := hc i o ho 1 _ rfl
        have d2 := hc i o ho 2 _ rfl
        have d3 := hc i o ho 3 _ rfl
        have d4 := hc i o ho 4 _ rfl
        rw [Nat.add_zero] at d0
        have ks := HL.out.drew.step (Or.inl (by have := HWF.out.2; omega)) o (HWF.out.1 o (List.mem_of_getElem? ho))
        have cil : (i : Int) < cx.length := by omega
        unfold clV at ks
        obtain ⟨kd, sh, fl, pr, ke⟩ := o
        simp only at *
        clear hc ho
        go_wp2_with fail
        first
        | (go_region_with ((go_at_call 10; refine ks.mono ?_; rintro e w5 ⟨⟨za, zc, zx⟩, rfl, bx5, hl5⟩; have HX := (show Hid _ from hl5); have m0 := cell_of_row w5 rb 0 _ 27 (0, 0) bx5; have m1 := cell_of_row w5 rb 1 _ 27 (0, 0) bx5; have n0 := frozen_of_row w5 rb 0 _ 27 bx5; have n1 := frozen_of_row w5 rb 1 _ 27 bx5; clear hl5 bx5)))
        | fail
        all_goals
          go_wp2_with fail
          refine ⟨⟨i + 1, _, ⟨za, zc, zx⟩, ⟨c, by first | exact HX.out | exact HX.out.drew⟩, rfl, by go_num⟩, ?_⟩
          simp [intOf]
          omega
      · have hil : ¬ (i : Int) < cx.length := by omega
        have HB := (show Hid _ from HL.out.bel)
        clear HL
        go_wp2_with fail
        go_ret
        exact ⟨rfl, HB.out⟩
  · have em : max most 0 = most := by omega
    have HEM : Hid (max most 0 = most) := em
    clear em
    have hm1 : 0 ≤ most := by omega
    go_enter Try.func3, Try.ntmps3
    go_wp2_with fail
    refine kn.mono ?_
    rintro e w1 ⟨tb, O, rfl, hT, hb1⟩
    have hst := LwAt.start hT hb1
    have HS := (show Hid _ from hst)
    clear kn hT hb1 hst
    go_upto_region 3 with fail
    have HS2 : Hid (LwAt w (w1.alloc (.cells #[.int .i64 most, .slice none 0 0] 27)) tb w1.heap.size most 0 [] ⟨none, 0, []⟩) := by have h5 := HS.out; rw [HEM.out] at h5; exact h5
    clear HS
    generalize hw2 : w1.alloc (.cells #[.int .i64 most, .slice none 0 0] 27) = w2 at *
    have kal := KA.out
    go_wp2_with fail
    refine (kal _).mono ?_
    rintro e w3 ⟨rfl, hb3⟩
    have HI := (show Hid _ from HS2.out.below hb3)
    clear kal hb3 HS2
    generalize w1.heap.size = rb at *
    clear hw2
    go_wp2_with fail
    go_loopw [7, 8] (fun ok iv wr => ∃ (i : Nat) (L : List Sh) (s : Sli RS), (i ≤ cx.length ∧ LwAt w wr tb rb most i L s) ∧ ok = .bool true ∧ iv = .int .i64 i) (fun ok iv wr => cx.length - (intOf iv).toNat)
    case atStart => exact ⟨0, _, _, ⟨Nat.zero_le _, HI.out⟩, rfl, rfl⟩
    case round =>
      clear HI
      obtain ⟨i, L, ⟨sa, sc', sx⟩, ⟨ple, hl⟩, rfl, rfl⟩ := hrel
      have HL := (show Hid _ from hl)
      have bx := hl.box
      simp only at bx
      have r0 : wr.cell? ⟨rb, 0, none⟩ = some (.int .i64 (max most 0)) := by rw [cell_of_row wr _ 0 _ 27 (0, 0) bx]; rfl
      have r1 : wr.cell? ⟨rb, 1, none⟩ = some (.slice sa sx.length sc') := by rw [cell_of_row wr _ 1 _ 27 (0, 0) bx]; rfl
      clear hl bx
      rcases Nat.lt_or_ge i cx.length with c | c
      · have hex : ∃ o, cx[i]? = some o := ⟨_, List.getElem?_eq_getElem c⟩
        obtain ⟨o, ho⟩ := hex
        obtain ⟨b, off, e1, hc⟩ := (HC.out wr HL.out.bel).cells (by intro e; simp only at e; rw [e] at c; simp at c)
        simp only at e1
        subst e1
        have d0 := hc i o ho 0 _ rfl
        have d1 := hc i o ho 1 _ rfl
        have d2 := hc i o ho 2 _ rfl
        have d3 := hc i o ho 3 _ rfl
        have d4 := hc i o ho 4 _ rfl
        rw [Nat.add_zero] at d0
        have ks := HL.out.drew.step (Or.inl (by have := HWF.out.2; omega)) o (HWF.out.1 o (List.mem_of_getElem? ho))
        have cil : (i : Int) < cx.length := by omega
        unfold clV at ks
        obtain ⟨kd, sh, fl, pr, ke⟩ := o
        simp only at *
        clear hc ho
        go_wp2_with fail
        first
        | (go_region_with ((go_at_call 10; refine ks.mono ?_; rintro e w5 ⟨⟨za, zc, zx⟩, rfl, bx5, hl5⟩; have HX := (show Hid _ from hl5); have m0 := cell_of_row w5 rb 0 _ 27 (0, 0) bx5; have m1 := cell_of_row w5 rb 1 _ 27 (0, 0) bx5; have n0 := frozen_of_row w5 rb 0 _ 27 bx5; have n1 := frozen_of_row w5 rb 1 _ 27 bx5; clear hl5 bx5)))
        | fail
        all_goals
          go_wp2_with fail
          refine ⟨⟨i + 1, _, ⟨za, zc, zx⟩, ⟨c, by first | exact HX.out | exact HX.out.drew⟩, rfl, by go_num⟩, ?_⟩
          simp [intOf]
          omega
      · have hil : ¬ (i : Int) < cx.length := by omega
        have HB := (show Hid _ from HL.out.bel)
        clear HL
        go_wp2_with fail
        go_ret
        exact ⟨rfl, HB.out⟩

end Go.Proofs.Ytiliffnflamkjaa.Sp
