/- ShapesMost's walk. -/
import Derived.Test.YtiliffnflamkjaaQM
namespace Go.Proofs.Ytiliffnflamkjaa.Sp
open Go.RowKit
set_option linter.unusedVariables false

def Le (most : Int) (L : List Sh) : Prop := (L.length : Int) ≤ max most 0

theorem lay_le {most : Int} {L : List Sh} (h : Le most L) (s : Sh) : Le most (layD most L s).1 := by
  unfold layD
  cases hit L s with
  | some i => exact h
  | none =>
    simp only
    split
    · exact h
    · unfold Le at *
      simp only [List.length_append, List.length_singleton]
      omega
theorem add_le {most : Int} {L : List Sh} (h : Le most L) (n : Int) (k : ByteArray) (f : Int) : Le most (addD most L n k f).1 := by
  unfold addD
  cases shOf L n with
  | none => exact h
  | some s =>
    simp only
    cases idx s.ks k with
    | some i => exact h
    | none => exact lay_le h _
theorem mov_le {most : Int} : ∀ (l : List (ByteArray × Int)) (r : List Sh × Int × Bool), Le most r.1 → Le most (movD most l r).1
  | [], r, h => h
  | x :: l, r, h => by
    unfold movD
    split
    · exact mov_le l _ (add_le h _ _ _)
    · exact h
theorem op_le {most : Int} {L : List Sh} (h : Le most L) (o : Cl) : Le most (opD most L o).1 := by
  unfold opD
  split
  · exact lay_le h _
  split
  · exact add_le h _ _ _
  split
  · unfold changeD
    cases shOf L o.sh with
    | none => exact h
    | some s =>
      simp only
      cases idx s.ks o.ke with
      | none => exact h
      | some i =>
        simp only
        split
        · exact h
        · exact lay_le h _
  split
  · unfold moveD
    cases shOf L o.sh with
    | none => exact h
    | some s => exact mov_le _ _ (lay_le h _)
  · exact h

theorem LyAt.after {w w5 w6 : World} {tb rb : Nat} {most : Int} {i : Nat} {L : List Sh} {s s0 : Sli RS} (hl : LyAt (fun _ => False) w ((w5.setCell ⟨rb, 0, none⟩ (.int .i64 (max most 0))).setCell ⟨rb, 1, none⟩ (.slice s.at' s.xs.length s.cap)) tb rb most i L s) (hb : Both (fun b => b = rb ∨ False) w5 w.heap.size tb most L s) (hbox : w5.heap[rb]? = some (.cells #[.int .i64 (max most 0), .slice s0.at' s0.xs.length s0.cap] 27 (0, 0))) (hbel : Below w.heap.size w w5) (hb6 : Below w5.heap.size w5 w6) :
    LyAt (fun _ => False) w ((w6.setCell ⟨rb, 0, none⟩ (.int .i64 (max most 0))).setCell ⟨rb, 1, none⟩ (.slice s.at' s.xs.length s.cap)) tb rb most i L s := by
  have hbox6 := (hb6.block rb (Array.getElem?_eq_some_iff.1 hbox).1).trans hbox
  have hcg : Chg (fun b => b = rb) w6 ((w6.setCell ⟨rb, 0, none⟩ (.int .i64 (max most 0))).setCell ⟨rb, 1, none⟩ (.slice s.at' s.xs.length s.cap)) := chg_set2 (Chg.refl _ _) _ _
  obtain ⟨O, h1, h2, h3⟩ := hb
  exact ⟨⟨O, (h1.below hb6).kept hcg (fun b q e => h3 b q (Or.inl e)), (h2.below hb6).kept hcg (fun b q _ e => q.2 (Or.inl e)), h3⟩, set2_same w6 _ _ _ _ _ hbox6, hl.fits, set2_below (hbel.trans (hb6.mono hbel.size)) hl.lo _ _, hl.lo, fun b q => q.elim⟩

set_option maxRecDepth 100000 in
set_option maxHeartbeats 16000000 in
theorem most_walk (w : World) (most : Int) (a : Sli Cl) (ha : a.ok clC 5 w) (haw : ∀ o ∈ a.xs, o.wf) (hsz : a.xs.length ≤ 1048576) :
    Calls Try.prog 5 #[.int .i64 most, a.val] w fun e w' => e = .returned (.bool true) ∧ Below w.heap.size w w' := by
  obtain ⟨aa, ac, ax⟩ := a
  unfold Sli.val
  simp only at *
  have kn := new_any w most
  have KA := (show Hid _ from alive_any)
  have HCa : Hid (∀ W, Below w.heap.size w W → Sli.ok clC 5 W ⟨aa, ac, ax⟩) := fun W hW => ha.kept (cells_below hW)
  have HWFa : Hid ((∀ o ∈ ax, o.wf) ∧ ax.length ≤ 1048576) := ⟨haw, hsz⟩
  have hal : (ax.length : Int) ≤ 1048576 := by omega
  clear ha haw hsz
  by_cases hm0 : most < 0
  · have HEM : Hid (max most 0 = 0) := by show _ = _; omega
    go_enter Try.func5, Try.ntmps5
    go_wp2_with fail
    refine kn.mono ?_
    rintro e w1 ⟨tb, O, rfl, hT, hb1⟩
    have kal := KA.out
    have HT1 : Hid (Tree w1 w.heap.size tb O most [] ∧ Below w.heap.size w w1) := ⟨hT, hb1⟩
    clear kn hT hb1 KA
    go_wp2_with fail
    refine (kal _).mono ?_
    rintro e w2 ⟨rfl, hb2⟩
    have hst := LyAt.start (HT1.out.1.below hb2) (HT1.out.2.trans (hb2.mono HT1.out.2.size))
    have HS : Hid (LyAt (fun _ => False) w (w2.alloc (.cells #[.int .i64 0, .slice none 0 0] 27)) tb w2.heap.size most 0 [] ⟨none, 0, []⟩) := by rw [HEM.out] at hst; exact hst
    clear kal hb2 hst HT1
    go_upto_region 5 with fail
    generalize hw3 : w2.alloc (.cells #[.int .i64 0, .slice none 0 0] 27) = w3 at *
    generalize w2.heap.size = rb at *
    clear hw3
    go_wp2_with fail
    go_loopw [25] (fun iv wr => ∃ (i : Nat) (L : List Sh) (s : Sli RS), (i ≤ ax.length ∧ LyAt (fun _ => False) w wr tb rb most i L s ∧ Le most L) ∧ iv = .int .i64 i) (fun iv wr => ax.length - (intOf iv).toNat)
    case atStart => exact ⟨0, _, _, ⟨Nat.zero_le _, HS.out, by unfold Le; simp; omega⟩, rfl⟩
    case round =>
      clear HS
      obtain ⟨i, L, ⟨sa, sc', sx⟩, ⟨ple, hl, hex1⟩, rfl⟩ := hrel
      have HL := (show Hid _ from hl)
      have HE1 := (show Hid _ from hex1)
      have bx := hl.box
      simp only at bx
      clear hl hex1
      rcases Nat.lt_or_ge i ax.length with c | c
      · have hex : ∃ o, ax[i]? = some o := ⟨_, List.getElem?_eq_getElem c⟩
        obtain ⟨o, ho⟩ := hex
        obtain ⟨b, off, e1, hc⟩ := (HCa.out wr HL.out.bel).cells (by intro e; simp only at e; rw [e] at c; simp at c)
        simp only at e1
        subst e1
        have d0 := hc i o ho 0 _ rfl
        have d1 := hc i o ho 1 _ rfl
        have d2 := hc i o ho 2 _ rfl
        have d3 := hc i o ho 3 _ rfl
        have d4 := hc i o ho 4 _ rfl
        rw [Nat.add_zero] at d0
        have cil : (i : Int) < ax.length := by omega
        have ks := (HL.out.below (alloc_b wr (.cells #[.int .i64 o.kd, .int .i64 o.sh, .int .i64 o.fl, .int .u64 o.pr, .string o.ke] 33))).step (Or.inl (by have := HWFa.out.2; omega)) o (HWFa.out.1 o (List.mem_of_getElem? ho))
        have HPRE : Hid (∃ R, (opD most L o).1 = L ++ R) := op_pre _ _ _
        obtain ⟨kd, sh, fl, pr, ke⟩ := o
        unfold clV at ks
        simp only at *
        have bx' : (wr.alloc (.cells #[.int .i64 kd, .int .i64 sh, .int .i64 fl, .int .u64 pr, .string ke] 33)).heap[rb]? = some (.cells #[.int .i64 (max most 0), .slice sa sx.length sc'] 27 (0, 0)) := at_old _ _ _ _ bx
        obtain ⟨w4, hw4⟩ : ∃ w4, w4 = wr.alloc (.cells #[.int .i64 kd, .int .i64 sh, .int .i64 fl, .int .u64 pr, .string ke] 33) := ⟨_, rfl⟩
        have g0 : w4.cell? ⟨wr.heap.size, 0, none⟩ = some (.int .i64 kd) := by rw [hw4]; exact box_new wr _ _ 0 _ rfl
        have g1 : w4.cell? ⟨wr.heap.size, 1, none⟩ = some (.int .i64 sh) := by rw [hw4]; exact box_new wr _ _ 1 _ rfl
        have g2 : w4.cell? ⟨wr.heap.size, 2, none⟩ = some (.int .i64 fl) := by rw [hw4]; exact box_new wr _ _ 2 _ rfl
        have g3 : w4.cell? ⟨wr.heap.size, 3, none⟩ = some (.int .u64 pr) := by rw [hw4]; exact box_new wr _ _ 3 _ rfl
        have g4 : w4.cell? ⟨wr.heap.size, 4, none⟩ = some (.string ke) := by rw [hw4]; exact box_new wr _ _ 4 _ rfl
        have HKEP : Hid (∀ b, (fun _ => False) b → w4.heap[b]? = wr.heap[b]?) := fun b q => by rw [hw4]; exact (alloc_b wr _).block b (HL.out.ylt b q).1
        have HB4 : Hid (Below wr.heap.size wr w4) := by rw [hw4]; exact alloc_b _ _
        rw [← hw4] at ks bx'
        have r0 : w4.cell? ⟨rb, 0, none⟩ = some (.int .i64 (max most 0)) := by rw [cell_of_row w4 _ 0 _ 27 (0, 0) bx']; rfl
        have r1 : w4.cell? ⟨rb, 1, none⟩ = some (.slice sa sx.length sc') := by rw [cell_of_row w4 _ 1 _ 27 (0, 0) bx']; rfl
        clear hc ho bx bx'
        go_upto_region 8 with fail
        rw [← hw4]
        clear hw4 d0 d1 d2 d3 d4
        obtain ⟨O1, hT1, hR1, hX1⟩ := (HL.out.below (show Below wr.heap.size wr w4 from HB4.out)).both
        have kc := count_any w4 w.heap.size tb O1 most L hT1
        clear hT1 hR1 hX1
        go_wp2_with fail
        refine kc.mono ?_
        rintro e w4' ⟨rfl, rfl⟩
        clear kc
        go_wp2_with fail
        refine ks.mono ?_
        rintro e w5 ⟨⟨za, zc, zx⟩, rfl, bx5, hbo5, hbe5, hlo5, hl5, hy5⟩
        have hle := op_le HE1.out ⟨kd, sh, fl, pr, ke⟩
        have hge : L.length ≤ (opD most L ⟨kd, sh, fl, pr, ke⟩).1.length := by obtain ⟨R, hR⟩ := HPRE.out; rw [hR, List.length_append]; omega
        generalize (opD most L ⟨kd, sh, fl, pr, ke⟩).1 = L' at *
        have HLE := (show Hid _ from hle)
        unfold Le at hle
        rw [HEM.out] at hle
        have HX : Hid (∀ w6, Below w5.heap.size w5 w6 → LyAt (fun _ => False) w ((w6.setCell ⟨rb, 0, none⟩ (.int .i64 (max most 0))).setCell ⟨rb, 1, none⟩ (.slice za zx.length zc)) tb rb most (i + 1) L' ⟨za, zc, zx⟩ ∧ w6.heap[rb]? = some (.cells #[.int .i64 (max most 0), .slice sa sx.length sc'] 27 (0, 0))) := fun w6 hb6 => ⟨hl5.after (s0 := ⟨sa, sc', sx⟩) hbo5 bx5 hbe5 hb6, (hb6.block rb (Array.getElem?_eq_some_iff.1 bx5).1).trans bx5⟩
        obtain ⟨O5, hT5, _, _⟩ := hbo5
        have HT5 : Hid (∀ w6, Below w5.heap.size w5 w6 → Tree w6 w.heap.size tb O5 most L') := fun w6 hb => hT5.below hb
        have hlt1 : ¬ (L'.length : Int) < L.length := by omega
        have hlt2 : ¬ 0 < (L'.length : Int) := by omega
        clear hl5 bx5 hbe5 hlo5 hy5 ks r0 r1 g0 g1 g2 g3 g4 hT5 hle hge HPRE HKEP HB4 HL HE1
        simp only
        go_upto_region 10 with fail
        obtain ⟨w6, hw6⟩ : ∃ w6, w6 = w5.alloc (.cells #[.int .i64 (max most 0), .slice za zx.length zc] 27) := ⟨_, rfl⟩
        have hb6 : Below w5.heap.size w5 w6 := by rw [hw6]; exact alloc_b _ _
        have x0 : w6.cell? ⟨w5.heap.size, 0, none⟩ = some (.int .i64 (max most 0)) := by rw [hw6]; exact box_new w5 _ _ 0 _ rfl
        have x1 : w6.cell? ⟨w5.heap.size, 1, none⟩ = some (.slice za zx.length zc) := by rw [hw6]; exact box_new w5 _ _ 1 _ rfl
        rw [← hw6]
        clear hw6
        obtain ⟨hly, bx6⟩ := HX.out w6 hb6
        have kc := count_any w6 w.heap.size tb O5 most L' (HT5.out w6 hb6)
        have m0 := cell_of_row w6 rb 0 _ 27 (0, 0) bx6
        have m1 := cell_of_row w6 rb 1 _ 27 (0, 0) bx6
        have n0 := frozen_of_row w6 rb 0 _ 27 bx6
        have n1 := frozen_of_row w6 rb 1 _ 27 bx6
        have HLY := (show Hid _ from hly)
        clear hb6 hly bx6 HX HT5
        go_wp2_with fail
        refine kc.mono ?_
        rintro e w7 ⟨rfl, rfl⟩
        go_wp2_with fail
        refine kc.mono ?_
        rintro e w7' ⟨rfl, rfl⟩
        clear kc
        go_wp2_with fail
        refine ⟨⟨i + 1, _, ⟨za, zc, zx⟩, ⟨c, HLY.out, HLE.out⟩, by go_num⟩, ?_⟩
        simp [intOf]
        omega
      · have cil : ¬ (i : Int) < ax.length := by omega
        have HBF := (show Hid _ from HL.out.bel)
        clear HL HE1
        go_wp2_with fail
        go_ret
        exact ⟨rfl, HBF.out⟩
  · have HEM : Hid (max most 0 = most) := by show _ = _; omega
    have hm1 : 0 ≤ most := by omega
    go_enter Try.func5, Try.ntmps5
    go_wp2_with fail
    refine kn.mono ?_
    rintro e w1 ⟨tb, O, rfl, hT, hb1⟩
    have kal := KA.out
    have HT1 : Hid (Tree w1 w.heap.size tb O most [] ∧ Below w.heap.size w w1) := ⟨hT, hb1⟩
    clear kn hT hb1 KA
    go_wp2_with fail
    refine (kal _).mono ?_
    rintro e w2 ⟨rfl, hb2⟩
    have hst := LyAt.start (HT1.out.1.below hb2) (HT1.out.2.trans (hb2.mono HT1.out.2.size))
    have HS : Hid (LyAt (fun _ => False) w (w2.alloc (.cells #[.int .i64 most, .slice none 0 0] 27)) tb w2.heap.size most 0 [] ⟨none, 0, []⟩) := by rw [HEM.out] at hst; exact hst
    clear kal hb2 hst HT1
    go_upto_region 5 with fail
    generalize hw3 : w2.alloc (.cells #[.int .i64 most, .slice none 0 0] 27) = w3 at *
    generalize w2.heap.size = rb at *
    clear hw3
    go_wp2_with fail
    go_loopw [25] (fun iv wr => ∃ (i : Nat) (L : List Sh) (s : Sli RS), (i ≤ ax.length ∧ LyAt (fun _ => False) w wr tb rb most i L s ∧ Le most L) ∧ iv = .int .i64 i) (fun iv wr => ax.length - (intOf iv).toNat)
    case atStart => exact ⟨0, _, _, ⟨Nat.zero_le _, HS.out, by unfold Le; simp; omega⟩, rfl⟩
    case round =>
      clear HS
      obtain ⟨i, L, ⟨sa, sc', sx⟩, ⟨ple, hl, hex1⟩, rfl⟩ := hrel
      have HL := (show Hid _ from hl)
      have HE1 := (show Hid _ from hex1)
      have bx := hl.box
      simp only at bx
      clear hl hex1
      rcases Nat.lt_or_ge i ax.length with c | c
      · have hex : ∃ o, ax[i]? = some o := ⟨_, List.getElem?_eq_getElem c⟩
        obtain ⟨o, ho⟩ := hex
        obtain ⟨b, off, e1, hc⟩ := (HCa.out wr HL.out.bel).cells (by intro e; simp only at e; rw [e] at c; simp at c)
        simp only at e1
        subst e1
        have d0 := hc i o ho 0 _ rfl
        have d1 := hc i o ho 1 _ rfl
        have d2 := hc i o ho 2 _ rfl
        have d3 := hc i o ho 3 _ rfl
        have d4 := hc i o ho 4 _ rfl
        rw [Nat.add_zero] at d0
        have cil : (i : Int) < ax.length := by omega
        have ks := (HL.out.below (alloc_b wr (.cells #[.int .i64 o.kd, .int .i64 o.sh, .int .i64 o.fl, .int .u64 o.pr, .string o.ke] 33))).step (Or.inl (by have := HWFa.out.2; omega)) o (HWFa.out.1 o (List.mem_of_getElem? ho))
        have HPRE : Hid (∃ R, (opD most L o).1 = L ++ R) := op_pre _ _ _
        obtain ⟨kd, sh, fl, pr, ke⟩ := o
        unfold clV at ks
        simp only at *
        have bx' : (wr.alloc (.cells #[.int .i64 kd, .int .i64 sh, .int .i64 fl, .int .u64 pr, .string ke] 33)).heap[rb]? = some (.cells #[.int .i64 (max most 0), .slice sa sx.length sc'] 27 (0, 0)) := at_old _ _ _ _ bx
        obtain ⟨w4, hw4⟩ : ∃ w4, w4 = wr.alloc (.cells #[.int .i64 kd, .int .i64 sh, .int .i64 fl, .int .u64 pr, .string ke] 33) := ⟨_, rfl⟩
        have g0 : w4.cell? ⟨wr.heap.size, 0, none⟩ = some (.int .i64 kd) := by rw [hw4]; exact box_new wr _ _ 0 _ rfl
        have g1 : w4.cell? ⟨wr.heap.size, 1, none⟩ = some (.int .i64 sh) := by rw [hw4]; exact box_new wr _ _ 1 _ rfl
        have g2 : w4.cell? ⟨wr.heap.size, 2, none⟩ = some (.int .i64 fl) := by rw [hw4]; exact box_new wr _ _ 2 _ rfl
        have g3 : w4.cell? ⟨wr.heap.size, 3, none⟩ = some (.int .u64 pr) := by rw [hw4]; exact box_new wr _ _ 3 _ rfl
        have g4 : w4.cell? ⟨wr.heap.size, 4, none⟩ = some (.string ke) := by rw [hw4]; exact box_new wr _ _ 4 _ rfl
        have HKEP : Hid (∀ b, (fun _ => False) b → w4.heap[b]? = wr.heap[b]?) := fun b q => by rw [hw4]; exact (alloc_b wr _).block b (HL.out.ylt b q).1
        have HB4 : Hid (Below wr.heap.size wr w4) := by rw [hw4]; exact alloc_b _ _
        rw [← hw4] at ks bx'
        have r0 : w4.cell? ⟨rb, 0, none⟩ = some (.int .i64 (max most 0)) := by rw [cell_of_row w4 _ 0 _ 27 (0, 0) bx']; rfl
        have r1 : w4.cell? ⟨rb, 1, none⟩ = some (.slice sa sx.length sc') := by rw [cell_of_row w4 _ 1 _ 27 (0, 0) bx']; rfl
        clear hc ho bx bx'
        go_upto_region 8 with fail
        rw [← hw4]
        clear hw4 d0 d1 d2 d3 d4
        obtain ⟨O1, hT1, hR1, hX1⟩ := (HL.out.below (show Below wr.heap.size wr w4 from HB4.out)).both
        have kc := count_any w4 w.heap.size tb O1 most L hT1
        clear hT1 hR1 hX1
        go_wp2_with fail
        refine kc.mono ?_
        rintro e w4' ⟨rfl, rfl⟩
        clear kc
        go_wp2_with fail
        refine ks.mono ?_
        rintro e w5 ⟨⟨za, zc, zx⟩, rfl, bx5, hbo5, hbe5, hlo5, hl5, hy5⟩
        have hle := op_le HE1.out ⟨kd, sh, fl, pr, ke⟩
        have hge : L.length ≤ (opD most L ⟨kd, sh, fl, pr, ke⟩).1.length := by obtain ⟨R, hR⟩ := HPRE.out; rw [hR, List.length_append]; omega
        generalize (opD most L ⟨kd, sh, fl, pr, ke⟩).1 = L' at *
        have HLE := (show Hid _ from hle)
        unfold Le at hle
        rw [HEM.out] at hle
        have HX : Hid (∀ w6, Below w5.heap.size w5 w6 → LyAt (fun _ => False) w ((w6.setCell ⟨rb, 0, none⟩ (.int .i64 (max most 0))).setCell ⟨rb, 1, none⟩ (.slice za zx.length zc)) tb rb most (i + 1) L' ⟨za, zc, zx⟩ ∧ w6.heap[rb]? = some (.cells #[.int .i64 (max most 0), .slice sa sx.length sc'] 27 (0, 0))) := fun w6 hb6 => ⟨hl5.after (s0 := ⟨sa, sc', sx⟩) hbo5 bx5 hbe5 hb6, (hb6.block rb (Array.getElem?_eq_some_iff.1 bx5).1).trans bx5⟩
        obtain ⟨O5, hT5, _, _⟩ := hbo5
        have HT5 : Hid (∀ w6, Below w5.heap.size w5 w6 → Tree w6 w.heap.size tb O5 most L') := fun w6 hb => hT5.below hb
        have hlt1 : ¬ (L'.length : Int) < L.length := by omega
        have hlt2 : ¬ most < (L'.length : Int) := by omega
        clear hl5 bx5 hbe5 hlo5 hy5 ks r0 r1 g0 g1 g2 g3 g4 hT5 hle hge HPRE HKEP HB4 HL HE1
        simp only
        go_upto_region 10 with fail
        obtain ⟨w6, hw6⟩ : ∃ w6, w6 = w5.alloc (.cells #[.int .i64 (max most 0), .slice za zx.length zc] 27) := ⟨_, rfl⟩
        have hb6 : Below w5.heap.size w5 w6 := by rw [hw6]; exact alloc_b _ _
        have x0 : w6.cell? ⟨w5.heap.size, 0, none⟩ = some (.int .i64 (max most 0)) := by rw [hw6]; exact box_new w5 _ _ 0 _ rfl
        have x1 : w6.cell? ⟨w5.heap.size, 1, none⟩ = some (.slice za zx.length zc) := by rw [hw6]; exact box_new w5 _ _ 1 _ rfl
        rw [← hw6]
        clear hw6
        obtain ⟨hly, bx6⟩ := HX.out w6 hb6
        have kc := count_any w6 w.heap.size tb O5 most L' (HT5.out w6 hb6)
        have m0 := cell_of_row w6 rb 0 _ 27 (0, 0) bx6
        have m1 := cell_of_row w6 rb 1 _ 27 (0, 0) bx6
        have n0 := frozen_of_row w6 rb 0 _ 27 bx6
        have n1 := frozen_of_row w6 rb 1 _ 27 bx6
        have HLY := (show Hid _ from hly)
        clear hb6 hly bx6 HX HT5
        go_wp2_with fail
        refine kc.mono ?_
        rintro e w7 ⟨rfl, rfl⟩
        go_wp2_with fail
        refine kc.mono ?_
        rintro e w7' ⟨rfl, rfl⟩
        clear kc
        go_wp2_with fail
        refine ⟨⟨i + 1, _, ⟨za, zc, zx⟩, ⟨c, HLY.out, HLE.out⟩, by go_num⟩, ?_⟩
        simp [intOf]
        omega
      · have cil : ¬ (i : Int) < ax.length := by omega
        have HBF := (show Hid _ from HL.out.bel)
        clear HL HE1
        go_wp2_with fail
        go_ret
        exact ⟨rfl, HBF.out⟩

end Go.Proofs.Ytiliffnflamkjaa.Sp
