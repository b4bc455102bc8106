/- A law's two trees in memory, and blocks that are kept; ShapesStay's walk. -/
import Derived.Test.YtiliffnflamkjaaQK
import Derived.Test.YtiliffnflamkjaaRP
import Derived.Test.YtiliffnflamkjaaRO
namespace Go.Proofs.Ytiliffnflamkjaa.Sp
open Go.RowKit
set_option linter.unusedVariables false

structure LyAt (Y : Nat → Prop) (w wr : World) (tb rb : Nat) (most : Int) (i : Nat) (L : List Sh) (s : Sli RS) : Prop where
  both : Both (fun b => b = rb ∨ Y b) wr w.heap.size tb most L s
  box : wr.heap[rb]? = some (.cells #[.int .i64 (max most 0), .slice s.at' s.xs.length s.cap] 27 (0, 0))
  fits : Fits most L i
  bel : Below w.heap.size w wr
  lo : w.heap.size ≤ rb
  ylt : ∀ b, Y b → b < wr.heap.size ∧ b ≠ rb

theorem LyAt.below {Y : Nat → Prop} {w wr w' : World} {tb rb : Nat} {most : Int} {i : Nat} {L : List Sh} {s : Sli RS} (h : LyAt Y w wr tb rb most i L s) (hb : Below wr.heap.size wr w') : LyAt Y w w' tb rb most i L s :=
  ⟨h.both.below hb, (hb.block rb (Array.getElem?_eq_some_iff.1 h.box).1).trans h.box, h.fits, h.bel.trans (hb.mono h.bel.size), h.lo, fun b q => ⟨Nat.lt_of_lt_of_le (h.ylt b q).1 hb.size, (h.ylt b q).2⟩⟩

theorem LyAt.start {w w1 : World} {tb : Nat} {O : Nat → Prop} {most : Int} (hT : Tree w1 w.heap.size tb O most []) (hb : Below w.heap.size w w1) :
    LyAt (fun _ => False) w (w1.alloc (.cells #[.int .i64 (max most 0), .slice none 0 0] 27)) tb w1.heap.size most 0 [] ⟨none, 0, []⟩ := by
  have ha : Below w1.heap.size w1 (w1.alloc (.cells #[.int .i64 (max most 0), .slice none 0 0] 27)) := (Below.refl _ _).alloc (Nat.le_refl _) _
  refine ⟨⟨O, hT.below ha, ⟨okn_nil, fun r hr => (by cases hr), rfl⟩, fun b q e => ?_⟩, at_new _ _, Fits.start most, hb.trans (ha.mono hb.size), hb.size, fun b q => q.elim⟩
  have := (hT.lt b q).2
  rcases e with e | e
  · omega
  · exact e

/-- new blocks that are to be kept -/
theorem LyAt.more {Y : Nat → Prop} {w wr w' : World} {tb rb : Nat} {most : Int} {i : Nat} {L : List Sh} {s : Sli RS} (h : LyAt (fun _ => False) w wr tb rb most i L s) (hb : Below wr.heap.size wr w') (hY : ∀ b, Y b → wr.heap.size ≤ b ∧ b < w'.heap.size) : LyAt Y w w' tb rb most i L s := by
  have hrb := (Array.getElem?_eq_some_iff.1 h.box).1
  obtain ⟨O, h1, h2, h3⟩ := h.both
  refine ⟨⟨O, h1.below hb, (h2.mono (fun b q hl => ⟨q.1, fun e => ?_⟩)).below hb, fun b q e => ?_⟩, (hb.block rb hrb).trans h.box, h.fits, h.bel.trans (hb.mono h.bel.size), h.lo, fun b q => ⟨(hY b q).2, by have := (hY b q).1; omega⟩⟩
  · rcases e with e | e
    · exact h3 b q (Or.inl e)
    · have := (hY b e).1
      have := (h1.lt b q).2
      omega
  · rcases e with e | e
    · exact q.2 (Or.inl e)
    · have := (hY b e).1; omega

theorem LyAt.step {Y : Nat → Prop} {w wr : World} {tb rb : Nat} {most : Int} {i : Nat} {L : List Sh} {s : Sli RS} (h : LyAt Y w wr tb rb most i L s) (hi : i ≤ 1048576 ∨ most ≤ top) (o : Cl) (ho : o.wf) :
    Calls Try.prog 10 #[.pointer (some ⟨tb, 0, none⟩), .agg #[.int .i64 (max most 0), .slice s.at' s.xs.length s.cap], clV o] wr fun e w' => ∃ s', e = .returned (.tuple #[.agg #[.int .i64 (max most 0), .slice s'.at' s'.xs.length s'.cap], .bool true]) ∧ w'.heap[rb]? = some (.cells #[.int .i64 (max most 0), .slice s.at' s.xs.length s.cap] 27 (0, 0)) ∧ Both (fun b => b = rb ∨ Y b) w' w.heap.size tb most (opD most L o).1 s' ∧ Below w.heap.size w w' ∧ w.heap.size ≤ rb ∧
      LyAt Y w ((w'.setCell ⟨rb, 0, none⟩ (.int .i64 (max most 0))).setCell ⟨rb, 1, none⟩ (.slice s'.at' s'.xs.length s'.cap)) tb rb most (i + 1) (opD most L o).1 s' ∧ ∀ b, Y b → ((w'.setCell ⟨rb, 0, none⟩ (.int .i64 (max most 0))).setCell ⟨rb, 1, none⟩ (.slice s'.at' s'.xs.length s'.cap)).heap[b]? = wr.heap[b]? := by
  have hroom : Room most L := hi.elim (fun q => h.fits.room q) (fun q => Or.inl q)
  have hlt : rb < wr.heap.size := (Array.getElem?_eq_some_iff.1 h.box).1
  have hrel : ∃ T, Rel T L := by obtain ⟨O, ⟨T, v, mb, hT⟩, _⟩ := h.both; exact ⟨T, hT.rel⟩
  obtain ⟨T, hT⟩ := hrel
  refine (step_any (fun b => b = rb ∨ Y b) wr w.heap.size tb most L s h.both (fun b q => q.elim (fun q => by omega) (fun q => (h.ylt b q).1)) h.bel.size o ho hroom).mono ?_
  rintro e w' ⟨s', rfl, hb, hbel, hk⟩
  have hbox : w'.heap[rb]? = some (.cells #[.int .i64 (max most 0), .slice s.at' s.xs.length s.cap] 27 (0, 0)) := (hk rb (Or.inl rfl)).trans h.box
  have hcg : Chg (fun b => b = rb) w' ((w'.setCell ⟨rb, 0, none⟩ (.int .i64 (max most 0))).setCell ⟨rb, 1, none⟩ (.slice s'.at' s'.xs.length s'.cap)) := chg_set2 (Chg.refl _ _) _ _
  have hlt' : ∀ b, Y b → b < w'.heap.size := fun b q => by
    have h1 := (h.ylt b q).1
    have h2 := hk b (Or.inr q)
    rw [Array.getElem?_eq_getElem h1] at h2
    exact (Array.getElem?_eq_some_iff.1 h2).1
  refine ⟨s', rfl, hbox, hb, h.bel.trans hbel, h.lo, ⟨?_, set2_same w' _ _ _ _ _ hbox, h.fits.next hT o, set2_below (h.bel.trans hbel) h.lo _ _, h.lo, fun b q => ⟨Nat.lt_of_lt_of_le (hlt' b q) hcg.size, (h.ylt b q).2⟩⟩, fun b q => (hcg.block b (hlt' b q) (h.ylt b q).2).trans (hk b (Or.inr q))⟩
  obtain ⟨O, h1, h2, h3⟩ := hb
  exact ⟨O, h1.kept hcg (fun b q e => h3 b q (Or.inl e)), h2.kept hcg (fun b q _ e => q.2 (Or.inl e)), h3⟩

theorem OwnR.blk {β : Type} {enc : β → List Value} {k : Nat} {e : TypeId} {B : Nat} {w w' : World} {v : Value} {xs : List β} (h : OwnR enc k e B w v xs) (hb : ∀ b, v.ownBlock = some b → w'.heap[b]? = w.heap[b]?) : OwnR enc k e B w' v xs := by
  rcases h.2 with ⟨rfl, h0⟩ | ⟨g, cap, cur, rfl, hbg, hg, h3⟩
  · exact ⟨h.1, Or.inl ⟨rfl, h0⟩⟩
  · exact ⟨h.1, Or.inr ⟨g, cap, cur, rfl, hbg, by rw [hb g rfl]; exact hg, h3⟩⟩

theorem lay_pre (most : Int) (L : List Sh) (s : Sh) : ∃ R, (layD most L s).1 = L ++ R := by
  unfold layD
  cases hit L s with
  | some i => exact ⟨[], by simp⟩
  | none =>
    simp only
    split
    · exact ⟨[], by simp⟩
    · exact ⟨[s], rfl⟩
theorem add_pre (most : Int) (L : List Sh) (n : Int) (k : ByteArray) (f : Int) : ∃ R, (addD most L n k f).1 = L ++ R := by
  unfold addD
  cases shOf L n with
  | none => exact ⟨[], by simp⟩
  | some s =>
    simp only
    cases idx s.ks k with
    | some i => exact ⟨[], by simp⟩
    | none => exact lay_pre _ _ _
theorem mov_pre (most : Int) : ∀ (l : List (ByteArray × Int)) (r : List Sh × Int × Bool), ∃ R, (movD most l r).1 = r.1 ++ R
  | [], r => ⟨[], by simp [movD]⟩
  | x :: l, r => by
    unfold movD
    split
    · obtain ⟨R1, h1⟩ := add_pre most r.1 r.2.1 x.1 x.2
      obtain ⟨R2, h2⟩ := mov_pre most l (addD most r.1 r.2.1 x.1 x.2)
      exact ⟨R1 ++ R2, by rw [h2, h1, List.append_assoc]⟩
    · exact ⟨[], by simp⟩
/-- shapes stay where they are -/
theorem op_pre (most : Int) (L : List Sh) (o : Cl) : ∃ R, (opD most L o).1 = L ++ R := by
  unfold opD
  split
  · exact lay_pre _ _ _
  split
  · exact add_pre _ _ _ _ _
  split
  · unfold changeD
    cases shOf L o.sh with
    | none => exact ⟨[], by simp⟩
    | some s =>
      simp only
      cases idx s.ks o.ke with
      | none => exact ⟨[], by simp⟩
      | some i =>
        simp only
        split
        · exact ⟨[], by simp⟩
        · exact lay_pre _ _ _
  split
  · unfold moveD
    cases shOf L o.sh with
    | none => exact ⟨[], by simp⟩
    | some s =>
      simp only
      obtain ⟨R1, h1⟩ := lay_pre most L ⟨o.pr, [], [], []⟩
      obtain ⟨R2, h2⟩ := mov_pre most (s.ks.zip s.fs) (rootD most L o.pr)
      exact ⟨R1 ++ R2, by rw [h2]; unfold rootD; rw [h1, List.append_assoc]⟩
  · exact ⟨[], by simp⟩

theorem shOf_pre {L R : List Sh} {n : Int} (h : thereB L n = true) : shOf (L ++ R) n = shOf L n ∧ thereB (L ++ R) n = true := by
  obtain ⟨j, s, rfl, h1, h2, h3⟩ := there_of h
  have : (L ++ R)[j]? = some s := by rw [List.getElem?_append_left h3]; exact h1
  refine ⟨?_, ?_⟩
  · rw [h2]
    unfold shOf
    rw [if_pos (by omega), Int.toNat_natCast]
    exact this
  · unfold thereB
    rw [List.length_append]
    simp
    omega

theorem alloc_b (w : World) (o : Obj) : Below w.heap.size w (w.alloc o) := (Below.refl _ _).alloc (Nat.le_refl _) _

set_option maxRecDepth 100000 in
set_option maxHeartbeats 16000000 in
theorem stay_walk (w : World) (a b : Sli Cl) (ha : a.ok clC 5 w) (haw : ∀ o ∈ a.xs, o.wf) (hb : b.ok clC 5 w) (hbw : ∀ o ∈ b.xs, o.wf) (n : Int) :
    Calls Try.prog 7 #[a.val, b.val, .int .i64 n] w fun e w' => e = .returned (.bool true) ∧ Below w.heap.size w w' := by
  obtain ⟨aa, ac, ax⟩ := a
  obtain ⟨ba, bc, bx⟩ := b
  unfold Sli.val
  simp only at *
  have kn := new_any w 1000
  have KA := (show Hid _ from alive_any)
  have HCa : Hid (∀ W, Below w.heap.size w W → Sli.ok clC 5 W ⟨aa, ac, ax⟩) := fun W hW => ha.kept (cells_below hW)
  have HCb : Hid (∀ W, Below w.heap.size w W → Sli.ok clC 5 W ⟨ba, bc, bx⟩) := fun W hW => hb.kept (cells_below hW)
  have HWFa : Hid ((∀ o ∈ ax, o.wf) ∧ True) := ⟨haw, trivial⟩
  have HWFb : Hid ((∀ o ∈ bx, o.wf) ∧ True) := ⟨hbw, trivial⟩
  have hal : (ax.length : Int) ≤ 9223372036854775807 := by have h1 := ha.len; have h2 := ha.cap; simp only at h1 h2; unfold maxLen at h2; omega
  have hbl : (bx.length : Int) ≤ 9223372036854775807 := by have h1 := hb.len; have h2 := hb.cap; simp only at h1 h2; unfold maxLen at h2; omega
  clear ha haw hb hbw
  go_enter Try.func7, Try.ntmps7
  go_wp2_with fail
  refine kn.mono ?_
  rintro e w1 ⟨tb, O, rfl, hT, hb1⟩
  have kal := KA.out
  have HT1 : Hid (Tree w1 w.heap.size tb O 1000 [] ∧ Below w.heap.size w w1) := ⟨hT, hb1⟩
  clear kn hT hb1 KA
  go_wp2_with fail
  refine (kal _).mono ?_
  rintro e w2 ⟨rfl, hb2⟩
  have hst := LyAt.start (HT1.out.1.below hb2) (HT1.out.2.trans (hb2.mono HT1.out.2.size))
  have HS : Hid (LyAt (fun _ => False) w (w2.alloc (.cells #[.int .i64 1000, .slice none 0 0] 27)) tb w2.heap.size 1000 0 [] ⟨none, 0, []⟩) := hst
  clear kal hb2 hst HT1
  go_upto_region 5 with fail
  generalize hw3 : w2.alloc (.cells #[.int .i64 1000, .slice none 0 0] 27) = w3 at *
  generalize w2.heap.size = rb at *
  clear hw3
  go_wp2_with fail
  go_loopw [30] (fun iv wr => ∃ (i : Nat) (L : List Sh) (s : Sli RS), (i ≤ ax.length ∧ LyAt (fun _ => False) w wr tb rb 1000 i L s) ∧ iv = .int .i64 i) (fun iv wr => ax.length - (intOf iv).toNat)
  case atStart => exact ⟨0, _, _, ⟨Nat.zero_le _, HS.out⟩, rfl⟩
  case round =>
    clear HS
    obtain ⟨i, L, ⟨sa, sc', sx⟩, ⟨ple, hl⟩, rfl⟩ := hrel
    have HL := (show Hid _ from hl)
    skip
    have bx := hl.box
    simp only at bx
    clear hl 
    rcases Nat.lt_or_ge i ax.length with c | c
    · have hex : ∃ o, ax[i]? = some o := ⟨_, List.getElem?_eq_getElem c⟩
      obtain ⟨o, ho⟩ := hex
      obtain ⟨b, off, e1, hc⟩ := (HCa.out wr HL.out.bel).cells (by intro e; simp only at e; rw [e] at c; simp at c)
      simp only at e1
      subst e1
      have d0 := hc i o ho 0 _ rfl
      have d1 := hc i o ho 1 _ rfl
      have d2 := hc i o ho 2 _ rfl
      have d3 := hc i o ho 3 _ rfl
      have d4 := hc i o ho 4 _ rfl
      rw [Nat.add_zero] at d0
      have cil : (i : Int) < ax.length := by omega
      have ks := (HL.out.below (alloc_b wr (.cells #[.int .i64 o.kd, .int .i64 o.sh, .int .i64 o.fl, .int .u64 o.pr, .string o.ke] 33))).step (Or.inr (by unfold top; omega)) o (HWFa.out.1 o (List.mem_of_getElem? ho))
      have HPRE : Hid (∃ R, (opD 1000 L o).1 = L ++ R) := op_pre _ _ _
      obtain ⟨kd, sh, fl, pr, ke⟩ := o
      unfold clV at ks
      simp only at *
      have bx' : (wr.alloc (.cells #[.int .i64 kd, .int .i64 sh, .int .i64 fl, .int .u64 pr, .string ke] 33)).heap[rb]? = some (.cells #[.int .i64 (max 1000 0), .slice sa sx.length sc'] 27 (0, 0)) := at_old _ _ _ _ bx
      obtain ⟨w4, hw4⟩ : ∃ w4, w4 = wr.alloc (.cells #[.int .i64 kd, .int .i64 sh, .int .i64 fl, .int .u64 pr, .string ke] 33) := ⟨_, rfl⟩
      have g0 : w4.cell? ⟨wr.heap.size, 0, none⟩ = some (.int .i64 kd) := by rw [hw4]; exact box_new wr _ _ 0 _ rfl
      have g1 : w4.cell? ⟨wr.heap.size, 1, none⟩ = some (.int .i64 sh) := by rw [hw4]; exact box_new wr _ _ 1 _ rfl
      have g2 : w4.cell? ⟨wr.heap.size, 2, none⟩ = some (.int .i64 fl) := by rw [hw4]; exact box_new wr _ _ 2 _ rfl
      have g3 : w4.cell? ⟨wr.heap.size, 3, none⟩ = some (.int .u64 pr) := by rw [hw4]; exact box_new wr _ _ 3 _ rfl
      have g4 : w4.cell? ⟨wr.heap.size, 4, none⟩ = some (.string ke) := by rw [hw4]; exact box_new wr _ _ 4 _ rfl
      have HKEP : Hid (∀ b, (fun _ => False) b → w4.heap[b]? = wr.heap[b]?) := fun b q => by rw [hw4]; exact (alloc_b wr _).block b (HL.out.ylt b q).1
      rw [← hw4] at ks bx'
      have r0 : w4.cell? ⟨rb, 0, none⟩ = some (.int .i64 (max 1000 0)) := by rw [cell_of_row w4 _ 0 _ 27 (0, 0) bx']; rfl
      have r1 : w4.cell? ⟨rb, 1, none⟩ = some (.slice sa sx.length sc') := by rw [cell_of_row w4 _ 1 _ 27 (0, 0) bx']; rfl
      clear hc ho bx bx'
      go_upto_region 8 with fail
      rw [← hw4]
      clear hw4 d0 d1 d2 d3 d4
      go_wp2_with fail
      refine ks.mono ?_
      rintro e w5 ⟨⟨za, zc, zx⟩, rfl, bx5, hbo5, hbe5, hlo5, hl5, hy5⟩
      have HX := (show Hid (_ ∧ _) from ⟨hl5, hy5⟩)
      have m0 := cell_of_row w5 rb 0 _ 27 (0, 0) bx5
      have m1 := cell_of_row w5 rb 1 _ 27 (0, 0) bx5
      have n0 := frozen_of_row w5 rb 0 _ 27 bx5
      have n1 := frozen_of_row w5 rb 1 _ 27 bx5
      clear hl5 bx5 hbo5 hbe5 hlo5 hy5 ks r0 r1 g0 g1 g2 g3 g4
      go_wp2_with fail
      refine ⟨⟨i + 1, _, ⟨za, zc, zx⟩, ⟨c, HX.out.1⟩, by go_num⟩, ?_⟩
      simp [intOf]
      omega
    · have cil : ¬ (i : Int) < ax.length := by omega
      obtain ⟨O1, hT1, hR1, hX1⟩ := HL.out.both
      have kk := keys_any wr w.heap.size tb O1 1000 L hT1 n
      have HT1 : Hid (∀ W, Below wr.heap.size wr W → Tree W w.heap.size tb O1 1000 L) := fun W hW => hT1.below hW
      have hda : decide (i < ax.length) = false := decide_eq_false (by omega)
      clear hT1 hR1 hX1 HCa HWFa bx
      go_wp2_with fail
      refine kk.mono ?_
      rintro e w4 ⟨v4, rfl, ho4, hb4⟩
      have kp := proto_any w4 w.heap.size tb O1 1000 L (HT1.out w4 hb4) n
      have HO4 := (show Hid (_ ∧ _) from ⟨ho4, hb4⟩)
      clear kk ho4 hb4 HT1
      go_wp2_with fail
      refine kp.mono ?_
      rintro e w5 ⟨rfl, rfl⟩
      clear kp
      have HBF : Hid (Below w.heap.size w w5) := HL.out.bel.trans (HO4.out.2.mono HL.out.bel.size)
      cases ht : thereB L n with
      | false =>
        clear HL HO4
        go_wp2_with fail
        go_ret
        exact ⟨rfl, HBF.out⟩
      | true =>
        have hly := HL.out.more (Y := fun b => v4.ownBlock = some b) HO4.out.2 (fun b q => HO4.out.1.lt b q)
        have HLY := (show Hid _ from hly)
        have HTH : Hid (thereB L n = true) := ht
        obtain ⟨⟨la, lc, lx⟩, rfl, hlx, _, _⟩ := HO4.out.1.sl rtStr.len
        simp only at hlx
        have HLX : Hid (lx = keysOf L n) := hlx
        have HOW : Hid (OwnR strC 1 9 wr.heap.size w5 (Sli.val ⟨la, lc, lx⟩) lx) := by rw [hlx]; have := HO4.out.1; rw [hlx] at this; exact this
        clear hly hlx HL HO4 ht
        generalize hY : (fun b => (Sli.val (⟨la, lc, lx⟩ : Sli ByteArray)).ownBlock = some b) = Y at *
        have HYY : Hid (∀ b, (Sli.val (⟨la, lc, lx⟩ : Sli ByteArray)).ownBlock = some b → Y b) := fun b q => by rw [← hY]; exact q
        clear hY
        unfold Sli.val at HOW HYY ⊢
        simp only at HOW HYY ⊢
        have HW5 : Hid (LyAt Y w w5 tb rb 1000 i L ⟨sa, sc', sx⟩) := HLY.out
        clear HLY
        go_wp2_with fail
        go_loopw [55] (fun iv wq => ∃ (k : Nat) (L' : List Sh) (s : Sli RS), (k ≤ bx.length ∧ LyAt Y w wq tb rb 1000 (i + k) L' s ∧ (∃ R, L' = L ++ R) ∧ ∀ b, Y b → wq.heap[b]? = w5.heap[b]?) ∧ iv = .int .i64 k) (fun iv wq => bx.length - (intOf iv).toNat)
        case atStart => exact ⟨0, _, _, ⟨Nat.zero_le _, HW5.out, ⟨[], by simp⟩, fun _ _ => rfl⟩, rfl⟩
        case round =>
          clear HW5
          obtain ⟨k, L2, ⟨sa, sc', sx⟩, ⟨ple, hl, hex1⟩, rfl⟩ := hrel
          have HL := (show Hid _ from hl)
          have HE1 := (show Hid _ from hex1)
          have bxx := hl.box
          simp only at bxx
          clear hl hex1
          rcases Nat.lt_or_ge k bx.length with c | c
          · have hex : ∃ o, bx[k]? = some o := ⟨_, List.getElem?_eq_getElem c⟩
            obtain ⟨o, ho⟩ := hex
            obtain ⟨b, off, e1, hc⟩ := (HCb.out wr HL.out.bel).cells (by intro e; simp only at e; rw [e] at c; simp at c)
            simp only at e1
            subst e1
            have d0 := hc k o ho 0 _ rfl
            have d1 := hc k o ho 1 _ rfl
            have d2 := hc k o ho 2 _ rfl
            have d3 := hc k o ho 3 _ rfl
            have d4 := hc k o ho 4 _ rfl
            rw [Nat.add_zero] at d0
            have cil : (k : Int) < bx.length := by omega
            have ks := (HL.out.below (alloc_b wr (.cells #[.int .i64 o.kd, .int .i64 o.sh, .int .i64 o.fl, .int .u64 o.pr, .string o.ke] 33))).step (Or.inr (by unfold top; omega)) o (HWFb.out.1 o (List.mem_of_getElem? ho))
            have HPRE : Hid (∃ R, (opD 1000 L2 o).1 = L2 ++ R) := op_pre _ _ _
            obtain ⟨kd, sh, fl, pr, ke⟩ := o
            unfold clV at ks
            simp only at *
            have bx' : (wr.alloc (.cells #[.int .i64 kd, .int .i64 sh, .int .i64 fl, .int .u64 pr, .string ke] 33)).heap[rb]? = some (.cells #[.int .i64 (max 1000 0), .slice sa sx.length sc'] 27 (0, 0)) := at_old _ _ _ _ bxx
            obtain ⟨w4, hw4⟩ : ∃ w4, w4 = wr.alloc (.cells #[.int .i64 kd, .int .i64 sh, .int .i64 fl, .int .u64 pr, .string ke] 33) := ⟨_, rfl⟩
            have g0 : w4.cell? ⟨wr.heap.size, 0, none⟩ = some (.int .i64 kd) := by rw [hw4]; exact box_new wr _ _ 0 _ rfl
            have g1 : w4.cell? ⟨wr.heap.size, 1, none⟩ = some (.int .i64 sh) := by rw [hw4]; exact box_new wr _ _ 1 _ rfl
            have g2 : w4.cell? ⟨wr.heap.size, 2, none⟩ = some (.int .i64 fl) := by rw [hw4]; exact box_new wr _ _ 2 _ rfl
            have g3 : w4.cell? ⟨wr.heap.size, 3, none⟩ = some (.int .u64 pr) := by rw [hw4]; exact box_new wr _ _ 3 _ rfl
            have g4 : w4.cell? ⟨wr.heap.size, 4, none⟩ = some (.string ke) := by rw [hw4]; exact box_new wr _ _ 4 _ rfl
            have HKEP : Hid (∀ b, Y b → w4.heap[b]? = wr.heap[b]?) := fun b q => by rw [hw4]; exact (alloc_b wr _).block b (HL.out.ylt b q).1
            rw [← hw4] at ks bx'
            have r0 : w4.cell? ⟨rb, 0, none⟩ = some (.int .i64 (max 1000 0)) := by rw [cell_of_row w4 _ 0 _ 27 (0, 0) bx']; rfl
            have r1 : w4.cell? ⟨rb, 1, none⟩ = some (.slice sa sx.length sc') := by rw [cell_of_row w4 _ 1 _ 27 (0, 0) bx']; rfl
            clear hc ho bxx bx'
            go_upto_region 17 with fail
            rw [← hw4]
            clear hw4 d0 d1 d2 d3 d4
            go_wp2_with fail
            refine ks.mono ?_
            rintro e w5 ⟨⟨za, zc, zx⟩, rfl, bx5, hbo5, hbe5, hlo5, hl5, hy5⟩
            have HX := (show Hid (_ ∧ _) from ⟨hl5, hy5⟩)
            have m0 := cell_of_row w5 rb 0 _ 27 (0, 0) bx5
            have m1 := cell_of_row w5 rb 1 _ 27 (0, 0) bx5
            have n0 := frozen_of_row w5 rb 0 _ 27 bx5
            have n1 := frozen_of_row w5 rb 1 _ 27 bx5
            clear hl5 bx5 hbo5 hbe5 hlo5 hy5 ks r0 r1 g0 g1 g2 g3 g4
            go_wp2_with fail
            refine ⟨⟨k + 1, _, ⟨za, zc, zx⟩, ⟨c, HX.out.1, ?_, fun b q => (HX.out.2 b q).trans ((HKEP.out b q).trans (HE1.out.2 b q))⟩, by go_num⟩, ?_⟩
            · obtain ⟨R1, h1⟩ := HE1.out.1
              obtain ⟨R2, h2⟩ := HPRE.out
              exact ⟨R1 ++ R2, by rw [h2, h1, List.append_assoc]⟩
            simp [intOf]
            omega
          · have cil : ¬ (k : Int) < bx.length := by omega
            obtain ⟨O1, hT1, hR1, hX1⟩ := HL.out.both
            obtain ⟨R, rfl⟩ := HE1.out.1
            obtain ⟨hsp, hth⟩ := shOf_pre (R := R) HTH.out
            have kk := keys_any wr w.heap.size tb O1 1000 (L ++ R) hT1 n
            have ek : keysOf (L ++ R) n = lx := by rw [HLX.out]; unfold keysOf; rw [hsp]
            rw [ek] at kk
            have HT1 : Hid (∀ W, Below wr.heap.size wr W → Tree W w.heap.size tb O1 1000 (L ++ R)) := fun W hW => hT1.below hW
            have HSP : Hid (shOf (L ++ R) n = shOf L n ∧ thereB (L ++ R) n = true) := ⟨hsp, hth⟩
            have hda : decide (k < bx.length) = false := decide_eq_false (by omega)
            clear hT1 hR1 hX1 hsp hth ek HCb HWFb bxx
            go_wp2_with fail
            refine kk.mono ?_
            rintro e w6 ⟨v6, rfl, ho6, hb6⟩
            have kp := proto_any w6 w.heap.size tb O1 1000 (L ++ R) (HT1.out w6 hb6) n
            rw [HSP.out.1, HSP.out.2] at kp
            have HO6 := (show Hid (_ ∧ _) from ⟨ho6, hb6⟩)
            clear kk ho6 hb6 HT1
            go_wp2_with fail
            refine kp.mono ?_
            rintro e w7 ⟨rfl, rfl⟩
            clear kp
            have HBF : Hid (Below w.heap.size w w7) := HL.out.bel.trans (HO6.out.2.mono HL.out.bel.size)
            have hl7 := ((HOW.out.blk (fun b q => HE1.out.2 b (HYY.out b q))).below HO6.out.2).sl rtStr.len
            obtain ⟨⟨la', lc', lx'⟩, e5, e6, hok, _⟩ := hl7
            unfold Sli.val at e5
            simp only at e5 e6
            subst e6
            cases e5
            obtain ⟨⟨ma, mc, mx⟩, rfl, hmx, hmok, _⟩ := HO6.out.1.sl rtStr.len
            simp only at hmx
            subst hmx
            have HLL : Hid (Sli.ok strC 1 w7 ⟨la, lc, mx⟩ ∧ Sli.ok strC 1 w7 ⟨ma, mc, mx⟩) := ⟨hok, hmok⟩
            have hml : (mx.length : Int) ≤ 9223372036854775807 := by have h1 := hok.len; have h2 := hok.cap; simp only at h1 h2; unfold maxLen at h2; omega
            unfold Sli.val
            simp only
            have t1 : ((((shOf L n).map Sh.pr).getD 0) == (((shOf L n).map Sh.pr).getD 0)) = true := by simp
            have t2 : ((mx.length : Int) == mx.length) = true := by simp
            generalize ((shOf L n).map Sh.pr).getD 0 = P at *
            clear hok hmok HL HE1 HO6 HOW HYY HSP HTH HLX
            go_wp2_with fail
            go_loopw [92] (fun iv wq => ∃ k : Nat, (k ≤ mx.length ∧ Below w7.heap.size w7 wq) ∧ iv = .int .i64 k) (fun iv wq => mx.length - (intOf iv).toNat)
            case atStart => exact ⟨0, ⟨Nat.zero_le _, Below.refl _ _⟩, rfl⟩
            case round =>
              obtain ⟨k', ⟨ple', hbq⟩, rfl⟩ := hrel
              have HBQ : Hid (Below w7.heap.size w7 wr) := hbq
              clear hbq
              rcases Nat.lt_or_ge k' mx.length with c' | c'
              · have hex : ∃ y, mx[k']? = some y := ⟨_, List.getElem?_eq_getElem c'⟩
                obtain ⟨y, hy⟩ := hex
                obtain ⟨b1, o1, e1, hc1⟩ := HLL.out.1.cells (by intro e; simp only at e; rw [e] at c'; simp at c')
                obtain ⟨b2, o2, e2, hc2⟩ := HLL.out.2.cells (by intro e; simp only at e; rw [e] at c'; simp at c')
                simp only at e1 e2
                subst e1 e2
                have y1 := cells_below HBQ.out _ _ (hc1 k' y hy 0 _ rfl)
                have y2 := cells_below HBQ.out _ _ (hc2 k' y hy 0 _ rfl)
                rw [Nat.add_zero, Nat.mul_one] at y1 y2
                have t7 := bytes_yes y
                clear hc1 hc2 hy HLL
                go_wp2_with fail
                go_region
                all_goals
                  go_wp2_with fail
                  refine ⟨⟨k' + 1, ⟨c', HBQ.out.drew⟩, by go_num⟩, ?_⟩
                  simp [intOf]
                  omega
              · have HBE : Hid (Below w.heap.size w wr) := HBF.out.trans (HBQ.out.mono HBF.out.size)
                clear HLL HBQ
                go_wp2_with fail
                go_ret
                exact ⟨rfl, HBE.out⟩

end Go.Proofs.Ytiliffnflamkjaa.Sp
