/- CachesForward: the walk. -/
import Derived.Test.YtfhdmglfpkmjbaaNM
namespace Go.Proofs.Ytfhdmglfpkmjbaa.Hp
open Go.RowKit
set_option linter.unusedVariables false
set_option linter.unusedSimpArgs false

/-- the new site is stored -/
theorem fw_next {w W w6 : World} {sb tb vb : Nat} {st st3 : Int} {ad a3 : Option Addr} {cp c3 : Nat} {es es3 : List En} {m : Sli Int} (h1 : SiS w w6 sb st ad cp es) (h2 : SiS W w6 tb st3 a3 c3 es3) (hl : w.heap.size ≤ W.heap.size) (hv : VaS vb m w6) (hm0 : m.ok iC 1 w) (hf : Fine es3) (hs : 0 ≤ st3 ∧ st3 ≤ 3) :
    FwS w (stS w6 sb st3 (.slice a3 es3.length c3)) sb ∧ VaS vb m (stS w6 sb st3 (.slice a3 es3.length c3)) := by
  refine ⟨⟨st3, a3, c3, es3, ⟨h1.box.put _ _, lr_own h1.box (h2.row.low hl) _ _, h1.ge, stS_below h1.bel h1.ge _ _⟩, hf, hs⟩, ?_, ?_⟩
  · have hne : vb ≠ sb := by
      intro q
      subst q
      have h3 := hv.box
      have h4 := h1.box
      unfold BxS at h4
      rw [h4] at h3
      injection h3 with h3
      injection h3 with _ h3
      exact absurd h3 (by decide)
    show ((w6.setCell _ _).setCell _ _).heap[vb]? = _
    rw [Below.heap_setCell _ _ _ _ hne, Below.heap_setCell _ _ _ _ hne]
    exact hv.box
  · exact hm0.kept (cells_below (stS_below h1.bel h1.ge _ _))

set_option maxRecDepth 100000 in
set_option maxHeartbeats 16000000 in
theorem forward_walk (w : World) (m : Sli En) (hm : m.ok encE 4 w) (mv : Sli Int) (hv : mv.ok iC 1 w) : Calls Try.prog 4 #[m.val, mv.val] w fun e w' => e = .returned (.bool true) ∧ Below w.heap.size w w' := by
  have HA : Hid (∀ w : World, Calls Try.prog 13 #[] w fun e w' => e = .returned (.bool true) ∧ Below w.heap.size w w') := alive_any
  have HM : Hid (m.ok encE 4 w) := hm
  obtain ⟨ad, cap, l⟩ := m
  have hlim : (l.length : Int) ≤ 9223372036854775807 := by have := hm.len; have := hm.cap; unfold maxLen at this; simp only at *; omega
  have HASK := (show Hid _ from ask_fwd w.heap.size mv)
  have HV0 : Hid (mv.ok iC 1 w) := hv
  have hB1 : Below w.heap.size w (w.alloc (.cells #[mv.val] 27)) := (Below.refl _ _).alloc (Nat.le_refl _) _
  obtain ⟨w2, hw2⟩ : ∃ w2, w2 = (w.alloc (.cells #[mv.val] 27)).alloc (.cells #[.int .i64 0, .slice none 0 0] 24) := ⟨_, rfl⟩
  have HVA : Hid (VaS w.heap.size mv w2) := by
    rw [hw2]
    exact VaS.below (w := w.alloc (.cells #[mv.val] 27)) ⟨at_new _ _, hv.kept (cells_below hB1)⟩ ((Below.refl _ _).alloc (Nat.le_refl _) _)
  have HS0 : Hid (FwS w w2 (w.heap.size + 1)) := by
    have h1 := SiS.new w (w.alloc (.cells #[mv.val] 27)) hB1
    rw [size_new, ← hw2] at h1
    exact ⟨0, none, 0, [], h1, ⟨by simp, by simp⟩, by omega, by omega⟩
  unfold Sli.val
  simp only
  unfold Sli.val at hw2
  obtain ⟨va, vc, vl⟩ := mv
  simp only at hw2 ⊢
  clear hm hv hB1
  go_enter Try.func4, Try.ntmps4
  go_upto_region 3 with fail
  rw [← hw2]
  clear hw2
  go_wp2_with fail
  go_loopw [18] (fun p wr => ∃ (i : Nat), i ≤ l.length ∧ Hid (FwS w wr (w.heap.size + 1)) ∧ Hid (VaS w.heap.size ⟨va, vc, vl⟩ wr) ∧ p = .int .i64 (i : Int)) (fun p wr => ((l.length : Int) - intOf p).toNat)
  case atStart => exact ⟨0, Nat.zero_le _, HS0, HVA, rfl⟩
  case round =>
    clear HS0 HVA
    obtain ⟨i, hi, HFW, HVA, rfl⟩ := hrel
    by_cases c : i < l.length
    · have hex : ∃ x, l[i]? = some x := ⟨_, List.getElem?_eq_getElem c⟩
      obtain ⟨e, he⟩ := hex
      obtain ⟨b, off, hb1, hen⟩ := sli_en (HM.out.kept (cells_below HFW.out.bel)) he
      simp only at hb1
      subst hb1
      have hii : (i : Int) < (l.length : Int) := by omega
      have hii2 : decide ((i : Int) < (l.length : Int)) = true := decide_eq_true hii
      have hw1 : IntKind.i64.wrap ((i : Int) + 1) = ((i + 1 : Nat) : Int) := by rw [IntKind.wrap_i64]; omega
      have HI : Hid (i < l.length) := c
      obtain ⟨c0, c1, c2, c3⟩ := hen
      clear he hi
      obtain ⟨esh, eho, esl, ece⟩ := e
      simp only at c0 c1 c2 c3
      go_upto_region 6 with fail
      obtain ⟨W, hW⟩ : ∃ W, W = wr.alloc (.cells #[.int .i64 esh, .int .i64 eho, .int .i64 esl, .int .i64 ece] 26) := ⟨_, rfl⟩
      have hBW : Below wr.heap.size wr W := by rw [hW]; exact (Below.refl _ _).alloc (Nat.le_refl _) _
      have HE : Hid (BxE W wr.heap.size ⟨esh, eho, esl, ece⟩) := by rw [hW]; exact bxE_new wr ⟨esh, eho, esl, ece⟩
      have HV2 : Hid (VaS w.heap.size ⟨va, vc, vl⟩ W) := HVA.out.below hBW
      obtain ⟨st, ad5, cp5, es, hs5, hf5, hst⟩ := HFW.out.below hBW
      have HS5 : Hid (SiS w W (w.heap.size + 1) st ad5 cp5 es ∧ Fine es ∧ 0 ≤ st ∧ st ≤ 3) := ⟨hs5, hf5, hst⟩
      obtain ⟨d0, d1, d2, d3⟩ := HE.out.at'
      simp only [Nat.zero_add] at d1 d2 d3
      obtain ⟨s0, s1⟩ := hs5.box.ce
      have kl : Calls Try.prog 15 #[.agg #[.int .i64 st, .slice ad5 es.length cp5], .agg #[.int .i64 esh, .int .i64 eho, .int .i64 esl, .int .i64 ece], .func (.func 17) #[] #[.pointer (some ⟨w.heap.size, 0, none⟩)]] W fun r w' => ∃ ad cp, r = .returned (.agg #[.int .i64 (lrnP (inB vl) st es ⟨esh, eho, esl, ece⟩).1, .slice ad (lrnP (inB vl) st es ⟨esh, eho, esl, ece⟩).2.length cp]) ∧ OwnR encE 4 26 W.heap.size w' (.slice ad (lrnP (inB vl) st es ⟨esh, eho, esl, ece⟩).2.length cp) (lrnP (inB vl) st es ⟨esh, eho, esl, ece⟩).2 ∧ Below W.heap.size W w' := learn_own HASK.out hs5.row (by have := hf5.2; omega) st ⟨esh, eho, esl, ece⟩ HV2.out
      have HST := (show Hid _ from lrn_state (vf := inB vl) (es := es) (e := ⟨esh, eho, esl, ece⟩) hst)
      have HFI : Hid (Fine (lrnP (inB vl) st es ⟨esh, eho, esl, ece⟩).2) := lrn_fine ⟨esh, eho, esl, ece⟩ hf5
      generalize (lrnP (inB vl) st es ⟨esh, eho, esl, ece⟩).1 = st3 at *
      generalize (lrnP (inB vl) st es ⟨esh, eho, esl, ece⟩).2 = es3 at *
      rw [← hW]
      clear hW hBW c0 c1 c2 c3 hs5 hf5 hst HFW HVA
      go_wp2_with fail
      refine kl.mono ?_
      rintro ee w3 ⟨a3, c3, rfl, ho3, hb3⟩
      obtain ⟨w4, hw4⟩ : ∃ w4, w4 = w3.alloc (.cells #[.int .i64 st3, .slice a3 es3.length c3] 24) := ⟨_, rfl⟩
      have hb4 : Below w3.heap.size w3 w4 := by rw [hw4]; exact (Below.refl _ _).alloc (Nat.le_refl _) _
      have hb34 : Below W.heap.size W w4 := hb3.trans (hb4.mono hb3.size)
      have HS4 : Hid (SiS W w4 w3.heap.size st3 a3 c3 es3) := by
        show SiS _ _ _ _ _ _ _
        exact ⟨by rw [hw4]; exact bxS_new w3 _ _, OwnR.below ho3 hb4, hb3.size, hb34⟩
      have HS6 : Hid (SiS w w4 (w.heap.size + 1) st ad5 cp5 es) := HS5.out.1.below hb34
      have HV4 : Hid (VaS w.heap.size ⟨va, vc, vl⟩ w4) := HV2.out.below hb34
      have HE4 : Hid (BxE w4 wr.heap.size ⟨esh, eho, esl, ece⟩) := HE.out.below hb34
      clear kl ho3 hb3 hb4 hb34 s0 s1 d0 d1 d2 d3 HE HV2
      go_upto_region 7 with fail
      rw [← hw4]
      clear hw4
      obtain ⟨t0, t1⟩ := HS4.out.box.ce
      obtain ⟨s0, s1⟩ := HS6.out.box.ce
      have HL3 : Hid (w.heap.size ≤ W.heap.size) := HS5.out.1.bel.size
      obtain ⟨bb, hb0, hb1, HBB⟩ : ∃ bb : Bool, (st3 == (3 : Int)) = bb ∧ ((es3.length : Int) == 0) = bb ∧ Hid (bb = false → (⟨esh, eho, esl, ece⟩ : En) ∈ es3) := by
        rcases HST.out with ⟨rfl, rfl⟩ | ⟨q1, q2, q3, q4⟩
        · exact ⟨true, rfl, rfl, fun q => by cases q⟩
        · refine ⟨false, by simp; omega, ?_, fun _ => q4⟩
          have : 0 < es3.length := List.length_pos_of_mem q4
          simp
          intro q
          rw [q] at this
          simp at this
      have hsb : ¬ (st3 < st) ∧ ¬ (st3 < 1) ∧ ¬ (3 < st3) ∧ 0 ≤ st3 ∧ st3 ≤ 3 := by
        have h5 := HS5.out.2.2
        rcases HST.out with ⟨rfl, rfl⟩ | ⟨q1, q2, q3, q4⟩
        · omega
        · omega
      have HSB : Hid (0 ≤ st3 ∧ st3 ≤ 3) := hsb.2.2.2
      obtain ⟨r1, r2, r3, _, _⟩ := hsb
      have hel : (es3.length : Int) ≤ 4 := by have := HFI.out.2; omega
      have r4 : ¬ (4 < (es3.length : Int)) := by omega
      have hbn : (bb != bb) = false := by simp
      clear HST
      obtain ⟨wa, hwa⟩ : ∃ wa, wa = wr := ⟨_, rfl⟩
      subst hwa
      go_upto_region 9 with fail
      clear r1 r2 r3 r4 s0 s1 hb1 hbn
      go_wp2_with fail
      go_loopw [60] (fun p wq => ∃ j : Nat, j ≤ es3.length ∧ Hid (Below w4.heap.size w4 wq) ∧ p = .int .i64 (j : Int)) (fun p wq => ((es3.length : Int) - intOf p).toNat)
      case atStart => exact ⟨0, Nat.zero_le _, Below.refl _ _, rfl⟩
      case round =>
        clear t0 t1
        obtain ⟨j, hj, hbq, rfl⟩ := hrel
        by_cases cj : j < es3.length
        · have hex : ∃ x, es3[j]? = some x := ⟨_, List.getElem?_eq_getElem cj⟩
          obtain ⟨x, hx⟩ := hex
          have hjj : (j : Int) < (es3.length : Int) := by omega
          have hjd : decide ((j : Int) < (es3.length : Int)) = true := decide_eq_true hjj
          have hw2 : IntKind.i64.wrap ((j : Int) + 1) = ((j + 1 : Nat) : Int) := by rw [IntKind.wrap_i64]; omega
          have HJ : Hid (j < es3.length ∧ es3[j]? = some x) := ⟨cj, hx⟩
          obtain ⟨we, hwe⟩ : ∃ we, we = wr := ⟨_, rfl⟩
          subst hwe
          clear hj hx cj
          go_wp2_with fail
          go_loopw [64] (fun p wq => ∃ k : Nat, k ≤ j ∧ Hid (Below w4.heap.size w4 wq) ∧ p = .int .i64 (k : Int)) (fun p wq => ((j : Int) - intOf p).toNat)
          case atStart => exact ⟨0, Nat.zero_le _, hbq, rfl⟩
          case round =>
            obtain ⟨k, hk, hbk, rfl⟩ := hrel
            by_cases ck : k < j
            · have hex : ∃ y, es3[k]? = some y := ⟨_, List.getElem?_eq_getElem (by have := HJ.out.1; omega)⟩
              obtain ⟨y, hy⟩ := hex
              have HS7 : Hid (SiS W wr w3.heap.size st3 a3 c3 es3) := HS4.out.below hbk.out
              obtain ⟨bx, ox, hbx, hex⟩ := sli_en HS7.out.ok HJ.out.2
              simp only at hbx
              subst hbx
              obtain ⟨bx', ox', hbx', hey⟩ := sli_en HS7.out.ok hy
              simp only [Option.some.injEq, Addr.mk.injEq, and_true] at hbx'
              obtain ⟨rfl, rfl⟩ := hbx'
              obtain ⟨t0, t1⟩ := HS7.out.box.ce
              have x0 := hex.c0
              have y0 := hey.c0
              have hxy : (x.sh == y.sh) = false := by simpa using fine_ne HFI.out HJ.out.2 hy ck
              have hkk : (k : Int) < (j : Int) := by omega
              have hkd : decide ((k : Int) < (j : Int)) = true := decide_eq_true hkk
              have hkl : (k : Int) < (es3.length : Int) := by omega
              have hw3 : IntKind.i64.wrap ((k : Int) + 1) = ((k + 1 : Nat) : Int) := by rw [IntKind.wrap_i64]; omega
              have HK : Hid (k < j) := ck
              obtain ⟨xv, hxv⟩ : ∃ xv, xv = x.sh := ⟨_, rfl⟩
              obtain ⟨yv, hyv⟩ : ∃ yv, yv = y.sh := ⟨_, rfl⟩
              rw [← hxv] at x0 hxy
              rw [← hyv] at y0 hxy
              clear hex hey hxv hyv hk hy HS7
              go_upto_region 15 with fail
              go_region_held (fun W => W.cell? ⟨w3.heap.size, 1, none⟩ = some (.slice (some ⟨bx, ox, none⟩) es3.length c3) ∧ W.cell? ⟨bx, ox + j * 4, none⟩ = some (.int .i64 xv) ∧ W.cell? ⟨bx, ox + k * 4, none⟩ = some (.int .i64 yv)) (go_keep) (fail)
              go_wp2_with fail
              refine ⟨⟨k + 1, HK.out, hbk.out.drew, rfl⟩, ?_⟩
              have := HK.out
              simp [intOf]
              omega
            · have hkk : ¬ ((k : Int) < (j : Int)) := by omega
              go_wp2_with fail
              refine ⟨⟨j + 1, HJ.out.1, hbk, rfl⟩, ?_⟩
              have := HJ.out.1
              simp [intOf]
              omega
        · have hjj : ¬ ((j : Int) < (es3.length : Int)) := by omega
          have HS7 : Hid (SiS W wr w3.heap.size st3 a3 c3 es3) := HS4.out.below hbq.out
          have HV7 : Hid (VaS w.heap.size ⟨va, vc, vl⟩ wr) := HV4.out.below hbq.out
          obtain ⟨t0, t1⟩ := HS7.out.box.ce
          obtain ⟨d0, d1, d2, d3⟩ := (HE4.out.below hbq.out).at'
          simp only [Nat.zero_add] at d1 d2 d3
          have kf : Calls Try.prog 11 #[.agg #[.int .i64 st3, .slice a3 es3.length c3], .int .i64 esh, .func (.func 17) #[] #[.pointer (some ⟨w.heap.size, 0, none⟩)]] wr fun r w' => r = .returned (fvE (fndE (inB vl) esh es3)) ∧ Below wr.heap.size wr w' := find_own HASK.out HS7.out.row st3 esh HV7.out
          obtain ⟨x, hx⟩ : ∃ x, x = (fndE (inB vl) esh es3).getD noE := ⟨_, rfl⟩
          obtain ⟨fb, hfb⟩ : ∃ fb, fb = (fndE (inB vl) esh es3).isSome := ⟨_, rfl⟩
          have hfv : fvE (fndE (inB vl) esh es3) = .tuple #[.agg #[.int .i64 x.sh, .int .i64 x.ho, .int .i64 x.sl, .int .i64 x.ce], .bool fb] := by rw [hx, hfb]; rfl
          have HXF : Hid (x = (fndE (inB vl) esh es3).getD noE ∧ fb = (fndE (inB vl) esh es3).isSome) := ⟨hx, hfb⟩
          rw [hfv] at kf
          clear hx hfb hfv
          obtain ⟨xsh, xho, xsl, xce⟩ := x
          simp only at kf
          go_wp2_with fail
          refine kf.mono ?_
          rintro ee w5 ⟨rfl, hb5⟩
          obtain ⟨w6, hw6⟩ : ∃ w6, w6 = w5.alloc (.cells #[.int .i64 xsh, .int .i64 xho, .int .i64 xsl, .int .i64 xce] 26) := ⟨_, rfl⟩
          have hb6 : Below w5.heap.size w5 w6 := by rw [hw6]; exact (Below.refl _ _).alloc (Nat.le_refl _) _
          have hE6 : BxE w6 w5.heap.size ⟨xsh, xho, xsl, xce⟩ := by rw [hw6]; exact bxE_new w5 ⟨xsh, xho, xsl, xce⟩
          have HB6 : Hid (Below w4.heap.size w4 w6) := (hbq.out.trans (hb5.mono hbq.out.size)).trans (hb6.mono (hbq.out.trans (hb5.mono hbq.out.size)).size)
          clear kf hb5 hb6 t0 t1 d0 d1 d2 d3 HS7 HV7 hbq
          go_upto_region 20 with fail
          rw [← hw6]
          clear hw6
          have HS9 : Hid (SiS W w6 w3.heap.size st3 a3 c3 es3) := HS4.out.below HB6.out
          have HS8 : Hid (SiS w w6 (w.heap.size + 1) st ad5 cp5 es) := HS6.out.below HB6.out
          have HV8 : Hid (VaS w.heap.size ⟨va, vc, vl⟩ w6) := HV4.out.below HB6.out
          obtain ⟨t0, t1⟩ := HS9.out.box.ce
          obtain ⟨s0, s1⟩ := HS8.out.box.ce
          obtain ⟨f0, f1⟩ := HS8.out.fz
          obtain ⟨d0, d1, d2, d3⟩ := (HE4.out.below HB6.out).at'
          obtain ⟨g0, g1, g2, g3⟩ := hE6.at'
          simp only [Nat.zero_add] at d1 d2 d3 g1 g2 g3
          have v0 : w6.cell? ⟨w.heap.size, 0, none⟩ = some (.slice va vl.length vc) := cell_of_row w6 w.heap.size 0 _ _ (0, 0) HV8.out.box
          have HEND : Hid (FwS w (stS w6 (w.heap.size + 1) st3 (.slice a3 es3.length c3)) (w.heap.size + 1) ∧ VaS w.heap.size ⟨va, vc, vl⟩ (stS w6 (w.heap.size + 1) st3 (.slice a3 es3.length c3))) := fw_next HS8.out HS9.out HL3.out HV8.out HV0.out HFI.out HSB.out
          have ki := in_any ⟨va, vc, vl⟩ ece w6 HV8.out.ok
          unfold Sli.val at ki
          simp only at ki
          clear hE6 HS9 HS8 HV8
          have hbn : (st3 != (3 : Int)) = !bb := by rw [bne, hb0]
          cases bb with
          | true =>
            clear ki
            go_wp2_with fail
            refine ⟨⟨i + 1, HI.out, HEND.out.1, HEND.out.2, rfl⟩, ?_⟩
            have := HI.out
            simp [intOf]
            omega
          | false =>
            have hfd := fnd_nd (vf := inB vl) HFI.out.1 (HBB.out rfl)
            simp only at hfd
            rw [hfd] at HXF
            clear hfd
            by_cases cc : ece = -1
            · subst cc
              obtain ⟨hx, hfb⟩ := HXF.out
              have hh : hldB (inB vl) ⟨esh, eho, esl, -1⟩ = true := by unfold hldB; rfl
              rw [hh] at hx hfb
              injection hx with x1 x2 x3 x4
              have hfb2 : fb = true := hfb
              subst hfb2 x1 x2 x3 x4
              clear HXF ki hfb hh
              go_wp2_with fail
              refine ⟨⟨i + 1, HI.out, HEND.out.1, HEND.out.2, rfl⟩, ?_⟩
              have := HI.out
              simp [intOf]
              omega
            · have hcc : (ece == (-1 : Int)) = false := by simpa using cc
              have hh : hldB (inB vl) ⟨esh, eho, esl, ece⟩ = inB vl ece := by unfold hldB; simp [cc]
              rw [hh] at HXF
              generalize inB vl ece = r at *
              clear hh
              cases r with
              | true =>
                obtain ⟨hx, hfb⟩ := HXF.out
                injection hx with x1 x2 x3 x4
                have hfb2 : fb = true := hfb
                subst hfb2 x1 x2 x3 x4
                clear HXF hfb
                go_wp2_with fail
                refine ki.mono ?_
                rintro ee w7 ⟨rfl, rfl⟩
                clear ki
                go_wp2_with fail
                refine ⟨⟨i + 1, HI.out, HEND.out.1, HEND.out.2, rfl⟩, ?_⟩
                have := HI.out
                simp [intOf]
                omega
              | false =>
                clear HXF
                go_wp2_with fail
                refine ki.mono ?_
                rintro ee w7 ⟨rfl, rfl⟩
                clear ki
                go_wp2_with fail
                refine ⟨⟨i + 1, HI.out, HEND.out.1, HEND.out.2, rfl⟩, ?_⟩
                have := HI.out
                simp [intOf]
                omega
    · have hii2 : ¬ ((i : Int) < (l.length : Int)) := by omega
      have ka := HA.out wr
      have HBW : Hid (Below w.heap.size w wr) := HFW.out.bel
      clear HM HFW HVA
      go_wp2_with fail
      refine ka.mono ?_
      rintro ee w4 ⟨rfl, hb4⟩
      have HB4 : Hid (Below w.heap.size w w4) := HBW.out.trans (hb4.mono HBW.out.size)
      clear ka hb4
      go_wp2_with fail
      go_ret
      exact ⟨rfl, HB4.out⟩
end Go.Proofs.Ytfhdmglfpkmjbaa.Hp
