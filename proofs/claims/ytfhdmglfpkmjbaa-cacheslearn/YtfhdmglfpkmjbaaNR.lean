/- Caches: the document's Learn. -/
import Derived.Test.YtfhdmglfpkmjbaaNM
namespace Go.Proofs.Ytfhdmglfpkmjbaa.Hp
open Go.RowKit
set_option linter.unusedVariables false
set_option linter.unusedSimpArgs false

set_option maxRecDepth 100000 in
set_option maxHeartbeats 8000000 in
theorem rlearn_any (m : Sli En) (mv : Sli Int) (st : Int) (e : En) (w : World) (hm : m.ok encE 4 w) (hv : mv.ok iC 1 w) (hR : RoE m.xs.length) :
    Calls Try.prog 16 #[.agg #[.int .i64 st, m.val], e.val, mv.val] w fun r w' => ∃ v, r = .returned (.agg #[.int .i64 (lrnP (inB mv.xs) st m.xs e).1, v]) ∧ OwnR encE 4 26 w.heap.size w' v (lrnP (inB mv.xs) st m.xs e).2 ∧ Below w.heap.size w w' := by
  have HM : Hid (m.ok encE 4 w) := hm
  have HV : Hid (∀ (c : Int) (W : World), Below w.heap.size w W → Calls Try.prog 10 #[mv.val, .int .i64 c] W fun e w' => e = .returned (.bool (inB mv.xs c)) ∧ w' = W) := fun c W hb => in_any mv c W (hv.kept (cells_below hb))
  have HR : Hid (RoE m.xs.length) := hR
  obtain ⟨ad, cp, l⟩ := m
  have hlim : (l.length : Int) ≤ 9223372036854775807 := by have := hm.len; have := hm.cap; unfold maxLen at this; simp only at *; omega
  simp only at HR
  obtain ⟨R, hRR⟩ : ∃ R, R = lrnP (inB mv.xs) st l e := ⟨_, rfl⟩
  have HP : Hid (R = if st = 3 then (3, []) else if 4 < (othE (inB mv.xs) e.sh l ++ [e]).length then (3, []) else if 1 < (othE (inB mv.xs) e.sh l ++ [e]).length ∨ st = 2 then (2, othE (inB mv.xs) e.sh l ++ [e]) else (1, othE (inB mv.xs) e.sh l ++ [e])) := hRR
  simp only
  rw [← hRR]
  unfold Sli.val at HV ⊢
  simp only
  generalize mv.at' = va at *
  generalize mv.cap = vc at *
  generalize mv.xs = vl at *
  obtain ⟨w3, hw3⟩ : ∃ w3, w3 = ((w.alloc (.cells #[.int .i64 st, .slice ad l.length cp] 24)).alloc (.cells #[.int .i64 e.sh, .int .i64 e.ho, .int .i64 e.sl, .int .i64 e.ce] 26)).alloc (.cells #[.int .i64 0, .slice none 0 0] 24) := ⟨_, rfl⟩
  have HB3 : Hid (LrB w w3 st (.slice ad l.length cp) e) := by rw [hw3]; exact lrB_new w st _ e
  clear hm hv hR hRR
  obtain ⟨esh, eho, esl, ece⟩ := e
  unfold En.val
  simp only at *
  by_cases c3 : st = 3
  · subst c3
    have HPU : Hid (BxS (stS w3 (w.heap.size + 2) 3 (.slice none 0 0)) (w.heap.size + 2) 3 (.slice none 0 0) ∧ Below w.heap.size w (stS w3 (w.heap.size + 2) 3 (.slice none 0 0))) := ⟨HB3.out.r.put _ _, stS_below HB3.out.bel (by omega) _ _⟩
    obtain ⟨s0, s1⟩ := HB3.out.s.ce
    obtain ⟨r0, r1⟩ := HB3.out.r.ce
    have f0 := HB3.out.r.fz 0
    have f1 := HB3.out.r.fz 1
    clear HV HR HM
    go_enter Try.func16, Try.ntmps16
    go_upto_region 1 with fail
    rw [← hw3]
    clear hw3
    go_wp2_with fail
    refine bodyPost_ret (res1 rfl _ _ (w.heap.size + 2) 24 _ (0, 0) _ rfl HPU.out.1 Try.underlying24 rfl (by kernel_rfl)) rfl ?_
    rw [HP.out, if_pos trivial]
    exact ⟨_, rfl, OwnR.nil _ _, HPU.out.2⟩
  · have hc3 : (st == (3 : Int)) = false := by simpa using c3
    obtain ⟨s0, s1⟩ := HB3.out.s.ce
    go_enter Try.func16, Try.ntmps16
    go_upto_region 1 with fail
    rw [← hw3]
    clear hw3
    go_wp2_with fail
    go_loopw [7, 8] (fun p q wr => ∃ i : Nat, i ≤ l.length ∧ Hid (OwnR encE 4 26 w3.heap.size wr p (othE (inB vl) esh (l.take i))) ∧ Hid (Below w3.heap.size w3 wr) ∧ q = .int .i64 (i : Int)) (fun p q wr => ((l.length : Int) - intOf q).toNat)
    case atStart => exact ⟨0, Nat.zero_le _, OwnR.nil _ _, Below.refl _ _, rfl⟩
    case round =>
      clear s0 s1
      obtain ⟨i, hi, hown, hbr, rfl⟩ := hrel
      have HBR : Hid (Below w.heap.size w wr) := HB3.out.bel.trans (hbr.out.mono HB3.out.bel.size)
      obtain ⟨s0, s1⟩ := (HB3.out.s.below hbr.out).ce
      by_cases c : i < l.length
      · have hex : ∃ x, l[i]? = some x := ⟨_, List.getElem?_eq_getElem c⟩
        obtain ⟨x, hx⟩ := hex
        obtain ⟨b, off, hb1, hen⟩ := sli_en (HM.out.kept (cells_below HBR.out)) hx
        simp only at hb1
        subst hb1
        have hii : (i : Int) < (l.length : Int) := by omega
        have hii2 : decide ((i : Int) < (l.length : Int)) = true := decide_eq_true hii
        have hw1 : IntKind.i64.wrap ((i : Int) + 1) = ((i + 1 : Nat) : Int) := by rw [IntKind.wrap_i64]; omega
        obtain ⟨c0, c1, c2, c3'⟩ := hen
        have HE : Hid (othE (inB vl) esh (l.take (i + 1)) = othE (inB vl) esh (l.take i) ++ (if keE (inB vl) esh x = true then [x] else [])) := oth_step hx
        have HL : Hid ((othE (inB vl) esh (l.take i)).length ≤ l.length) := oth_len _ esh l i
        have HI : Hid (i < l.length) := c
        clear hx hi
        obtain ⟨xsh, xho, xsl, xce⟩ := x
        simp only at c0 c1 c2 c3'
        go_upto_region 8 with fail
        obtain ⟨W, hW⟩ : ∃ W, W = wr.alloc (.cells #[.int .i64 xsh, .int .i64 xho, .int .i64 xsl, .int .i64 xce] 26) := ⟨_, rfl⟩
        have hBW : Below wr.heap.size wr W := by rw [hW]; exact (Below.refl _ _).alloc (Nat.le_refl _) _
        have HBW : Hid (Below w3.heap.size w3 W) := hbr.out.trans (hBW.mono hbr.out.size)
        have hE : BxE W wr.heap.size ⟨xsh, xho, xsl, xce⟩ := by rw [hW]; exact bxE_new wr ⟨xsh, xho, xsl, xce⟩
        have HOW : Hid (OwnR encE 4 26 w3.heap.size W u7 (othE (inB vl) esh (l.take i))) := OwnR.below hown.out hBW
        obtain ⟨d0, d1, d2, d3⟩ := hE.at'
        obtain ⟨e0, e1, e2, e3⟩ := (HB3.out.e.below HBW.out).at'
        simp only [Nat.zero_add] at d1 d2 d3 e1 e2 e3
        have ki := HV.out xce W (HB3.out.bel.trans (HBW.out.mono HB3.out.bel.size))
        have HKE : Hid (keE (inB vl) esh ⟨xsh, xho, xsl, xce⟩ = ((xsh != esh) && ((xce == -1) || inB vl xce))) := rfl
        generalize inB vl xce = r at *
        rw [HKE.out] at HE
        rw [← hW]
        clear hW hBW c0 c1 c2 c3' hE hown hbr HBR s0 s1 HKE
        go_wp2_with fail
        refine ki.mono ?_
        rintro ee w7 ⟨rfl, rfl⟩
        clear ki
        by_cases ck : ((xsh != esh) && ((xce == -1) || r)) = true
        · rw [if_pos ck] at HE
          simp only [Bool.and_eq_true, Bool.or_eq_true] at ck
          obtain ⟨ck1, ck2⟩ := ck
          obtain ⟨w4, hw4⟩ : ∃ w4, w4 = w7.alloc (.cells #[.int .i64 xsh, .int .i64 xho, .int .i64 xsl, .int .i64 xce] 26) := ⟨_, rfl⟩
          have hb4 : Below w7.heap.size w7 w4 := by rw [hw4]; exact (Below.refl _ _).alloc (Nat.le_refl _) _
          have HB4 : Hid (Below w3.heap.size w3 w4) := HBW.out.trans (hb4.mono HBW.out.size)
          have HOW4 : Hid (OwnR encE 4 26 w3.heap.size w4 u7 (othE (inB vl) esh (l.take i))) := OwnR.below HOW.out hb4
          have HONE : Hid (Sli.ok encE 4 w4 ⟨some ⟨w7.heap.size, 0, none⟩, 1, [⟨xsh, xho, xsl, xce⟩]⟩) := by rw [hw4]; exact one_sli rtE (at_new _ _) rfl
          have HS : Hid ((othE (inB vl) esh (l.take i)).length + 1 ≤ maxLen ∧ RoE (othE (inB vl) esh (l.take i)).length) := ⟨by have := HI.out; have := HL.out; have h := HR.out; unfold RoE at h; unfold maxLen; omega, HR.out.le HL.out⟩
          generalize othE (inB vl) esh (l.take i) = xs at *
          by_cases cx : xce = -1
          · subst cx
            clear ck2
            go_wp2_with (at_builtin; rw [← hw4]; refine app_row rtE rfl _ _ rfl w3.heap.size u7 xs ?h1 HOW4.out ⟨some ⟨w7.heap.size, 0, none⟩, 1, [⟨xsh, xho, xsl, -1⟩]⟩ ?h3 HONE.out HS.out.1 HS.out.2 HB4.out.size ?_)
            case h1 => rfl
            case h3 => rfl
            intro v6 w6 ho6 hg6 hl6
            rw [← hw4] at hg6
            have HB6 : Hid (Below w3.heap.size w3 w6) := (Chg.of_grown (S := fun b => u7.ownBlock = some b) hg6 (fun k q => q)).below HB4.out HB4.out.size (fun k q => (HOW4.out.lt k q).1)
            have HOW2 : Hid (OwnR encE 4 26 w3.heap.size w6 v6 (othE (inB vl) esh (l.take (i + 1)))) := by
              rw [HE.out]
              exact ho6
            clear HE HOW HOW4 HONE hg6 hl6 ho6 hw4 hb4 HB4 HBW
            go_wp2_with fail
            refine ⟨⟨i + 1, HI.out, HOW2, HB6, rfl⟩, ?_⟩
            have := HI.out
            simp [intOf]
            omega
          · have hcx : (xce == (-1 : Int)) = false := by simpa using cx
            have hr : r = true := by rcases ck2 with q | q; · simp [cx] at q
                                     · exact q
            subst hr
            clear ck2
            go_wp2_with (at_builtin; rw [← hw4]; refine app_row rtE rfl _ _ rfl w3.heap.size u7 xs ?h1 HOW4.out ⟨some ⟨w7.heap.size, 0, none⟩, 1, [⟨xsh, xho, xsl, xce⟩]⟩ ?h3 HONE.out HS.out.1 HS.out.2 HB4.out.size ?_)
            case h1 => rfl
            case h3 => rfl
            intro v6 w6 ho6 hg6 hl6
            rw [← hw4] at hg6
            have HB6 : Hid (Below w3.heap.size w3 w6) := (Chg.of_grown (S := fun b => u7.ownBlock = some b) hg6 (fun k q => q)).below HB4.out HB4.out.size (fun k q => (HOW4.out.lt k q).1)
            have HOW2 : Hid (OwnR encE 4 26 w3.heap.size w6 v6 (othE (inB vl) esh (l.take (i + 1)))) := by
              rw [HE.out]
              exact ho6
            clear HE HOW HOW4 HONE hg6 hl6 ho6 hw4 hb4 HB4 HBW
            go_wp2_with fail
            refine ⟨⟨i + 1, HI.out, HOW2, HB6, rfl⟩, ?_⟩
            have := HI.out
            simp [intOf]
            omega
        · rw [if_neg ck] at HE
          have HOW2 : Hid (OwnR encE 4 26 w3.heap.size w7 u7 (othE (inB vl) esh (l.take (i + 1)))) := by
            have q : OwnR encE 4 26 w3.heap.size w7 u7 (othE (inB vl) esh (l.take i) ++ []) := by rw [List.append_nil]; exact HOW.out
            rw [HE.out]
            exact q
          clear HE HOW
          by_cases cs : xsh = esh
          · subst cs
            clear ck
            go_wp2_with fail
            refine ⟨⟨i + 1, HI.out, HOW2, HBW, rfl⟩, ?_⟩
            have := HI.out
            simp [intOf]
            omega
          · have hcs : (xsh != esh) = true := by simpa using cs
            rw [hcs, Bool.true_and] at ck
            have hcx : (xce == (-1 : Int)) = false := by
              cases hq : (xce == (-1 : Int)) with
              | false => rfl
              | true => rw [hq] at ck; exact absurd rfl ck
            have hr : r = false := by rw [hcx] at ck; simpa using ck
            subst hr
            clear ck
            go_wp2_with fail
            refine ⟨⟨i + 1, HI.out, HOW2, HBW, rfl⟩, ?_⟩
            have := HI.out
            simp [intOf]
            omega
      · have hii2 : ¬ ((i : Int) < (l.length : Int)) := by omega
        have hil : i = l.length := by omega
        subst hil
        rw [List.take_length] at hown
        have hlx : (othE (inB vl) esh l).length ≤ l.length := List.length_filter_le _ _
        obtain ⟨e0, e1, e2, e3⟩ := (HB3.out.e.below hbr.out).at'
        simp only [Nat.zero_add] at e1 e2 e3
        obtain ⟨w4, hw4⟩ : ∃ w4, w4 = wr.alloc (.cells #[.int .i64 esh, .int .i64 eho, .int .i64 esl, .int .i64 ece] 26) := ⟨_, rfl⟩
        have hb4 : Below wr.heap.size wr w4 := by rw [hw4]; exact (Below.refl _ _).alloc (Nat.le_refl _) _
        have HB4 : Hid (Below w3.heap.size w3 w4) := hbr.out.trans (hb4.mono hbr.out.size)
        have HOW4 : Hid (OwnR encE 4 26 w3.heap.size w4 u7 (othE (inB vl) esh l)) := OwnR.below hown.out hb4
        have HONE : Hid (Sli.ok encE 4 w4 ⟨some ⟨wr.heap.size, 0, none⟩, 1, [⟨esh, eho, esl, ece⟩]⟩) := by rw [hw4]; exact one_sli rtE (at_new _ _) rfl
        have HS : Hid ((othE (inB vl) esh l).length + 1 ≤ maxLen ∧ RoE (othE (inB vl) esh l).length) := ⟨by have h := HR.out; unfold RoE at h; unfold maxLen; omega, HR.out.le hlx⟩
        generalize othE (inB vl) esh l = xs at *
        clear hb4 hown hlx HM
        go_wp2_with (at_builtin; rw [← hw4]; refine app_row rtE rfl _ _ rfl w3.heap.size u7 xs ?h1 HOW4.out ⟨some ⟨wr.heap.size, 0, none⟩, 1, [⟨esh, eho, esl, ece⟩]⟩ ?h3 HONE.out HS.out.1 HS.out.2 HB4.out.size ?_)
        case h3 => rfl
        intro v6 w6 ho6 hg6 hl6
        rw [← hw4] at hg6
        have HB6 : Hid (Below w3.heap.size w3 w6) := (Chg.of_grown (S := fun b => u7.ownBlock = some b) hg6 (fun k q => q)).below HB4.out HB4.out.size (fun k q => (HOW4.out.lt k q).1)
        obtain ⟨g6, cap6, hv6, _, _⟩ := (show w6.ownsRow w3.heap.size 26 4 v6 (xs.length + 1) ((xs ++ [(⟨esh, eho, esl, ece⟩ : En)]).flatMap encE) from by have := ho6; unfold OwnR at this; simpa using this).form (by omega)
        subst hv6
        have HO6 : Hid (OwnR encE 4 26 w3.heap.size w6 (.slice (some ⟨g6, 0, none⟩) (xs.length + 1) cap6) (xs ++ [⟨esh, eho, esl, ece⟩])) := ho6
        clear HOW4 HONE hg6 hl6 ho6 hw4 HB4 s0 s1 e0 e1 e2 e3 hbr HBR
        have HR6 : Hid (BxS w6 (w.heap.size + 1 + 1) 0 (.slice none 0 0)) := HB3.out.r.below HB6.out
        obtain ⟨t0, _⟩ := (HB3.out.s.below HB6.out).ce
        obtain ⟨r0, r1⟩ := HR6.out.ce
        have f0 := HR6.out.fz 0
        have f1 := HR6.out.fz 1
        have HBW : Hid (Below w.heap.size w w6) := HB3.out.bel.trans (HB6.out.mono HB3.out.bel.size)
        have HOW : Hid (OwnR encE 4 26 w.heap.size w6 (.slice (some ⟨g6, 0, none⟩) (xs.length + 1) cap6) (xs ++ [⟨esh, eho, esl, ece⟩])) := HO6.out.low HB3.out.bel.size
        clear HO6 HB6 HB3 HV HR HS
        by_cases c4 : 4 < (xs ++ [(⟨esh, eho, esl, ece⟩ : En)]).length
        · have HG : Hid (4 < (xs ++ [(⟨esh, eho, esl, ece⟩ : En)]).length) := c4
          have c4' : (4 : Int) < ((xs.length + 1 : Nat) : Int) := by simp at c4; omega
          have HPU : Hid (BxS (stS w6 (w.heap.size + 1 + 1) 3 (.slice none 0 0)) (w.heap.size + 1 + 1) 3 (.slice none 0 0) ∧ Below w.heap.size w (stS w6 (w.heap.size + 1 + 1) 3 (.slice none 0 0))) := ⟨HR6.out.put _ _, stS_below HBW.out (by omega) _ _⟩
          clear HR6 HBW HOW c4
          go_wp2_with fail
          refine bodyPost_ret (res1 rfl _ _ (w.heap.size + 1 + 1) 24 _ (0, 0) _ rfl HPU.out.1 Try.underlying24 rfl (by kernel_rfl)) rfl ?_
          rw [HP.out, if_neg c3, if_pos HG.out]
          exact ⟨_, rfl, OwnR.nil _ _, HPU.out.2⟩
        · have c4' : ¬ (4 : Int) < ((xs.length + 1 : Nat) : Int) := by simp at c4; omega
          have HG : Hid (¬ 4 < (xs ++ [(⟨esh, eho, esl, ece⟩ : En)]).length) := c4
          have HLX : Hid ((xs ++ [(⟨esh, eho, esl, ece⟩ : En)]).length = xs.length + 1) := by show (_ : Nat) = _; simp
          have HOS : Hid (∀ s2 : Int, OwnR encE 4 26 w.heap.size (stS w6 (w.heap.size + 1 + 1) s2 (.slice (some ⟨g6, 0, none⟩) (xs.length + 1) cap6)) (.slice (some ⟨g6, 0, none⟩) (xs.length + 1) cap6) (xs ++ [⟨esh, eho, esl, ece⟩])) := fun s2 => lr_own HR6.out HOW.out s2 _
          clear c4
          by_cases c1 : 1 < xs.length + 1 ∨ st = 2
          · have HG1 : Hid (1 < xs.length + 1 ∨ st = 2) := c1
            have HPU : Hid (BxS (stS w6 (w.heap.size + 1 + 1) 2 (.slice (some ⟨g6, 0, none⟩) (xs.length + 1) cap6)) (w.heap.size + 1 + 1) 2 (.slice (some ⟨g6, 0, none⟩) (xs.length + 1) cap6) ∧ Below w.heap.size w (stS w6 (w.heap.size + 1 + 1) 2 (.slice (some ⟨g6, 0, none⟩) (xs.length + 1) cap6))) := ⟨HR6.out.put _ _, stS_below HBW.out (by omega) _ _⟩
            clear HR6 HBW HOW c1
            by_cases c5 : 1 < xs.length + 1
            · have c5' : (1 : Int) < ((xs.length + 1 : Nat) : Int) := by omega
              clear c5
              go_wp2_with fail
              refine bodyPost_ret (res1 rfl _ _ (w.heap.size + 1 + 1) 24 _ (0, 0) _ rfl HPU.out.1 Try.underlying24 rfl (by kernel_rfl)) rfl ?_
              rw [HP.out, if_neg c3, if_neg HG.out, HLX.out, if_pos HG1.out]
              exact ⟨_, rfl, HOS.out _, HPU.out.2⟩
            · have c5' : ¬ (1 : Int) < ((xs.length + 1 : Nat) : Int) := by omega
              have c2 : st = 2 := HG1.out.resolve_left c5
              subst c2
              clear c5
              go_wp2_with fail
              refine bodyPost_ret (res1 rfl _ _ (w.heap.size + 1 + 1) 24 _ (0, 0) _ rfl HPU.out.1 Try.underlying24 rfl (by kernel_rfl)) rfl ?_
              rw [HP.out, if_neg c3, if_neg HG.out, HLX.out, if_pos HG1.out]
              exact ⟨_, rfl, HOS.out _, HPU.out.2⟩
          · have HG1 : Hid (¬ (1 < xs.length + 1 ∨ st = 2)) := c1
            have HPU : Hid (BxS (stS w6 (w.heap.size + 1 + 1) 1 (.slice (some ⟨g6, 0, none⟩) (xs.length + 1) cap6)) (w.heap.size + 1 + 1) 1 (.slice (some ⟨g6, 0, none⟩) (xs.length + 1) cap6) ∧ Below w.heap.size w (stS w6 (w.heap.size + 1 + 1) 1 (.slice (some ⟨g6, 0, none⟩) (xs.length + 1) cap6))) := ⟨HR6.out.put _ _, stS_below HBW.out (by omega) _ _⟩
            have c5' : ¬ (1 : Int) < ((xs.length + 1 : Nat) : Int) := by omega
            have c2 : (st == (2 : Int)) = false := by simpa using (fun q => c1 (Or.inr q))
            clear HR6 HBW HOW c1
            go_wp2_with fail
            refine bodyPost_ret (res1 rfl _ _ (w.heap.size + 1 + 1) 24 _ (0, 0) _ rfl HPU.out.1 Try.underlying24 rfl (by kernel_rfl)) rfl ?_
            rw [HP.out, if_neg c3, if_neg HG.out, HLX.out, if_neg HG1.out]
            exact ⟨_, rfl, HOS.out _, HPU.out.2⟩
end Go.Proofs.Ytfhdmglfpkmjbaa.Hp
