/- Caches: the document's Find. -/
import Derived.Test.YtfhdmglfpkmjbaaNM
namespace Go.Proofs.Ytfhdmglfpkmjbaa.Hp
open Go.RowKit
set_option linter.unusedVariables false
set_option linter.unusedSimpArgs false

set_option maxRecDepth 100000 in
set_option maxHeartbeats 4000000 in
theorem rfind_any (m : Sli En) (mv : Sli Int) (st sh : Int) (w : World) (hm : m.ok encE 4 w) (hv : mv.ok iC 1 w) :
    Calls Try.prog 12 #[.agg #[.int .i64 st, m.val], .int .i64 sh, mv.val] w fun r w' => r = .returned (fvE (fndE (inB mv.xs) sh m.xs)) ∧ Below w.heap.size w w' := by
  have HM : Hid (m.ok encE 4 w) := hm
  have HV : Hid (∀ (c : Int) (W : World), Below w.heap.size w W → Calls Try.prog 10 #[mv.val, .int .i64 c] W fun e w' => e = .returned (.bool (inB mv.xs c)) ∧ w' = W) := fun c W hb => in_any mv c W (hv.kept (cells_below hb))
  obtain ⟨ad, cp, l⟩ := m
  have hlim : (l.length : Int) ≤ 9223372036854775807 := by have := hm.len; have := hm.cap; unfold maxLen at this; simp only at *; omega
  unfold Sli.val at HV ⊢
  simp only
  generalize mv.at' = va at *
  generalize mv.cap = vc at *
  generalize mv.xs = vl at *
  obtain ⟨w2, hw2⟩ : ∃ w2, w2 = (w.alloc (.cells #[.int .i64 st, .slice ad l.length cp] 24)).alloc (.cells #[.int .i64 0, .int .i64 0, .int .i64 0, .int .i64 0] 26) := ⟨_, rfl⟩
  have HB2 : Hid (Below w.heap.size w w2) := by rw [hw2]; exact B2 w _ _
  have HBX : Hid (BxE w2 (w.heap.size + 1) noE) := by rw [hw2]; exact at_two _ _ _
  have HBS : Hid (BxS w2 w.heap.size st (.slice ad l.length cp)) := by rw [hw2]; exact at_old _ _ _ _ (at_new _ _)
  clear hm hv
  go_enter Try.func12, Try.ntmps12
  go_upto_region 1 with fail
  rw [← hw2]
  clear hw2
  go_wp2_with fail
  go_loopw [8] (fun p wr => ∃ i : Nat, i ≤ l.length ∧ Hid (fndE (inB vl) sh (l.take i) = none) ∧ wr = w2 ∧ p = .int .i64 (i : Int)) (fun p wr => ((l.length : Int) - intOf p).toNat)
  case atStart => exact ⟨0, Nat.zero_le _, rfl, rfl, rfl⟩
  case round =>
    obtain ⟨i, hi, hno, rfl, rfl⟩ := hrel
    obtain ⟨s0, s1⟩ := HBS.out.ce
    by_cases c : i < l.length
    · have hex : ∃ e, l[i]? = some e := ⟨_, List.getElem?_eq_getElem c⟩
      obtain ⟨e, he⟩ := hex
      obtain ⟨b, off, hb1, hen⟩ := sli_en (HM.out.kept (cells_below HB2.out)) he
      simp only at hb1
      subst hb1
      have hii : (i : Int) < (l.length : Int) := by omega
      have hii2 : decide ((i : Int) < (l.length : Int)) = true := decide_eq_true hii
      have hw1 : IntKind.i64.wrap ((i : Int) + 1) = ((i + 1 : Nat) : Int) := by rw [IntKind.wrap_i64]; omega
      obtain ⟨c0, c1, c2, c3⟩ := hen
      have HN1 : Hid (isE (inB vl) sh e = false → fndE (inB vl) sh (l.take (i + 1)) = none) := fun q => fnd_miss he hno.out q
      have HN2 : Hid (isE (inB vl) sh e = true → fndE (inB vl) sh l = some e) := fun q => fnd_hit he hno.out q
      have HI : Hid (i < l.length) := c
      clear he hi hno
      obtain ⟨esh, eho, esl, ece⟩ := e
      simp only at c0 c1 c2 c3
      have ki := HV.out ece wr HB2.out
      have HIE : Hid (isE (inB vl) sh ⟨esh, eho, esl, ece⟩ = ((esh == sh) && ((ece == -1) || inB vl ece))) := rfl
      generalize inB vl ece = r at *
      have hmis : ((esh == sh) && ((ece == -1) || r)) = false ∨ ((esh == sh) && ((ece == -1) || r)) = true := by cases ((esh == sh) && ((ece == -1) || r)) <;> simp
      obtain ⟨z0, z1, z2, z3⟩ := HBX.out.at'
      have zf0 := HBX.out.fz 0
      have zf1 := HBX.out.fz 1
      have zf2 := HBX.out.fz 2
      have zf3 := HBX.out.fz 3
      have HPU : Hid (BxE (stE wr (w.heap.size + 1) ⟨esh, eho, esl, ece⟩) (w.heap.size + 1) ⟨esh, eho, esl, ece⟩ ∧ Below w.heap.size w (stE wr (w.heap.size + 1) ⟨esh, eho, esl, ece⟩)) := ⟨HBX.out.put _, stE_below HB2.out (by omega) _⟩
      simp only [Nat.zero_add] at z1 z2 z3
      have HMI : Hid (((esh == sh) && ((ece == -1) || r)) = false ∨ ((esh == sh) && ((ece == -1) || r)) = true) := hmis
      clear hmis
      by_cases cs : esh = sh
      · subst cs
        by_cases cc : ece = -1
        · subst cc
          have HFD := (show Hid _ from HN2.out (by rw [HIE.out]; simp))
          clear HN1 HN2 HIE HMI
          go_wp2_with fail
          refine ki.mono ?_
          rintro ee w7 ⟨rfl, rfl⟩
          clear ki
          go_wp2_with fail
          refine bodyPost_ret (res2 rfl _ _ (w.heap.size + 1) 26 _ (0, 0) _ rfl HPU.out.1 Try.underlying26 rfl (by kernel_rfl)) rfl ?_
          rw [HFD.out]
          exact ⟨rfl, HPU.out.2⟩
        · have hcc : (ece == (-1 : Int)) = false := by simpa using cc
          cases r with
          | true =>
            have HFD := (show Hid _ from HN2.out (by rw [HIE.out]; simp))
            clear HN1 HN2 HIE HMI
            go_wp2_with fail
            refine ki.mono ?_
            rintro ee w7 ⟨rfl, rfl⟩
            clear ki
            go_wp2_with fail
            refine bodyPost_ret (res2 rfl _ _ (w.heap.size + 1) 26 _ (0, 0) _ rfl HPU.out.1 Try.underlying26 rfl (by kernel_rfl)) rfl ?_
            rw [HFD.out]
            exact ⟨rfl, HPU.out.2⟩
          | false =>
            have HFD := (show Hid _ from HN1.out (by rw [HIE.out]; simp [cc]))
            clear HN1 HN2 HIE HMI
            go_wp2_with fail
            refine ki.mono ?_
            rintro ee w7 ⟨rfl, rfl⟩
            clear ki
            go_wp2_with fail
            refine ⟨⟨i + 1, HI.out, HFD, trivial, rfl⟩, ?_⟩
            have := HI.out
            simp [intOf]
            omega
      · have hsh : (esh == sh) = false := by simpa using cs
        have HFD := (show Hid _ from HN1.out (by rw [HIE.out]; simp [cs]))
        clear HN1 HN2 HIE HMI
        go_wp2_with fail
        refine ki.mono ?_
        rintro ee w7 ⟨rfl, rfl⟩
        clear ki
        go_wp2_with fail
        refine ⟨⟨i + 1, HI.out, HFD, trivial, rfl⟩, ?_⟩
        have := HI.out
        simp [intOf]
        omega
    · have hii2 : ¬ ((i : Int) < (l.length : Int)) := by omega
      have hil : i = l.length := by omega
      subst hil
      rw [List.take_length] at hno
      obtain ⟨z0, z1, z2, z3⟩ := HBX.out.at'
      have zf0 := HBX.out.fz 0
      have zf1 := HBX.out.fz 1
      have zf2 := HBX.out.fz 2
      have zf3 := HBX.out.fz 3
      simp only [Nat.zero_add] at z1 z2 z3
      have HPU : Hid (BxE (stE wr (w.heap.size + 1) noE) (w.heap.size + 1) noE ∧ Below w.heap.size w (stE wr (w.heap.size + 1) noE)) := ⟨HBX.out.put _, stE_below HB2.out (by omega) _⟩
      go_wp2_with fail
      refine bodyPost_ret (res2 rfl _ _ (w.heap.size + 1) 26 _ (0, 0) _ rfl HPU.out.1 Try.underlying26 rfl (by kernel_rfl)) rfl ?_
      rw [hno.out]
      exact ⟨rfl, HPU.out.2⟩
end Go.Proofs.Ytfhdmglfpkmjbaa.Hp
