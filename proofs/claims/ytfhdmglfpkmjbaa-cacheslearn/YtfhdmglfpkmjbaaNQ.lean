/- Caches: the document's SameSite, of sites that are alike. -/
import Derived.Test.YtfhdmglfpkmjbaaNM
namespace Go.Proofs.Ytfhdmglfpkmjbaa.Hp
open Go.RowKit
set_option linter.unusedVariables false
set_option linter.unusedSimpArgs false

set_option maxRecDepth 100000 in
set_option maxHeartbeats 4000000 in
theorem same_site (st : Int) (l : List En) (a1 a2 : Option Addr) (c1 c2 : Nat) (w : World) (h1 : Sli.ok encE 4 w ⟨a1, c1, l⟩) (h2 : Sli.ok encE 4 w ⟨a2, c2, l⟩) :
    Calls Try.prog 14 #[.agg #[.int .i64 st, .slice a1 l.length c1], .agg #[.int .i64 st, .slice a2 l.length c2]] w fun r w' => r = .returned (.bool true) ∧ Below w.heap.size w w' := by
  have H1 : Hid (Sli.ok encE 4 w ⟨a1, c1, l⟩) := h1
  have H2 : Hid (Sli.ok encE 4 w ⟨a2, c2, l⟩) := h2
  have hlim : (l.length : Int) ≤ 9223372036854775807 := by have := h1.len; have := h1.cap; unfold maxLen at this; simp only at *; omega
  obtain ⟨w2, hw2⟩ : ∃ w2, w2 = (w.alloc (.cells #[.int .i64 st, .slice a1 l.length c1] 24)).alloc (.cells #[.int .i64 st, .slice a2 l.length c2] 24) := ⟨_, rfl⟩
  have HB2 : Hid (Below w.heap.size w w2) := by rw [hw2]; exact B2 w _ _
  have HBT : Hid (BxS w2 (w.heap.size + 1) st (.slice a2 l.length c2)) := by rw [hw2]; exact at_two _ _ _
  have HBS : Hid (BxS w2 w.heap.size st (.slice a1 l.length c1)) := by rw [hw2]; exact at_old _ _ _ _ (at_new _ _)
  obtain ⟨s0, s1⟩ := HBS.out.ce
  obtain ⟨t0, t1⟩ := HBT.out.ce
  clear h1 h2
  go_enter Try.func14, Try.ntmps14
  go_upto_region 1 with fail
  rw [← hw2]
  clear hw2
  go_wp2_with fail
  go_loopw [5] (fun p wr => ∃ i : Nat, i ≤ l.length ∧ Hid (Below w2.heap.size w2 wr) ∧ p = .int .i64 (i : Int)) (fun p wr => ((l.length : Int) - intOf p).toNat)
  case atStart => exact ⟨0, Nat.zero_le _, Below.refl _ _, rfl⟩
  case round =>
    clear s0 s1 t0 t1
    obtain ⟨i, hi, hbr, rfl⟩ := hrel
    obtain ⟨s0, s1⟩ := (HBS.out.below hbr.out).ce
    obtain ⟨t0, t1⟩ := (HBT.out.below hbr.out).ce
    have HBR : Hid (Below w.heap.size w wr) := HB2.out.trans (hbr.out.mono HB2.out.size)
    by_cases c : i < l.length
    · have hex : ∃ e, l[i]? = some e := ⟨_, List.getElem?_eq_getElem c⟩
      obtain ⟨e, he⟩ := hex
      obtain ⟨b, off, hb1, hen⟩ := sli_en (H1.out.kept (cells_below HBR.out)) he
      obtain ⟨b', off', hb1', hen'⟩ := sli_en (H2.out.kept (cells_below HBR.out)) he
      simp only at hb1 hb1'
      subst hb1 hb1'
      have hii : (i : Int) < (l.length : Int) := by omega
      have hii2 : decide ((i : Int) < (l.length : Int)) = true := decide_eq_true hii
      have hw1 : IntKind.i64.wrap ((i : Int) + 1) = ((i + 1 : Nat) : Int) := by rw [IntKind.wrap_i64]; omega
      have HI : Hid (i < l.length) := c
      obtain ⟨x0, x1, x2, x3⟩ := hen
      obtain ⟨y0, y1, y2, y3⟩ := hen'
      obtain ⟨esh, eho, esl, ece⟩ := e
      simp only at x0 x1 x2 x3 y0 y1 y2 y3
      clear he hi
      go_upto_region 6 with fail
      go_region_held (fun W => W.cell? ⟨w.heap.size, 1, none⟩ = some (.slice (some ⟨b, off, none⟩) l.length c1) ∧ W.cell? ⟨w.heap.size + 1, 1, none⟩ = some (.slice (some ⟨b', off', none⟩) l.length c2) ∧ W.cell? ⟨b, off + i * 4, none⟩ = some (.int .i64 esh) ∧ W.cell? ⟨b, off + i * 4 + 1, none⟩ = some (.int .i64 eho) ∧ W.cell? ⟨b, off + i * 4 + 2, none⟩ = some (.int .i64 esl) ∧ W.cell? ⟨b, off + i * 4 + 3, none⟩ = some (.int .i64 ece) ∧ W.cell? ⟨b', off' + i * 4, none⟩ = some (.int .i64 esh) ∧ W.cell? ⟨b', off' + i * 4 + 1, none⟩ = some (.int .i64 eho) ∧ W.cell? ⟨b', off' + i * 4 + 2, none⟩ = some (.int .i64 esl) ∧ W.cell? ⟨b', off' + i * 4 + 3, none⟩ = some (.int .i64 ece)) (go_keep) (fail)
      go_wp2_with fail
      refine ⟨⟨i + 1, HI.out, hbr.out.drew, rfl⟩, ?_⟩
      have := HI.out
      simp [intOf]
      omega
    · have hii2 : ¬ ((i : Int) < (l.length : Int)) := by omega
      go_wp2_with fail
      go_ret
      exact ⟨rfl, HBR.out⟩
end Go.Proofs.Ytfhdmglfpkmjbaa.Hp
