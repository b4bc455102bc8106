/- The document's Make. -/
import Derived.Test.YtjahkjkkjccmgaaCN
namespace Go.Proofs.Ytjahkjkkjccmgaa.Ce
open Go.RowKit
set_option linter.unusedVariables false

section
variable {β : Type} {enc : β → List Value} {k : Nat} {e : TypeId} {B : Nat}

/-- what is read of a row of one's own -/
theorem OwnR.read {w : World} {g n cap : Nat} {xs : List β} (hk : ∀ y, (enc y).length = k) (h : OwnR enc k e B w (.slice (some ⟨g, 0, none⟩) n cap) xs) :
    n = xs.length ∧ B ≤ g ∧ g < w.heap.size ∧ xs.length ≤ cap ∧ cap ≤ maxLen ∧ (∀ (i : Nat) (y : β), xs[i]? = some y → ∀ (j : Nat) (u : Value), (enc y)[j]? = some u → w.cell? ⟨g, i * k + j, none⟩ = some u) ∧ (∀ m, w.frozen? ⟨g, m, none⟩ = false) := by
  rcases h.2 with ⟨h1, h0⟩ | ⟨g', cap', cur, h1, hb, hg, hn, hc, hs, ht⟩
  · cases h1
  · cases h1
    refine ⟨rfl, hb, (Array.getElem?_eq_some_iff.1 hg).1, hn, hc, fun i y hi j u hu => ?_, fun m => frozen_of_row w g m cur e hg⟩
    have hf := flat_at hk xs i y hi j u hu
    rw [cell_of_row w g _ cur e (0, 0) hg]
    have hl := (List.getElem?_eq_some_iff.1 hf).1
    rw [flat_len hk] at hl
    have e1 : (cur.toList.take (xs.length * k))[i * k + j]? = some u := by rw [ht]; exact hf
    rw [List.getElem?_take_of_lt hl] at e1
    simpa using e1

theorem flat_set (hk : ∀ y, (enc y).length = k) {y y' : β} {j : Nat} {u : Value} (hj : j < k) (he : enc y' = (enc y).set j u) : ∀ (xs : List β) (i : Nat), xs[i]? = some y → (xs.set i y').flatMap enc = (xs.flatMap enc).set (i * k + j) u := by
  intro xs
  induction xs with
  | nil => intro i hi; simp at hi
  | cons x xs ih =>
    intro i hi
    cases i with
    | zero =>
      simp at hi
      subst hi
      rw [List.set_cons_zero, List.flatMap_cons, List.flatMap_cons, Nat.zero_mul, Nat.zero_add, List.set_append_left _ _ (by rw [hk]; exact hj), he]
    | succ i =>
      simp at hi
      rw [List.set_cons_succ, List.flatMap_cons, List.flatMap_cons, ih i hi, List.set_append_right _ _ (by rw [hk, Nat.succ_mul]; omega)]
      congr 2
      rw [hk, Nat.succ_mul]
      omega

/-- a cell of such a row is laid anew -/
theorem OwnR.put {w : World} {g n cap : Nat} {xs : List β} (hk : ∀ y, (enc y).length = k) (h : OwnR enc k e B w (.slice (some ⟨g, 0, none⟩) n cap) xs) {i j : Nat} {y y' : β} {u : Value} (hi : xs[i]? = some y) (hj : j < k) (he : enc y' = (enc y).set j u) : OwnR enc k e B (w.setCell ⟨g, i * k + j, none⟩ u) (.slice (some ⟨g, 0, none⟩) n cap) (xs.set i y') := by
  rcases h.2 with ⟨h1, h0⟩ | ⟨g', cap', cur, h1, hb, hg, hn, hc, hs, ht⟩
  · cases h1
  · cases h1
    refine ⟨flat_len hk _, Or.inr ⟨g, cap, cur.setIfInBounds (i * k + j) u, by rw [List.length_set], hb, heap_setCell_same w g (i * k + j) cur e u hg, by rw [List.length_set]; exact hn, hc, by rw [Array.size_setIfInBounds]; exact hs, ?_⟩⟩
    rw [Array.toList_setIfInBounds, List.length_set, flat_set hk hj he xs i hi, ← ht, List.take_set]

end

set_option maxRecDepth 100000 in
set_option maxHeartbeats 4000000 in
theorem rmake_any (B : Nat) (w : World) (v : Value) (l : List Cel) (h : OwnR celC 2 34 B w v l) (ht : l.length + 1 ≤ top) (on : Int) :
    Calls Try.prog 10 #[v, .int .i64 on] w fun e w' => ∃ v', e = .returned v' ∧ OwnR celC 2 34 w.heap.size w' v' (makeD l on) ∧ Below w.heap.size w w' := by
  obtain ⟨⟨sa, sc, sx⟩, rfl, hx, hok, _⟩ := h.sl rtCel.len
  simp only at hx
  subst hx
  unfold Sli.val
  simp only
  have hl1 := hok.len
  have hl2 := hok.cap
  simp only at hl1 hl2
  have hlim : (sx.length : Int) ≤ 9223372036854775807 := by unfold maxLen at hl2; omega
  have HBX : Hid (sx.length + 1 ≤ 8796093022208) := ht
  have HOK : Hid (Sli.ok celC 2 w ⟨sa, sc, sx⟩) := hok
  have HA0 : Hid (Below w.heap.size w (w.alloc (.cells #[] 34))) := (Below.refl _ _).alloc (Nat.le_refl _) _
  have HOK0 : Hid (Sli.ok celC 2 (w.alloc (.cells #[] 34)) ⟨sa, sc, sx⟩) := hok.kept (cells_below HA0.out)
  have tl : ∀ x : Int, 0 ≤ x → x < (sx.length : Int) → ∃ b off, ∃ c : Cel, sa = some ⟨b, off, none⟩ ∧ sx[x.toNat]? = some c ∧ w.cell? ⟨b, off + x.toNat * 2, none⟩ = some (.bool c.ok) := fun x q1 q2 => by
    have hxl : x.toNat < sx.length := by omega
    obtain ⟨b, off, e1, hc⟩ := hok.cells (by intro e; simp only at e; rw [e] at hxl; simp at hxl)
    exact ⟨b, off, sx[x.toNat], e1, List.getElem?_eq_getElem hxl, hc _ _ (List.getElem?_eq_getElem hxl) 0 _ rfl⟩
  have TL := (show Hid _ from tl)
  clear h hok hl1 hl2 ht tl
  by_cases c0 : 0 ≤ on
  · by_cases c1 : on < (sx.length : Int)
    · obtain ⟨j, rfl⟩ : ∃ j : Nat, on = j := ⟨on.toNat, by omega⟩
      obtain ⟨b, off, c, rfl, hcx, hcell⟩ := TL.out j c0 c1
      rw [Int.toNat_natCast] at hcx hcell
      have HV : Hid (makeD sx (j : Int) = sx ++ [⟨c.ok, (j : Int)⟩]) := by
        show _ = _
        unfold makeD validOn
        rw [Int.toNat_natCast, hcx]
        simp
      obtain ⟨co, cn⟩ := c
      simp only at *
      clear hcx TL
      go_enter Try.func10, Try.ntmps10
      go_wp2_with (at_builtin; refine app_row rtCel rfl _ _ rfl w.heap.size (.slice (some ⟨w.heap.size, 0, none⟩) 0 0) [] rfl (empty_own (at_new _ _) (Nat.le_refl _)) ⟨some ⟨b, off, none⟩, sc, sx⟩ rfl HOK0.out ?o3 ?o4 ?o5 ?_)
      case o3 => have := HBX.out; unfold maxLen; (try simp only [List.length_nil]); omega
      case o4 => have := HBX.out; (try simp only [List.length_nil]); omega
      case o5 => exact HA0.out.size
      intro v1 w1 ho1 hg1 hl1
      have HB1 : Hid (Below w.heap.size w w1) := Chg.below (Chg.of_grown (S := fun b => b = w.heap.size) hg1 (fun k q => by simp [Value.ownBlock] at q; exact q.symm)) HA0.out HA0.out.size (fun k q => by omega)
      have HO1 : Hid (OwnR celC 2 34 w.heap.size w1 v1 sx) := ho1
      have HA1 : Hid (∀ o, Below w1.heap.size w1 (w1.alloc o)) := fun o => (Below.refl _ _).alloc (Nat.le_refl _) _
      clear ho1 hg1 hl1 hcell HOK0 HA0 HOK
      go_wp2_with (at_builtin; refine app_row rtCel rfl _ _ rfl w.heap.size v1 sx rfl (HO1.out.below (HA1.out _)) ⟨some ⟨w1.heap.size, 0, none⟩, 1, [⟨co, (j : Int)⟩]⟩ rfl (one_sli rtCel (at_new _ _) rfl) ?p3 ?p4 ?p5 ?_)
      case p3 => have := HBX.out; unfold maxLen; (try simp only [List.length_singleton]); omega
      case p4 => have := HBX.out; (try simp only [List.length_singleton]); omega
      case p5 => exact Nat.le_trans HB1.out.size (HA1.out _).size
      intro v2 w2 ho2 hg2 hl2
      have HF : Hid (OwnR celC 2 34 w.heap.size w2 v2 (makeD sx (j : Int)) ∧ Below w.heap.size w w2) := ⟨by rw [HV.out]; exact ho2, Chg.below (Chg.of_grown (S := fun b => v1.ownBlock = some b) hg2 (fun k q => q)) (HB1.out.trans ((HA1.out _).mono HB1.out.size)) (Nat.le_trans HB1.out.size (HA1.out _).size) (fun k q => (HO1.out.lt k q).1)⟩
      clear ho2 hg2 hl2 HO1 HA1 HB1 HV HBX
      go_wp2_with fail
      go_ret
      exact ⟨_, rfl, HF.out⟩
    · have hb : (on == -1) = false := by simp; omega
      have HV : Hid (makeD sx on = sx ++ [⟨false, on⟩]) := by
        show _ = _
        unfold makeD validOn
        rw [List.getElem?_eq_none (by omega)]
        simp
        omega
      clear TL
      go_enter Try.func10, Try.ntmps10
      go_wp2_with (at_builtin; refine app_row rtCel rfl _ _ rfl w.heap.size (.slice (some ⟨w.heap.size, 0, none⟩) 0 0) [] rfl (empty_own (at_new _ _) (Nat.le_refl _)) ⟨sa, sc, sx⟩ rfl HOK0.out ?o3 ?o4 ?o5 ?_)
      case o3 => have := HBX.out; unfold maxLen; (try simp only [List.length_nil]); omega
      case o4 => have := HBX.out; (try simp only [List.length_nil]); omega
      intro v1 w1 ho1 hg1 hl1
      have HB1 : Hid (Below w.heap.size w w1) := Chg.below (Chg.of_grown (S := fun b => b = w.heap.size) hg1 (fun k q => by simp [Value.ownBlock] at q; exact q.symm)) HA0.out HA0.out.size (fun k q => by omega)
      have HO1 : Hid (OwnR celC 2 34 w.heap.size w1 v1 sx) := ho1
      have HA1 : Hid (∀ o, Below w1.heap.size w1 (w1.alloc o)) := fun o => (Below.refl _ _).alloc (Nat.le_refl _) _
      clear ho1 hg1 hl1 HOK0 HA0 HOK
      go_wp2_with (at_builtin; refine app_row rtCel rfl _ _ rfl w.heap.size v1 sx rfl (HO1.out.below (HA1.out _)) ⟨some ⟨w1.heap.size, 0, none⟩, 1, [⟨false, on⟩]⟩ rfl (one_sli rtCel (at_new _ _) rfl) ?p3 ?p4 ?p5 ?_)
      case p3 => have := HBX.out; unfold maxLen; (try simp only [List.length_singleton]); omega
      case p4 => have := HBX.out; (try simp only [List.length_singleton]); omega
      case p5 => exact Nat.le_trans HB1.out.size (HA1.out _).size
      intro v2 w2 ho2 hg2 hl2
      have HF : Hid (OwnR celC 2 34 w.heap.size w2 v2 (makeD sx on) ∧ Below w.heap.size w w2) := ⟨by rw [HV.out]; exact ho2, Chg.below (Chg.of_grown (S := fun b => v1.ownBlock = some b) hg2 (fun k q => q)) (HB1.out.trans ((HA1.out _).mono HB1.out.size)) (Nat.le_trans HB1.out.size (HA1.out _).size) (fun k q => (HO1.out.lt k q).1)⟩
      clear ho2 hg2 hl2 HO1 HA1 HB1 HV HBX
      go_wp2_with fail
      go_ret
      exact ⟨_, rfl, HF.out⟩
  · have HV : Hid (makeD sx on = sx ++ [⟨on == -1, on⟩]) := by
      show _ = _
      unfold makeD validOn
      rw [decide_eq_false c0]
      simp
      rfl
    clear TL
    go_enter Try.func10, Try.ntmps10
    go_wp2_with (at_builtin; refine app_row rtCel rfl _ _ rfl w.heap.size (.slice (some ⟨w.heap.size, 0, none⟩) 0 0) [] rfl (empty_own (at_new _ _) (Nat.le_refl _)) ⟨sa, sc, sx⟩ rfl HOK0.out ?o3 ?o4 ?o5 ?_)
    case o3 => have := HBX.out; unfold maxLen; (try simp only [List.length_nil]); omega
    case o4 => have := HBX.out; (try simp only [List.length_nil]); omega
    intro v1 w1 ho1 hg1 hl1
    have HB1 : Hid (Below w.heap.size w w1) := Chg.below (Chg.of_grown (S := fun b => b = w.heap.size) hg1 (fun k q => by simp [Value.ownBlock] at q; exact q.symm)) HA0.out HA0.out.size (fun k q => by omega)
    have HO1 : Hid (OwnR celC 2 34 w.heap.size w1 v1 sx) := ho1
    have HA1 : Hid (∀ o, Below w1.heap.size w1 (w1.alloc o)) := fun o => (Below.refl _ _).alloc (Nat.le_refl _) _
    clear ho1 hg1 hl1 HOK0 HA0 HOK
    go_wp2_with (at_builtin; refine app_row rtCel rfl _ _ rfl w.heap.size v1 sx rfl (HO1.out.below (HA1.out _)) ⟨some ⟨w1.heap.size, 0, none⟩, 1, [⟨on == -1, on⟩]⟩ rfl (one_sli rtCel (at_new _ _) rfl) ?p3 ?p4 ?p5 ?_)
    case p3 => have := HBX.out; unfold maxLen; (try simp only [List.length_singleton]); omega
    case p4 => have := HBX.out; (try simp only [List.length_singleton]); omega
    case p5 => exact Nat.le_trans HB1.out.size (HA1.out _).size
    intro v2 w2 ho2 hg2 hl2
    have HF : Hid (OwnR celC 2 34 w.heap.size w2 v2 (makeD sx on) ∧ Below w.heap.size w w2) := ⟨by rw [HV.out]; exact ho2, Chg.below (Chg.of_grown (S := fun b => v1.ownBlock = some b) hg2 (fun k q => q)) (HB1.out.trans ((HA1.out _).mono HB1.out.size)) (Nat.le_trans HB1.out.size (HA1.out _).size) (fun k q => (HO1.out.lt k q).1)⟩
    clear ho2 hg2 hl2 HO1 HA1 HB1 HV HBX
    go_wp2_with fail
    go_ret
    exact ⟨_, rfl, HF.out⟩

end Go.Proofs.Ytjahkjkkjccmgaa.Ce
