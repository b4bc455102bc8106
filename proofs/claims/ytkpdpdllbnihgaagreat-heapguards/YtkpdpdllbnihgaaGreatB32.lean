/- CO, VG -/
import Derived.Test.YtkpdpdllbnihgaaGreatB8
import Derived.Test.YtkpdpdllbnihgaaGreatB29
import Derived.Test.YtkpdpdllbnihgaaGreatHY
import Derived.BigQuiet
set_option linter.unusedVariables false
set_option linter.unusedSimpArgs false
set_option maxRecDepth 100000
set_option maxHeartbeats 40000000
/- Make. -/
namespace Go.Proofs.YtkpdpdllbnihgaaGreat.Ce
open Go.RowKit Go.Proofs.YtkpdpdllbnihgaaGreat.Hp
set_option maxRecDepth 100000 in
set_option maxHeartbeats 4000000 in
theorem make_low (w : World) (B cb : Nat) (O : Nat → Prop) (l : List Cel) (E : List En) (v : Value) (h : CsAt w B cb O E v) (hr : Rl E l) (hi : Inv l) (ht : l.length + 1 ≤ top) (on : Int) (hv : validOn l on = true → on = -1) :
    Calls Tryz.prog 59 #[.pointer (some ⟨cb, 0, none⟩), .int .i64 on] w fun e w' => e = .returned (.int .i64 (l.length : Int)) ∧ Went w B cb O (makeD l on) w' := by
  have kv := valid_at w B cb O E v h on
  have hlen := hr.len
  have HM : Hid (Rl (E ++ [⟨validOn l on, 0, 0⟩]) (makeD l on) ∧ Inv (makeD l on) ∧ (makeD l on).length ≤ top) := ⟨rl_make_low hr on hv, inv_make hi on, by unfold makeD; rw [List.length_append]; exact ht⟩
  obtain ⟨ad, cap, rfl, c0, h1, h2⟩ := h.len
  have HC0 : Hid (CsAt w B cb O E (.slice ad E.length cap)) := h
  have hno : ∀ b, O b → b < w.heap.size := fun b hb => (h.lt b hb).2
  obtain ⟨wb, hwb⟩ : ∃ wb, wb = w.alloc (.cells #[.bool (validOn l on), .int .i64 0, .int .i64 0] 141) := ⟨_, rfl⟩
  have HB : Hid (Below w.heap.size w wb) := by rw [hwb]; exact below_new (Below.refl _ _) (Nat.le_refl _) _
  have HC : Hid (CsAt wb B cb O E (.slice ad E.length cap)) := h.below HB.out
  have b0 : wb.cell? ⟨w.heap.size, 0, none⟩ = some (.bool (validOn l on)) := by rw [hwb]; exact box_new w _ 141 0 _ rfl
  have b1 : wb.cell? ⟨w.heap.size, 1, none⟩ = some (.int .i64 0) := by rw [hwb]; exact box_new w _ 141 1 _ rfl
  have b2 : wb.cell? ⟨w.heap.size, 2, none⟩ = some (.int .i64 0) := by rw [hwb]; exact box_new w _ 141 2 _ rfl
  have d0 := cells_below HB.out _ _ c0
  have HPU : Hid (∀ w5 g5 cap5, OwnR enC 3 141 B w5 (.slice (some ⟨g5, 0, none⟩) (E.length + 1) cap5) (E ++ [⟨validOn l on, 0, 0⟩]) → Chg (fun b => (Value.slice ad E.length cap).ownBlock = some b) wb w5 → ((Value.slice ad E.length cap).ownBlock = some g5 ∨ wb.heap.size ≤ g5) → Went w B cb O (makeD l on) (w5.setCell ⟨cb, 0, none⟩ (.slice (some ⟨g5, 0, none⟩) (E.length + 1) cap5))) := fun w5 g5 cap5 q1 q2 q3 => went_push (mb := 0) HC.out (Chg.of_below HB.out) HM.out.1 HM.out.2.1 HM.out.2.2 q1 q2 q3
  have HBX0 : Hid (((E.length + 1) + (E.length + 1) / 4 + 192) * 24 ≤ 281474976710656 ∧ E.length + 1 ≤ maxLen) := by
    unfold top at ht
    refine ⟨by omega, by unfold maxLen; omega⟩
  have hlim : (E.length : Int) ≤ 9223372036854775807 := by have := HBX0.out.2; unfold maxLen at this; omega
  have hvb : on ≠ -1 → vB E on = false ∧ validOn l on = false := fun q => by
    have hf : validOn l on = false := by
      cases hq : validOn l on with
      | false => rfl
      | true => exact absurd (hv hq) q
    refine ⟨?_, hf⟩
    unfold vB
    rw [hr.at']
    unfold validOn at hf
    rw [decide_eq_false q, Bool.false_or] at hf
    exact hf
  have a0 := c0
  rw [← hlen]
  clear c0
  have c0 := d0
  clear d0 HC0 h hr hi ht h1 h2 hno hlen
  by_cases c : on = -1
  · subst c
    have hvo : validOn l (-1) = true := by unfold validOn; simp
    rw [hvo] at b0 HM hwb HPU
    clear kv hvb hv hvo
    go_enter Tryz.func59, Tryz.ntmps59
    go_upto_region 5 with fail
    rw [← hwb]
    clear hwb
    go_upto_region 7 with fail
    clear HM HB a0
    generalize w.heap.size = mb at b0 b1 b2 ⊢
    generalize hwc : wb = wc at *
    clear hwc
    -- wc: the world at region 7; HC: its entries; m0..m2: the new entry
    have HAL : Hid (Below wc.heap.size wc (wc.drew.alloc (.cells #[.bool true, .int .i64 0, .int .i64 0] 141))) := ((Below.refl wc.heap.size wc).drew).alloc (Nat.le_refl _) _
    have HOW : Hid (OwnR enC 3 141 B (wc.drew.alloc (.cells #[.bool true, .int .i64 0, .int .i64 0] 141)) (.slice ad E.length cap) E) := HC.out.own.below HAL.out
    have HBB : Hid (B ≤ wc.heap.size) := by show _ ≤ _; have := (HC.out.lt cb ((HC.out.os cb).2 (Or.inl rfl))); omega
    have g1 : (wc.alloc (.cells #[.bool true, .int .i64 0, .int .i64 0] 141)).cell? ⟨cb, 0, none⟩ = some (.slice ad E.length cap) := cells_below ((Below.refl wc.heap.size wc).alloc (Nat.le_refl _) _) _ _ c0
    have htc : ¬ cb = wc.heap.size := by have := (Array.getElem?_eq_some_iff.1 HC.out.box).1; omega
    have HFZ : Hid (∀ w5, Chg (fun b => (Value.slice ad E.length cap).ownBlock = some b) wc w5 → w5.cell? ⟨cb, 0, none⟩ = some (.slice ad E.length cap) ∧ w5.frozen? ⟨cb, 0, none⟩ = false) := fun w5 h5 => ⟨h5.cell c0 (fun q => HC.out.n2 q), by
      rw [World.frozen?_of_block (w := wc) (h5.block cb (Array.getElem?_eq_some_iff.1 HC.out.box).1 (fun q => HC.out.n2 q))]; exact frozen_of_row wc cb 0 _ 114 HC.out.box⟩
    have HBX : Hid (((E.length + 1) + (E.length + 1) / 4 + 192) * 24 ≤ 281474976710656 ∧ E.length + 1 ≤ maxLen) := HBX0.out
    go_region_law ((refine step_row rtEn (by rfl) _ _ (by rfl) B (.slice ad E.length cap) E (by rfl) (by exact HOW.out) wc.heap.size ⟨true, 0, 0⟩ #[.bool true, .int .i64 0, .int .i64 0] 141 (by rfl) (by exact at_new _ _) (by rfl) (by exact HBX.out.2) (by exact HBX.out.1) (by exact Nat.le_trans HBB.out HAL.out.size) ?_; intro g5 cap5 w5 ho5 hg5 hl5; have HO : Hid (OwnR enC 3 141 B w5 (.slice (some ⟨g5, 0, none⟩) (E.length + 1) cap5) (E ++ [⟨true, 0, 0⟩]) ∧ Chg (fun b => (Value.slice ad E.length cap).ownBlock = some b) wc w5 ∧ ((Value.slice ad E.length cap).ownBlock = some g5 ∨ wc.heap.size ≤ g5)) := ⟨ho5, (Chg.of_below HAL.out).trans (Chg.of_grown (S := fun b => (Value.slice ad E.length cap).ownBlock = some b) hg5 (fun k q => q)) (fun _ _ q => q), hl5.imp id (fun q => by rw [q]; exact HAL.out.size)⟩; obtain ⟨z1, z2⟩ := HFZ.out w5 HO.out.2.1; clear ho5 hg5 hl5))
    all_goals
      have hW := HPU.out w5 g5 cap5 HO.out.1 HO.out.2.1 HO.out.2.2
      have HWW := (show Hid _ from hW)
      clear hW HO HFZ HOW HBB HAL HC HPU g1 z1 z2
      go_wp2_with fail
      go_ret
      exact ⟨rfl, by first | exact HWW.out | exact HWW.out.drew⟩
  · have hvo := (hvb c).2
    rw [(hvb c).1] at kv
    rw [hvo] at b0 HM hwb HPU
    have c' : (on == -1) = false := by simpa using c
    clear hvb hv hvo
    go_enter Tryz.func59, Tryz.ntmps59
    go_wp2_with fail
    refine kv.mono ?_
    rintro e w2 ⟨rfl, rfl⟩
    clear kv
    go_upto_region 5 with fail
    rw [← hwb]
    clear hwb
    go_upto_region 7 with fail
    clear HM HB a0
    generalize w2.heap.size = mb at b0 b1 b2 ⊢
    generalize hwc : wb = wc at *
    clear hwc
    -- wc: the world at region 7; HC: its entries; m0..m2: the new entry
    have HAL : Hid (Below wc.heap.size wc (wc.drew.alloc (.cells #[.bool false, .int .i64 0, .int .i64 0] 141))) := ((Below.refl wc.heap.size wc).drew).alloc (Nat.le_refl _) _
    have HOW : Hid (OwnR enC 3 141 B (wc.drew.alloc (.cells #[.bool false, .int .i64 0, .int .i64 0] 141)) (.slice ad E.length cap) E) := HC.out.own.below HAL.out
    have HBB : Hid (B ≤ wc.heap.size) := by show _ ≤ _; have := (HC.out.lt cb ((HC.out.os cb).2 (Or.inl rfl))); omega
    have g1 : (wc.alloc (.cells #[.bool false, .int .i64 0, .int .i64 0] 141)).cell? ⟨cb, 0, none⟩ = some (.slice ad E.length cap) := cells_below ((Below.refl wc.heap.size wc).alloc (Nat.le_refl _) _) _ _ c0
    have htc : ¬ cb = wc.heap.size := by have := (Array.getElem?_eq_some_iff.1 HC.out.box).1; omega
    have HFZ : Hid (∀ w5, Chg (fun b => (Value.slice ad E.length cap).ownBlock = some b) wc w5 → w5.cell? ⟨cb, 0, none⟩ = some (.slice ad E.length cap) ∧ w5.frozen? ⟨cb, 0, none⟩ = false) := fun w5 h5 => ⟨h5.cell c0 (fun q => HC.out.n2 q), by
      rw [World.frozen?_of_block (w := wc) (h5.block cb (Array.getElem?_eq_some_iff.1 HC.out.box).1 (fun q => HC.out.n2 q))]; exact frozen_of_row wc cb 0 _ 114 HC.out.box⟩
    have HBX : Hid (((E.length + 1) + (E.length + 1) / 4 + 192) * 24 ≤ 281474976710656 ∧ E.length + 1 ≤ maxLen) := HBX0.out
    go_region_law ((refine step_row rtEn (by rfl) _ _ (by rfl) B (.slice ad E.length cap) E (by rfl) (by exact HOW.out) wc.heap.size ⟨false, 0, 0⟩ #[.bool false, .int .i64 0, .int .i64 0] 141 (by rfl) (by exact at_new _ _) (by rfl) (by exact HBX.out.2) (by exact HBX.out.1) (by exact Nat.le_trans HBB.out HAL.out.size) ?_; intro g5 cap5 w5 ho5 hg5 hl5; have HO : Hid (OwnR enC 3 141 B w5 (.slice (some ⟨g5, 0, none⟩) (E.length + 1) cap5) (E ++ [⟨false, 0, 0⟩]) ∧ Chg (fun b => (Value.slice ad E.length cap).ownBlock = some b) wc w5 ∧ ((Value.slice ad E.length cap).ownBlock = some g5 ∨ wc.heap.size ≤ g5)) := ⟨ho5, (Chg.of_below HAL.out).trans (Chg.of_grown (S := fun b => (Value.slice ad E.length cap).ownBlock = some b) hg5 (fun k q => q)) (fun _ _ q => q), hl5.imp id (fun q => by rw [q]; exact HAL.out.size)⟩; obtain ⟨z1, z2⟩ := HFZ.out w5 HO.out.2.1; clear ho5 hg5 hl5))
    all_goals
      have hW := HPU.out w5 g5 cap5 HO.out.1 HO.out.2.1 HO.out.2.2
      have HWW := (show Hid _ from hW)
      clear hW HO HFZ HOW HBB HAL HC HPU g1 z1 z2
      go_wp2_with fail
      go_ret
      exact ⟨rfl, by first | exact HWW.out | exact HWW.out.drew⟩
set_option maxRecDepth 100000 in
set_option maxHeartbeats 4000000 in
theorem make_on (w : World) (B cb : Nat) (O : Nat → Prop) (l : List Cel) (E : List En) (v : Value) (h : CsAt w B cb O E v) (hr : Rl E l) (hi : Inv l) (ht : l.length + 1 ≤ top) (j : Nat) (hj : okAt l j = true) :
    Calls Tryz.prog 59 #[.pointer (some ⟨cb, 0, none⟩), .int .i64 (j : Int)] w fun e w' => e = .returned (.int .i64 (l.length : Int)) ∧ Went w B cb O (makeD l (j : Int)) w' := by
  have kv := valid_at w B cb O E v h (j : Int)
  have hvt : vB E (j : Int) = true := by
    unfold vB
    rw [hr.at', Int.toNat_natCast, hj]
    simp
  rw [hvt] at kv
  have hlen := hr.len
  have hjl : j < E.length := by rw [hlen]; exact ok_lt hj
  have hex : ∃ e, E[j]? = some e := ⟨_, List.getElem?_eq_getElem hjl⟩
  obtain ⟨e, he⟩ := hex
  have HM : Hid (Rl (E.set j ⟨e.ok, (E.length : Int), e.bes⟩ ++ [⟨true, 0, e.top⟩]) (makeD l j) ∧ Inv (makeD l j) ∧ (makeD l j).length ≤ top) := ⟨rl_make_on hr j e he hj, inv_make hi j, by unfold makeD; rw [List.length_append]; exact ht⟩
  obtain ⟨g, cap, rfl, hrow⟩ := h.row hjl
  have HC0 : Hid (CsAt w B cb O E (.slice (some ⟨g, 0, none⟩) E.length cap)) := h
  have a0 := hrow.c0
  obtain ⟨wb, hwb⟩ : ∃ wb, wb = w.alloc (.cells #[.bool true, .int .i64 0, .int .i64 0] 141) := ⟨_, rfl⟩
  have HB : Hid (Below w.heap.size w wb) := by rw [hwb]; exact below_new (Below.refl _ _) (Nat.le_refl _) _
  have HCb : Hid (CsAt wb B cb O E (.slice (some ⟨g, 0, none⟩) E.length cap)) := h.below HB.out
  have hbk : wb.heap[w.heap.size]? = some (.cells #[.bool true, .int .i64 0, .int .i64 0] 141 (0, 0)) := by rw [hwb]; exact at_new _ _
  have b0 : wb.cell? ⟨w.heap.size, 0, none⟩ = some (.bool true) := by rw [hwb]; exact box_new w _ 141 0 _ rfl
  have b1 : wb.cell? ⟨w.heap.size, 1, none⟩ = some (.int .i64 0) := by rw [hwb]; exact box_new w _ 141 1 _ rfl
  have b2 : wb.cell? ⟨w.heap.size, 2, none⟩ = some (.int .i64 0) := by rw [hwb]; exact box_new w _ 141 2 _ rfl
  have f2 := frozen_of_row wb w.heap.size 2 _ 141 hbk
  have hgl : g < w.heap.size := hrow.lt
  have hgn : ¬ g = w.heap.size := by omega
  have hgn' : ¬ w.heap.size = g := by omega
  have hcn : ¬ cb = w.heap.size := by have := (Array.getElem?_eq_some_iff.1 h.box).1; omega
  have hcg : ¬ g = cb := hrow.ne
  obtain ⟨g', cap', eg, hrb⟩ := HCb.out.row hjl
  cases eg
  have d0 := hrb.c0
  have d1 := (hrb.at' j e he).2.1
  have f1 := hrb.fr (j * 3 + 1) (by omega)
  have HST : Hid (CsAt ((wb.setCell ⟨w.heap.size, 2, none⟩ (.int .i64 e.top)).setCell ⟨g, j * 3 + 1, none⟩ (.int .i64 (E.length : Int))) B cb O (E.set j ⟨e.ok, (E.length : Int), e.bes⟩) (.slice (some ⟨g, 0, none⟩) E.length cap) ∧ ((wb.setCell ⟨w.heap.size, 2, none⟩ (.int .i64 e.top)).setCell ⟨g, j * 3 + 1, none⟩ (.int .i64 (E.length : Int))).heap[w.heap.size]? = some (.cells #[.bool true, .int .i64 0, .int .i64 e.top] 141 (0, 0)) ∧ Chg O w ((wb.setCell ⟨w.heap.size, 2, none⟩ (.int .i64 e.top)).setCell ⟨g, j * 3 + 1, none⟩ (.int .i64 (E.length : Int)))) := by
    have hO : O g := (h.os g).2 (Or.inr rfl)
    have hno : ¬ O w.heap.size := fun q => by have := (h.lt _ q).2; omega
    have k1 : CsAt (wb.setCell ⟨w.heap.size, 2, none⟩ (.int .i64 e.top)) B cb O E (.slice (some ⟨g, 0, none⟩) E.length cap) := HCb.out.kept (S := fun b => b = w.heap.size) (Chg.set wb _ _ rfl) (fun b q r => by subst r; exact hno q)
    refine ⟨k1.put he (by omega) rfl, ?_, ?_⟩
    · rw [Below.heap_setCell _ _ _ _ hgn']
      exact heap_setCell_same wb w.heap.size 2 _ 141 _ hbk
    · exact ((Chg.of_below (S := O) HB.out).trans (Chg.set (S := fun b => b = w.heap.size) wb ⟨w.heap.size, 2, none⟩ _ rfl) (fun i hi q => by subst q; omega)).trans (Chg.set (S := O) _ ⟨g, j * 3 + 1, none⟩ _ hO) (fun _ _ q => q)
  have HBX0 : Hid (((E.length + 1) + (E.length + 1) / 4 + 192) * 24 ≤ 281474976710656 ∧ E.length + 1 ≤ maxLen) := by
    unfold top at ht
    refine ⟨by omega, by unfold maxLen; omega⟩
  have hlim : (E.length : Int) ≤ 9223372036854775807 := by have := HBX0.out.2; unfold maxLen at this; omega
  have hjL : (j : Int) < E.length := by omega
  have hjne : ((j : Int) == -1) = false := by simp
  have hjn2 : ((j : Int) != -1) = true := by simp
  rw [← hlen]
  clear HC0 h hr hi ht hrow hrb hlen hj hvt hbk HCb
  obtain ⟨eo, et, eb⟩ := e
  simp only at *
  clear he
  go_enter Tryz.func59, Tryz.ntmps59
  go_wp2_with fail
  refine kv.mono ?_
  rintro e w2 ⟨rfl, rfl⟩
  clear kv
  go_upto_region 5 with fail
  rw [← hwb]
  clear hwb
  go_wp2_with fail
  go_region
  go_upto_region 7 with fail
  generalize hwq : ((wb.setCell ⟨w2.heap.size, 2, none⟩ (.int .i64 et)).setCell ⟨g, j * 3 + 1, none⟩ (.int .i64 (E.length : Int))) = wq at *
  have hC : CsAt wq.drew B cb O (E.set j ⟨eo, (E.length : Int), eb⟩) (.slice (some ⟨g, 0, none⟩) E.length cap) := HST.out.1.below (Below.refl _ _).drew
  have hM : wq.drew.heap[w2.heap.size]? = some (.cells #[.bool true, .int .i64 0, .int .i64 et] 141 (0, 0)) := HST.out.2.1
  have HG : Hid (Chg O w2 wq.drew) := HST.out.2.2.drew
  clear hwq HST HB b0 b1 b2 f2 d0 d1 f1 a0
  generalize wq.drew = wc at *
  obtain ⟨E1, hE1⟩ : ∃ E1, E1 = E.set j ⟨eo, (E.length : Int), eb⟩ := ⟨_, rfl⟩
  have hl1 : E.length = E1.length := by rw [hE1]; simp
  have HL1 : Hid (E.length = E1.length) := hl1
  rw [← hE1] at hC HM
  rw [hl1] at hC HBX0 hlim hjL ⊢
  have HC : Hid (CsAt wc B cb O E1 (.slice (some ⟨g, 0, none⟩) E1.length cap)) := hC
  have c0 : wc.cell? ⟨cb, 0, none⟩ = some (.slice (some ⟨g, 0, none⟩) E1.length cap) := by rw [cell_of_row wc cb 0 _ 114 (0, 0) hC.box]; rfl
  have b0 : wc.cell? ⟨w2.heap.size, 0, none⟩ = some (.bool true) := by rw [cell_of_row wc _ 0 _ 141 (0, 0) hM]; rfl
  have b1 : wc.cell? ⟨w2.heap.size, 1, none⟩ = some (.int .i64 0) := by rw [cell_of_row wc _ 1 _ 141 (0, 0) hM]; rfl
  have b2 : wc.cell? ⟨w2.heap.size, 2, none⟩ = some (.int .i64 et) := by rw [cell_of_row wc _ 2 _ 141 (0, 0) hM]; rfl
  have HPU : Hid (∀ w5 g5 cap5, OwnR enC 3 141 B w5 (.slice (some ⟨g5, 0, none⟩) (E1.length + 1) cap5) (E1 ++ [⟨true, 0, et⟩]) → Chg (fun b => (Value.slice (some ⟨g, 0, none⟩) E1.length cap).ownBlock = some b) wc w5 → ((Value.slice (some ⟨g, 0, none⟩) E1.length cap).ownBlock = some g5 ∨ wc.heap.size ≤ g5) → Went w2 B cb O (makeD l (j : Int)) (w5.setCell ⟨cb, 0, none⟩ (.slice (some ⟨g5, 0, none⟩) (E1.length + 1) cap5))) := fun w5 g5 cap5 q1 q2 q3 => went_push (mb := 0) HC.out HG.out HM.out.1 HM.out.2.1 HM.out.2.2 q1 q2 q3
  clear hC hE1 hl1 hM HM HG hjL hjne hjn2 hgn hgn' hcn hcg hgl
  generalize w2.heap.size = mb at b0 b1 b2 ⊢
  -- wc: the world at region 7; HC: its entries; m0..m2: the new entry
  have HAL : Hid (Below wc.heap.size wc (wc.drew.alloc (.cells #[.bool true, .int .i64 0, .int .i64 et] 141))) := ((Below.refl wc.heap.size wc).drew).alloc (Nat.le_refl _) _
  have HOW : Hid (OwnR enC 3 141 B (wc.drew.alloc (.cells #[.bool true, .int .i64 0, .int .i64 et] 141)) (.slice (some ⟨g, 0, none⟩) E1.length cap) E1) := HC.out.own.below HAL.out
  have HBB : Hid (B ≤ wc.heap.size) := by show _ ≤ _; have := (HC.out.lt cb ((HC.out.os cb).2 (Or.inl rfl))); omega
  have g1 : (wc.alloc (.cells #[.bool true, .int .i64 0, .int .i64 et] 141)).cell? ⟨cb, 0, none⟩ = some (.slice (some ⟨g, 0, none⟩) E1.length cap) := cells_below ((Below.refl wc.heap.size wc).alloc (Nat.le_refl _) _) _ _ c0
  have htc : ¬ cb = wc.heap.size := by have := (Array.getElem?_eq_some_iff.1 HC.out.box).1; omega
  have HFZ : Hid (∀ w5, Chg (fun b => (Value.slice (some ⟨g, 0, none⟩) E1.length cap).ownBlock = some b) wc w5 → w5.cell? ⟨cb, 0, none⟩ = some (.slice (some ⟨g, 0, none⟩) E1.length cap) ∧ w5.frozen? ⟨cb, 0, none⟩ = false) := fun w5 h5 => ⟨h5.cell c0 (fun q => HC.out.n2 q), by
    rw [World.frozen?_of_block (w := wc) (h5.block cb (Array.getElem?_eq_some_iff.1 HC.out.box).1 (fun q => HC.out.n2 q))]; exact frozen_of_row wc cb 0 _ 114 HC.out.box⟩
  have HBX : Hid (((E1.length + 1) + (E1.length + 1) / 4 + 192) * 24 ≤ 281474976710656 ∧ E1.length + 1 ≤ maxLen) := HBX0.out
  go_region_law ((refine step_row rtEn (by rfl) _ _ (by rfl) B (.slice (some ⟨g, 0, none⟩) E1.length cap) E1 (by rfl) (by exact HOW.out) wc.heap.size ⟨true, 0, et⟩ #[.bool true, .int .i64 0, .int .i64 et] 141 (by rfl) (by exact at_new _ _) (by rfl) (by exact HBX.out.2) (by exact HBX.out.1) (by exact Nat.le_trans HBB.out HAL.out.size) ?_; intro g5 cap5 w5 ho5 hg5 hl5; have HO : Hid (OwnR enC 3 141 B w5 (.slice (some ⟨g5, 0, none⟩) (E1.length + 1) cap5) (E1 ++ [⟨true, 0, et⟩]) ∧ Chg (fun b => (Value.slice (some ⟨g, 0, none⟩) E1.length cap).ownBlock = some b) wc w5 ∧ ((Value.slice (some ⟨g, 0, none⟩) E1.length cap).ownBlock = some g5 ∨ wc.heap.size ≤ g5)) := ⟨ho5, (Chg.of_below HAL.out).trans (Chg.of_grown (S := fun b => (Value.slice (some ⟨g, 0, none⟩) E1.length cap).ownBlock = some b) hg5 (fun k q => q)) (fun _ _ q => q), hl5.imp id (fun q => by rw [q]; exact HAL.out.size)⟩; obtain ⟨z1, z2⟩ := HFZ.out w5 HO.out.2.1; clear ho5 hg5 hl5))
  all_goals
    have hW := HPU.out w5 g5 cap5 HO.out.1 HO.out.2.1 HO.out.2.2
    have HWW := (show Hid _ from hW)
    clear hW HO HFZ HOW HBB HAL HC HPU g1 z1 z2
    go_wp2_with fail
    go_ret
    exact ⟨by rw [HL1.out]; rfl, by first | exact HWW.out | exact HWW.out.drew⟩
/-- Make -/
theorem make_any (w : World) (B cb : Nat) (O : Nat → Prop) (l : List Cel) (h : Cs w B cb O l) (ht : l.length + 1 ≤ top) (on : Int) :
    Calls Tryz.prog 59 #[.pointer (some ⟨cb, 0, none⟩), .int .i64 on] w fun e w' => e = .returned (.int .i64 (l.length : Int)) ∧ Went w B cb O (makeD l on) w' := by
  obtain ⟨E, v, h1, h2, h3, h4⟩ := h
  by_cases c : validOn l on = true → on = -1
  · exact make_low w B cb O l E v h1 h2 h3 ht on c
  · have c1 : validOn l on = true := Classical.byContradiction fun q => c (fun r => absurd r q)
    have c2 : on ≠ -1 := fun q => c (fun _ => q)
    unfold validOn at c1
    rw [decide_eq_false c2, Bool.false_or, Bool.and_eq_true] at c1
    have c3 := of_decide_eq_true c1.1
    obtain ⟨j, rfl⟩ : ∃ j : Nat, on = j := ⟨on.toNat, by omega⟩
    rw [Int.toNat_natCast] at c1
    exact make_on w B cb O l E v h1 h2 h3 ht j c1.2
end Go.Proofs.YtkpdpdllbnihgaaGreat.Ce
/- Guard: the cells; the way up. -/
namespace Go.Proofs.YtkpdpdllbnihgaaGreat.Hp
open Go.RowKit
/-- those from p on upwards whose cell is not valid; the cell that is -/
def bareF (H : He) : Nat → Int → List Nat × Int
  | 0, _ => ([], -1)
  | n + 1, p => match obI H p with
    | none => ([], -1)
    | some i => match H.obs[i]? with
      | none => ([], -1)
      | some ob => if Ce.validD H.C ob.cell = true then ([], ob.cell) else (i :: (bareF H n ob.proto).1, (bareF H n ob.proto).2)
/-- a new cell for an object, on top of another one -/
def cellH (i : Nat) (s : He × Int) : He × Int := match s.1.obs[i]? with
  | none => ({ s.1 with C := Ce.makeD s.1.C s.2 }, (s.1.C.length : Int))
  | some ob => ({ s.1 with C := Ce.makeD s.1.C s.2, obs := s.1.obs.set i { ob with cell := (s.1.C.length : Int) } }, (s.1.C.length : Int))
def guardH (H : He) (p : Int) : He × Int := (bareF H H.obs.length p).1.foldr cellH (H, (bareF H H.obs.length p).2)
theorem bare_none {H : He} {p : Int} (h : obO H p = none) : ∀ n, bareF H n p = ([], -1)
  | 0 => rfl
  | n + 1 => by unfold bareF; rw [obO_none h]
theorem bare_step {H : He} {p : Int} {n i : Nat} {ob : Ob} (ho : obI H p = some i) (hi : H.obs[i]? = some ob) : bareF H (n + 1) p = if Ce.validD H.C ob.cell = true then ([], ob.cell) else (i :: (bareF H n ob.proto).1, (bareF H n ob.proto).2) := by
  rw [bareF, ho]
  simp only [hi]
theorem bare_in {H : He} : ∀ (n : Nat) (p : Int), ∀ i ∈ (bareF H n p).1, i < H.obs.length
  | 0, p, i, hi => by cases hi
  | n + 1, p, i, hi => by
    cases hq : obO H p with
    | none => rw [bare_none hq] at hi; cases hi
    | some ob =>
      obtain ⟨j, hj, hob⟩ := obO_some hq
      rw [bare_step hj hob] at hi
      split at hi
      · cases hi
      · rcases List.mem_cons.1 hi with rfl | hi
        · exact (List.getElem?_eq_some_iff.1 hob).1
        · exact bare_in n ob.proto i hi
theorem bare_len {H : He} : ∀ (n : Nat) (p : Int), (bareF H n p).1.length ≤ n
  | 0, p => Nat.le_refl _
  | n + 1, p => by
    cases hq : obO H p with
    | none => rw [bare_none hq]; simp
    | some ob =>
      obtain ⟨j, hj, hob⟩ := obO_some hq
      rw [bare_step hj hob]
      split
      · simp
      · simp only [List.length_cons]
        have := bare_len (H := H) n ob.proto
        omega
def ptC (g : Nat) (i : Nat) : List Value := [.pointer (some ⟨g, i * 12, none⟩)]
theorem rtPt (g : Nat) : RT (ptC g) 106 98 1 8 := ⟨fun _ => rfl, Tryz.underlying106, rt_inf (z := .pointer none) (by kernel_rfl) rfl, by decide, fun y u h => by simp [ptC] at h; subst h; rfl⟩
section
variable {w w' w1 : World} {B hb : Nat} {O S : Nat → Prop} {H H' : He} {M M' : HV} {tg : Nat → Nat}
/-- on the way up -/
structure GuAt (w W : World) (H : He) (g : Nat) (R : List Nat × Int) (l : List Nat) (v : Value) (p : Int) (gh : Nat) : Prop where
  o0 : 0 ≤ p
  o1 : p < 18446744073709551616
  bel : Below w.heap.size w W
  en : EndsH H gh p
  own : OwnR (ptC g) 1 98 w.heap.size W v l
  few : l.length + (bareF H gh p).1.length ≤ 65536
  eq : R = (l ++ (bareF H gh p).1, (bareF H gh p).2)
/-- a cell more -/
theorem HeapAt.celM (h : HeapAt w B hb tg H M) {Oc : Nat → Prop} {c : Int} (hO : ∀ b, Oc b → tg b = 6) (hw : Ce.Went w B M.cb Oc (Ce.makeD H.C c) w') : WentM w B hb tg { H with C := Ce.makeD H.C c } M w' := by
  obtain ⟨O', k1, k2, k3⟩ := hw
  have hc : Chg (fun b => tg b = 6) w w' := k2.mono (S' := fun b => tg b = 6) (fun b q => hO b q)
  have hbr := h.wf.br
  refine h.wentM (k0 := 6) hc (fun b _ q => by omega) ?_
  refine h.up (H' := { H with C := Ce.makeD H.C c }) (M' := M) hc (fun k => k = 6) 6 (fun b _ q => ⟨q, by omega⟩) (fun k q => ?_) (fun k O q hk => ?_) h.len ⟨h.wf.ob, h.wf.ol, h.wf.tn, h.wf.ts, h.wf.tl, h.wf.mo, ?_⟩
  · subst q
    refine ⟨O', k1, fun b q => ?_⟩
    show rtg _ _ _ _ _ = 6
    by_cases cb : b < w.heap.size
    · rw [rtg_old cb]
      rcases k3 b q with r | r
      · exact hO b r
      · omega
    · have hl : b < w'.heap.size := (k1.lt b q).2
      exact rtg_new (by omega) hl
  · match k, hk, q with
    | 0, hk, q => trivial
    | 1, hk, q => exact hk
    | 2, hk, q => exact hk
    | 3, hk, q => exact hk
    | 4, hk, q => exact hk
    | 5, hk, q => exact hk
    | 6, hk, q => exact absurd rfl q
    | k + 7, hk, q => exact hk
  · unfold Ce.makeD
    rw [List.countP_append, List.length_append]
    simp only [List.length_singleton]
    have : List.countP Ce.Cel.ok [(⟨Ce.validOn H.C c, c⟩ : Ce.Cel)] ≤ 1 := by
      have := List.countP_le_length (p := Ce.Cel.ok) (l := [(⟨Ce.validOn H.C c, c⟩ : Ce.Cel)])
      simpa using this
    omega
end
end Go.Proofs.YtkpdpdllbnihgaaGreat.Hp
