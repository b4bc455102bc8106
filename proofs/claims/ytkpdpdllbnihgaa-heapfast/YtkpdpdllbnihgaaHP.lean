/- Put of a new key, as long as there is no map. -/
import Derived.Test.YtkpdpdllbnihgaaHO
namespace Go.Proofs.Ytkpdpdllbnihgaa.Hp
open Go.RowKit
set_option linter.unusedVariables false

section
variable {w w' w1 : World} {B hb : Nat} {O S : Nat → Prop} {H H' : He} {M M' : HV} {tg : Nat → Nat}

def keptD (d : De) : De := { d with fl := keptI d.fl }

set_option maxRecDepth 100000 in
set_option maxHeartbeats 4000000 in
theorem put_new (h : HeapAt w B hb tg H M) (o : Int) (o0 : 0 ≤ o) (o1 : o < 18446744073709551616) {i : Nat} {ob : Ob} (ho : obI H o = some i) (hi : H.obs[i]? = some ob) (hm : ob.hm = false) (hsh : ob.shaped = true) (k : ByteArray) (hk : k.size ≤ maxLen) (d : De) (hlen : ob.ps.length + 1 ≤ 16) (hnx : ob.next < 2000000000000) (hpl : plc ob.ps k = none) :
    Calls Try.prog 15 #[.pointer (some ⟨hb, 0, none⟩), .int .u64 o, .string k, deV d] w fun e w' => e = .returned (.tuple #[]) ∧ ∃ M', WentM w B hb tg (layH (touchH H ob.cell) i ob k (keptD d)) M' w' := by
  obtain ⟨wb, hwb⟩ : ∃ wb, wb = w.alloc (.cells #[.int .u64 d.va, .int .u64 d.se, .int .i64 d.fl] 43) := ⟨_, rfl⟩
  have hB : Below w.heap.size w wb := by rw [hwb]; exact (Below.refl _ _).alloc (Nat.le_refl _) _
  have hbx : wb.heap[w.heap.size]? = some (.cells #[.int .u64 d.va, .int .u64 d.se, .int .i64 d.fl] 43 (0, 0)) := by rw [hwb]; exact at_new _ _
  have h2 : HeapAt wb B hb tg H M := h.below hB
  obtain ⟨g, cap, ov, hvo, hov, _⟩ := h2.obj hi
  have ka := at_hit h2 o o0 o1 i g cap ho hvo
  have kt := touch_at h2 hi hvo
  have kk := fun w => kept_any w d.fl
  have htx : tg w.heap.size = 0 := by
    by_cases c : tg w.heap.size = 0
    · exact c
    · have := (h.lt _ c).2; omega
  have hxs : w.heap.size < wb.heap.size := (Array.getElem?_eq_some_iff.1 hbx).1
  have HA : Hid (∀ w2, WentM wb B hb tg (touchH H ob.cell) M w2 →
      (w2.cell? ⟨w.heap.size, 0, none⟩ = some (.int .u64 d.va) ∧ w2.cell? ⟨w.heap.size, 1, none⟩ = some (.int .u64 d.se) ∧ w2.cell? ⟨w.heap.size, 2, none⟩ = some (.int .i64 d.fl) ∧ w2.frozen? ⟨w.heap.size, 2, none⟩ = false) ∧
      ∀ w3, w3 = w2.setCell ⟨w.heap.size, 2, none⟩ (.int .i64 (keptI d.fl)) →
      (w3.cell? ⟨w.heap.size, 0, none⟩ = some (.int .u64 d.va) ∧ w3.cell? ⟨w.heap.size, 1, none⟩ = some (.int .u64 d.se) ∧ w3.cell? ⟨w.heap.size, 2, none⟩ = some (.int .i64 (keptI d.fl))) ∧
      Calls Try.prog 37 #[.pointer (some ⟨g, i * 12 + 4, none⟩), .string k] w3 (fun e w' => e = .returned (.tuple #[.int .i64 0, .bool false]) ∧ w' = w3) ∧
      Calls Try.prog 39 #[.pointer (some ⟨hb, 0, none⟩), .pointer (some ⟨g, i * 12, none⟩), .string k, .agg #[.int .u64 d.va, .int .u64 d.se, .int .i64 (keptI d.fl)]] w3 (fun e w' => e = .returned (.tuple #[]) ∧ ∃ M', WentM w B hb tg (layH (touchH H ob.cell) i ob k (keptD d)) M' w')) := fun w2 hw2 => by
    obtain ⟨tg2, p1, p2, p3⟩ := hw2
    have hbx2 : w2.heap[w.heap.size]? = some (.cells #[.int .u64 d.va, .int .u64 d.se, .int .i64 d.fl] 43 (0, 0)) := by
      rw [p2.block _ hxs (fun q => q htx)]
      exact hbx
    refine ⟨⟨cell_of_row w2 w.heap.size 0 _ _ (0, 0) hbx2, cell_of_row w2 w.heap.size 1 _ _ (0, 0) hbx2, cell_of_row w2 w.heap.size 2 _ _ (0, 0) hbx2, frozen_of_row w2 w.heap.size 2 _ _ hbx2⟩, ?_⟩
    rintro w3 rfl
    have hbx3 := heap_setCell_same w2 w.heap.size 2 _ _ (.int .i64 (keptI d.fl)) hbx2
    have hx2 : tg2 w.heap.size = 0 := by
      by_cases c : tg2 w.heap.size = 0
      · exact c
      · rcases p3 _ c with q | q
        · exact absurd htx q
        · omega
    have cs : Chg (fun b => b = w.heap.size) w2 (w2.setCell ⟨w.heap.size, 2, none⟩ (.int .i64 (keptI d.fl))) := Chg.set (S := fun b => b = w.heap.size) w2 ⟨w.heap.size, 2, none⟩ _ rfl
    have h3 := p1.kept cs (fun b q e => by rw [show b = w.heap.size from e] at q; exact q hx2)
    refine ⟨⟨cell_of_row _ w.heap.size 0 _ _ (0, 0) hbx3, cell_of_row _ w.heap.size 1 _ _ (0, 0) hbx3, cell_of_row _ w.heap.size 2 _ _ (0, 0) hbx3⟩, ?_, ?_⟩
    · have hf := find_at h3 hi hov hvo hm k
      unfold FindSays at hf
      rw [hpl] at hf
      exact hf
    · refine (lay_small h3 hi hov hvo hm hsh k hk (keptD d) (kept_bd d.fl) hlen hnx).mono ?_
      rintro e w' ⟨rfl, vl', hq⟩
      have p2w : Chg (fun b => tg b ≠ 0) w (w2.setCell ⟨w.heap.size, 2, none⟩ (.int .i64 (keptI d.fl))) := ((Chg.of_below (S := fun b => tg b ≠ 0) hB).trans p2 (fun _ _ q => q)).trans cs (fun b hb q => by have q : b = w.heap.size := q; omega)
      exact ⟨rfl, _, WentM.next p2w (fun b q => by rcases p3 b q with c | c; exact Or.inl c; exact Or.inr (by omega)) hq⟩
  have b0 : wb.cell? ⟨w.heap.size, 0, none⟩ = some (.int .u64 d.va) := cell_of_row wb w.heap.size 0 _ _ (0, 0) hbx
  have b1 : wb.cell? ⟨w.heap.size, 1, none⟩ = some (.int .u64 d.se) := cell_of_row wb w.heap.size 1 _ _ (0, 0) hbx
  have b2 : wb.cell? ⟨w.heap.size, 2, none⟩ = some (.int .i64 d.fl) := cell_of_row wb w.heap.size 2 _ _ (0, 0) hbx
  generalize layH (touchH H ob.cell) i ob k (keptD d) = HL at *
  generalize touchH H ob.cell = HT at *
  unfold deV
  obtain ⟨va, se, fl⟩ := d
  simp only at *
  generalize keptI fl = kf at *
  clear h h2 hB hbx ho hi hm hsh hk hlen hnx hpl hvo hov htx hxs
  go_enter Try.func15, Try.ntmps15
  go_upto_region 1 with fail
  rw [← hwb]
  clear hwb
  generalize w.heap.size = xb at b0 b1 b2 HA ⊢
  go_wp2_with fail
  refine ka.mono ?_
  rintro e w2 ⟨rfl, rfl⟩
  clear ka
  go_wp2_with fail
  refine kt.mono ?_
  rintro e w3 ⟨rfl, hw3⟩
  obtain ⟨⟨a0, a1, a2, a3⟩, HB0⟩ := HA.out w3 hw3
  have HB := (show Hid _ from HB0 _ rfl)
  clear hw3 kt HB0 HA b0 b1 b2
  go_wp2_with fail
  refine (kk _).mono ?_
  rintro e w4 ⟨rfl, rfl⟩
  clear kk
  go_upto_region 5 with fail
  generalize (w4.setCell ⟨xb, 2, none⟩ (.int .i64 kf)) = w5 at *
  obtain ⟨⟨y0, y1, y2⟩, kfd, kly⟩ := HB.out
  clear HB a0 a1 a2 a3
  go_wp2_with fail
  refine kfd.mono ?_
  rintro e w6 ⟨rfl, rfl⟩
  clear kfd
  go_wp2_with fail
  refine kly.mono ?_
  rintro e w7 ⟨rfl, M', hq⟩
  have HQ := (show Hid _ from hq)
  clear kly hq
  go_wp2_with fail
  go_end0
  exact ⟨rfl, M', HQ.out⟩

end

end Go.Proofs.Ytkpdpdllbnihgaa.Hp
