/- Get, whatever the table. -/
import Derived.Test.YtahhionlbfhinaaDoorB10
import Derived.Test.YtahhionlbfhinaaDoorB11
namespace Go.Proofs.YtahhionlbfhinaaDoor.Hp
open Go.RowKit
set_option linter.unusedVariables false

section
variable {w w' w1 : World} {B hb : Nat} {O S : Nat → Prop} {H H' : He} {M M' : HV} {tg : Nat → Nat}

set_option maxRecDepth 100000 in
set_option maxHeartbeats 1000000 in
theorem get_any (h : HeapAt w B hb tg H M) (o : Int) (o0 : 0 ≤ o) (o1 : o < 18446744073709551616) {i n : Nat} {ob : Ob} {k : ByteArray} {p : Pr} (ho : obI H o = some i) (hi : H.obs[i]? = some ob) (hn : plc ob.ps k = some n) (hp : ob.ps[n]? = some p) (hnt : ob.neat) (hk : k.size ≤ maxLen) :
    Calls Tryd.prog 40 #[.pointer (some ⟨hb, 0, none⟩), .int .u64 o, .string k] w fun e w' => e = .returned (.tuple #[deV p.de, .bool true]) ∧ Below w.heap.size w w' := by
  obtain ⟨wb, hwb⟩ : ∃ wb, wb = w.alloc (.cells #[.int .u64 0, .int .u64 0, .int .i64 0] 37) := ⟨_, rfl⟩
  have hB : Below w.heap.size w wb := by rw [hwb]; exact (Below.refl _ _).alloc (Nat.le_refl _) _
  have hbx : wb.heap[w.heap.size]? = some (.cells #[.int .u64 0, .int .u64 0, .int .i64 0] 37 (0, 0)) := by rw [hwb]; exact at_new _ _
  have h2 := h.below hB
  obtain ⟨g, cap, ov, hvo, hov, t4, hne, hgl, hcell, hfz, hl1, hl2, hrow⟩ := h2.obj hi
  have ka := at_hit h2 o o0 o1 i g cap ho hvo
  have kf2 := (show FindB _ _ _ _ _ from find_any (ob := ob) h2 hi hvo hnt k hk)
  unfold FindB at kf2
  rw [hn] at kf2
  have hr : RowIn prC 5 _ B wb _ ov.vl ob.ps := h2.part hi hov 0 (by omega)
  obtain ⟨q1, q2, q3, q4⟩ := hr.open rtPr.len
  have hnl : n < ob.ps.length := (List.getElem?_eq_some_iff.1 hp).1
  obtain ⟨gl, e1, _, _, _, hc, _⟩ := q4 (by intro e; rw [e] at hnl; simp at hnl)
  have hnl2 : (n : Int) < (ob.ps.length : Int) := by omega
  have hlim : (ob.ps.length : Int) ≤ 9223372036854775807 := by unfold maxLen at q3; omega
  unfold nOf at kf2
  simp only [Option.map_some, Option.getD_some, Option.isSome_some] at kf2
  have HF : Hid (∀ w6, Below wb.heap.size wb w6 → w6.cell? ⟨g, i * 12 + 4, none⟩ = some (.slice (some ⟨gl, 0, none⟩) ob.ps.length ov.vl.cap) ∧ (w6.cell? ⟨gl, n * 5 + 2, none⟩ = some (.int .u64 p.de.va) ∧ w6.cell? ⟨gl, n * 5 + 3, none⟩ = some (.int .u64 p.de.se) ∧ w6.cell? ⟨gl, n * 5 + 4, none⟩ = some (.int .i64 p.de.fl)) ∧ (w6.frozen? ⟨w.heap.size, 0, none⟩ = false ∧ w6.frozen? ⟨w.heap.size, 1, none⟩ = false ∧ w6.frozen? ⟨w.heap.size, 2, none⟩ = false) ∧ (w6.cell? ⟨w.heap.size, 0, none⟩ = some (.int .u64 0) ∧ w6.cell? ⟨w.heap.size, 1, none⟩ = some (.int .u64 0) ∧ w6.cell? ⟨w.heap.size, 2, none⟩ = some (.int .i64 0)) ∧ (((w6.setCell ⟨w.heap.size, 0, none⟩ (.int .u64 p.de.va)).setCell ⟨w.heap.size, 1, none⟩ (.int .u64 p.de.se)).setCell ⟨w.heap.size, 2, none⟩ (.int .i64 p.de.fl) |>.heap[w.heap.size]? = some (.cells #[.int .u64 p.de.va, .int .u64 p.de.se, .int .i64 p.de.fl] 37 (0, 0))) ∧ Below w.heap.size w (((w6.setCell ⟨w.heap.size, 0, none⟩ (.int .u64 p.de.va)).setCell ⟨w.heap.size, 1, none⟩ (.int .u64 p.de.se)).setCell ⟨w.heap.size, 2, none⟩ (.int .i64 p.de.fl))) := fun w6 hB6 => by
    have d4 := hcell 4 _ rfl
    unfold SV.val at d4
    simp only at d4
    rw [q1, e1] at d4
    have hxs : w.heap.size < wb.heap.size := (Array.getElem?_eq_some_iff.1 hbx).1
    have hbx6 : w6.heap[w.heap.size]? = some (.cells #[.int .u64 0, .int .u64 0, .int .i64 0] 37 (0, 0)) := by rw [hB6.block _ hxs]; exact hbx
    have s0 := heap_setCell_same w6 w.heap.size 0 _ _ (.int .u64 p.de.va) hbx6
    have s1 := heap_setCell_same _ w.heap.size 1 _ _ (.int .u64 p.de.se) s0
    have hBW : Below w.heap.size w w6 := hB.trans (hB6.mono (Nat.le_of_lt hxs))
    exact ⟨cells_below hB6 _ _ d4, ⟨cells_below hB6 _ _ (hc n p hp 2 _ rfl), cells_below hB6 _ _ (hc n p hp 3 _ rfl), cells_below hB6 _ _ (hc n p hp 4 _ rfl)⟩, ⟨frozen_of_row w6 w.heap.size 0 _ _ hbx6, frozen_of_row w6 w.heap.size 1 _ _ hbx6, frozen_of_row w6 w.heap.size 2 _ _ hbx6⟩, ⟨cell_of_row w6 w.heap.size 0 _ _ (0, 0) hbx6, cell_of_row w6 w.heap.size 1 _ _ (0, 0) hbx6, cell_of_row w6 w.heap.size 2 _ _ (0, 0) hbx6⟩, heap_setCell_same _ w.heap.size 2 _ _ (.int .i64 p.de.fl) s1, ((hBW.setCell (by simp) _).setCell (by simp) _).setCell (by simp) _⟩
  unfold deV
  obtain ⟨pk, pc, pv, ps', pf⟩ := p
  simp only at *
  generalize ob.ps.length = len at *
  generalize ov.vl.cap = cp at *
  clear h h2 hB hbx hi ho hvo hov t4 hne hgl hcell hfz hl1 hl2 hrow hn hp hr q1 q2 q3 q4 hc hnl e1 hnt hk
  go_enter Tryd.func40, Tryd.ntmps40
  go_upto_region 1 with fail
  rw [← hwb]
  clear hwb
  go_wp2_with fail
  refine ka.mono ?_
  rintro e w2 ⟨rfl, rfl⟩
  clear ka
  go_wp2_with fail
  refine kf2.mono ?_
  rintro e w6 ⟨rfl, hB6⟩
  obtain ⟨d4, ⟨m2, m3, m4⟩, ⟨f0, f1, f2⟩, ⟨b0, b1, b2⟩, hbx, hbl⟩ := HF.out w6 hB6
  have HBX := (show Hid _ from hbx)
  have HBL := (show Hid _ from hbl)
  clear kf2 HF hB6 hbx hbl
  go_wp2_with fail
  refine bodyPost_ret (res2 rfl _ _ w.heap.size 37 _ (0, 0) _ rfl HBX.out Tryd.underlying37 rfl (by kernel_rfl)) rfl ?_
  exact ⟨rfl, HBL.out⟩

end

end Go.Proofs.YtahhionlbfhinaaDoor.Hp

/- Kind, Proto, Open; what is no object. -/
namespace Go.Proofs.YtahhionlbfhinaaDoor.Hp
open Go.RowKit
set_option linter.unusedVariables false

section
variable {w w' w1 : World} {B hb : Nat} {O S : Nat → Prop} {H H' : He} {M M' : HV} {tg : Nat → Nat}

/-- the object of a word -/
def obO (H : He) (o : Int) : Option Ob := (obI H o).bind (fun i => H.obs[i]?)

theorem obO_some {o : Int} {ob : Ob} (h : obO H o = some ob) : ∃ i, obI H o = some i ∧ H.obs[i]? = some ob := by
  unfold obO at h
  cases ho : obI H o with
  | none => rw [ho] at h; cases h
  | some i => rw [ho] at h; exact ⟨i, rfl, h⟩
theorem obO_none {o : Int} (h : obO H o = none) : obI H o = none := by
  unfold obO at h
  cases ho : obI H o with
  | none => rfl
  | some i =>
    rw [ho] at h
    have h1 := (obI_some ho).2.2.1
    have h : H.obs[i]? = none := h
    have := List.getElem?_eq_none_iff.1 h
    omega

set_option maxRecDepth 100000 in
theorem kind_any (h : HeapAt w B hb tg H M) (o : Int) (o0 : 0 ≤ o) (o1 : o < 18446744073709551616) :
    Calls Tryd.prog 35 #[.pointer (some ⟨hb, 0, none⟩), .int .u64 o] w fun e w' => e = .returned (.tuple #[.int .i64 (((obO H o).map Ob.kind).getD 0), .bool (obO H o).isSome]) ∧ w' = w := by
  cases hq : obO H o with
  | none =>
    have ka := at_miss h o o0 o1 (obO_none hq)
    simp only [Option.map_none, Option.getD_none, Option.isSome_none]
    clear h hq
    go_enter Tryd.func35, Tryd.ntmps35
    go_wp2_with fail
    refine ka.mono ?_
    rintro e w2 ⟨rfl, rfl⟩
    clear ka
    go_wp2_with fail
    go_ret2
    exact ⟨rfl, rfl⟩
  | some ob =>
    obtain ⟨i, ho, hi⟩ := obO_some hq
    obtain ⟨g, cap, ov, hvo, hov, t4, hne, hgl, hcell, hfz, hl1, hl2, hrow⟩ := h.obj hi
    have ka := at_hit h o o0 o1 i g cap ho hvo
    have d0 := hcell 0 _ rfl
    simp only [Nat.add_zero] at d0
    simp only [Option.map_some, Option.getD_some, Option.isSome_some]
    generalize ob.kind = kd at *
    clear h hi ho hvo hov t4 hne hgl hcell hfz hl1 hl2 hrow hq
    go_enter Tryd.func35, Tryd.ntmps35
    go_wp2_with fail
    refine ka.mono ?_
    rintro e w2 ⟨rfl, rfl⟩
    clear ka
    go_wp2_with fail
    go_ret2
    exact ⟨rfl, rfl⟩

set_option maxRecDepth 100000 in
theorem proto_any (h : HeapAt w B hb tg H M) (o : Int) (o0 : 0 ≤ o) (o1 : o < 18446744073709551616) :
    Calls Tryd.prog 25 #[.pointer (some ⟨hb, 0, none⟩), .int .u64 o] w fun e w' => e = .returned (.int .u64 (((obO H o).map Ob.proto).getD nulW)) ∧ w' = w := by
  cases hq : obO H o with
  | none =>
    have ka := at_miss h o o0 o1 (obO_none hq)
    simp only [Option.map_none, Option.getD_none]
    unfold nulW
    clear h hq
    go_enter Tryd.func25, Tryd.ntmps25
    go_wp2_with fail
    refine ka.mono ?_
    rintro e w2 ⟨rfl, rfl⟩
    clear ka
    go_wp2_with fail
    go_ret
    exact ⟨rfl, rfl⟩
  | some ob =>
    obtain ⟨i, ho, hi⟩ := obO_some hq
    obtain ⟨g, cap, ov, hvo, hov, t4, hne, hgl, hcell, hfz, hl1, hl2, hrow⟩ := h.obj hi
    have ka := at_hit h o o0 o1 i g cap ho hvo
    have d0 := hcell 1 _ rfl
    simp only at d0
    simp only [Option.map_some, Option.getD_some]
    generalize ob.proto = kd at *
    clear h hi ho hvo hov t4 hne hgl hcell hfz hl1 hl2 hrow hq
    go_enter Tryd.func25, Tryd.ntmps25
    go_wp2_with fail
    refine ka.mono ?_
    rintro e w2 ⟨rfl, rfl⟩
    clear ka
    go_wp2_with fail
    go_ret
    exact ⟨rfl, rfl⟩

set_option maxRecDepth 100000 in
theorem open_any (h : HeapAt w B hb tg H M) (o : Int) (o0 : 0 ≤ o) (o1 : o < 18446744073709551616) :
    Calls Tryd.prog 30 #[.pointer (some ⟨hb, 0, none⟩), .int .u64 o] w fun e w' => e = .returned (.bool (((obO H o).map (fun x => !x.shut)).getD false)) ∧ w' = w := by
  cases hq : obO H o with
  | none =>
    have ka := at_miss h o o0 o1 (obO_none hq)
    simp only [Option.map_none, Option.getD_none]
    clear h hq
    go_enter Tryd.func30, Tryd.ntmps30
    go_wp2_with fail
    refine ka.mono ?_
    rintro e w2 ⟨rfl, rfl⟩
    clear ka
    go_wp2_with fail
    go_ret
    exact ⟨rfl, rfl⟩
  | some ob =>
    obtain ⟨i, ho, hi⟩ := obO_some hq
    obtain ⟨g, cap, ov, hvo, hov, t4, hne, hgl, hcell, hfz, hl1, hl2, hrow⟩ := h.obj hi
    have ka := at_hit h o o0 o1 i g cap ho hvo
    have d0 := hcell 2 _ rfl
    simp only at d0
    simp only [Option.map_some, Option.getD_some]
    generalize ob.shut = kd at *
    clear h hi ho hvo hov t4 hne hgl hcell hfz hl1 hl2 hrow hq
    go_enter Tryd.func30, Tryd.ntmps30
    go_wp2_with fail
    refine ka.mono ?_
    rintro e w2 ⟨rfl, rfl⟩
    clear ka
    go_wp2_with fail
    go_ret
    exact ⟨rfl, rfl⟩

end

end Go.Proofs.YtahhionlbfhinaaDoor.Hp
