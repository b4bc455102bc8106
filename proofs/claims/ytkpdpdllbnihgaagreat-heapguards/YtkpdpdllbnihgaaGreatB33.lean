/- VB, VE, VI -/
import Derived.Test.YtkpdpdllbnihgaaGreatB29
import Derived.Test.YtkpdpdllbnihgaaGreatB14
import Derived.Test.YtkpdpdllbnihgaaGreatB28
import Derived.Test.YtkpdpdllbnihgaaGreatVH
import Derived.Test.YtkpdpdllbnihgaaGreatB31
import Derived.Test.YtkpdpdllbnihgaaGreatHK
set_option linter.unusedVariables false
set_option linter.unusedSimpArgs false
set_option maxRecDepth 100000
set_option maxHeartbeats 40000000
/- Slot, Write. -/
namespace Go.Proofs.YtkpdpdllbnihgaaGreat.Hp
open Go.RowKit
section
variable {w w' w1 : World} {B hb : Nat} {O S : Nat → Prop} {H H' : He} {M M' : HV} {tg : Nat → Nat}
set_option maxRecDepth 100000 in
theorem has_at (h : HeapAt w B hb tg H M) {i g cap : Nat} {ob : Ob} (hi : H.obs[i]? = some ob) (hvo : M.vo = ⟨some ⟨g, 0, none⟩, H.obs.length, cap⟩) (n : Int) :
    Calls Tryz.prog 85 #[.pointer (some ⟨g, i * 12 + 4, none⟩), .int .i64 n] w fun e w' => e = .returned (.bool (decide (0 ≤ n) && decide (n < (ob.ps.length : Int)))) ∧ w' = w := by
  obtain ⟨g', cap', ov, hvo', hov, t4, hne, hgl, hcell, hfz, hl1, hl2, hrow⟩ := h.obj hi
  rw [hvo] at hvo'
  injection hvo' with e1 e2 e3
  injection e1 with e1
  injection e1 with e1
  subst e1
  have d4 := hcell 4 _ rfl
  have hr : RowIn prC 5 _ B w _ ov.vl ob.ps := h.part hi hov 0 (by omega)
  obtain ⟨q1, q2, q3, q4⟩ := hr.open rtPr.len
  unfold SV.val at d4
  simp only at d4
  rw [q1] at d4
  generalize ob.ps.length = len at *
  generalize ov.vl.ad = ad at *
  generalize ov.vl.cap = cp at *
  clear h hi hvo hov t4 hne hgl hcell hfz hl1 hl2 hrow e2 e3 hr q1 q2 q3 q4
  by_cases c : 0 ≤ n
  · by_cases c2 : n < (len : Int)
    · rw [decide_eq_true c, decide_eq_true c2]
      have k2 : decide (n < (len : Int)) = true := decide_eq_true c2
      go_enter Tryz.func85, Tryz.ntmps85
      go_wp2_with fail
      go_ret
      exact ⟨rfl, rfl⟩
    · rw [decide_eq_true c, decide_eq_false c2]
      have k2 : decide (n < (len : Int)) = false := decide_eq_false c2
      go_enter Tryz.func85, Tryz.ntmps85
      go_wp2_with fail
      go_ret
      exact ⟨rfl, rfl⟩
  · rw [decide_eq_false c]
    have k1 : decide (0 ≤ n) = false := decide_eq_false c
    simp only [Bool.false_and]
    go_enter Tryz.func85, Tryz.ntmps85
    go_wp2_with fail
    go_ret
    exact ⟨rfl, rfl⟩
/-- the property in a place -/
def slotO (H : He) (o n : Int) : Option Pr := (obO H o).bind (fun ob => if 0 ≤ n then ob.ps[n.toNat]? else none)
set_option maxRecDepth 100000 in
set_option maxHeartbeats 2000000 in
theorem slot_any (h : HeapAt w B hb tg H M) (o : Int) (o0 : 0 ≤ o) (o1 : o < 18446744073709551616) (n : Int) (hn : n ≤ 9223372036854775807) :
    Calls Tryz.prog 51 #[.pointer (some ⟨hb, 0, none⟩), .int .u64 o, .int .i64 n] w fun e w' => e = .returned (.tuple #[deV (((slotO H o n).map Pr.de).getD zDe), .bool (slotO H o n).isSome]) ∧ Below w.heap.size w w' := by
  obtain ⟨wb, hwb⟩ : ∃ wb, wb = w.alloc (.cells #[.int .u64 0, .int .u64 0, .int .i64 0] 35) := ⟨_, rfl⟩
  have hB : Below w.heap.size w wb := by rw [hwb]; exact (Below.refl _ _).alloc (Nat.le_refl _) _
  have hbx : wb.heap[w.heap.size]? = some (.cells #[.int .u64 0, .int .u64 0, .int .i64 0] 35 (0, 0)) := by rw [hwb]; exact at_new _ _
  have h2 := h.below hB
  cases hq : obO H o with
  | none =>
    have ka := at_miss h2 o o0 o1 (obO_none hq)
    have e : slotO H o n = none := by unfold slotO; rw [hq]; rfl
    rw [e]
    simp only [Option.map_none, Option.getD_none, Option.isSome_none]
    have HBX : Hid (wb.heap[w.heap.size]? = some (.cells #[.int .u64 0, .int .u64 0, .int .i64 0] 35 (0, 0))) := hbx
    have HBL : Hid (Below w.heap.size w wb) := hB
    have b0 := cell_of_row wb w.heap.size 0 _ _ (0, 0) hbx
    have b1 := cell_of_row wb w.heap.size 1 _ _ (0, 0) hbx
    have b2 := cell_of_row wb w.heap.size 2 _ _ (0, 0) hbx
    have f0 := frozen_of_row wb w.heap.size 0 _ _ hbx
    have f1 := frozen_of_row wb w.heap.size 1 _ _ hbx
    have f2 := frozen_of_row wb w.heap.size 2 _ _ hbx
    have s0 := heap_setCell_same wb w.heap.size 0 _ _ (.int .u64 0) hbx
    have s1 := heap_setCell_same _ w.heap.size 1 _ _ (.int .u64 0) s0
    have s2 := heap_setCell_same _ w.heap.size 2 _ _ (.int .i64 0) s1
    have HS := (show Hid _ from s2)
    have HBS : Hid (Below w.heap.size w (((wb.setCell ⟨w.heap.size, 0, none⟩ (.int .u64 0)).setCell ⟨w.heap.size, 1, none⟩ (.int .u64 0)).setCell ⟨w.heap.size, 2, none⟩ (.int .i64 0))) := ((hB.setCell (by simp) _).setCell (by simp) _).setCell (by simp) _
    clear h h2 hq hB hbx e s0 s1 s2
    unfold deV zDe
    go_enter Tryz.func51, Tryz.ntmps51
    go_upto_region 1 with fail
    rw [← hwb]
    clear hwb
    go_wp2_with fail
    refine ka.mono ?_
    rintro e w2 ⟨rfl, rfl⟩
    clear ka
    go_wp2_with fail
    refine bodyPost_ret (res2 rfl _ _ w.heap.size 35 _ (0, 0) _ rfl HS.out Tryz.underlying35 rfl (by kernel_rfl)) rfl ?_
    exact ⟨rfl, HBS.out⟩
  | some ob =>
    obtain ⟨i, ho, hi⟩ := obO_some hq
    obtain ⟨g, cap, ov, hvo, hov, t4, hne, hgl, hcell, hfz, hl1, hl2, hrow⟩ := h2.obj hi
    have ka := at_hit h2 o o0 o1 i g cap ho hvo
    have kh := has_at h2 hi hvo n
    have hr : RowIn prC 5 _ B wb _ ov.vl ob.ps := h2.part hi hov 0 (by omega)
    obtain ⟨q1, q2, q3, q4⟩ := hr.open rtPr.len
    by_cases c : 0 ≤ n ∧ n < (ob.ps.length : Int)
    · obtain ⟨m, hm⟩ : ∃ m : Nat, n = (m : Int) := ⟨n.toNat, by omega⟩
      subst hm
      have hml : m < ob.ps.length := by omega
      obtain ⟨p, hp⟩ : ∃ p, ob.ps[m]? = some p := ⟨_, List.getElem?_eq_getElem hml⟩
      have e : slotO H o (m : Int) = some p := by unfold slotO; rw [hq]; simp only [Option.bind_some, if_pos c.1, Int.toNat_natCast]; exact hp
      rw [e]
      simp only [Option.map_some, Option.getD_some, Option.isSome_some]
      rw [decide_eq_true c.1, decide_eq_true c.2] at kh
      simp only [Bool.and_self] at kh
      obtain ⟨gl, e1, _, _, _, hc, _⟩ := q4 (by intro e; rw [e] at hml; simp at hml)
      have hnl2 : (m : Int) < (ob.ps.length : Int) := c.2
      have hlim : (ob.ps.length : Int) ≤ 9223372036854775807 := by unfold maxLen at q3; omega
      have d4 := hcell 4 _ rfl
      unfold SV.val at d4
      simp only at d4
      rw [q1, e1] at d4
      have m2 := hc m p hp 2 _ rfl
      have m3 := hc m p hp 3 _ rfl
      have m4 := hc m p hp 4 _ rfl
      have b0 := cell_of_row wb w.heap.size 0 _ _ (0, 0) hbx
      have b1 := cell_of_row wb w.heap.size 1 _ _ (0, 0) hbx
      have b2 := cell_of_row wb w.heap.size 2 _ _ (0, 0) hbx
      have f0 := frozen_of_row wb w.heap.size 0 _ _ hbx
      have f1 := frozen_of_row wb w.heap.size 1 _ _ hbx
      have f2 := frozen_of_row wb w.heap.size 2 _ _ hbx
      have s0 := heap_setCell_same wb w.heap.size 0 _ _ (.int .u64 p.de.va) hbx
      have s1 := heap_setCell_same _ w.heap.size 1 _ _ (.int .u64 p.de.se) s0
      have s2 := heap_setCell_same _ w.heap.size 2 _ _ (.int .i64 p.de.fl) s1
      have HS := (show Hid _ from s2)
      have HBS : Hid (Below w.heap.size w (((wb.setCell ⟨w.heap.size, 0, none⟩ (.int .u64 p.de.va)).setCell ⟨w.heap.size, 1, none⟩ (.int .u64 p.de.se)).setCell ⟨w.heap.size, 2, none⟩ (.int .i64 p.de.fl))) := ((hB.setCell (by simp) _).setCell (by simp) _).setCell (by simp) _
      unfold deV
      obtain ⟨pk, pc, pv, ps', pf⟩ := p
      simp only at *
      generalize ob.ps.length = len at *
      generalize ov.vl.cap = cp at *
      clear h h2 hq hB hbx e s0 s1 s2 ho hi hvo hov t4 hne hgl hcell hfz hl1 hl2 hrow hr q1 q2 q3 q4 hc hml hp e1 c
      go_enter Tryz.func51, Tryz.ntmps51
      go_upto_region 1 with fail
      rw [← hwb]
      clear hwb
      go_wp2_with fail
      refine ka.mono ?_
      rintro e w2 ⟨rfl, rfl⟩
      clear ka
      go_wp2_with fail
      refine kh.mono ?_
      rintro e w2 ⟨rfl, rfl⟩
      clear kh
      go_wp2_with fail
      refine bodyPost_ret (res2 rfl _ _ w.heap.size 35 _ (0, 0) _ rfl HS.out Tryz.underlying35 rfl (by kernel_rfl)) rfl ?_
      exact ⟨rfl, HBS.out⟩
    · have e : slotO H o n = none := by
        unfold slotO
        rw [hq]
        simp only [Option.bind_some]
        split
        · exact List.getElem?_eq_none (by omega)
        · rfl
      rw [e]
      simp only [Option.map_none, Option.getD_none, Option.isSome_none]
      have hf : (decide (0 ≤ n) && decide (n < (ob.ps.length : Int))) = false := by
        rw [Bool.and_eq_false_iff, decide_eq_false_iff_not, decide_eq_false_iff_not]
        omega
      rw [hf] at kh
      have b0 := cell_of_row wb w.heap.size 0 _ _ (0, 0) hbx
      have b1 := cell_of_row wb w.heap.size 1 _ _ (0, 0) hbx
      have b2 := cell_of_row wb w.heap.size 2 _ _ (0, 0) hbx
      have f0 := frozen_of_row wb w.heap.size 0 _ _ hbx
      have f1 := frozen_of_row wb w.heap.size 1 _ _ hbx
      have f2 := frozen_of_row wb w.heap.size 2 _ _ hbx
      have s0 := heap_setCell_same wb w.heap.size 0 _ _ (.int .u64 0) hbx
      have s1 := heap_setCell_same _ w.heap.size 1 _ _ (.int .u64 0) s0
      have s2 := heap_setCell_same _ w.heap.size 2 _ _ (.int .i64 0) s1
      have HS := (show Hid _ from s2)
      have HBS : Hid (Below w.heap.size w (((wb.setCell ⟨w.heap.size, 0, none⟩ (.int .u64 0)).setCell ⟨w.heap.size, 1, none⟩ (.int .u64 0)).setCell ⟨w.heap.size, 2, none⟩ (.int .i64 0))) := ((hB.setCell (by simp) _).setCell (by simp) _).setCell (by simp) _
      clear h h2 hq hB hbx e s0 s1 s2 ho hi hvo hov t4 hne hgl hcell hfz hl1 hl2 hrow hr q1 q2 q3 q4 c hf
      unfold deV zDe
      go_enter Tryz.func51, Tryz.ntmps51
      go_upto_region 1 with fail
      rw [← hwb]
      clear hwb
      go_wp2_with fail
      refine ka.mono ?_
      rintro e w2 ⟨rfl, rfl⟩
      clear ka
      go_wp2_with fail
      refine kh.mono ?_
      rintro e w2 ⟨rfl, rfl⟩
      clear kh
      go_wp2_with fail
      refine bodyPost_ret (res2 rfl _ _ w.heap.size 35 _ (0, 0) _ rfl HS.out Tryz.underlying35 rfl (by kernel_rfl)) rfl ?_
      exact ⟨rfl, HBS.out⟩
end
end Go.Proofs.YtkpdpdllbnihgaaGreat.Hp
/- Write. -/
namespace Go.Proofs.YtkpdpdllbnihgaaGreat.Hp
open Go.RowKit
section
variable {w w' w1 : World} {B hb : Nat} {O S : Nat → Prop} {H H' : He} {M M' : HV} {tg : Nat → Nat}
/-- a property's value is another one -/
theorem HeapAt.vset (h : HeapAt w B hb tg H M) {i gl lcap : Nat} {ob : Ob} {ov : OV} (hi : H.obs[i]? = some ob) (hv : M.ovs[i]? = some ov) (hvl : ov.vl = ⟨some ⟨gl, 0, none⟩, ob.ps.length, lcap⟩) {n : Nat} {p : Pr} (hp : ob.ps[n]? = some p) (v : Int) :
    WentM w B hb tg { H with obs := H.obs.set i { ob with ps := setD ob.ps n p ⟨v, p.de.se, p.de.fl⟩ } } M (w.setCell ⟨gl, n * 5 + 2, none⟩ (.int .u64 v)) := by
  obtain ⟨d, hdd⟩ : ∃ d : De, d = ⟨v, p.de.se, p.de.fl⟩ := ⟨_, rfl⟩
  have hd : 0 ≤ d.fl ∧ d.fl ≤ 15 := by rw [hdd]; exact (h.wf.ob ob (List.mem_of_getElem? hi)).fl p (List.mem_of_getElem? hp)
  rw [← hdd]
  have hwf := h.wf.ob ob (List.mem_of_getElem? hi)
  have hr : RowIn prC 5 123 B w _ ov.vl ob.ps := h.part hi hv 0 (by omega)
  have hr1 := hr.1
  have ht := hr.2
  rw [hvl] at hr1 ht
  unfold SV.val at hr1 ht
  simp only at hr1 ht
  have htg : tg gl = 7 + 4 * i + 0 := ht gl rfl
  have hil : i < H.obs.length := (List.getElem?_eq_some_iff.1 hi).1
  have hnl : n < ob.ps.length := (List.getElem?_eq_some_iff.1 hp).1
  have o1 := hr1.put (j := 2) (u := .int .u64 v) (y' := ⟨p.key, p.came, d⟩) rtPr.len hp (by omega) (by rw [hdd]; rfl)
  have o3 := o1
  generalize hw3 : w.setCell ⟨gl, n * 5 + 2, none⟩ (.int .u64 v) = w3 at *
  have hc : Chg (fun b => tg b = 7 + 4 * i + 0) w w3 := by
    rw [← hw3]
    exact Chg.set (S := fun b => tg b = 7 + 4 * i + 0) w ⟨gl, n * 5 + 2, none⟩ _ htg
  have hks : ∀ q ∈ setD ob.ps n p d, q.key.size ≤ maxLen := fun q hq => by
    rcases List.mem_or_eq_of_mem_set hq with c | c
    · exact hwf.ks q c
    · rw [c]; exact hwf.ks p (List.mem_of_getElem? hp)
  have hfl : ∀ q ∈ setD ob.ps n p d, 0 ≤ q.de.fl ∧ q.de.fl ≤ 15 := fun q hq => by
    rcases List.mem_or_eq_of_mem_set hq with c | c
    · exact hwf.fl q c
    · rw [c]; exact hd
  refine h.wentM (k0 := 7 + 4 * i + 0) hc (fun b _ q => by omega) ?_
  refine h.up (H' := { H with obs := H.obs.set i { ob with ps := setD ob.ps n p d } }) (M' := M) hc (fun kj => kj = 7 + 4 * i + 0) (7 + 4 * i + 0) (fun b _ q => ⟨q, by omega⟩) (fun kj q => ?_) (fun kj O q hk => ?_) (by simp only [List.length_set]; exact h.len) ⟨?_, by simp only [List.length_set]; exact h.wf.ol, h.wf.tn, h.wf.ts, h.wf.tl, h.wf.mo, h.wf.br⟩
  · subst q
    rw [show 7 + 4 * i + 0 = (4 * i) + 7 by omega]
    intro ob1 ov1 e1 e2
    rw [show (4 * i) / 4 = i by omega] at e1 e2
    rw [show (4 * i) % 4 = 0 by omega]
    have e1' : (H.obs.set i { ob with ps := setD ob.ps n p d })[i]? = some ob1 := e1
    rw [List.getElem?_set_self hil] at e1'
    have e2' : M.ovs[i]? = some ov1 := e2
    rw [hv] at e2'
    cases e1'
    cases e2'
    refine ⟨?_, fun b q => ?_⟩
    · show OwnR prC 5 _ B _ ov.vl.val (ob.ps.set n ⟨p.key, p.came, d⟩)
      rw [hvl]
      exact o3
    · rw [hvl] at q
      have hbg : b = gl := by simpa [SV.val, Value.ownBlock] using q.symm
      show rtg _ _ _ _ _ = _
      rw [hbg, rtg_old (h.lt gl (by omega)).2]
      omega
  · match kj, hk, q with
    | 0, hk, q => trivial
    | 1, hk, q => exact hk
    | 2, hk, q => exact hk
    | 3, hk, q => exact hk
    | 4, hk, q =>
      refine ⟨?_, hk.2⟩
      show OwnR obC 12 _ B _ M.vo.val ((H.obs.set i { ob with ps := setD ob.ps n p d }).zip M.ovs)
      have hz : (H.obs.set i { ob with ps := setD ob.ps n p d }).zip M.ovs = (H.obs.zip M.ovs).set i ({ ob with ps := setD ob.ps n p d }, ov) := by
        conv => lhs; rw [← set_self hv]
        rw [zip_set]
      rw [hz]
      exact OwnR.congr hk.1 (by simp) (flat_same (enc := obC) (y := (ob, ov)) (y' := ({ ob with ps := setD ob.ps n p d }, ov)) rfl _ i (zip_at hi hv))
    | 5, hk, q => exact hk
    | 6, hk, q => exact hk
    | k' + 7, hk, q =>
      intro ob1 ov1 e1 e2
      have e1' : (H.obs.set i { ob with ps := setD ob.ps n p d })[k' / 4]? = some ob1 := e1
      by_cases c2 : i = k' / 4
      · rw [← c2, List.getElem?_set_self hil] at e1'
        cases e1'
        have e2' : M.ovs[i]? = some ov1 := by rw [c2]; exact e2
        rw [hv] at e2'
        cases e2'
        have hk2 := hk ob ov (by rw [← c2]; exact hi) (by rw [← c2]; exact hv)
        have hne : k' % 4 ≠ 0 := fun e => q (by omega)
        generalize k' % 4 = c4 at *
        match c4, hk2, hne with
        | 0, _, hne => exact absurd rfl hne
        | 1, hk2, _ => exact hk2
        | 2, hk2, _ => exact hk2
        | _ + 3, hk2, _ => exact hk2
      · rw [List.getElem?_set_ne c2] at e1'
        exact hk ob1 ov1 e1' e2
  · intro o ho
    rcases List.mem_or_eq_of_mem_set ho with q | q
    · exact h.wf.ob o q
    · rw [q]
      exact ⟨hwf.kd, hwf.pr, hks, hfl, ⟨hwf.nx.1, hwf.nx.2.1, by simp only [setD, List.length_set]; exact hwf.nx.2.2⟩, hwf.el, hwf.inn⟩
/-- what Write leaves -/
def writeH (H : He) (o n v : Int) : He := match obI H o with
  | none => H
  | some i => match H.obs[i]? with
    | none => H
    | some ob => match slotO H o n with
      | none => H
      | some p => { touchH H ob.cell with obs := H.obs.set i { ob with ps := setD ob.ps n.toNat p ⟨v, p.de.se, p.de.fl⟩ } }
set_option maxRecDepth 100000 in
set_option maxHeartbeats 2000000 in
theorem write_any (h : HeapAt w B hb tg H M) (o : Int) (o0 : 0 ≤ o) (o1 : o < 18446744073709551616) (n v : Int) :
    Calls Tryz.prog 82 #[.pointer (some ⟨hb, 0, none⟩), .int .u64 o, .int .i64 n, .int .u64 v] w fun e w' => e = .returned (.bool (slotO H o n).isSome) ∧ WentM w B hb tg (writeH H o n v) M w' := by
  cases hq : obO H o with
  | none =>
    have ka := at_miss h o o0 o1 (obO_none hq)
    have e : slotO H o n = none := by unfold slotO; rw [hq]; rfl
    have e2 : writeH H o n v = H := by unfold writeH; rw [obO_none hq]
    rw [e, e2]
    have HW : Hid (WentM w B hb tg H M w) := WentM.same h (Below.refl _ _)
    simp only [Option.isSome_none]
    clear h hq e e2
    go_enter Tryz.func82, Tryz.ntmps82
    go_wp2_with fail
    refine ka.mono ?_
    rintro e w2 ⟨rfl, rfl⟩
    clear ka
    go_wp2_with fail
    go_ret
    exact ⟨rfl, HW.out⟩
  | some ob =>
    obtain ⟨i, ho, hi⟩ := obO_some hq
    obtain ⟨g, cap, ov, hvo, hov, t4, hne, hgl, hcell, hfz, hl1, hl2, hrow⟩ := h.obj hi
    have ka := at_hit h o o0 o1 i g cap ho hvo
    have kh := has_at h hi hvo n
    by_cases c : 0 ≤ n ∧ n < (ob.ps.length : Int)
    · obtain ⟨m, hm⟩ : ∃ m : Nat, n = (m : Int) := ⟨n.toNat, by omega⟩
      subst hm
      have hml : m < ob.ps.length := by omega
      obtain ⟨p, hp⟩ : ∃ p, ob.ps[m]? = some p := ⟨_, List.getElem?_eq_getElem hml⟩
      have e : slotO H o (m : Int) = some p := by unfold slotO; rw [hq]; simp only [Option.bind_some, if_pos c.1, Int.toNat_natCast]; exact hp
      have e2 : writeH H o (m : Int) v = { touchH H ob.cell with obs := (touchH H ob.cell).obs.set i { ob with ps := setD ob.ps m p ⟨v, p.de.se, p.de.fl⟩ } } := by unfold writeH; rw [ho]; simp only [hi, e, Int.toNat_natCast]; rfl
      rw [e, e2]
      simp only [Option.isSome_some]
      rw [decide_eq_true c.1, decide_eq_true c.2] at kh
      simp only [Bool.and_self] at kh
      have kt := touch_at h hi hvo
      have hnl2 : (m : Int) < (ob.ps.length : Int) := c.2
      have hlim : (ob.ps.length : Int) ≤ 9223372036854775807 := by
        have hr : RowIn prC 5 _ B w _ ov.vl ob.ps := h.part hi hov 0 (by omega)
        obtain ⟨q1, q2, q3, q4⟩ := hr.open rtPr.len
        unfold maxLen at q3; omega
      have HT : Hid (∀ w2, WentM w B hb tg (touchH H ob.cell) M w2 → ∃ gl lc, w2.cell? ⟨g, i * 12 + 4, none⟩ = some (.slice (some ⟨gl, 0, none⟩) ob.ps.length lc) ∧ (w2.cell? ⟨gl, m * 5 + 2, none⟩ = some (.int .u64 p.de.va) ∧ w2.frozen? ⟨gl, m * 5 + 2, none⟩ = false) ∧ WentM w B hb tg { touchH H ob.cell with obs := (touchH H ob.cell).obs.set i { ob with ps := setD ob.ps m p ⟨v, p.de.se, p.de.fl⟩ } } M (w2.setCell ⟨gl, m * 5 + 2, none⟩ (.int .u64 v))) := fun w2 q => by
        obtain ⟨tg2, r1, r2, r3⟩ := q
        have hi2 : (touchH H ob.cell).obs[i]? = some ob := hi
        obtain ⟨g', cap', ov', hvo', hov', _, _, _, hcell', hfz', _⟩ := r1.obj hi2
        have hvo2 : M.vo = ⟨some ⟨g, 0, none⟩, (touchH H ob.cell).obs.length, cap⟩ := hvo
        rw [hvo2] at hvo'
        injection hvo' with x1 x2 x3
        injection x1 with x1
        injection x1 with x1
        subst x1
        have d4 := hcell' 4 _ rfl
        have hr : RowIn prC 5 _ B w2 _ ov'.vl ob.ps := r1.part hi2 hov' 0 (by omega)
        obtain ⟨q1, q2, q3, q4⟩ := hr.open rtPr.len
        obtain ⟨gl, e1, _, _, _, hc, hf⟩ := q4 (by intro e; rw [e] at hml; simp at hml)
        unfold SV.val at d4
        simp only at d4
        rw [q1, e1] at d4
        have hvl : ov'.vl = ⟨some ⟨gl, 0, none⟩, ob.ps.length, ov'.vl.cap⟩ := by rw [← e1, ← q1]
        exact ⟨gl, _, d4, ⟨hc m p hp 2 _ rfl, hf _⟩, WentM.next r2 r3 (r1.vset hi2 hov' hvl hp v)⟩
      generalize { touchH H ob.cell with obs := (touchH H ob.cell).obs.set i { ob with ps := setD ob.ps m p ⟨v, p.de.se, p.de.fl⟩ } } = HX at *
      generalize touchH H ob.cell = H1 at *
      generalize ob.ps.length = len at *
      generalize p.de.va = va at *
      clear h hq ho hi hvo hov t4 hne hgl hcell hfz hl1 hl2 hrow e e2 c hml hp
      go_enter Tryz.func82, Tryz.ntmps82
      go_wp2_with fail
      refine ka.mono ?_
      rintro e w2 ⟨rfl, rfl⟩
      clear ka
      go_wp2_with fail
      refine kh.mono ?_
      rintro e w2 ⟨rfl, rfl⟩
      clear kh
      go_wp2_with fail
      refine kt.mono ?_
      rintro e w3 ⟨rfl, hw3⟩
      obtain ⟨gl, lc, d4, ⟨m2, f2⟩, hq⟩ := HT.out w3 hw3
      have HQ : Hid (WentM w2 B hb tg HX M (w3.setCell ⟨gl, m * 5 + 2, none⟩ (.int .u64 v))) := hq
      clear kt hw3 HT hq
      go_wp2_with fail
      go_ret
      exact ⟨rfl, HQ.out⟩
    · have e : slotO H o n = none := by
        unfold slotO
        rw [hq]
        simp only [Option.bind_some]
        split
        · exact List.getElem?_eq_none (by omega)
        · rfl
      have e2 : writeH H o n v = H := by unfold writeH; rw [ho]; simp only [hi, e]
      rw [e, e2]
      have hf : (decide (0 ≤ n) && decide (n < (ob.ps.length : Int))) = false := by
        rw [Bool.and_eq_false_iff, decide_eq_false_iff_not, decide_eq_false_iff_not]
        omega
      rw [hf] at kh
      have HW : Hid (WentM w B hb tg H M w) := WentM.same h (Below.refl _ _)
      simp only [Option.isSome_none]
      clear h hq e e2 ho hi hvo hov t4 hne hgl hcell hfz hl1 hl2 hrow c hf
      go_enter Tryz.func82, Tryz.ntmps82
      go_wp2_with fail
      refine ka.mono ?_
      rintro e w2 ⟨rfl, rfl⟩
      clear ka
      go_wp2_with fail
      refine kh.mono ?_
      rintro e w2 ⟨rfl, rfl⟩
      clear kh
      go_wp2_with fail
      go_ret
      exact ⟨rfl, HW.out⟩
end
end Go.Proofs.YtkpdpdllbnihgaaGreat.Hp
/- A heap in order: what each call keeps of it: plain. -/
namespace Go.Proofs.YtkpdpdllbnihgaaGreat.Hp
open Go.RowKit
structure He.inv (H : He) (n : Int) : Prop where
  neat : H.neat
  hms : ∀ ob ∈ H.obs, ob.shaped = true → ob.hm = false
  nx : ∀ ob ∈ H.obs, ob.next ≤ n
  acy : Acy H
  abv : AbvOk H
  pr : ∀ ob ∈ H.obs, mayB H ob.proto = true
theorem obI_len {H H' : He} (h : H'.obs.length = H.obs.length) (o : Int) : obI H' o = obI H o := by unfold obI; rw [h]
theorem obO_obs {H H' : He} (h : H'.obs = H.obs) (o : Int) : obO H' o = obO H o := by unfold obO obI; rw [h]
theorem mayB_len {H H' : He} (h : H'.obs.length = H.obs.length) (o : Int) : mayB H' o = mayB H o := by unfold mayB; rw [obI_len h]
/-- one object is another one, with the same prototype -/
theorem He.inv.one {H H' : He} {n n' : Int} (h : H.inv n) {i : Nat} {ob ob' : Ob} (hi : H.obs[i]? = some ob) (ho : H'.obs = H.obs.set i ob') (h1 : ob'.proto = ob.proto) (h2 : ob.above = true → ob'.above = true) (h3 : ob'.neat) (h4 : ob'.shaped = true → ob'.hm = false) (h5 : ob'.next ≤ n') (hn : n ≤ n') : H'.inv n' := by
  have hil := (List.getElem?_eq_some_iff.1 hi).1
  have hlen : H'.obs.length = H.obs.length := by rw [ho, List.length_set]
  have hO : ∀ o, obO H' o = if obI H o = some i then some ob' else obO H o := fun o => by
    rw [← setO_at (H := H) (ob' := ob') hil]
    exact obO_obs ho o
  have hm : ∀ x ∈ H'.obs, x ∈ H.obs ∨ x = ob' := fun x hx => by
    rw [ho] at hx
    exact List.mem_or_eq_of_mem_set hx
  have hob := List.mem_of_getElem? hi
  refine ⟨fun x hx => ?_, fun x hx => ?_, fun x hx => ?_, fun o => ?_, fun x hx ob2 h2' => ?_, fun x hx => ?_⟩
  · rcases hm x hx with q | rfl
    · exact h.neat x q
    · exact h3
  · rcases hm x hx with q | rfl
    · exact h.hms x q
    · exact h4
  · rcases hm x hx with q | rfl
    · have := h.nx x q; omega
    · exact h5
  · rw [hlen]
    refine ends_same (fun q => ?_) _ o (h.acy o)
    rw [hO q]
    by_cases c : obI H q = some i
    · rw [if_pos c]
      have : obO H q = some ob := by unfold obO; rw [c]; exact hi
      rw [this]
      simp [h1]
    · rw [if_neg c]
  · have key : ∀ p, (∀ y, obO H p = some y → y.above = true) → ∀ y, obO H' p = some y → y.above = true := fun p hp y hy => by
      rw [hO p] at hy
      by_cases c : obI H p = some i
      · rw [if_pos c] at hy
        obtain rfl := Option.some.inj hy
        exact h2 (hp ob (by unfold obO; rw [c]; exact hi))
      · rw [if_neg c] at hy
        exact hp y hy
    rcases hm x hx with q | rfl
    · exact key _ (fun y hy => h.abv x q y hy) ob2 h2'
    · exact key _ (fun y hy => h.abv ob hob y (by rw [← h1]; exact hy)) ob2 h2'
  · rw [mayB_len hlen]
    rcases hm x hx with q | rfl
    · exact h.pr x q
    · rw [h1]; exact h.pr ob hob
/-- .. or no object is -/
theorem He.inv.obs {H H' : He} {n n' : Int} (h : H.inv n) (ho : H'.obs = H.obs) (hn : n ≤ n') : H'.inv n' := by
  have hlen : H'.obs.length = H.obs.length := by rw [ho]
  refine ⟨fun x hx => h.neat x (ho ▸ hx), fun x hx => h.hms x (ho ▸ hx), fun x hx => by have := h.nx x (ho ▸ hx); omega, fun o => ?_, fun x hx ob2 h2 => h.abv x (ho ▸ hx) ob2 (by rw [← obO_obs ho]; exact h2), fun x hx => by rw [mayB_len hlen]; exact h.pr x (ho ▸ hx)⟩
  rw [hlen]
  exact ends_same (fun q => by rw [obO_obs ho]) _ o (h.acy o)
theorem He.inv.raise {H : He} {n : Int} (h : H.inv n) (p : Int) : (raiseH H p).inv n := by
  unfold raiseH
  cases hq : obI H p with
  | none => exact h
  | some j =>
    simp only
    cases hj : H.obs[j]? with
    | none => exact h
    | some ob =>
      have hob := List.mem_of_getElem? hj
      exact h.one (n' := n) hj rfl rfl (fun _ => rfl) (by
        obtain ⟨a, b, c, d, e⟩ := h.neat ob hob
        exact ⟨a, b, c, d, e⟩) (h.hms ob hob) (h.nx ob hob) (by omega)
theorem raised {H : He} {p : Int} {ob : Ob} (h : obO (raiseH H p) p = some ob) : ob.above = true := by
  unfold raiseH at h
  cases hq : obI H p with
  | none =>
    rw [hq] at h
    unfold obO at h
    simp only [hq] at h
    cases h
  | some j =>
    obtain ⟨ob2, hj⟩ := obI_at hq
    rw [hq] at h
    simp only [hj] at h
    have := setO_at (H := H) (ob' := { ob2 with above := true }) (o := p) (List.getElem?_eq_some_iff.1 hj).1
    rw [if_pos hq] at this
    have h : obO (H.setO j { ob2 with above := true }) p = some ob := h
    rw [this] at h
    obtain rfl := Option.some.inj h
    rfl
/-- an object more, under a prototype that there is -/
theorem He.inv.push {H H' : He} {n : Int} (h : H.inv n) {p : Int} {x : Ob} (hp : mayB H p = true) (hr : ∀ y, obO H p = some y → y.above = true) (ho : H'.obs = H.obs ++ [x]) (h1 : x.proto = p) (h3 : x.neat) (h4 : x.shaped = true → x.hm = false) (h5 : x.next ≤ n) : H'.inv n := by
  have hlen : H'.obs.length = H.obs.length + 1 := by rw [ho]; simp
  have hI : ∀ o i, obI H o = some i → obI H' o = some i := fun o i hq => by
    unfold obI at hq ⊢
    split at hq
    · rename_i c
      rw [if_pos ⟨c.1, by rw [hlen]; have := c.2; omega⟩]
      exact hq
    · cases hq
  have hO : ∀ o y, obO H o = some y → obO H' o = some y := fun o y hq => by
    obtain ⟨i, h1, h2⟩ := obO_some hq
    unfold obO
    rw [hI o i h1, ho]
    simp only [Option.bind_some]
    rw [List.getElem?_append_left (List.getElem?_eq_some_iff.1 h2).1]
    exact h2
  have hN : ∀ o, mayB H o = true → obO H o = none → obO H' o = none := fun o hm hq => by
    have e : o = nulW := by
      unfold mayB at hm
      rw [obO_none hq] at hm
      simpa using hm
    have hz : obI H' nulW = none := by
      unfold obI
      rw [if_neg (by
        intro c
        have : isT nulW 65530 = false := by decide
        rw [this] at c
        exact absurd c.1 (by decide))]
    rw [e]
    unfold obO
    rw [hz]
    rfl
  have hM : ∀ o, mayB H o = true → mayB H' o = true := fun o hm => by
    unfold mayB at hm ⊢
    cases hq : obI H o with
    | none => rw [hq] at hm; simp only [Option.isSome_none, Bool.or_false] at hm; rw [hm]; rfl
    | some i => rw [hI o i hq]; simp
  have hm : ∀ y ∈ H'.obs, y ∈ H.obs ∨ y = x := fun y hy => by
    rw [ho] at hy
    rcases List.mem_append.1 hy with q | q
    · exact Or.inl q
    · exact Or.inr (by simpa using q)
  have hE : ∀ (N : Nat) (o : Int), mayB H o = true → EndsH H N o → EndsH H' N o := by
    intro N
    induction N with
    | zero => intro o hmo he; exact hN o hmo he
    | succ N ih =>
      intro o hmo he
      have he : obO H o = none ∨ ∃ ob, obO H o = some ob ∧ EndsH H N ob.proto := he
      rcases he with q | ⟨ob, q1, q2⟩
      · exact Or.inl (hN o hmo q)
      · obtain ⟨i, _, hi⟩ := obO_some q1
        exact Or.inr ⟨ob, hO o ob q1, ih ob.proto (h.pr ob (List.mem_of_getElem? hi)) q2⟩
  refine ⟨fun y hy => ?_, fun y hy => ?_, fun y hy => ?_, fun o => ?_, fun y hy ob2 h2 => ?_, fun y hy => ?_⟩
  · rcases hm y hy with q | rfl
    · exact h.neat y q
    · exact h3
  · rcases hm y hy with q | rfl
    · exact h.hms y q
    · exact h4
  · rcases hm y hy with q | rfl
    · exact h.nx y q
    · exact h5
  · cases hq : obO H' o with
    | none => exact ends_mono 0 _ o hq (by omega)
    | some y =>
      obtain ⟨i, hi1, hi2⟩ := obO_some hq
      have hym : mayB H y.proto = true := by
        rcases hm y (List.mem_of_getElem? hi2) with q | rfl
        · exact h.pr y q
        · rw [h1]; exact hp
      rw [hlen]
      exact Or.inr ⟨y, hq, hE _ _ hym (h.acy y.proto)⟩
  · have hpr : mayB H y.proto = true ∧ ∀ z, obO H y.proto = some z → z.above = true := by
      rcases hm y hy with q | rfl
      · exact ⟨h.pr y q, fun z hz => h.abv y q z hz⟩
      · rw [h1]; exact ⟨hp, hr⟩
    cases hq : obO H y.proto with
    | none => rw [hN _ hpr.1 hq] at h2; cases h2
    | some z =>
      rw [hO _ z hq] at h2
      obtain rfl := Option.some.inj h2
      exact hpr.2 _ hq
  · rcases hm y hy with q | rfl
    · exact hM _ (h.pr y q)
    · rw [h1]; exact hM _ hp
end Go.Proofs.YtkpdpdllbnihgaaGreat.Hp
