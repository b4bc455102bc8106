/- Put. -/
import Derived.Test.YtahhionlbfhinaaGreatDoorIL
import Derived.Test.YtahhionlbfhinaaGreatDoorB17
import Derived.Test.YtahhionlbfhinaaGreatDoorHY
namespace Go.Proofs.YtahhionlbfhinaaGreatDoor.Hp
open Go.RowKit
set_option linter.unusedVariables false

/-- what lies in a place of a list; something else where nothing does -/
def prAt (ps : List Pr) (n : Nat) : Pr := (ps[n]?).getD ⟨⟨#[]⟩, 0, 0, 0, 0⟩

/-- what Put leaves -/
def putH (H0 : He) (i : Nat) (ob : Ob) (k : ByteArray) (d0 : De) : He :=
  match plc ob.ps k with
  | some n => replH (touchH H0 ob.cell) i ob n (prAt ob.ps n) (keptD d0)
  | none => if ob.shaped = true ∧ ob.ps.length + 1 ≤ 16 then layH (touchH H0 ob.cell) i ob k (keptD d0) else { touchH H0 ob.cell with obs := H0.obs.set i (ob.bare k (keptD d0)) }

section
variable {w w' w1 : World} {B hb : Nat} {O S : Nat → Prop} {H H' : He} {M M' : HV} {tg : Nat → Nat}

set_option maxRecDepth 100000 in
set_option maxHeartbeats 4000000 in
theorem put_any (h : HeapAt w B hb tg H M) (o : Int) (o0 : 0 ≤ o) (o1 : o < 18446744073709551616) {i : Nat} {ob : Ob} (ho : obI H o = some i) (hi : H.obs[i]? = some ob) (hnt : ob.neat) (hms : ob.shaped = true → ob.hm = false) (k : ByteArray) (hk : k.size ≤ maxLen) (d : De) (hnx : ob.next < 2000000000000) :
    Calls Tryz.prog 14 #[.pointer (some ⟨hb, 0, none⟩), .int .u64 o, .string k, deV d] w fun e w' => e = .returned (.tuple #[]) ∧ ∃ M', M'.vo = M.vo ∧ WentM w B hb tg (putH H i ob k d) M' w' := by
  obtain ⟨wb, hwb⟩ : ∃ wb, wb = w.alloc (.cells #[.int .u64 d.va, .int .u64 d.se, .int .i64 d.fl] 41) := ⟨_, rfl⟩
  have hB : Below w.heap.size w wb := by rw [hwb]; exact (Below.refl _ _).alloc (Nat.le_refl _) _
  have hbx : wb.heap[w.heap.size]? = some (.cells #[.int .u64 d.va, .int .u64 d.se, .int .i64 d.fl] 41 (0, 0)) := by rw [hwb]; exact at_new _ _
  have h2 : HeapAt wb B hb tg H M := h.below hB
  obtain ⟨g, cap, ov, hvo, hov, _⟩ := h2.obj hi
  have ka := at_hit h2 o o0 o1 i g cap ho hvo
  have kt := touch_at h2 hi hvo
  have kk := fun w => kept_any w d.fl
  have htx : tg w.heap.size = 0 := by
    by_cases c : tg w.heap.size = 0
    · exact c
    · have := (h.lt _ c).2; omega
  have hxs : w.heap.size < wb.heap.size := (Array.getElem?_eq_some_iff.1 hbx).1
  have HA : Hid (∀ w2, WentM wb B hb tg (touchH H ob.cell) M w2 →
      (w2.cell? ⟨w.heap.size, 0, none⟩ = some (.int .u64 d.va) ∧ w2.cell? ⟨w.heap.size, 1, none⟩ = some (.int .u64 d.se) ∧ w2.cell? ⟨w.heap.size, 2, none⟩ = some (.int .i64 d.fl) ∧ w2.frozen? ⟨w.heap.size, 2, none⟩ = false) ∧
      ∀ w3, w3 = w2.setCell ⟨w.heap.size, 2, none⟩ (.int .i64 (keptI d.fl)) →
      Calls Tryz.prog 53 #[.pointer (some ⟨g, i * 12 + 4, none⟩), .string k] w3 (fun e w6 => e = .returned (.tuple #[.int .i64 (nOf (plc ob.ps k)), .bool (plc ob.ps k).isSome]) ∧
        (w6.cell? ⟨w.heap.size, 0, none⟩ = some (.int .u64 d.va) ∧ w6.cell? ⟨w.heap.size, 1, none⟩ = some (.int .u64 d.se) ∧ w6.cell? ⟨w.heap.size, 2, none⟩ = some (.int .i64 (keptI d.fl))) ∧
        (∀ n, plc ob.ps k = some n → Calls Tryz.prog 54 #[.pointer (some ⟨hb, 0, none⟩), .pointer (some ⟨g, i * 12, none⟩), .int .i64 (n : Int), .agg #[.int .u64 d.va, .int .u64 d.se, .int .i64 (keptI d.fl)]] w6 (fun e w' => e = .returned (.tuple #[]) ∧ ∃ M', M'.vo = M.vo ∧ WentM w B hb tg (putH H i ob k d) M' w')) ∧
        (plc ob.ps k = none → Calls Tryz.prog 55 #[.pointer (some ⟨hb, 0, none⟩), .pointer (some ⟨g, i * 12, none⟩), .string k, .agg #[.int .u64 d.va, .int .u64 d.se, .int .i64 (keptI d.fl)]] w6 (fun e w' => e = .returned (.tuple #[]) ∧ ∃ M', M'.vo = M.vo ∧ WentM w B hb tg (putH H i ob k d) M' w')))) := fun w2 hw2 => by
    obtain ⟨tg2, p1, p2, p3⟩ := hw2
    have hbx2 : w2.heap[w.heap.size]? = some (.cells #[.int .u64 d.va, .int .u64 d.se, .int .i64 d.fl] 41 (0, 0)) := by
      rw [p2.block _ hxs (fun q => q htx)]
      exact hbx
    refine ⟨⟨cell_of_row w2 w.heap.size 0 _ _ (0, 0) hbx2, cell_of_row w2 w.heap.size 1 _ _ (0, 0) hbx2, cell_of_row w2 w.heap.size 2 _ _ (0, 0) hbx2, frozen_of_row w2 w.heap.size 2 _ _ hbx2⟩, ?_⟩
    rintro w3 rfl
    have hbx3 := heap_setCell_same w2 w.heap.size 2 _ _ (.int .i64 (keptI d.fl)) hbx2
    have hx2 : tg2 w.heap.size = 0 := by
      by_cases c : tg2 w.heap.size = 0
      · exact c
      · rcases p3 _ c with q | q
        · exact absurd htx q
        · omega
    have cs : Chg (fun b => b = w.heap.size) w2 (w2.setCell ⟨w.heap.size, 2, none⟩ (.int .i64 (keptI d.fl))) := Chg.set (S := fun b => b = w.heap.size) w2 ⟨w.heap.size, 2, none⟩ _ rfl
    have h3 := p1.kept cs (fun b q e => by rw [show b = w.heap.size from e] at q; exact q hx2)
    refine (show FindB _ _ _ _ _ from find_any (ob := ob) h3 hi hvo hnt k hk).mono ?_
    rintro e w6 ⟨rfl, hB6⟩
    have h6 := h3.below hB6
    have p2w : Chg (fun b => tg b ≠ 0) w w6 := (((Chg.of_below (S := fun b => tg b ≠ 0) hB).trans p2 (fun _ _ q => q)).trans cs (fun b hb q => by have q : b = w.heap.size := q; omega)).trans (Chg.of_below (S := fun b => tg b ≠ 0) hB6) (fun _ _ q => q)
    have p3w : ∀ b, tg2 b ≠ 0 → tg b ≠ 0 ∨ w.heap.size ≤ b := fun b q => by rcases p3 b q with c | c; exact Or.inl c; exact Or.inr (by omega)
    refine ⟨rfl, ⟨cells_below hB6 _ _ (cell_of_row _ w.heap.size 0 _ _ (0, 0) hbx3), cells_below hB6 _ _ (cell_of_row _ w.heap.size 1 _ _ (0, 0) hbx3), cells_below hB6 _ _ (cell_of_row _ w.heap.size 2 _ _ (0, 0) hbx3)⟩, fun n hn => ?_, fun hn => ?_⟩
    · obtain ⟨⟨p, hp, _⟩, _⟩ := plc_some hn
      refine (replace_at (ob := ob) h6 hi hvo hp (keptD d) (kept_bd d.fl)).mono ?_
      rintro e w' ⟨rfl, hq⟩
      refine ⟨rfl, M, rfl, ?_⟩
      have e : putH H i ob k d = replH (touchH H ob.cell) i ob n p (keptD d) := by
        unfold putH
        rw [hn]
        simp only
        unfold prAt
        rw [hp]
        rfl
      rw [e]
      exact WentM.next p2w p3w hq
    · by_cases c : ob.shaped = true ∧ ob.ps.length + 1 ≤ 16
      · refine (lay_small (ob := ob) h6 hi hov hvo (hms c.1) c.1 k hk (keptD d) (kept_bd d.fl) c.2 hnx).mono ?_
        rintro e w' ⟨rfl, vl', hq⟩
        refine ⟨rfl, { M with ovs := M.ovs.set i { ov with vl := vl' } }, rfl, ?_⟩
        have e : putH H i ob k d = layH (touchH H ob.cell) i ob k (keptD d) := by
          unfold putH
          rw [hn]
          simp only
          rw [if_pos c]
        rw [e]
        exact WentM.next p2w p3w hq
      · refine (lay_bare (ob := ob) h6 hi hvo hnt (by
          cases hs : ob.shaped with
          | false => exact Or.inr rfl
          | true => exact Or.inl (by rcases Nat.lt_or_ge 16 (ob.ps.length + 1) with q | q; exact q; exact absurd ⟨hs, q⟩ c)) k hk hn (keptD d) (kept_bd d.fl) hnx).mono ?_
        rintro e w' ⟨rfl, M', hM', hq⟩
        refine ⟨rfl, M', hM', ?_⟩
        have e : putH H i ob k d = { touchH H ob.cell with obs := (touchH H ob.cell).obs.set i (ob.bare k (keptD d)) } := by
          unfold putH
          rw [hn]
          simp only
          rw [if_neg c]
          rfl
        rw [e]
        exact WentM.next p2w p3w hq
  have b0 : wb.cell? ⟨w.heap.size, 0, none⟩ = some (.int .u64 d.va) := cell_of_row wb w.heap.size 0 _ _ (0, 0) hbx
  have b1 : wb.cell? ⟨w.heap.size, 1, none⟩ = some (.int .u64 d.se) := cell_of_row wb w.heap.size 1 _ _ (0, 0) hbx
  have b2 : wb.cell? ⟨w.heap.size, 2, none⟩ = some (.int .i64 d.fl) := cell_of_row wb w.heap.size 2 _ _ (0, 0) hbx
  generalize putH H i ob k d = HL at *
  generalize touchH H ob.cell = HT at *
  generalize plc ob.ps k = R at *
  unfold deV
  obtain ⟨va, se, fl⟩ := d
  simp only at *
  generalize keptI fl = kf at *
  clear h h2 hB hbx ho hi hnt hms hk hnx hvo hov htx hxs
  go_enter Tryz.func14, Tryz.ntmps14
  go_upto_region 1 with fail
  rw [← hwb]
  clear hwb
  generalize w.heap.size = xb at b0 b1 b2 HA ⊢
  go_wp2_with fail
  refine ka.mono ?_
  rintro e w2 ⟨rfl, rfl⟩
  clear ka
  go_wp2_with fail
  refine kt.mono ?_
  rintro e w3 ⟨rfl, hw3⟩
  obtain ⟨⟨a0, a1, a2, a3⟩, HB0⟩ := HA.out w3 hw3
  have kfd := HB0 _ rfl
  clear hw3 kt HB0 HA b0 b1 b2
  go_wp2_with fail
  refine (kk _).mono ?_
  rintro e w4 ⟨rfl, rfl⟩
  clear kk
  go_upto_region 5 with fail
  generalize (w4.setCell ⟨xb, 2, none⟩ (.int .i64 kf)) = w5 at *
  clear a0 a1 a2 a3
  go_wp2_with fail
  refine kfd.mono ?_
  rintro e w6 ⟨rfl, ⟨y0, y1, y2⟩, krp, kly⟩
  clear kfd
  cases R with
  | none =>
    have kl := kly rfl
    clear krp kly
    rw [show nOf none = 0 from rfl]
    simp only [Option.isSome_none]
    go_wp2_with fail
    refine kl.mono ?_
    rintro e w7 ⟨rfl, hq⟩
    have HQ := (show Hid _ from hq)
    clear kl hq
    go_wp2_with fail
    go_end0
    exact ⟨rfl, HQ.out⟩
  | some n =>
    have kr := krp n rfl
    clear krp kly
    rw [show nOf (some n) = (n : Int) from rfl]
    simp only [Option.isSome_some]
    go_wp2_with fail
    refine kr.mono ?_
    rintro e w7 ⟨rfl, hq⟩
    have HQ := (show Hid _ from hq)
    clear kr hq
    go_wp2_with fail
    go_end0
    exact ⟨rfl, HQ.out⟩

end

end Go.Proofs.YtahhionlbfhinaaGreatDoor.Hp

/- SetLen, SetElem. -/
namespace Go.Proofs.YtahhionlbfhinaaGreatDoor.Hp
open Go.RowKit
set_option linter.unusedVariables false

section
variable {w w' w1 w5 : World} {B hb : Nat} {O S : Nat → Prop} {H H' : He} {M M' : HV} {tg : Nat → Nat}

def elH (H : He) (i : Nat) (ob : Ob) (el : List Int) : He := { touchH H ob.cell with obs := H.obs.set i { ob with el := el } }

set_option maxRecDepth 100000 in
theorem setLen_no (h : HeapAt w B hb tg H M) (o : Int) (o0 : 0 ≤ o) (o1 : o < 18446744073709551616) {i : Nat} {ob : Ob} (ho : obI H o = some i) (hi : H.obs[i]? = some ob) (n : Int) (hn : n < 0 ∨ 4096 < n) :
    Calls Tryz.prog 104 #[.pointer (some ⟨hb, 0, none⟩), .int .u64 o, .int .i64 n] w fun e w' => e = .returned (.bool false) ∧ w' = w := by
  obtain ⟨g, cap, ov, hvo, _⟩ := h.obj hi
  have ka := at_hit h o o0 o1 i g cap ho hvo
  clear h hi ho hvo
  rcases hn with c | c
  · have c1 : decide (n < 0) = true := decide_eq_true c
    go_enter Tryz.func104, Tryz.ntmps104
    go_wp2_with fail
    refine ka.mono ?_
    rintro e w2 ⟨rfl, rfl⟩
    clear ka
    go_wp2_with fail
    go_ret
    exact ⟨rfl, rfl⟩
  · have c1 : decide (n < 0) = false := decide_eq_false (by omega)
    have c2 : decide (4096 < n) = true := decide_eq_true c
    go_enter Tryz.func104, Tryz.ntmps104
    go_wp2_with fail
    refine ka.mono ?_
    rintro e w2 ⟨rfl, rfl⟩
    clear ka
    go_wp2_with fail
    go_ret
    exact ⟨rfl, rfl⟩

set_option maxRecDepth 100000 in
set_option maxHeartbeats 1000000 in
theorem setLen_at (h : HeapAt w B hb tg H M) (o : Int) (o0 : 0 ≤ o) (o1 : o < 18446744073709551616) {i : Nat} {ob : Ob} (ho : obI H o = some i) (hi : H.obs[i]? = some ob) (n : Nat) (hn : n ≤ 4096) :
    Calls Tryz.prog 104 #[.pointer (some ⟨hb, 0, none⟩), .int .u64 o, .int .i64 (n : Int)] w fun e w' => e = .returned (.bool true) ∧ ∃ M', WentM w B hb tg (elH H i ob (resL ob.el n)) M' w' := by
  obtain ⟨g, cap, ov, hvo, hov, _⟩ := h.obj hi
  have ka := at_hit h o o0 o1 i g cap ho hvo
  have kt := touch_at h hi hvo
  have HA : Hid (∀ w2, WentM w B hb tg (touchH H ob.cell) M w2 → Calls Tryz.prog 110 #[.pointer (some ⟨g, i * 12, none⟩), .int .i64 (n : Int)] w2 fun e w' => e = .returned (.tuple #[]) ∧ ∃ M', WentM w B hb tg (elH H i ob (resL ob.el n)) M' w') := fun w2 q => by
    obtain ⟨tg2, p1, p2, p3⟩ := q
    refine (resize_at p1 hi hov hvo n hn).mono ?_
    rintro e w' ⟨rfl, ve, hq⟩
    exact ⟨rfl, _, WentM.next p2 p3 hq⟩
  have c1 : decide ((n : Int) < 0) = false := decide_eq_false (by omega)
  have c2 : decide (4096 < (n : Int)) = false := decide_eq_false (by omega)
  generalize elH H i ob (resL ob.el n) = HL at *
  generalize touchH H ob.cell = HT at *
  clear h hi ho hvo hov hn
  go_enter Tryz.func104, Tryz.ntmps104
  go_wp2_with fail
  refine ka.mono ?_
  rintro e w2 ⟨rfl, rfl⟩
  clear ka
  go_wp2_with fail
  refine kt.mono ?_
  rintro e w3 ⟨rfl, hw3⟩
  have kr := HA.out w3 hw3
  clear kt hw3 HA
  go_wp2_with fail
  refine kr.mono ?_
  rintro e w4 ⟨rfl, M', hq⟩
  have HQ := (show Hid _ from hq)
  clear kr hq
  go_wp2_with fail
  go_ret
  exact ⟨rfl, M', HQ.out⟩

set_option maxRecDepth 100000 in
theorem setElem_no (h : HeapAt w B hb tg H M) (o : Int) (o0 : 0 ≤ o) (o1 : o < 18446744073709551616) {i : Nat} {ob : Ob} (ho : obI H o = some i) (hi : H.obs[i]? = some ob) (n v : Int) (hn : n < 0 ∨ 4096 ≤ n) :
    Calls Tryz.prog 83 #[.pointer (some ⟨hb, 0, none⟩), .int .u64 o, .int .i64 n, .int .u64 v] w fun e w' => e = .returned (.bool false) ∧ w' = w := by
  obtain ⟨g, cap, ov, hvo, _⟩ := h.obj hi
  have ka := at_hit h o o0 o1 i g cap ho hvo
  clear h hi ho hvo
  rcases hn with c | c
  · have c1 : decide (n < 0) = true := decide_eq_true c
    go_enter Tryz.func83, Tryz.ntmps83
    go_wp2_with fail
    refine ka.mono ?_
    rintro e w2 ⟨rfl, rfl⟩
    clear ka
    go_wp2_with fail
    go_ret
    exact ⟨rfl, rfl⟩
  · have c1 : decide (n < 0) = false := decide_eq_false (by omega)
    have c2 : decide (4096 ≤ n) = true := decide_eq_true c
    go_enter Tryz.func83, Tryz.ntmps83
    go_wp2_with fail
    refine ka.mono ?_
    rintro e w2 ⟨rfl, rfl⟩
    clear ka
    go_wp2_with fail
    go_ret
    exact ⟨rfl, rfl⟩

def setL (el : List Int) (n : Nat) (v : Int) : List Int := (if n < el.length then el else resL el (n + 1)).set n v

/-- an element is laid, where there is room for it: its address, and what is left -/
theorem HeapAt.elput (h : HeapAt w B hb tg H M) {i g cap n : Nat} {ob : Ob} (hi : H.obs[i]? = some ob) (hvo : M.vo = ⟨some ⟨g, 0, none⟩, H.obs.length, cap⟩) (hn : n < ob.el.length) (v : Int) :
    ∃ ge ec u, w.cell? ⟨g, i * 12 + 7, none⟩ = some (.slice (some ⟨ge, 0, none⟩) ob.el.length ec) ∧ w.cell? ⟨ge, n, none⟩ = some (.int .u64 u) ∧ w.frozen? ⟨ge, n, none⟩ = false ∧ (ob.el.length : Int) ≤ 9223372036854775807 ∧ WentM w B hb tg { H with obs := H.obs.set i { ob with el := ob.el.set n v } } M (w.setCell ⟨ge, n, none⟩ (.int .u64 v)) := by
  obtain ⟨g', cap', ov, hvo', hov, t4, hne, hgl, hcell, hfz, _⟩ := h.obj hi
  have hvv := hvo'
  rw [hvo] at hvv
  injection hvv with x1 x2 x3
  injection x1 with x1
  injection x1 with x1
  subst x1
  have d7 := hcell 7 _ rfl
  simp only at d7
  have hr : RowIn wC 1 33 B w _ ov.ve ob.el := h.part hi hov 2 (by omega)
  obtain ⟨q1, q2, q3, q4⟩ := hr.open rtW.len
  obtain ⟨ge, e1, _, _, _, hc, hf⟩ := q4 (by intro e; rw [e] at hn; simp at hn)
  rcases hve : ov.ve with ⟨ad, len, ec⟩
  rw [hve] at q1 q2 q3 e1 d7
  simp only at q1 q2 q3 e1
  subst q1 e1
  unfold SV.val at d7
  simp only at d7
  have dv := hc n _ (List.getElem?_eq_getElem hn) 0 _ rfl
  simp only [Nat.mul_one, Nat.add_zero] at dv
  exact ⟨ge, ec, _, d7, dv, hf n, by unfold maxLen at q3; omega, h.elst hi hov hve hn v⟩

set_option maxRecDepth 100000 in
set_option maxHeartbeats 1000000 in
theorem setElem_at (h : HeapAt w B hb tg H M) (o : Int) (o0 : 0 ≤ o) (o1 : o < 18446744073709551616) {i : Nat} {ob : Ob} (ho : obI H o = some i) (hi : H.obs[i]? = some ob) (n : Nat) (hn : n < 4096) (v : Int) :
    Calls Tryz.prog 83 #[.pointer (some ⟨hb, 0, none⟩), .int .u64 o, .int .i64 (n : Int), .int .u64 v] w fun e w' => e = .returned (.bool true) ∧ ∃ M', WentM w B hb tg (elH H i ob (setL ob.el n v)) M' w' := by
  obtain ⟨g, cap, ov, hvo, hov, _⟩ := h.obj hi
  have ka := at_hit h o o0 o1 i g cap ho hvo
  have kt := touch_at h hi hvo
  have hil : i < H.obs.length := (List.getElem?_eq_some_iff.1 hi).1
  have c1 : decide ((n : Int) < 0) = false := decide_eq_false (by omega)
  have c2 : decide (4096 ≤ (n : Int)) = false := decide_eq_false (by omega)
  have HLEN : Hid (∀ w2, WentM w B hb tg (touchH H ob.cell) M w2 → ∃ ad ec, w2.cell? ⟨g, i * 12 + 7, none⟩ = some (.slice ad ob.el.length ec)) := fun w2 q => by
    obtain ⟨tg2, p1, p2, p3⟩ := q
    obtain ⟨g', cap', ov', hvo', hov', t4, hne, hgl, hcell, hfz, _⟩ := p1.obj (ob := ob) hi
    have hvv := hvo'
    rw [hvo] at hvv
    injection hvv with x1 x2 x3
    injection x1 with x1
    injection x1 with x1
    subst x1
    have d7 := hcell 7 _ rfl
    have hr : RowIn wC 1 33 B w2 _ ov'.ve ob.el := p1.part (ob := ob) hi hov' 2 (by omega)
    obtain ⟨q1, _⟩ := hr.open rtW.len
    unfold SV.val at d7
    simp only at d7
    rw [q1] at d7
    exact ⟨_, _, d7⟩
  by_cases c : n < ob.el.length
  · have HA : Hid (∀ w2, WentM w B hb tg (touchH H ob.cell) M w2 → ∃ ge ec u, w2.cell? ⟨g, i * 12 + 7, none⟩ = some (.slice (some ⟨ge, 0, none⟩) ob.el.length ec) ∧ w2.cell? ⟨ge, n, none⟩ = some (.int .u64 u) ∧ w2.frozen? ⟨ge, n, none⟩ = false ∧ (ob.el.length : Int) ≤ 9223372036854775807 ∧ ∃ M', WentM w B hb tg (elH H i ob (setL ob.el n v)) M' (w2.setCell ⟨ge, n, none⟩ (.int .u64 v))) := fun w2 q => by
      obtain ⟨tg2, p1, p2, p3⟩ := q
      obtain ⟨ge, ec, u, a1, a2, a3, a4, a5⟩ := p1.elput (ob := ob) hi hvo c v
      have e : elH H i ob (setL ob.el n v) = { touchH H ob.cell with obs := (touchH H ob.cell).obs.set i { ob with el := ob.el.set n v } } := by
        unfold elH setL
        rw [if_pos c]
        rfl
      rw [e]
      exact ⟨ge, ec, u, a1, a2, a3, a4, M, WentM.next p2 p3 a5⟩
    have c3 : decide ((ob.el.length : Int) ≤ (n : Int)) = false := decide_eq_false (by omega)
    have c4 : (n : Int) < (ob.el.length : Int) := by omega
    generalize elH H i ob (setL ob.el n v) = HL at *
    generalize touchH H ob.cell = HT at *
    generalize ob.el.length = len at *
    clear h hi ho hvo hov hn hil c HLEN
    go_enter Tryz.func83, Tryz.ntmps83
    go_wp2_with fail
    refine ka.mono ?_
    rintro e w2 ⟨rfl, rfl⟩
    clear ka
    go_wp2_with fail
    refine kt.mono ?_
    rintro e w3 ⟨rfl, hw3⟩
    obtain ⟨ge, ec, u, a1, a2, a3, a4, a5⟩ := HA.out w3 hw3
    have HA5 := (show Hid _ from a5)
    clear kt hw3 HA a5
    go_wp2_with fail
    go_ret
    obtain ⟨M', hq⟩ := HA5.out
    exact ⟨rfl, M', hq⟩
  · have HA : Hid (∀ w2, WentM w B hb tg (touchH H ob.cell) M w2 → Calls Tryz.prog 110 #[.pointer (some ⟨g, i * 12, none⟩), .int .i64 ((n + 1 : Nat) : Int)] w2 fun e w' => e = .returned (.tuple #[]) ∧ ∃ ge ec u, w'.cell? ⟨g, i * 12 + 7, none⟩ = some (.slice (some ⟨ge, 0, none⟩) (n + 1) ec) ∧ w'.cell? ⟨ge, n, none⟩ = some (.int .u64 u) ∧ w'.frozen? ⟨ge, n, none⟩ = false ∧ ∃ M', WentM w B hb tg (elH H i ob (setL ob.el n v)) M' (w'.setCell ⟨ge, n, none⟩ (.int .u64 v))) := fun w2 q => by
      obtain ⟨tg2, p1, p2, p3⟩ := q
      refine (resize_at p1 hi hov hvo (n + 1) (by omega)).mono ?_
      rintro e w' ⟨rfl, ve, tg3, r1, r2, r3⟩
      have hi1 : ({ touchH H ob.cell with obs := (touchH H ob.cell).obs.set i { ob with el := resL ob.el (n + 1) } } : He).obs[i]? = some { ob with el := resL ob.el (n + 1) } := List.getElem?_set_self hil
      have hvo1 : ({ M with ovs := M.ovs.set i { ov with ve := ve } } : HV).vo = ⟨some ⟨g, 0, none⟩, ({ touchH H ob.cell with obs := (touchH H ob.cell).obs.set i { ob with el := resL ob.el (n + 1) } } : He).obs.length, cap⟩ := by
        simp only [List.length_set]
        exact hvo
      obtain ⟨ge, ec, u, a1, a2, a3, a4, a5⟩ := r1.elput (n := n) hi1 hvo1 (by rw [show ({ ob with el := resL ob.el (n + 1) } : Ob).el = resL ob.el (n + 1) from rfl, resL_len]; omega) v
      simp only [resL_len, List.set_set] at a1 a5
      have e : elH H i ob (setL ob.el n v) = { touchH H ob.cell with obs := (touchH H ob.cell).obs.set i { ob with el := (resL ob.el (n + 1)).set n v } } := by
        unfold elH setL
        rw [if_neg c]
        rfl
      rw [e]
      exact ⟨rfl, ge, ec, u, a1, a2, a3, _, WentM.next p2 p3 (WentM.next r2 r3 a5)⟩
    have c3 : decide ((ob.el.length : Int) ≤ (n : Int)) = true := decide_eq_true (by omega)
    have c4 : (ob.el.length : Int) ≤ (n : Int) := by omega
    have hw1 : IntKind.i64.wrap ((n : Int) + 1) = ((n + 1 : Nat) : Int) := by rw [IntKind.wrap_i64]; omega
    have hn1 : (n : Int) < ((n + 1 : Nat) : Int) := by omega
    have hn2 : ((n + 1 : Nat) : Int) ≤ 9223372036854775807 := by omega
    generalize elH H i ob (setL ob.el n v) = HL at *
    generalize touchH H ob.cell = HT at *
    generalize ob.el.length = len at *
    clear h hi ho hvo hov hn hil c
    generalize hnn : n + 1 = n1 at *
    clear hnn
    go_enter Tryz.func83, Tryz.ntmps83
    go_wp2_with fail
    refine ka.mono ?_
    rintro e w2 ⟨rfl, rfl⟩
    clear ka
    go_wp2_with fail
    refine kt.mono ?_
    rintro e w3 ⟨rfl, hw3⟩
    obtain ⟨ad, ec0, a0⟩ := HLEN.out w3 hw3
    have kr := HA.out w3 hw3
    clear kt hw3 HA HLEN
    go_wp2_with fail
    refine kr.mono ?_
    rintro e w4 ⟨rfl, ge, ec, u, a1, a2, a3, a5⟩
    have HA5 := (show Hid _ from a5)
    clear kr a5 a0
    go_wp2_with fail
    go_ret
    obtain ⟨M', hq⟩ := HA5.out
    exact ⟨rfl, M', hq⟩

end

end Go.Proofs.YtahhionlbfhinaaGreatDoor.Hp
