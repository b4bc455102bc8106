/- HZ, HS, HT -/
import Derived.Test.YtkpdpdllbnihgaaGreatHY
import Derived.Test.YtkpdpdllbnihgaaGreatB12
import Derived.Test.YtkpdpdllbnihgaaGreatB10
import Derived.Test.YtkpdpdllbnihgaaGreatB11
set_option linter.unusedVariables false
set_option linter.unusedSimpArgs false
set_option maxRecDepth 100000
set_option maxHeartbeats 40000000
/- SetLen, SetElem. -/
namespace Go.Proofs.YtkpdpdllbnihgaaGreat.Hp
open Go.RowKit
section
variable {w w' w1 w5 : World} {B hb : Nat} {O S : Nat → Prop} {H H' : He} {M M' : HV} {tg : Nat → Nat}
def elH (H : He) (i : Nat) (ob : Ob) (el : List Int) : He := { touchH H ob.cell with obs := H.obs.set i { ob with el := el } }
set_option maxRecDepth 100000 in
theorem setLen_no (h : HeapAt w B hb tg H M) (o : Int) (o0 : 0 ≤ o) (o1 : o < 18446744073709551616) {i : Nat} {ob : Ob} (ho : obI H o = some i) (hi : H.obs[i]? = some ob) (n : Int) (hn : n < 0 ∨ 4096 < n) :
    Calls Tryz.prog 34 #[.pointer (some ⟨hb, 0, none⟩), .int .u64 o, .int .i64 n] w fun e w' => e = .returned (.bool false) ∧ w' = w := by
  obtain ⟨g, cap, ov, hvo, _⟩ := h.obj hi
  have ka := at_hit h o o0 o1 i g cap ho hvo
  clear h hi ho hvo
  rcases hn with c | c
  · have c1 : decide (n < 0) = true := decide_eq_true c
    go_enter Tryz.func34, Tryz.ntmps34
    go_wp2_with fail
    refine ka.mono ?_
    rintro e w2 ⟨rfl, rfl⟩
    clear ka
    go_wp2_with fail
    go_ret
    exact ⟨rfl, rfl⟩
  · have c1 : decide (n < 0) = false := decide_eq_false (by omega)
    have c2 : decide (4096 < n) = true := decide_eq_true c
    go_enter Tryz.func34, Tryz.ntmps34
    go_wp2_with fail
    refine ka.mono ?_
    rintro e w2 ⟨rfl, rfl⟩
    clear ka
    go_wp2_with fail
    go_ret
    exact ⟨rfl, rfl⟩
set_option maxRecDepth 100000 in
set_option maxHeartbeats 1000000 in
theorem setLen_at (h : HeapAt w B hb tg H M) (o : Int) (o0 : 0 ≤ o) (o1 : o < 18446744073709551616) {i : Nat} {ob : Ob} (ho : obI H o = some i) (hi : H.obs[i]? = some ob) (n : Nat) (hn : n ≤ 4096) :
    Calls Tryz.prog 34 #[.pointer (some ⟨hb, 0, none⟩), .int .u64 o, .int .i64 (n : Int)] w fun e w' => e = .returned (.bool true) ∧ ∃ M', WentM w B hb tg (elH H i ob (resL ob.el n)) M' w' := by
  obtain ⟨g, cap, ov, hvo, hov, _⟩ := h.obj hi
  have ka := at_hit h o o0 o1 i g cap ho hvo
  have kt := touch_at h hi hvo
  have HA : Hid (∀ w2, WentM w B hb tg (touchH H ob.cell) M w2 → Calls Tryz.prog 78 #[.pointer (some ⟨g, i * 12, none⟩), .int .i64 (n : Int)] w2 fun e w' => e = .returned (.tuple #[]) ∧ ∃ M', WentM w B hb tg (elH H i ob (resL ob.el n)) M' w') := fun w2 q => by
    obtain ⟨tg2, p1, p2, p3⟩ := q
    refine (resize_at p1 hi hov hvo n hn).mono ?_
    rintro e w' ⟨rfl, ve, hq⟩
    exact ⟨rfl, _, WentM.next p2 p3 hq⟩
  have c1 : decide ((n : Int) < 0) = false := decide_eq_false (by omega)
  have c2 : decide (4096 < (n : Int)) = false := decide_eq_false (by omega)
  generalize elH H i ob (resL ob.el n) = HL at *
  generalize touchH H ob.cell = HT at *
  clear h hi ho hvo hov hn
  go_enter Tryz.func34, Tryz.ntmps34
  go_wp2_with fail
  refine ka.mono ?_
  rintro e w2 ⟨rfl, rfl⟩
  clear ka
  go_wp2_with fail
  refine kt.mono ?_
  rintro e w3 ⟨rfl, hw3⟩
  have kr := HA.out w3 hw3
  clear kt hw3 HA
  go_wp2_with fail
  refine kr.mono ?_
  rintro e w4 ⟨rfl, M', hq⟩
  have HQ := (show Hid _ from hq)
  clear kr hq
  go_wp2_with fail
  go_ret
  exact ⟨rfl, M', HQ.out⟩
set_option maxRecDepth 100000 in
theorem setElem_no (h : HeapAt w B hb tg H M) (o : Int) (o0 : 0 ≤ o) (o1 : o < 18446744073709551616) {i : Nat} {ob : Ob} (ho : obI H o = some i) (hi : H.obs[i]? = some ob) (n v : Int) (hn : n < 0 ∨ 4096 ≤ n) :
    Calls Tryz.prog 31 #[.pointer (some ⟨hb, 0, none⟩), .int .u64 o, .int .i64 n, .int .u64 v] w fun e w' => e = .returned (.bool false) ∧ w' = w := by
  obtain ⟨g, cap, ov, hvo, _⟩ := h.obj hi
  have ka := at_hit h o o0 o1 i g cap ho hvo
  clear h hi ho hvo
  rcases hn with c | c
  · have c1 : decide (n < 0) = true := decide_eq_true c
    go_enter Tryz.func31, Tryz.ntmps31
    go_wp2_with fail
    refine ka.mono ?_
    rintro e w2 ⟨rfl, rfl⟩
    clear ka
    go_wp2_with fail
    go_ret
    exact ⟨rfl, rfl⟩
  · have c1 : decide (n < 0) = false := decide_eq_false (by omega)
    have c2 : decide (4096 ≤ n) = true := decide_eq_true c
    go_enter Tryz.func31, Tryz.ntmps31
    go_wp2_with fail
    refine ka.mono ?_
    rintro e w2 ⟨rfl, rfl⟩
    clear ka
    go_wp2_with fail
    go_ret
    exact ⟨rfl, rfl⟩
def setL (el : List Int) (n : Nat) (v : Int) : List Int := (if n < el.length then el else resL el (n + 1)).set n v
/-- an element is laid, where there is room for it: its address, and what is left -/
theorem HeapAt.elput (h : HeapAt w B hb tg H M) {i g cap n : Nat} {ob : Ob} (hi : H.obs[i]? = some ob) (hvo : M.vo = ⟨some ⟨g, 0, none⟩, H.obs.length, cap⟩) (hn : n < ob.el.length) (v : Int) :
    ∃ ge ec u, w.cell? ⟨g, i * 12 + 7, none⟩ = some (.slice (some ⟨ge, 0, none⟩) ob.el.length ec) ∧ w.cell? ⟨ge, n, none⟩ = some (.int .u64 u) ∧ w.frozen? ⟨ge, n, none⟩ = false ∧ (ob.el.length : Int) ≤ 9223372036854775807 ∧ WentM w B hb tg { H with obs := H.obs.set i { ob with el := ob.el.set n v } } M (w.setCell ⟨ge, n, none⟩ (.int .u64 v)) := by
  obtain ⟨g', cap', ov, hvo', hov, t4, hne, hgl, hcell, hfz, _⟩ := h.obj hi
  have hvv := hvo'
  rw [hvo] at hvv
  injection hvv with x1 x2 x3
  injection x1 with x1
  injection x1 with x1
  subst x1
  have d7 := hcell 7 _ rfl
  simp only at d7
  have hr : RowIn wC 1 33 B w _ ov.ve ob.el := h.part hi hov 2 (by omega)
  obtain ⟨q1, q2, q3, q4⟩ := hr.open rtW.len
  obtain ⟨ge, e1, _, _, _, hc, hf⟩ := q4 (by intro e; rw [e] at hn; simp at hn)
  rcases hve : ov.ve with ⟨ad, len, ec⟩
  rw [hve] at q1 q2 q3 e1 d7
  simp only at q1 q2 q3 e1
  subst q1 e1
  unfold SV.val at d7
  simp only at d7
  have dv := hc n _ (List.getElem?_eq_getElem hn) 0 _ rfl
  simp only [Nat.mul_one, Nat.add_zero] at dv
  exact ⟨ge, ec, _, d7, dv, hf n, by unfold maxLen at q3; omega, h.elst hi hov hve hn v⟩
set_option maxRecDepth 100000 in
set_option maxHeartbeats 1000000 in
theorem setElem_at (h : HeapAt w B hb tg H M) (o : Int) (o0 : 0 ≤ o) (o1 : o < 18446744073709551616) {i : Nat} {ob : Ob} (ho : obI H o = some i) (hi : H.obs[i]? = some ob) (n : Nat) (hn : n < 4096) (v : Int) :
    Calls Tryz.prog 31 #[.pointer (some ⟨hb, 0, none⟩), .int .u64 o, .int .i64 (n : Int), .int .u64 v] w fun e w' => e = .returned (.bool true) ∧ ∃ M', WentM w B hb tg (elH H i ob (setL ob.el n v)) M' w' := by
  obtain ⟨g, cap, ov, hvo, hov, _⟩ := h.obj hi
  have ka := at_hit h o o0 o1 i g cap ho hvo
  have kt := touch_at h hi hvo
  have hil : i < H.obs.length := (List.getElem?_eq_some_iff.1 hi).1
  have c1 : decide ((n : Int) < 0) = false := decide_eq_false (by omega)
  have c2 : decide (4096 ≤ (n : Int)) = false := decide_eq_false (by omega)
  have HLEN : Hid (∀ w2, WentM w B hb tg (touchH H ob.cell) M w2 → ∃ ad ec, w2.cell? ⟨g, i * 12 + 7, none⟩ = some (.slice ad ob.el.length ec)) := fun w2 q => by
    obtain ⟨tg2, p1, p2, p3⟩ := q
    obtain ⟨g', cap', ov', hvo', hov', t4, hne, hgl, hcell, hfz, _⟩ := p1.obj (ob := ob) hi
    have hvv := hvo'
    rw [hvo] at hvv
    injection hvv with x1 x2 x3
    injection x1 with x1
    injection x1 with x1
    subst x1
    have d7 := hcell 7 _ rfl
    have hr : RowIn wC 1 33 B w2 _ ov'.ve ob.el := p1.part (ob := ob) hi hov' 2 (by omega)
    obtain ⟨q1, _⟩ := hr.open rtW.len
    unfold SV.val at d7
    simp only at d7
    rw [q1] at d7
    exact ⟨_, _, d7⟩
  by_cases c : n < ob.el.length
  · have HA : Hid (∀ w2, WentM w B hb tg (touchH H ob.cell) M w2 → ∃ ge ec u, w2.cell? ⟨g, i * 12 + 7, none⟩ = some (.slice (some ⟨ge, 0, none⟩) ob.el.length ec) ∧ w2.cell? ⟨ge, n, none⟩ = some (.int .u64 u) ∧ w2.frozen? ⟨ge, n, none⟩ = false ∧ (ob.el.length : Int) ≤ 9223372036854775807 ∧ ∃ M', WentM w B hb tg (elH H i ob (setL ob.el n v)) M' (w2.setCell ⟨ge, n, none⟩ (.int .u64 v))) := fun w2 q => by
      obtain ⟨tg2, p1, p2, p3⟩ := q
      obtain ⟨ge, ec, u, a1, a2, a3, a4, a5⟩ := p1.elput (ob := ob) hi hvo c v
      have e : elH H i ob (setL ob.el n v) = { touchH H ob.cell with obs := (touchH H ob.cell).obs.set i { ob with el := ob.el.set n v } } := by
        unfold elH setL
        rw [if_pos c]
        rfl
      rw [e]
      exact ⟨ge, ec, u, a1, a2, a3, a4, M, WentM.next p2 p3 a5⟩
    have c3 : decide ((ob.el.length : Int) ≤ (n : Int)) = false := decide_eq_false (by omega)
    have c4 : (n : Int) < (ob.el.length : Int) := by omega
    generalize elH H i ob (setL ob.el n v) = HL at *
    generalize touchH H ob.cell = HT at *
    generalize ob.el.length = len at *
    clear h hi ho hvo hov hn hil c HLEN
    go_enter Tryz.func31, Tryz.ntmps31
    go_wp2_with fail
    refine ka.mono ?_
    rintro e w2 ⟨rfl, rfl⟩
    clear ka
    go_wp2_with fail
    refine kt.mono ?_
    rintro e w3 ⟨rfl, hw3⟩
    obtain ⟨ge, ec, u, a1, a2, a3, a4, a5⟩ := HA.out w3 hw3
    have HA5 := (show Hid _ from a5)
    clear kt hw3 HA a5
    go_wp2_with fail
    go_ret
    obtain ⟨M', hq⟩ := HA5.out
    exact ⟨rfl, M', hq⟩
  · have HA : Hid (∀ w2, WentM w B hb tg (touchH H ob.cell) M w2 → Calls Tryz.prog 78 #[.pointer (some ⟨g, i * 12, none⟩), .int .i64 ((n + 1 : Nat) : Int)] w2 fun e w' => e = .returned (.tuple #[]) ∧ ∃ ge ec u, w'.cell? ⟨g, i * 12 + 7, none⟩ = some (.slice (some ⟨ge, 0, none⟩) (n + 1) ec) ∧ w'.cell? ⟨ge, n, none⟩ = some (.int .u64 u) ∧ w'.frozen? ⟨ge, n, none⟩ = false ∧ ∃ M', WentM w B hb tg (elH H i ob (setL ob.el n v)) M' (w'.setCell ⟨ge, n, none⟩ (.int .u64 v))) := fun w2 q => by
      obtain ⟨tg2, p1, p2, p3⟩ := q
      refine (resize_at p1 hi hov hvo (n + 1) (by omega)).mono ?_
      rintro e w' ⟨rfl, ve, tg3, r1, r2, r3⟩
      have hi1 : ({ touchH H ob.cell with obs := (touchH H ob.cell).obs.set i { ob with el := resL ob.el (n + 1) } } : He).obs[i]? = some { ob with el := resL ob.el (n + 1) } := List.getElem?_set_self hil
      have hvo1 : ({ M with ovs := M.ovs.set i { ov with ve := ve } } : HV).vo = ⟨some ⟨g, 0, none⟩, ({ touchH H ob.cell with obs := (touchH H ob.cell).obs.set i { ob with el := resL ob.el (n + 1) } } : He).obs.length, cap⟩ := by
        simp only [List.length_set]
        exact hvo
      obtain ⟨ge, ec, u, a1, a2, a3, a4, a5⟩ := r1.elput (n := n) hi1 hvo1 (by rw [show ({ ob with el := resL ob.el (n + 1) } : Ob).el = resL ob.el (n + 1) from rfl, resL_len]; omega) v
      simp only [resL_len, List.set_set] at a1 a5
      have e : elH H i ob (setL ob.el n v) = { touchH H ob.cell with obs := (touchH H ob.cell).obs.set i { ob with el := (resL ob.el (n + 1)).set n v } } := by
        unfold elH setL
        rw [if_neg c]
        rfl
      rw [e]
      exact ⟨rfl, ge, ec, u, a1, a2, a3, _, WentM.next p2 p3 (WentM.next r2 r3 a5)⟩
    have c3 : decide ((ob.el.length : Int) ≤ (n : Int)) = true := decide_eq_true (by omega)
    have c4 : (ob.el.length : Int) ≤ (n : Int) := by omega
    have hw1 : IntKind.i64.wrap ((n : Int) + 1) = ((n + 1 : Nat) : Int) := by rw [IntKind.wrap_i64]; omega
    have hn1 : (n : Int) < ((n + 1 : Nat) : Int) := by omega
    have hn2 : ((n + 1 : Nat) : Int) ≤ 9223372036854775807 := by omega
    generalize elH H i ob (setL ob.el n v) = HL at *
    generalize touchH H ob.cell = HT at *
    generalize ob.el.length = len at *
    clear h hi ho hvo hov hn hil c
    generalize hnn : n + 1 = n1 at *
    clear hnn
    go_enter Tryz.func31, Tryz.ntmps31
    go_wp2_with fail
    refine ka.mono ?_
    rintro e w2 ⟨rfl, rfl⟩
    clear ka
    go_wp2_with fail
    refine kt.mono ?_
    rintro e w3 ⟨rfl, hw3⟩
    obtain ⟨ad, ec0, a0⟩ := HLEN.out w3 hw3
    have kr := HA.out w3 hw3
    clear kt hw3 HA HLEN
    go_wp2_with fail
    refine kr.mono ?_
    rintro e w4 ⟨rfl, ge, ec, u, a1, a2, a3, a5⟩
    have HA5 := (show Hid _ from a5)
    clear kr a5 a0
    go_wp2_with fail
    go_ret
    obtain ⟨M', hq⟩ := HA5.out
    exact ⟨rfl, M', hq⟩
end
end Go.Proofs.YtkpdpdllbnihgaaGreat.Hp
/- Text, TextOf. -/
namespace Go.Proofs.YtkpdpdllbnihgaaGreat.Hp
open Go.RowKit
def txI (tx : List ByteArray) (s : ByteArray) : Option Nat := tx.findIdx? (fun t => decide (t = s))
theorem txI_some {tx : List ByteArray} {s : ByteArray} {i : Nat} (h : txI tx s = some i) : tx[i]? = some s := by
  unfold txI at h
  rw [List.findIdx?_eq_some_iff_getElem] at h
  obtain ⟨h1, h2, _⟩ := h
  rw [List.getElem?_eq_getElem h1]
  simpa using h2
theorem txI_none {tx : List ByteArray} {s : ByteArray} (h : txI tx s = none) : s ∉ tx := by
  intro hp
  unfold txI at h
  rw [List.findIdx?_eq_none_iff] at h
  have := h s hp
  simp at this
theorem numd_fst (tx : List ByteArray) : (numd tx).map Prod.fst = tx := by
  unfold numd
  rw [List.map_map]
  show tx.zipIdx.map (fun x => x.1) = tx
  exact List.zipIdx_map_fst 0 tx
theorem numd_ok {tx : List ByteArray} (hn : tx.Nodup) (hs : ∀ t ∈ tx, t.size ≤ 4096) : BkOk (numd tx) := by
  refine ⟨by rw [numd_fst]; exact hn, fun e he => ?_⟩
  have : e.1 ∈ tx := by rw [← numd_fst tx]; exact List.mem_map.2 ⟨e, he, rfl⟩
  have := hs _ this
  unfold maxLen
  omega
theorem numd_mem {tx : List ByteArray} {i : Nat} {s : ByteArray} (h : tx[i]? = some s) : (s, (i : Int)) ∈ numd tx := by
  unfold numd
  refine List.mem_map.2 ⟨(s, i), ?_, rfl⟩
  rw [List.mem_iff_getElem?]
  exact ⟨i, by rw [List.getElem?_zipIdx, h]; simp⟩
theorem numd_lk {tx : List ByteArray} (hn : tx.Nodup) (s : ByteArray) : lk (numd tx) s = (txI tx s).map (fun n => (s, (n : Int))) := by
  cases h : txI tx s with
  | some i =>
    rw [lk_some (by rw [numd_fst]; exact hn) (s, (i : Int)) (numd_mem (txI_some h)) rfl]
    rfl
  | none =>
    rw [lk_none (fun x hx e => txI_none h (by rw [← e, ← numd_fst tx]; exact List.mem_map.2 ⟨x, hx, rfl⟩))]
    rfl
theorem numd_push (tx : List ByteArray) (s : ByteArray) : numd (tx ++ [s]) = numd tx ++ [(s, (tx.length : Int))] := by
  unfold numd
  rw [List.zipIdx_append, List.map_append]
  simp
theorem zero62 (w : World) : (zeroValue 108).run Tryz.prog w = .ok (.int .u32 0) w := by
  kernel_rfl
section
variable {w w' w1 : World} {B hb : Nat} {O S : Nat → Prop} {H H' : He} {M M' : HV} {tg : Nat → Nat}
/-- a text more: its row, the heap's own cell, the map -/
theorem HeapAt.text (h : HeapAt w B hb tg H M) {s : ByteArray} (hs : s.size ≤ 4096) (hno : txI H.tx s = none) (hl : H.tx.length < 16384) {w6 : World} {g6 c6 : Nat} (q1 : OwnR strC 1 9 B w6 (.slice (some ⟨g6, 0, none⟩) (H.tx.length + 1) c6) (H.tx ++ [s])) (q2 : Chg (fun b => M.vt.val.ownBlock = some b) w w6) (q3 : M.vt.val.ownBlock = some g6 ∨ w.heap.size ≤ g6) :
    ∃ w8, (Instr.mapUpdate 56 (.map (some M.mb)) (.string s) (.int .u32 (H.tx.length : Int))).run Tryz.prog (w6.setCell ⟨hb, 0, none⟩ (.slice (some ⟨g6, 0, none⟩) (H.tx.length + 1) c6)) = .ok () w8 ∧ (w6.setCell ⟨hb, 0, none⟩ (.slice (some ⟨g6, 0, none⟩) (H.tx.length + 1) c6)).cell? ⟨hb, 1, none⟩ = some (.map (some M.mb)) ∧ WentM w B hb tg { H with tx := H.tx ++ [s] } { M with vt := ⟨some ⟨g6, 0, none⟩, H.tx.length + 1, c6⟩ } w8 := by
  have hp2 : RowIn strC 1 9 B w _ M.vt H.tx := h.prt 2
  have ht : ∀ b, M.vt.val.ownBlock = some b → tg b = 2 := hp2.2
  have hp3 : tg M.mb = 3 ∧ MpIs w M.mb .u32 (numd H.tx) := h.prt 3
  have hB0 := h.B0
  have hmb := h.lt M.mb (by omega)
  have hnm : M.mb ≠ hb := fun e => by have := hp3.1; rw [e] at this; omega
  have hg6 := (q1.lt g6 rfl).2
  have hgm : g6 ≠ M.mb := fun e => by
    rcases q3 with c | c
    · have := ht g6 c; rw [e] at this; omega
    · omega
  have hgh : g6 ≠ hb := fun e => by
    rcases q3 with c | c
    · have := ht g6 c; rw [e] at this; omega
    · omega
  have hbx6 : w6.heap[hb]? = some (.cells (hpC H M) 63 (0, 0)) := by
    rw [q2.block hb hB0.2.1 (fun q => by have := ht hb q; omega)]
    exact (h.prt 1).2
  have hset := heap_setCell_same w6 hb 0 _ _ (.slice (some ⟨g6, 0, none⟩) (H.tx.length + 1) c6) hbx6
  generalize hw7 : w6.setCell ⟨hb, 0, none⟩ (.slice (some ⟨g6, 0, none⟩) (H.tx.length + 1) c6) = w7 at *
  have c7 : Chg (fun b => b = hb) w6 w7 := by rw [← hw7]; exact Chg.set (S := fun b => b = hb) w6 ⟨hb, 0, none⟩ _ rfl
  have hm7 : MpIs w7 M.mb .u32 (numd H.tx) := (hp3.2.kept q2 (fun q => by have := ht M.mb q; omega)).kept c7 hnm
  have hmx : s.size ≤ maxLen := by unfold maxLen; omega
  obtain ⟨w8, r1, r2, r3, r4⟩ := hm7.put (numd_ok h.wf.tn h.wf.ts) Tryz.underlying56 hmx (fun x hx e => txI_none hno (by rw [← e, ← numd_fst H.tx]; exact List.mem_map.2 ⟨x, hx, rfl⟩)) (H.tx.length : Int)
  have c8 : Chg (fun b => b = M.mb) w7 w8 := Chg.of_grown r3 (fun k q => by cases q; rfl)
  refine ⟨w8, r1, ?_, ?_⟩
  · rw [cell_of_row w7 hb 1 _ _ (0, 0) hset]
    rfl
  · have hcc : Chg (fun b => tg b = 2 ∨ tg b = 1 ∨ tg b = 3) w w8 := ((q2.mono (S' := fun b => tg b = 2 ∨ tg b = 1 ∨ tg b = 3) (fun b q => Or.inl (ht b q))).trans c7 (fun b _ q => Or.inr (Or.inl (by rw [show b = hb from q]; exact hB0.1)))).trans c8 (fun b _ q => Or.inr (Or.inr (by rw [show b = M.mb from q]; exact hp3.1)))
    have hsz8 : w8.heap.size = w6.heap.size := by rw [r4, ← hw7]; simp
    refine h.wentM (k0 := 2) hcc (fun b _ q => by omega) ?_
    refine h.up (H' := { H with tx := H.tx ++ [s] }) (M' := { M with vt := ⟨some ⟨g6, 0, none⟩, H.tx.length + 1, c6⟩ }) hcc (fun k => k = 2 ∨ k = 1 ∨ k = 3) 2 (fun b _ q => ⟨q, by omega⟩) (fun k q => ?_) (fun k O q hk => ?_) h.len ⟨h.wf.ob, h.wf.ol, ?_, ?_, ?_, h.wf.mo, h.wf.br⟩
    · rcases q with rfl | rfl | rfl
      · refine ⟨(q1.kept c7 (fun b q e => ?_)).kept c8 (fun b q e => ?_), fun b q => ?_⟩
        · simp [Value.ownBlock] at q; subst q; exact hgh e
        · simp [Value.ownBlock] at q; subst q; exact hgm e
        · have hbg : b = g6 := by simpa [SV.val, Value.ownBlock] using q.symm
          subst hbg
          show rtg _ _ _ _ _ = 2
          by_cases c : b < w.heap.size
          · rw [rtg_old c]
            rcases q3 with q | q
            · exact ht b q
            · omega
          · rw [rtg_new (by omega) (by omega)]
      · refine ⟨by show rtg _ _ _ _ _ = 1; rw [rtg_old hB0.2.1]; exact hB0.1, ?_⟩
        rw [c8.block hb (by rw [← hw7]; simp; have := q2.size; omega) (fun e => hnm e.symm)]
        exact hset
      · refine ⟨by show rtg _ _ _ _ _ = 3; rw [rtg_old hmb.2]; exact hp3.1, ?_⟩
        show MpIs w8 M.mb .u32 (numd (H.tx ++ [s]))
        rw [numd_push]
        exact r2
    · match k, hk, q with
      | 0, hk, q => trivial
      | 1, hk, q => exact absurd (Or.inr (Or.inl rfl)) q
      | 2, hk, q => exact absurd (Or.inl rfl) q
      | 3, hk, q => exact absurd (Or.inr (Or.inr rfl)) q
      | 4, hk, q => exact hk
      | 5, hk, q => exact hk
      | 6, hk, q => exact hk
      | k + 7, hk, q => exact hk
    · show (H.tx ++ [s]).Nodup
      rw [List.nodup_append]
      refine ⟨h.wf.tn, by simp, fun a ha b hb e => ?_⟩
      rw [List.mem_singleton.1 hb] at e
      rw [e] at ha
      exact txI_none hno ha
    · intro t ht'
      rcases List.mem_append.1 ht' with q | q
      · exact h.wf.ts t q
      · rw [List.mem_singleton.1 q]; exact hs
    · show (H.tx ++ [s]).length ≤ 16384
      rw [List.length_append, List.length_singleton]
      omega
end
end Go.Proofs.YtkpdpdllbnihgaaGreat.Hp
/- Text, TextOf: the walks. -/
namespace Go.Proofs.YtkpdpdllbnihgaaGreat.Hp
open Go.RowKit
section
variable {w w' w1 : World} {B hb : Nat} {O S : Nat → Prop} {H H' : He} {M M' : HV} {tg : Nat → Nat}
theorem text_any (n : Int) (w : World) (n0 : 0 ≤ n) (n1 : n < 4294967296) : Calls Tryz.prog 81 #[.int .u32 n] w fun e w' => e = .returned (.int .u64 (txtW n)) ∧ w' = w := by
  have c := fun w => tagged_any 65532 n w (by omega) (by omega) n0 n1
  unfold txtW
  rw [show (65532 * 281474976710656 : Int) = 18445618173802708992 from rfl] at c
  go_enter Tryz.func81, Tryz.ntmps81
  go_wp2_with (go_at_call 93; refine (c _).mono ?_; rintro e w1 ⟨rfl, rfl⟩)
  go_ret
  exact ⟨rfl, rfl⟩
theorem isText_any (a : Int) (w : World) (h0 : 0 ≤ a) (h1 : a < 18446744073709551616) :
    Calls Tryz.prog 86 #[.int .u64 a] w fun e w' => e = .returned (.tuple #[.int .u32 (payN a 65532), .bool (isT a 65532)]) ∧ w' = w := by
  have c := fun w => payU_any a 65532 w h0 h1 (by omega) (by omega)
  unfold payN
  generalize (if isT a 65532 then a % 4294967296 else 0) = x at *
  generalize isT a 65532 = y at *
  go_enter Tryz.func86, Tryz.ntmps86
  go_wp2_with (go_at_call 104; refine (c _).mono ?_; rintro e w1 ⟨rfl, rfl⟩)
  go_ret2
  exact ⟨rfl, rfl⟩
set_option maxRecDepth 100000 in
theorem text_long (h : HeapAt w B hb tg H M) (s : ByteArray) (hs : 4096 < s.size) :
    Calls Tryz.prog 40 #[.pointer (some ⟨hb, 0, none⟩), .string s] w fun e w' => e = .returned (.tuple #[.int .u64 undW, .bool false]) ∧ w' = w := by
  have hs' : (4096 : Int) < (s.size : Int) := by omega
  unfold undW
  clear h hs
  go_enter Tryz.func40, Tryz.ntmps40
  go_wp2_with fail
  go_ret2
  exact ⟨rfl, rfl⟩
set_option maxRecDepth 100000 in
theorem text_known (h : HeapAt w B hb tg H M) (s : ByteArray) (hs : s.size ≤ 4096) {n : Nat} (hn : txI H.tx s = some n) :
    Calls Tryz.prog 40 #[.pointer (some ⟨hb, 0, none⟩), .string s] w fun e w' => e = .returned (.tuple #[.int .u64 (txtW (n : Int)), .bool true]) ∧ w' = w := by
  have km := made_at h
  obtain ⟨c0, c1, c2, c3, c4, c5, fz⟩ := h.box
  have hp3 : tg M.mb = 3 ∧ MpIs w M.mb .u32 (numd H.tx) := h.prt 3
  have hlk := hp3.2.look (numd_ok h.wf.tn h.wf.ts) Tryz.underlying56 (zero62 w) (nm := s) (by unfold maxLen; omega)
  rw [numd_lk h.wf.tn, hn] at hlk
  have hlk : (Instr.lookup 56 (.map (some M.mb)) (.string s) true).run Tryz.prog w = .ok (.tuple #[.int .u32 (n : Int), .bool true]) w := hlk
  have hnl : n < H.tx.length := (List.getElem?_eq_some_iff.1 (txI_some hn)).1
  have htl := h.wf.tl
  have kt := fun w => text_any (n : Int) w (by omega) (by omega)
  have hs' : ¬ (4096 : Int) < (s.size : Int) := by omega
  clear h hs hn c0 c2 c3 c4 c5 fz hp3 hnl htl
  go_enter Tryz.func40, Tryz.ntmps40
  go_wp2_with fail
  refine km.mono ?_
  rintro e w2 ⟨rfl, rfl⟩
  clear km
  go_wp2_with fail
  refine (kt _).mono ?_
  rintro e w3 ⟨rfl, rfl⟩
  clear kt
  go_wp2_with fail
  go_ret2
  exact ⟨rfl, rfl⟩
set_option maxRecDepth 100000 in
theorem text_full (h : HeapAt w B hb tg H M) (s : ByteArray) (hs : s.size ≤ 4096) (hn : txI H.tx s = none) (hl : H.tx.length = 16384) :
    Calls Tryz.prog 40 #[.pointer (some ⟨hb, 0, none⟩), .string s] w fun e w' => e = .returned (.tuple #[.int .u64 undW, .bool false]) ∧ w' = w := by
  have km := made_at h
  obtain ⟨c0, c1, c2, c3, c4, c5, fz⟩ := h.box
  have hp2 : RowIn strC 1 9 B w _ M.vt H.tx := h.prt 2
  obtain ⟨q1, q2, q3, q4⟩ := hp2.open rtStr.len
  have hp3 : tg M.mb = 3 ∧ MpIs w M.mb .u32 (numd H.tx) := h.prt 3
  have hlk := hp3.2.look (numd_ok h.wf.tn h.wf.ts) Tryz.underlying56 (zero62 w) (nm := s) (by unfold maxLen; omega)
  rw [numd_lk h.wf.tn, hn] at hlk
  have hlk : (Instr.lookup 56 (.map (some M.mb)) (.string s) true).run Tryz.prog w = .ok (.tuple #[.int .u32 0, .bool false]) w := hlk
  unfold SV.val at c0
  rw [q1, hl] at c0
  have hs' : ¬ (4096 : Int) < (s.size : Int) := by omega
  unfold undW
  clear h hs hn c2 c3 c4 c5 fz hp2 hp3 q1 q2 q3 q4 hl
  go_enter Tryz.func40, Tryz.ntmps40
  go_wp2_with fail
  refine km.mono ?_
  rintro e w2 ⟨rfl, rfl⟩
  clear km
  go_wp2_with fail
  go_ret2
  exact ⟨rfl, rfl⟩
set_option maxRecDepth 100000 in
set_option maxHeartbeats 1000000 in
theorem text_new (h : HeapAt w B hb tg H M) (s : ByteArray) (hs : s.size ≤ 4096) (hn : txI H.tx s = none) (hl : H.tx.length < 16384) :
    Calls Tryz.prog 40 #[.pointer (some ⟨hb, 0, none⟩), .string s] w fun e w' => e = .returned (.tuple #[.int .u64 (txtW (H.tx.length : Int)), .bool true]) ∧ ∃ M', WentM w B hb tg { H with tx := H.tx ++ [s] } M' w' := by
  have km := made_at h
  obtain ⟨c0, c1, c2, c3, c4, c5, fz⟩ := h.box
  have hp2 : RowIn strC 1 9 B w _ M.vt H.tx := h.prt 2
  have hown := hp2.1
  obtain ⟨q1, q2, q3, q4⟩ := hp2.open rtStr.len
  have hp3 : tg M.mb = 3 ∧ MpIs w M.mb .u32 (numd H.tx) := h.prt 3
  have hlk := hp3.2.look (numd_ok h.wf.tn h.wf.ts) Tryz.underlying56 (zero62 w) (nm := s) (by unfold maxLen; omega)
  rw [numd_lk h.wf.tn, hn] at hlk
  have hlk : (Instr.lookup 56 (.map (some M.mb)) (.string s) true).run Tryz.prog w = .ok (.tuple #[.int .u32 0, .bool false]) w := hlk
  have hB0 := h.B0
  have ht : ∀ b, M.vt.val.ownBlock = some b → tg b = 2 := hp2.2
  have hnh : ¬ M.vt.val.ownBlock = some hb := fun q => by have := ht hb q; omega
  have HTX : Hid (∀ w6 g6 c6, OwnR strC 1 9 B w6 (.slice (some ⟨g6, 0, none⟩) (H.tx.length + 1) c6) (H.tx ++ [s]) → Chg (fun b => M.vt.val.ownBlock = some b) w w6 → (M.vt.val.ownBlock = some g6 ∨ w.heap.size ≤ g6) → _) := fun w6 g6 c6 r1 r2 r3 => h.text hs hn hl r1 r2 r3
  have HFZ : Hid (∀ W, Chg (fun b => M.vt.val.ownBlock = some b) w W → W.cell? ⟨hb, 0, none⟩ = some M.vt.val ∧ W.frozen? ⟨hb, 0, none⟩ = false) := fun W q => ⟨q.cell c0 hnh, by rw [World.frozen?_of_block (w := w) (q.block hb hB0.2.1 hnh)]; exact fz 0⟩
  have kt := fun w => text_any (H.tx.length : Int) w (by omega) (by omega)
  have hs' : ¬ (4096 : Int) < (s.size : Int) := by omega
  have HBX : Hid (((H.tx.length + 1) + (H.tx.length + 1) / 4 + 192) * 16 ≤ 281474976710656 ∧ H.tx.length + 1 ≤ maxLen) := ⟨by omega, by unfold maxLen; omega⟩
  have HAL : Hid (Below w.heap.size w (w.alloc (.cells #[.string s] 9))) := (Below.refl _ _).alloc (Nat.le_refl _) _
  have HOW : Hid (OwnR strC 1 9 B (w.alloc (.cells #[.string s] 9)) M.vt.val H.tx) := hown.below HAL.out
  have HONE : Hid (Sli.ok strC 1 (w.alloc (.cells #[.string s] 9)) ⟨some ⟨w.heap.size, 0, none⟩, 1, [s]⟩) := one_sli rtStr (at_new _ _) rfl
  have HSZ : Hid (B ≤ (w.alloc (.cells #[.string s] 9)).heap.size) := Nat.le_trans (by omega) HAL.out.size
  have hge : decide ((16384 : Int) ≤ (H.tx.length : Int)) = false := decide_eq_false (by omega)
  have hu : IntKind.u32.wrap (H.tx.length : Int) = (H.tx.length : Int) := by rw [IntKind.wrap_u32]; omega
  unfold SV.val at c0 HTX HFZ HOW
  rw [q1] at c0 HTX HFZ HOW
  generalize hH : { H with tx := H.tx ++ [s] } = HN at *
  generalize M.vt.ad = ad at *
  generalize M.vt.cap = cp at *
  generalize M.mb = mb at *
  have f0 := fz 0
  clear h hs hn c2 c3 c4 c5 fz hp2 hp3 q1 q2 q3 q4 hl hown hB0 ht hnh hH
  generalize H.tx = tx at *
  go_enter Tryz.func40, Tryz.ntmps40
  go_wp2_with fail
  refine km.mono ?_
  rintro e w2 ⟨rfl, rfl⟩
  clear km
  go_upto_region 8 with fail
  go_wp2_with (at_builtin; refine app_row rtStr rfl _ _ rfl B (.slice ad tx.length cp) tx ?h1 HOW.out ⟨some ⟨w2.heap.size, 0, none⟩, 1, [s]⟩ ?h3 HONE.out HBX.out.2 HBX.out.1 HSZ.out ?_)
  case h1 => rfl
  case h3 => rfl
  intro v6 w6 ho6 hg6 hl6
  have hll : (tx ++ [s]).length = tx.length + 1 := by simp
  have ho7 : w6.ownsRow B 9 1 v6 (tx.length + 1) ((tx ++ [s]).flatMap strC) := by rw [← hll]; exact ho6
  obtain ⟨g6, c6, rfl, _, _⟩ := ho7.form (by omega)
  have hch : Chg (fun b => (Value.slice ad tx.length cp).ownBlock = some b) w2 w6 := (Chg.of_below HAL.out).trans (Chg.of_grown (S := fun b => (Value.slice ad tx.length cp).ownBlock = some b) hg6 (fun k q => q)) (fun _ _ q => q)
  obtain ⟨w8, r1, r2, r3⟩ := HTX.out w6 g6 c6 (by unfold OwnR; rw [hll]; exact ho7) hch (hl6.imp (fun q => by rw [← q]; rfl) (fun q => by
    have q : g6 = (w2.alloc (.cells #[.string s] 9)).heap.size := by simpa [Value.ownBlock] using q
    rw [q]
    exact HAL.out.size))
  obtain ⟨z1, z2⟩ := HFZ.out w6 hch
  have HR3 := (show Hid _ from r3)
  clear ho6 ho7 hg6 hl6 hch r3 hll HTX HFZ HOW HONE HBX HSZ HAL c0 f0
  go_upto_region 9 with fail
  generalize (w6.setCell ⟨hb, 0, none⟩ (.slice (some ⟨g6, 0, none⟩) (tx.length + 1) c6)) = w7 at *
  go_wp2_with fail
  refine (kt _).mono ?_
  rintro e w9 ⟨rfl, rfl⟩
  clear kt
  go_wp2_with fail
  go_ret2
  exact ⟨rfl, _, HR3.out⟩
set_option maxRecDepth 100000 in
set_option maxHeartbeats 1000000 in
theorem textOf_at (h : HeapAt w B hb tg H M) {n : Nat} {s : ByteArray} (hn : H.tx[n]? = some s) :
    Calls Tryz.prog 54 #[.pointer (some ⟨hb, 0, none⟩), .int .u64 (txtW (n : Int))] w fun e w' => e = .returned (.tuple #[.string s, .bool true]) ∧ w' = w := by
  have km := made_at h
  obtain ⟨c0, c1, c2, c3, c4, c5, fz⟩ := h.box
  have hp2 : RowIn strC 1 9 B w _ M.vt H.tx := h.prt 2
  obtain ⟨q1, q2, q3, q4⟩ := hp2.open rtStr.len
  have hnl : n < H.tx.length := (List.getElem?_eq_some_iff.1 hn).1
  have htl := h.wf.tl
  obtain ⟨g, e1, _, _, _, hc, _⟩ := q4 (by intro e; rw [e] at hnl; simp at hnl)
  have d0 := hc n s hn 0 _ rfl
  simp only [Nat.mul_one, Nat.add_zero] at d0
  unfold SV.val at c0
  rw [q1, e1] at c0
  have kt := isText_any (txtW (n : Int)) w (by unfold txtW; omega) (by unfold txtW; omega)
  have hti := isT_txt (n : Int) (by omega) (by omega)
  rw [hti.1, hti.2] at kt
  generalize M.vt.cap = cp at *
  have hnn : (n : Int) < (H.tx.length : Int) := by omega
  have hnd : decide ((H.tx.length : Int) ≤ (n : Int)) = false := decide_eq_false (by omega)
  have hlim : (H.tx.length : Int) ≤ 9223372036854775807 := by omega
  generalize txtW (n : Int) = tw at *
  generalize H.tx.length = len at *
  clear h hn c1 c2 c3 c4 c5 fz hp2 q1 q2 q3 q4 hnl htl hc e1 hti
  go_enter Tryz.func54, Tryz.ntmps54
  go_wp2_with fail
  refine kt.mono ?_
  rintro e w2 ⟨rfl, rfl⟩
  clear kt
  go_wp2_with fail
  refine km.mono ?_
  rintro e w2 ⟨rfl, rfl⟩
  clear km
  go_wp2_with fail
  go_ret2
  exact ⟨rfl, rfl⟩
end
end Go.Proofs.YtkpdpdllbnihgaaGreat.Hp
