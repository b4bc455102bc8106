/- SetLen, SetElem. -/
import Derived.Test.YtahhionlbfhinaaDoorHY
namespace Go.Proofs.YtahhionlbfhinaaDoor.Hp
open Go.RowKit
set_option linter.unusedVariables false

section
variable {w w' w1 w5 : World} {B hb : Nat} {O S : Nat → Prop} {H H' : He} {M M' : HV} {tg : Nat → Nat}

def elH (H : He) (i : Nat) (ob : Ob) (el : List Int) : He := { touchH H ob.cell with obs := H.obs.set i { ob with el := el } }

set_option maxRecDepth 100000 in
theorem setLen_no (h : HeapAt w B hb tg H M) (o : Int) (o0 : 0 ≤ o) (o1 : o < 18446744073709551616) {i : Nat} {ob : Ob} (ho : obI H o = some i) (hi : H.obs[i]? = some ob) (n : Int) (hn : n < 0 ∨ 4096 < n) :
    Calls Tryd.prog 44 #[.pointer (some ⟨hb, 0, none⟩), .int .u64 o, .int .i64 n] w fun e w' => e = .returned (.bool false) ∧ w' = w := by
  obtain ⟨g, cap, ov, hvo, _⟩ := h.obj hi
  have ka := at_hit h o o0 o1 i g cap ho hvo
  clear h hi ho hvo
  rcases hn with c | c
  · have c1 : decide (n < 0) = true := decide_eq_true c
    go_enter Tryd.func44, Tryd.ntmps44
    go_wp2_with fail
    refine ka.mono ?_
    rintro e w2 ⟨rfl, rfl⟩
    clear ka
    go_wp2_with fail
    go_ret
    exact ⟨rfl, rfl⟩
  · have c1 : decide (n < 0) = false := decide_eq_false (by omega)
    have c2 : decide (4096 < n) = true := decide_eq_true c
    go_enter Tryd.func44, Tryd.ntmps44
    go_wp2_with fail
    refine ka.mono ?_
    rintro e w2 ⟨rfl, rfl⟩
    clear ka
    go_wp2_with fail
    go_ret
    exact ⟨rfl, rfl⟩

set_option maxRecDepth 100000 in
set_option maxHeartbeats 1000000 in
theorem setLen_at (h : HeapAt w B hb tg H M) (o : Int) (o0 : 0 ≤ o) (o1 : o < 18446744073709551616) {i : Nat} {ob : Ob} (ho : obI H o = some i) (hi : H.obs[i]? = some ob) (n : Nat) (hn : n ≤ 4096) :
    Calls Tryd.prog 44 #[.pointer (some ⟨hb, 0, none⟩), .int .u64 o, .int .i64 (n : Int)] w fun e w' => e = .returned (.bool true) ∧ ∃ M', WentM w B hb tg (elH H i ob (resL ob.el n)) M' w' := by
  obtain ⟨g, cap, ov, hvo, hov, _⟩ := h.obj hi
  have ka := at_hit h o o0 o1 i g cap ho hvo
  have kt := touch_at h hi hvo
  have HA : Hid (∀ w2, WentM w B hb tg (touchH H ob.cell) M w2 → Calls Tryd.prog 53 #[.pointer (some ⟨g, i * 12, none⟩), .int .i64 (n : Int)] w2 fun e w' => e = .returned (.tuple #[]) ∧ ∃ M', WentM w B hb tg (elH H i ob (resL ob.el n)) M' w') := fun w2 q => by
    obtain ⟨tg2, p1, p2, p3⟩ := q
    refine (resize_at p1 hi hov hvo n hn).mono ?_
    rintro e w' ⟨rfl, ve, hq⟩
    exact ⟨rfl, _, WentM.next p2 p3 hq⟩
  have c1 : decide ((n : Int) < 0) = false := decide_eq_false (by omega)
  have c2 : decide (4096 < (n : Int)) = false := decide_eq_false (by omega)
  generalize elH H i ob (resL ob.el n) = HL at *
  generalize touchH H ob.cell = HT at *
  clear h hi ho hvo hov hn
  go_enter Tryd.func44, Tryd.ntmps44
  go_wp2_with fail
  refine ka.mono ?_
  rintro e w2 ⟨rfl, rfl⟩
  clear ka
  go_wp2_with fail
  refine kt.mono ?_
  rintro e w3 ⟨rfl, hw3⟩
  have kr := HA.out w3 hw3
  clear kt hw3 HA
  go_wp2_with fail
  refine kr.mono ?_
  rintro e w4 ⟨rfl, M', hq⟩
  have HQ := (show Hid _ from hq)
  clear kr hq
  go_wp2_with fail
  go_ret
  exact ⟨rfl, M', HQ.out⟩

set_option maxRecDepth 100000 in
theorem setElem_no (h : HeapAt w B hb tg H M) (o : Int) (o0 : 0 ≤ o) (o1 : o < 18446744073709551616) {i : Nat} {ob : Ob} (ho : obI H o = some i) (hi : H.obs[i]? = some ob) (n v : Int) (hn : n < 0 ∨ 4096 ≤ n) :
    Calls Tryd.prog 45 #[.pointer (some ⟨hb, 0, none⟩), .int .u64 o, .int .i64 n, .int .u64 v] w fun e w' => e = .returned (.bool false) ∧ w' = w := by
  obtain ⟨g, cap, ov, hvo, _⟩ := h.obj hi
  have ka := at_hit h o o0 o1 i g cap ho hvo
  clear h hi ho hvo
  rcases hn with c | c
  · have c1 : decide (n < 0) = true := decide_eq_true c
    go_enter Tryd.func45, Tryd.ntmps45
    go_wp2_with fail
    refine ka.mono ?_
    rintro e w2 ⟨rfl, rfl⟩
    clear ka
    go_wp2_with fail
    go_ret
    exact ⟨rfl, rfl⟩
  · have c1 : decide (n < 0) = false := decide_eq_false (by omega)
    have c2 : decide (4096 ≤ n) = true := decide_eq_true c
    go_enter Tryd.func45, Tryd.ntmps45
    go_wp2_with fail
    refine ka.mono ?_
    rintro e w2 ⟨rfl, rfl⟩
    clear ka
    go_wp2_with fail
    go_ret
    exact ⟨rfl, rfl⟩

def setL (el : List Int) (n : Nat) (v : Int) : List Int := (if n < el.length then el else resL el (n + 1)).set n v

/-- an element is laid, where there is room for it: its address, and what is left -/
theorem HeapAt.elput (h : HeapAt w B hb tg H M) {i g cap n : Nat} {ob : Ob} (hi : H.obs[i]? = some ob) (hvo : M.vo = ⟨some ⟨g, 0, none⟩, H.obs.length, cap⟩) (hn : n < ob.el.length) (v : Int) :
    ∃ ge ec u, w.cell? ⟨g, i * 12 + 7, none⟩ = some (.slice (some ⟨ge, 0, none⟩) ob.el.length ec) ∧ w.cell? ⟨ge, n, none⟩ = some (.int .u64 u) ∧ w.frozen? ⟨ge, n, none⟩ = false ∧ (ob.el.length : Int) ≤ 9223372036854775807 ∧ WentM w B hb tg { H with obs := H.obs.set i { ob with el := ob.el.set n v } } M (w.setCell ⟨ge, n, none⟩ (.int .u64 v)) := by
  obtain ⟨g', cap', ov, hvo', hov, t4, hne, hgl, hcell, hfz, _⟩ := h.obj hi
  have hvv := hvo'
  rw [hvo] at hvv
  injection hvv with x1 x2 x3
  injection x1 with x1
  injection x1 with x1
  subst x1
  have d7 := hcell 7 _ rfl
  simp only at d7
  have hr : RowIn wC 1 30 B w _ ov.ve ob.el := h.part hi hov 2 (by omega)
  obtain ⟨q1, q2, q3, q4⟩ := hr.open rtW.len
  obtain ⟨ge, e1, _, _, _, hc, hf⟩ := q4 (by intro e; rw [e] at hn; simp at hn)
  rcases hve : ov.ve with ⟨ad, len, ec⟩
  rw [hve] at q1 q2 q3 e1 d7
  simp only at q1 q2 q3 e1
  subst q1 e1
  unfold SV.val at d7
  simp only at d7
  have dv := hc n _ (List.getElem?_eq_getElem hn) 0 _ rfl
  simp only [Nat.mul_one, Nat.add_zero] at dv
  exact ⟨ge, ec, _, d7, dv, hf n, by unfold maxLen at q3; omega, h.elst hi hov hve hn v⟩

set_option maxRecDepth 100000 in
set_option maxHeartbeats 1000000 in
theorem setElem_at (h : HeapAt w B hb tg H M) (o : Int) (o0 : 0 ≤ o) (o1 : o < 18446744073709551616) {i : Nat} {ob : Ob} (ho : obI H o = some i) (hi : H.obs[i]? = some ob) (n : Nat) (hn : n < 4096) (v : Int) :
    Calls Tryd.prog 45 #[.pointer (some ⟨hb, 0, none⟩), .int .u64 o, .int .i64 (n : Int), .int .u64 v] w fun e w' => e = .returned (.bool true) ∧ ∃ M', WentM w B hb tg (elH H i ob (setL ob.el n v)) M' w' := by
  obtain ⟨g, cap, ov, hvo, hov, _⟩ := h.obj hi
  have ka := at_hit h o o0 o1 i g cap ho hvo
  have kt := touch_at h hi hvo
  have hil : i < H.obs.length := (List.getElem?_eq_some_iff.1 hi).1
  have c1 : decide ((n : Int) < 0) = false := decide_eq_false (by omega)
  have c2 : decide (4096 ≤ (n : Int)) = false := decide_eq_false (by omega)
  have HLEN : Hid (∀ w2, WentM w B hb tg (touchH H ob.cell) M w2 → ∃ ad ec, w2.cell? ⟨g, i * 12 + 7, none⟩ = some (.slice ad ob.el.length ec)) := fun w2 q => by
    obtain ⟨tg2, p1, p2, p3⟩ := q
    obtain ⟨g', cap', ov', hvo', hov', t4, hne, hgl, hcell, hfz, _⟩ := p1.obj (ob := ob) hi
    have hvv := hvo'
    rw [hvo] at hvv
    injection hvv with x1 x2 x3
    injection x1 with x1
    injection x1 with x1
    subst x1
    have d7 := hcell 7 _ rfl
    have hr : RowIn wC 1 30 B w2 _ ov'.ve ob.el := p1.part (ob := ob) hi hov' 2 (by omega)
    obtain ⟨q1, _⟩ := hr.open rtW.len
    unfold SV.val at d7
    simp only at d7
    rw [q1] at d7
    exact ⟨_, _, d7⟩
  by_cases c : n < ob.el.length
  · have HA : Hid (∀ w2, WentM w B hb tg (touchH H ob.cell) M w2 → ∃ ge ec u, w2.cell? ⟨g, i * 12 + 7, none⟩ = some (.slice (some ⟨ge, 0, none⟩) ob.el.length ec) ∧ w2.cell? ⟨ge, n, none⟩ = some (.int .u64 u) ∧ w2.frozen? ⟨ge, n, none⟩ = false ∧ (ob.el.length : Int) ≤ 9223372036854775807 ∧ ∃ M', WentM w B hb tg (elH H i ob (setL ob.el n v)) M' (w2.setCell ⟨ge, n, none⟩ (.int .u64 v))) := fun w2 q => by
      obtain ⟨tg2, p1, p2, p3⟩ := q
      obtain ⟨ge, ec, u, a1, a2, a3, a4, a5⟩ := p1.elput (ob := ob) hi hvo c v
      have e : elH H i ob (setL ob.el n v) = { touchH H ob.cell with obs := (touchH H ob.cell).obs.set i { ob with el := ob.el.set n v } } := by
        unfold elH setL
        rw [if_pos c]
        rfl
      rw [e]
      exact ⟨ge, ec, u, a1, a2, a3, a4, M, WentM.next p2 p3 a5⟩
    have c3 : decide ((ob.el.length : Int) ≤ (n : Int)) = false := decide_eq_false (by omega)
    have c4 : (n : Int) < (ob.el.length : Int) := by omega
    generalize elH H i ob (setL ob.el n v) = HL at *
    generalize touchH H ob.cell = HT at *
    generalize ob.el.length = len at *
    clear h hi ho hvo hov hn hil c HLEN
    go_enter Tryd.func45, Tryd.ntmps45
    go_wp2_with fail
    refine ka.mono ?_
    rintro e w2 ⟨rfl, rfl⟩
    clear ka
    go_wp2_with fail
    refine kt.mono ?_
    rintro e w3 ⟨rfl, hw3⟩
    obtain ⟨ge, ec, u, a1, a2, a3, a4, a5⟩ := HA.out w3 hw3
    have HA5 := (show Hid _ from a5)
    clear kt hw3 HA a5
    go_wp2_with fail
    go_ret
    obtain ⟨M', hq⟩ := HA5.out
    exact ⟨rfl, M', hq⟩
  · have HA : Hid (∀ w2, WentM w B hb tg (touchH H ob.cell) M w2 → Calls Tryd.prog 53 #[.pointer (some ⟨g, i * 12, none⟩), .int .i64 ((n + 1 : Nat) : Int)] w2 fun e w' => e = .returned (.tuple #[]) ∧ ∃ ge ec u, w'.cell? ⟨g, i * 12 + 7, none⟩ = some (.slice (some ⟨ge, 0, none⟩) (n + 1) ec) ∧ w'.cell? ⟨ge, n, none⟩ = some (.int .u64 u) ∧ w'.frozen? ⟨ge, n, none⟩ = false ∧ ∃ M', WentM w B hb tg (elH H i ob (setL ob.el n v)) M' (w'.setCell ⟨ge, n, none⟩ (.int .u64 v))) := fun w2 q => by
      obtain ⟨tg2, p1, p2, p3⟩ := q
      refine (resize_at p1 hi hov hvo (n + 1) (by omega)).mono ?_
      rintro e w' ⟨rfl, ve, tg3, r1, r2, r3⟩
      have hi1 : ({ touchH H ob.cell with obs := (touchH H ob.cell).obs.set i { ob with el := resL ob.el (n + 1) } } : He).obs[i]? = some { ob with el := resL ob.el (n + 1) } := List.getElem?_set_self hil
      have hvo1 : ({ M with ovs := M.ovs.set i { ov with ve := ve } } : HV).vo = ⟨some ⟨g, 0, none⟩, ({ touchH H ob.cell with obs := (touchH H ob.cell).obs.set i { ob with el := resL ob.el (n + 1) } } : He).obs.length, cap⟩ := by
        simp only [List.length_set]
        exact hvo
      obtain ⟨ge, ec, u, a1, a2, a3, a4, a5⟩ := r1.elput (n := n) hi1 hvo1 (by rw [show ({ ob with el := resL ob.el (n + 1) } : Ob).el = resL ob.el (n + 1) from rfl, resL_len]; omega) v
      simp only [resL_len, List.set_set] at a1 a5
      have e : elH H i ob (setL ob.el n v) = { touchH H ob.cell with obs := (touchH H ob.cell).obs.set i { ob with el := (resL ob.el (n + 1)).set n v } } := by
        unfold elH setL
        rw [if_neg c]
        rfl
      rw [e]
      exact ⟨rfl, ge, ec, u, a1, a2, a3, _, WentM.next p2 p3 (WentM.next r2 r3 a5)⟩
    have c3 : decide ((ob.el.length : Int) ≤ (n : Int)) = true := decide_eq_true (by omega)
    have c4 : (ob.el.length : Int) ≤ (n : Int) := by omega
    have hw1 : IntKind.i64.wrap ((n : Int) + 1) = ((n + 1 : Nat) : Int) := by rw [IntKind.wrap_i64]; omega
    have hn1 : (n : Int) < ((n + 1 : Nat) : Int) := by omega
    have hn2 : ((n + 1 : Nat) : Int) ≤ 9223372036854775807 := by omega
    generalize elH H i ob (setL ob.el n v) = HL at *
    generalize touchH H ob.cell = HT at *
    generalize ob.el.length = len at *
    clear h hi ho hvo hov hn hil c
    generalize hnn : n + 1 = n1 at *
    clear hnn
    go_enter Tryd.func45, Tryd.ntmps45
    go_wp2_with fail
    refine ka.mono ?_
    rintro e w2 ⟨rfl, rfl⟩
    clear ka
    go_wp2_with fail
    refine kt.mono ?_
    rintro e w3 ⟨rfl, hw3⟩
    obtain ⟨ad, ec0, a0⟩ := HLEN.out w3 hw3
    have kr := HA.out w3 hw3
    clear kt hw3 HA HLEN
    go_wp2_with fail
    refine kr.mono ?_
    rintro e w4 ⟨rfl, ge, ec, u, a1, a2, a3, a5⟩
    have HA5 := (show Hid _ from a5)
    clear kr a5 a0
    go_wp2_with fail
    go_ret
    obtain ⟨M', hq⟩ := HA5.out
    exact ⟨rfl, M', hq⟩

end

end Go.Proofs.YtahhionlbfhinaaDoor.Hp
