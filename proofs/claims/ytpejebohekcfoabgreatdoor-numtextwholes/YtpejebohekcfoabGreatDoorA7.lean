/- compare, exactly; the walk of within. -/
import Derived.Test.YtpejebohekcfoabGreatDoorA6
namespace Go.Proofs.YtpejebohekcfoabGreatDoor
open Go.RowKit
set_option linter.unusedVariables false

/-- what compare tells -/
def cmpI (N M : Nat) : Int := if (wds N).length ≠ (wds M).length then ((wds N).length : Int) - (wds M).length else if N < M then -1 else if N = M then 0 else 1

theorem cmpI_len {N M : Nat} (h : ¬ (wds N).length = (wds M).length) : cmpI N M = ((wds N).length : Int) - (wds M).length := by unfold cmpI; rw [if_pos h]
theorem cmpI_eq {N M : Nat} (h : (wds N).length = (wds M).length) (e : N = M) : cmpI N M = 0 := by unfold cmpI; rw [if_neg (by omega), if_neg (by omega), if_pos e]
theorem cmpI_lt {N M : Nat} (h : (wds N).length = (wds M).length) (e : N < M) : cmpI N M = -1 := by unfold cmpI; rw [if_neg (by omega), if_pos e]
theorem cmpI_gt {N M : Nat} (h : (wds N).length = (wds M).length) (e : M < N) : cmpI N M = 1 := by unfold cmpI; rw [if_neg (by omega), if_neg (by omega), if_neg (by omega)]

theorem cmpI_is (N M : Nat) : CmpIs (cmpI N M) N M := by
  by_cases h : (wds N).length = (wds M).length
  · rcases Nat.lt_trichotomy N M with c | c | c
    · rw [cmpI_lt h c]; exact cmp_lt c
    · rw [cmpI_eq h c]; exact cmp_eq c
    · rw [cmpI_gt h c]; exact cmp_gt c
  · rw [cmpI_len h]; exact cmp_len N M h

set_option maxHeartbeats 1000000 in
theorem compare_fix (w : World) (v u : Value) (g k N M : Nat) (hv : Num w v g N) (hu : Num w u k M) (hlen : (wds N).length ≤ 1000000) (hlen2 : (wds M).length ≤ 1000000) :
    Calls Tryz.prog 81 #[v, u] w fun e w' => e = .returned (.int .i64 (cmpI N M)) ∧ ∃ n, w' = w.drewN n := by
  obtain ⟨cap, rfl, hown⟩ := hv
  obtain ⟨cup, rfl, hwn⟩ := hu
  by_cases hl : (wds N).length = (wds M).length
  · go_enter Tryz.func81, Tryz.ntmps81
    go_wp2_with fail
    rw [← hl] at hwn
    go_loopw [5] (fun i wr => ∃ j n : Nat, j ≤ (wds N).length ∧ i = .int .i64 ((j : Int) - 1) ∧ (wds N).drop j = (wds M).drop j ∧ wr = w.drewN n) (fun i _ => ((intOf i) + 1).toNat)
    case atStart =>
      exact ⟨(wds N).length, 0, Nat.le_refl _, by go_num, by rw [List.drop_length, hl, List.drop_length], rfl⟩
    case round =>
      obtain ⟨j, nd, hj, rfl, hd, rfl⟩ := hrel
      have HD : Hid ((wds N).drop j = (wds M).drop j) := hd
      have HL : Hid ((wds N).length = (wds M).length) := hl
      clear hd hl
      rcases Nat.eq_zero_or_pos j with c | c
      · subst c
        go_wp2
        go_ret
        have e : N = M := by
          have := HD.out
          simp only [List.drop_zero] at this
          rw [← wval_wds N, this, wval_wds]
        exact ⟨ret_int (cmpI_eq HL.out e).symm, nd, rfl⟩
      · obtain ⟨i, rfl⟩ : ∃ i, j = i + 1 := ⟨j - 1, by omega⟩
        obtain ⟨x, hx⟩ : ∃ x, (wds N)[i]? = some x := ⟨_, List.getElem?_eq_getElem (by omega)⟩
        obtain ⟨y, hy⟩ : ∃ y, (wds M)[i]? = some y := ⟨_, List.getElem?_eq_getElem (by have := HL.out; omega)⟩
        have cx : w.cell? ⟨g, i, none⟩ = some (.int .u64 (x : Int)) := owns_cell hown hx
        have cy : w.cell? ⟨k, i, none⟩ = some (.int .u64 (y : Int)) := owns_cell hwn hy
        have ci : (i : Int) < (wds N).length := by omega
        have ci2 : (i : Int) < (wds M).length := by have := HL.out; omega
        have tp := cmp_top (wds N) (wds M) i x y (fit_wds N) HL.out hx hy HD.out
        have tq := cmp_top (wds M) (wds N) i y x (fit_wds M) HL.out.symm hy hx HD.out.symm
        rw [wval_wds, wval_wds] at tp tq
        rcases Nat.lt_trichotomy x y with lt | eq | gt
        · have res := tp lt
          clear tp tq
          go_wp2_with fail
          go_quiet (fail)
          go_wp2
          go_ret
          exact ⟨ret_int (cmpI_lt HL.out res).symm, _, by rw [World.drewN_drewN]⟩
        · subst eq
          have nx := drop_same hx hy HD.out
          have HX : Hid ((wds N).drop i = (wds M).drop i) := nx
          clear tp tq nx
          go_wp2_with fail
          go_quiet (fail)
          go_wp2_with fail
          go_quiet (fail)
          go_wp2
          refine ⟨⟨i, _, by omega, rfl, HX.out, rfl⟩, ?_⟩
          simp [intOf]
        · have res := tq gt
          clear tp tq
          go_wp2_with fail
          go_quiet (fail)
          go_wp2_with fail
          go_quiet (fail)
          go_wp2
          go_ret
          exact ⟨ret_int (cmpI_gt HL.out res).symm, _, by rw [World.drewN_drewN, World.drewN_drewN]⟩
  · go_enter Tryz.func81, Tryz.ntmps81
    go_wp2
    go_ret
    exact ⟨ret_int (cmpI_len hl).symm, 0, rfl⟩

/-- whether an order lets it in -/
def inI (r : Int) (cl : Bool) : Bool := decide (r < 0) || (decide (r = 0) && cl)

theorem within_any (b : Nat) (r : Int) (cl : Bool) (w : World) (hc : w.cell? ⟨b, 4, none⟩ = some (.bool cl)) :
    Calls Tryz.prog 83 #[.pointer (some ⟨b, 0, none⟩), .int .i64 r] w fun e w' => e = .returned (.bool (inI r cl)) ∧ w' = w := by
  unfold inI
  rcases Int.lt_trichotomy r 0 with h | h | h
  · have e : (decide (r < 0) || (decide (r = 0) && cl)) = true := by simp [h]
    rw [e]
    go_enter Tryz.func83, Tryz.ntmps83
    go_wp2
    go_ret
    exact ⟨rfl, rfl⟩
  · subst h
    have e : (decide ((0 : Int) < 0) || (decide ((0 : Int) = 0) && cl)) = cl := by simp
    rw [e]
    go_enter Tryz.func83, Tryz.ntmps83
    go_wp2
    go_ret
    exact ⟨rfl, rfl⟩
  · have e : (decide (r < 0) || (decide (r = 0) && cl)) = false := by
      have h1 : ¬ r < 0 := by omega
      have h2 : ¬ r = 0 := by omega
      simp [h1, h2]
    rw [e]
    have h2 : (r == 0) = false := by simp; omega
    have h3 : decide (r < 0) = false := by simp; omega
    go_enter Tryz.func83, Tryz.ntmps83
    go_wp2
    go_ret
    exact ⟨rfl, rfl⟩

end Go.Proofs.YtpejebohekcfoabGreatDoor
