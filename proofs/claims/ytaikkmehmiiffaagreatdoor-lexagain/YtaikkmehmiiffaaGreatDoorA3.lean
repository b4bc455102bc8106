/- The walks of tens, size and compare. -/
import Derived.Test.YtaikkmehmiiffaaGreatDoorA2
import Derived.Lib.BitFns
namespace Go.Proofs.YtaikkmehmiiffaaGreatDoor
open Go.RowKit
set_option linter.unusedVariables false

/-- a number was in block g, and is in block g' now: nothing else is touched -/
structure Moved (w w' : World) (g g' : Nat) : Prop where
  grown : w.grownBy w' (some g)
  place : g' = g ∨ w.heap.size ≤ g'

theorem grown_refl (w : World) (row : Option Nat) : w.grownBy w row := ⟨rfl, rfl, rfl, Nat.le_refl _, fun _ _ _ => rfl⟩

theorem Moved.refl (w : World) (g : Nat) : Moved w w g g := ⟨grown_refl w _, .inl rfl⟩

theorem Moved.trans {w w1 w2 : World} {g g1 g2 : Nat} (h : Moved w w1 g g1) (k : Moved w1 w2 g1 g2) : Moved w w2 g g2 := by
  obtain ⟨a, b⟩ := h
  obtain ⟨c, d⟩ := k
  have hs := a.size
  refine ⟨⟨c.os.trans a.os, c.tape.trans a.tape, c.output.trans a.output, Nat.le_trans a.size c.size, fun j hj hr => (c.block j (by omega) ?_).trans (a.block j hj hr)⟩, ?_⟩
  · intro e
    simp only [Option.some.injEq] at e
    rcases b with b | b
    · subst b; exact hr (by rw [e])
    · omega
  · rcases d with d | d
    · rw [d]; exact b
    · right; omega

/-- what lies in another block stays -/
theorem Num.kept {w w' : World} {v : Value} {g k N : Nat} (h : Num w v g N) (m : w.grownBy w' (some k)) (hk : g ≠ k) : Num w' v g N := by
  obtain ⟨cap, rfl, hown⟩ := h
  exact ⟨cap, rfl, hown.kept m (.inr (by simp [Value.ownBlock]; exact hk))⟩

theorem Num.lt {w : World} {v : Value} {g N : Nat} (h : Num w v g N) : g < w.heap.size := by
  obtain ⟨cap, rfl, hown⟩ := h
  exact (owns_bound hown).2.2

theorem len_small {N K : Nat} (h : N < 2 ^ K) (hK : K ≤ 64000000) : (wds N).length ≤ 1000000 := by
  obtain ⟨M, hM⟩ : ∃ M : Nat, M = 1000000 := ⟨_, rfl⟩
  rw [← hM]
  refine wds_length_lt (Nat.lt_of_lt_of_le h ?_)
  rw [show (18446744073709551616 : Nat) = 2 ^ 64 from rfl, ← Nat.pow_mul]
  exact Nat.pow_le_pow_right (by decide) (by omega)

theorem tens_le (j : Nat) : 10 ^ j ≤ 2 ^ (4 * j) := by
  rw [Nat.pow_mul]
  exact Nat.pow_le_pow_left (by decide) j

theorem tens_lt {N K j : Nat} (h : N < 2 ^ K) : N * 10 ^ j < 2 ^ (K + 4 * j) := by
  rw [Nat.pow_add]
  have h1 := tens_le j
  have h2 : N * 10 ^ j ≤ N * 2 ^ (4 * j) := Nat.mul_le_mul_left _ h1
  have h3 : N * 2 ^ (4 * j) < 2 ^ K * 2 ^ (4 * j) := Nat.mul_lt_mul_of_pos_right h (Nat.two_pow_pos _)
  omega

theorem scaled_moved (w : World) (v : Value) (g N b p K : Nat) (hv : Num w v g N) (hb : b < 18446744073709551616) (hp : p < 18446744073709551616) (hN : N < 2 ^ K) (hK : K ≤ 64000000) :
    Calls Tryz.prog 94 #[v, .int .u64 b, .int .u64 p] w fun e w' => ∃ v' g', e = .returned v' ∧ Num w' v' g' (N * b + p) ∧ Moved w w' g g' := by
  refine (nscaled_any w v g N b p hv hb hp (len_small hN hK)).mono ?_
  rintro e w' ⟨v', g', h1, h2, h3, h4⟩
  exact ⟨v', g', h1, h2, h3, h4⟩

theorem ten19 (N k : Nat) : N * 10 ^ (19 * k) * 10000000000000000000 + 0 = N * 10 ^ (19 * (k + 1)) := by
  have h : (10 : Nat) ^ 19 = 10000000000000000000 := by decide
  rw [show 19 * (k + 1) = 19 * k + 19 from by omega, Nat.pow_add 10 (19 * k) 19, h, Nat.mul_assoc, Nat.add_zero]

theorem ten1 (N k : Nat) : N * 10 ^ k * 10 + 0 = N * 10 ^ (k + 1) := by rw [Nat.pow_succ, Nat.mul_assoc, Nat.add_zero]

theorem tens_walk (w : World) (v : Value) (g N c d m K : Nat) (hd : c = 19 * d + m) (hm : m < 19) (hv : Num w v g N) (hN : N < 2 ^ K) (hK : K + 4 * c ≤ 64000000) :
    Calls Tryz.prog 96 #[v, .int .i64 c] w fun e w' => ∃ v' g', e = .returned v' ∧ Num w' v' g' (N * 10 ^ c) ∧ Moved w w' g g' := by
  have qt0 : (c : Int).tdiv 19 = (d : Int) := by rw [Int.tdiv_eq_ediv_of_nonneg (by omega)]; omega
  have qt1 : (c : Int).tmod 19 = (m : Int) := by rw [Int.tmod_eq_emod_of_nonneg (by omega)]; omega
  have qe0 : (c : Int) / 19 = (d : Int) := by omega
  have qe1 : (c : Int) % 19 = (m : Int) := by omega
  have HD : Hid (c = 19 * d + m) := hd
  have HN : Hid (N < 2 ^ K ∧ K + 4 * c ≤ 64000000) := ⟨hN, hK⟩
  have hc : c ≤ 64000000 := by omega
  have hdc : d ≤ 64000000 := by omega
  clear hd hN hK
  go_enter Tryz.func96, Tryz.ntmps96
  go_wp2_with fail
  go_loopw [0, 7] (fun n i wr => ∃ k g' : Nat, k ≤ d ∧ i = .int .i64 k ∧ Num wr n g' (N * 10 ^ (19 * k)) ∧ Moved w wr g g') (fun _ i _ => d - (intOf i).toNat)
  case atStart => exact ⟨0, g, Nat.zero_le _, rfl, by simpa using hv, Moved.refl w g⟩
  case round =>
    obtain ⟨k, g', hk, rfl, hn, hmv⟩ := hrel
    rcases Nat.lt_or_ge k d with hlt | hge
    · have sc := scaled_moved wr _ g' (N * 10 ^ (19 * k)) 10000000000000000000 0 (K + 4 * (19 * k)) hn (by decide) (by decide) (tens_lt HN.out.1) (by have := HN.out.2; have := HD.out; omega)
      rw [ten19] at sc
      go_wp2_with (go_at_call 94; refine sc.mono ?_; rintro e w1 ⟨v', g1, rfl, hn1, hm1⟩)
      go_roundw
      case rel => exact ⟨k + 1, g1, by omega, by go_num, hn1, hmv.trans hm1⟩
      case measure => simp [intOf]; omega
    · have hkd : k = d := by omega
      subst hkd
      go_wp2_with fail
      go_loopw [0, 14] (fun n i wr => ∃ j g' : Nat, j ≤ m ∧ i = .int .i64 j ∧ Num wr n g' (N * 10 ^ (19 * k + j)) ∧ Moved w wr g g') (fun _ i _ => m - (intOf i).toNat)
      case atStart => exact ⟨0, g', Nat.zero_le _, rfl, hn, hmv⟩
      case round =>
        rename_i hh
        clear hn hmv
        obtain ⟨j, g1, hj, rfl, hn, hmv⟩ := hrel
        rcases Nat.lt_or_ge j m with hlt | hge2
        · have sc := scaled_moved wr _ g1 (N * 10 ^ (19 * k + j)) 10 0 (K + 4 * (19 * k + j)) hn (by decide) (by decide) (tens_lt HN.out.1) (by have := HN.out.2; have := HD.out; omega)
          rw [ten1] at sc
          go_wp2_with (go_at_call 94; refine sc.mono ?_; rintro e w1 ⟨v', g2, rfl, hn1, hm1⟩)
          go_roundw
          case rel => exact ⟨j + 1, g2, by omega, by go_num, hn1, hmv.trans hm1⟩
          case measure => simp [intOf]; omega
        · have hjm : j = m := by omega
          subst hjm
          go_wp2
          go_ret
          rw [← HD.out] at hn
          exact ⟨_, g1, rfl, hn, hmv⟩

theorem tens_any (w : World) (v : Value) (g N c K : Nat) (hv : Num w v g N) (hN : N < 2 ^ K) (hK : K + 4 * c ≤ 64000000) :
    Calls Tryz.prog 96 #[v, .int .i64 c] w fun e w' => ∃ v' g', e = .returned v' ∧ Num w' v' g' (N * 10 ^ c) ∧ Moved w w' g g' :=
  tens_walk w v g N c (c / 19) (c % 19) K (by omega) (by omega) hv hN hK

/-- how compare tells the order -/
def CmpIs (r : Int) (N M : Nat) : Prop := (r < 0 ↔ N < M) ∧ (r = 0 ↔ N = M)

theorem cmp_len (N M : Nat) (h : (wds N).length ≠ (wds M).length) : CmpIs (((wds N).length : Int) - (wds M).length) N M := by
  rcases Nat.lt_or_ge (wds N).length (wds M).length with c | c
  · have := lt_of_length c
    constructor <;> constructor <;> omega
  · have := lt_of_length (show (wds M).length < (wds N).length by omega)
    constructor <;> constructor <;> omega

theorem cmp_lt {N M : Nat} (h : N < M) : CmpIs (-1) N M := by constructor <;> constructor <;> omega
theorem cmp_gt {N M : Nat} (h : M < N) : CmpIs 1 N M := by constructor <;> constructor <;> omega
theorem cmp_eq {N M : Nat} (h : N = M) : CmpIs 0 N M := by constructor <;> constructor <;> omega

theorem drop_same {xs ys : List Nat} {i x : Nat} (hx : xs[i]? = some x) (hy : ys[i]? = some x) (h : xs.drop (i + 1) = ys.drop (i + 1)) : xs.drop i = ys.drop i := by
  have a := (List.getElem?_eq_some_iff.1 hx)
  have b := (List.getElem?_eq_some_iff.1 hy)
  obtain ⟨a1, a2⟩ := a
  obtain ⟨b1, b2⟩ := b
  rw [List.drop_eq_getElem_cons a1, List.drop_eq_getElem_cons b1, a2, b2, h]

set_option maxHeartbeats 1000000 in
theorem compare_any (w : World) (v u : Value) (g k N M : Nat) (hv : Num w v g N) (hu : Num w u k M) (hlen : (wds N).length ≤ 1000000) (hlen2 : (wds M).length ≤ 1000000) :
    Calls Tryz.prog 114 #[v, u] w fun e w' => ∃ (r : Int) (n : Nat), e = .returned (.int .i64 r) ∧ CmpIs r N M ∧ w' = w.drewN n := by
  obtain ⟨cap, rfl, hown⟩ := hv
  obtain ⟨cup, rfl, hwn⟩ := hu
  by_cases hl : (wds N).length = (wds M).length
  · go_enter Tryz.func114, Tryz.ntmps114
    go_wp2_with fail
    rw [← hl] at hwn
    go_loopw [5] (fun i wr => ∃ j n : Nat, j ≤ (wds N).length ∧ i = .int .i64 ((j : Int) - 1) ∧ (wds N).drop j = (wds M).drop j ∧ wr = w.drewN n) (fun i _ => ((intOf i) + 1).toNat)
    case atStart =>
      exact ⟨(wds N).length, 0, Nat.le_refl _, by go_num, by rw [List.drop_length, hl, List.drop_length], rfl⟩
    case round =>
      obtain ⟨j, nd, hj, rfl, hd, rfl⟩ := hrel
      have HD : Hid ((wds N).drop j = (wds M).drop j) := hd
      have HL : Hid ((wds N).length = (wds M).length) := hl
      clear hd hl
      rcases Nat.eq_zero_or_pos j with c | c
      · subst c
        go_wp2
        go_ret
        have e : N = M := by
          have := HD.out
          simp only [List.drop_zero] at this
          rw [← wval_wds N, this, wval_wds]
        exact ⟨0, nd, rfl, cmp_eq e, rfl⟩
      · obtain ⟨i, rfl⟩ : ∃ i, j = i + 1 := ⟨j - 1, by omega⟩
        obtain ⟨x, hx⟩ : ∃ x, (wds N)[i]? = some x := ⟨_, List.getElem?_eq_getElem (by omega)⟩
        obtain ⟨y, hy⟩ : ∃ y, (wds M)[i]? = some y := ⟨_, List.getElem?_eq_getElem (by have := HL.out; omega)⟩
        have cx : w.cell? ⟨g, i, none⟩ = some (.int .u64 (x : Int)) := owns_cell hown hx
        have cy : w.cell? ⟨k, i, none⟩ = some (.int .u64 (y : Int)) := owns_cell hwn hy
        have ci : (i : Int) < (wds N).length := by omega
        have ci2 : (i : Int) < (wds M).length := by have := HL.out; omega
        have tp := cmp_top (wds N) (wds M) i x y (fit_wds N) HL.out hx hy HD.out
        have tq := cmp_top (wds M) (wds N) i y x (fit_wds M) HL.out.symm hy hx HD.out.symm
        rw [wval_wds, wval_wds] at tp tq
        rcases Nat.lt_trichotomy x y with lt | eq | gt
        · have res := tp lt
          clear tp tq
          go_wp2_with fail
          go_quiet (fail)
          go_wp2
          go_ret
          exact ⟨-1, _, rfl, cmp_lt res, by rw [World.drewN_drewN]⟩
        · subst eq
          have nx := drop_same hx hy HD.out
          have HX : Hid ((wds N).drop i = (wds M).drop i) := nx
          clear tp tq nx
          go_wp2_with fail
          go_quiet (fail)
          go_wp2_with fail
          go_quiet (fail)
          go_wp2
          refine ⟨⟨i, _, by omega, rfl, HX.out, rfl⟩, ?_⟩
          simp [intOf]
        · have res := tq gt
          clear tp tq
          go_wp2_with fail
          go_quiet (fail)
          go_wp2_with fail
          go_quiet (fail)
          go_wp2
          go_ret
          exact ⟨1, _, rfl, cmp_gt res, by rw [World.drewN_drewN, World.drewN_drewN]⟩
  · go_enter Tryz.func114, Tryz.ntmps114
    go_wp2
    go_ret
    exact ⟨_, 0, rfl, cmp_len N M hl, rfl⟩

end Go.Proofs.YtaikkmehmiiffaaGreatDoor
