/- CellsApart: the walk. -/
import Derived.Test.YtjahkjkkjccmgaaCR
namespace Go.Proofs.Ytjahkjkkjccmgaa.Ce
open Go.RowKit
set_option linter.unusedVariables false

theorem onF_first (a k : Nat) (hk : k < a) : onF a (k + 2) = if k = 0 then 0 else (k : Int) + 1 := by
  unfold onF
  rw [if_neg (by omega)]
  split <;> split <;> first | omega | (rw [if_pos (by omega)]; omega)

theorem onF_second (a k : Nat) : onF a (a + 2 + k) = if a + 2 + k = 2 then 0 else if k = 0 then 1 else (a : Int) + 1 + k := by
  unfold onF
  rw [if_neg (by omega)]
  split
  · rfl
  · rw [if_neg (by omega)]
    split <;> split <;> omega

/-- which the last of the first ones is, behind k of them -/
def lastP (k : Nat) : Int := if k = 0 then 0 else (k : Int) + 1
/-- and of the second ones -/
def lastQ (a k : Nat) : Int := if k = 0 then 1 else (a : Int) + 1 + k

theorem make_first (a k : Nat) (hk : k < a) : makeD (two a (k + 2)) (lastP k) = two a (k + 3) := by
  have := two_make a (k + 2)
  rw [onF_first a k hk] at this
  exact this

theorem make_second (a k : Nat) (ha : 1 ≤ a) : makeD (two a (a + 2 + k)) (lastQ a k) = two a (a + 3 + k) := by
  have := two_make a (a + 2 + k)
  rw [onF_second a k, if_neg (by omega)] at this
  unfold lastQ
  rw [this]
  congr 1
  omega

theorem two_start (a : Nat) : makeD [] (-1) = two a 1 ∧ makeD (two a 1) (-1) = two a 2 := by
  refine ⟨rfl, ?_⟩
  have := two_make a 1
  exact this

/-- what the law asks behind the Break of the first one -/
theorem apart_plain (a b : Nat) (ha : 1 ≤ a) (hb : 1 ≤ b) : (breakD (two a (a + 2 + b)) 0).2 = a + 1 ∧ validD (breakD (two a (a + 2 + b)) 0).1 (lastP a) = false ∧ validD (breakD (two a (a + 2 + b)) 0).1 (lastQ a b) = true ∧ validD (breakD (two a (a + 2 + b)) 0).1 1 = true ∧ (breakD (breakD (two a (a + 2 + b)) 0).1 1).2 = b + 1 := by
  obtain ⟨h1, h2, h3⟩ := two_break a b ha
  have h4 := two_then a b ha
  have e : a + b + 2 = a + 2 + b := by omega
  rw [e] at h1 h2 h3 h4
  refine ⟨h1, ?_, ?_, ?_, h4⟩
  · unfold validD lastP
    rw [if_neg (by omega), show ((a : Int) + 1).toNat = a + 1 by omega, h2 (a + 1) (by omega), decide_eq_false (show ¬ (a + 1 = 1 ∨ a + 2 ≤ a + 1) by omega), Bool.and_false]
  · unfold validD lastQ
    rw [if_neg (by omega), show ((a : Int) + 1 + b).toNat = a + 1 + b by omega, h2 (a + 1 + b) (by omega), decide_eq_true (show (a + 1 + b = 1 ∨ a + 2 ≤ a + 1 + b) by omega), decide_eq_true (by omega)]
    rfl
  · unfold validD
    rw [show ((1 : Int)).toNat = 1 by rfl, h2 1 (by omega)]
    rfl

set_option maxRecDepth 100000 in
set_option maxHeartbeats 8000000 in
theorem apart_walk (w : World) (a b : Int) :
    Calls Try.prog 6 #[.int .i64 a, .int .i64 b] w fun e w' => e = .returned (.bool true) ∧ Below w.heap.size w w' := by
  have kn := new_any w
  have KA : Hid (∀ w, Calls Try.prog 8 #[] w fun e w' => e = .returned (.bool true) ∧ Below w.heap.size w w') := alive_any
  by_cases hm : (1 ≤ a ∧ 1 ≤ b) ∧ (a ≤ 200 ∧ b ≤ 200)
  · obtain ⟨x, rfl⟩ : ∃ x : Nat, a = x := ⟨a.toNat, by omega⟩
    obtain ⟨y, rfl⟩ : ∃ y : Nat, b = y := ⟨b.toNat, by omega⟩
    have hx1 : 1 ≤ (x : Int) := by omega
    have hx2 : (x : Int) ≤ 200 := by omega
    have hy1 : 1 ≤ (y : Int) := by omega
    have hy2 : (y : Int) ≤ 200 := by omega
    have t1 : decide ((x : Int) < 1) = false := decide_eq_false (by omega)
    have t2 : decide ((y : Int) < 1) = false := decide_eq_false (by omega)
    have t3 : decide ((200 : Int) < (x : Int)) = false := decide_eq_false (by omega)
    have t4 : decide ((200 : Int) < (y : Int)) = false := decide_eq_false (by omega)
    clear hm
    have PA := (show Hid _ from apart_plain x y (by omega) (by omega))
    have PS := (show Hid _ from two_start x)
    go_enter Try.func6, Try.ntmps6
    go_wp2_with fail
    refine kn.mono ?_
    rintro e w1 ⟨rfl, hc, hb⟩
    have HX : Hid (CsX NoX w w1 w.heap.size []) := csx_new hc hb
    have ka := KA.out w1
    generalize w.heap.size = cb at HX ⊢
    clear kn hc hb KA
    go_wp2_with fail
    refine ka.mono ?_
    rintro e w2 ⟨rfl, hb2⟩
    have HX2 : Hid (CsX NoX w w2 cb []) := HX.out.below hb2
    have k1 := HX2.out.make (fun _ q => q.elim) (by unfold top; simp) (-1)
    rw [PS.out.1] at k1
    simp only [List.length_nil] at k1
    clear ka hb2 HX HX2
    go_wp2_with fail
    refine k1.mono ?_
    rintro e w3 ⟨rfl, hc, _, _⟩
    have k2 := hc.make (fun _ q => q.elim) (by rw [two_len]; unfold top; simp) (-1)
    rw [PS.out.2, two_len] at k2
    clear k1 hc
    go_wp2_with fail
    refine k2.mono ?_
    rintro e w4 ⟨rfl, hc, _, _⟩
    have HC : Hid (CsX NoX w w4 cb (two x 2)) := hc
    clear k2 hc PS
    go_wp2_with fail
    go_loopw [8, 46] (fun s8 s46 wr => ∃ i : Nat, (i ≤ x ∧ CsX NoX w wr cb (two x (i + 2))) ∧ s8 = .int .i64 (lastP i) ∧ s46 = .int .i64 (i : Int)) (fun s8 s46 wr => x - (intOf s46).toNat)
    case atStart => exact ⟨0, ⟨Nat.zero_le _, HC.out⟩, rfl, rfl⟩
    case round =>
      clear HC
      obtain ⟨i, ⟨hi, hc⟩, rfl, rfl⟩ := hrel
      rcases Nat.lt_or_ge i x with c | c
      · have k1 := hc.make (fun _ q => q.elim) (by rw [two_len]; unfold top; omega) (lastP i)
        rw [make_first x i c, two_len] at k1
        have cil : (i : Int) < x := by omega
        clear hc
        generalize hP : lastP i = P at *
        clear hP
        go_wp2_with fail
        refine k1.mono ?_
        rintro e w5 ⟨rfl, hc, _, _⟩
        have HC : Hid (CsX NoX w w5 cb (two x (i + 1 + 2))) := hc
        clear k1 hc
        go_wp2_with fail
        refine ⟨⟨i + 1, ⟨c, HC.out⟩, ?_, by go_num⟩, ?_⟩
        · unfold lastP
          rw [if_neg (by omega)]
          congr 1
          try omega
        · simp [intOf]
          omega
      · have him : i = x := by omega
        subst him
        have cil : ¬ (i : Int) < i := by omega
        have HC : Hid (CsX NoX w wr cb (two i (i + 2))) := hc
        clear hc c hi
        generalize hP : lastP i = P at *
        clear hP
        go_wp2_with fail
        go_loopw [9, 53] (fun s9 s53 wr => ∃ j : Nat, (j ≤ y ∧ CsX NoX w wr cb (two i (i + 2 + j))) ∧ s9 = .int .i64 (lastQ i j) ∧ s53 = .int .i64 (j : Int)) (fun s9 s53 wr => y - (intOf s53).toNat)
        case atStart => exact ⟨0, ⟨Nat.zero_le _, HC.out⟩, rfl, rfl⟩
        case round =>
          clear HC
          obtain ⟨j, ⟨hj, hc⟩, rfl, rfl⟩ := hrel
          rcases Nat.lt_or_ge j y with c | c
          · have k1 := hc.make (fun _ q => q.elim) (by rw [two_len]; unfold top; omega) (lastQ i j)
            rw [make_second i j (by omega), two_len] at k1
            have cjl : (j : Int) < y := by omega
            clear hc
            generalize hQ : lastQ i j = Q at *
            clear hQ
            go_wp2_with fail
            refine k1.mono ?_
            rintro e w5 ⟨rfl, hc, _, _⟩
            have HC : Hid (CsX NoX w w5 cb (two i (i + 2 + (j + 1)))) := by
              show CsX NoX w w5 cb _
              rw [show i + 2 + (j + 1) = i + 3 + j by omega]
              exact hc
            clear k1 hc
            go_wp2_with fail
            refine ⟨⟨j + 1, ⟨c, HC.out⟩, ?_, by go_num⟩, ?_⟩
            · unfold lastQ
              rw [if_neg (by omega)]
              congr 1
              try omega
            · simp [intOf]
              omega
          · have hjm : j = y := by omega
            subst hjm
            have cjl : ¬ (j : Int) < j := by omega
            have k1 := hc.break' (fun _ q => q.elim) 0
            rw [PA.out.1] at k1
            have KV : Hid (validD (breakD (two i (i + 2 + j)) 0).1 P = false ∧ validD (breakD (two i (i + 2 + j)) 0).1 (lastQ i j) = true ∧ validD (breakD (two i (i + 2 + j)) 0).1 1 = true ∧ (breakD (breakD (two i (i + 2 + j)) 0).1 1).2 = j + 1) := PA.out.2
            clear hc c hj PA
            generalize lastQ i j = Q at *
            have t5 : ((((i + 1 : Nat) : Int)) == (i : Int) + 1) = true := by simp
            have t6 : ((((j + 1 : Nat) : Int)) == (j : Int) + 1) = true := by simp
            go_wp2_with fail
            refine k1.mono ?_
            rintro e w5 ⟨rfl, hc, _, _⟩
            have k2 := hc.valid P
            have k3 := hc.valid Q
            have k4 := hc.valid 1
            have k5 := hc.break' (fun _ q => q.elim) 1
            rw [KV.out.1] at k2
            rw [KV.out.2.1] at k3
            rw [KV.out.2.2.1] at k4
            rw [KV.out.2.2.2] at k5
            clear k1 hc KV
            go_wp2_with fail
            refine k2.mono ?_
            rintro e w6 ⟨rfl, rfl⟩
            clear k2
            go_wp2_with fail
            refine k3.mono ?_
            rintro e w7 ⟨rfl, rfl⟩
            clear k3
            go_wp2_with fail
            refine k4.mono ?_
            rintro e w8 ⟨rfl, rfl⟩
            clear k4
            go_wp2_with fail
            refine k5.mono ?_
            rintro e w9 ⟨rfl, hc, _, _⟩
            have HB := (show Hid _ from hc.bel)
            clear k5 hc
            go_wp2_with fail
            go_ret
            exact ⟨rfl, HB.out⟩
  · go_enter Try.func6, Try.ntmps6
    go_wp2_with fail
    refine kn.mono ?_
    rintro e w1 ⟨rfl, hc, hb⟩
    have HB := (show Hid _ from hb)
    have ka := KA.out w1
    generalize w.heap.size = cb at hc ⊢
    clear kn hc hb
    go_wp2_with fail
    refine ka.mono ?_
    rintro e w2 ⟨rfl, hb2⟩
    have HB2 : Hid (Below w.heap.size w w2) := HB.out.trans (hb2.mono HB.out.size)
    have ka2 := KA.out w2
    clear ka hb2 HB KA
    have hor : (a < 1) ∨ (1 ≤ a ∧ b < 1) ∨ (1 ≤ a ∧ 1 ≤ b ∧ 200 < a) ∨ (1 ≤ a ∧ 1 ≤ b ∧ a ≤ 200 ∧ 200 < b) := by omega
    clear hm
    rcases hor with h1 | ⟨h1, h2⟩ | ⟨h1, h2, h3⟩ | ⟨h1, h2, h3, h4⟩
    all_goals
      go_wp2_with fail
      refine ka2.mono ?_
      rintro e w3 ⟨rfl, hb3⟩
      have HB3 : Hid (Below w.heap.size w w3) := HB2.out.trans (hb3.mono HB2.out.size)
      clear ka2 hb3 HB2
      go_wp2_with fail
      go_ret
      exact ⟨rfl, HB3.out⟩

end Go.Proofs.Ytjahkjkkjccmgaa.Ce
