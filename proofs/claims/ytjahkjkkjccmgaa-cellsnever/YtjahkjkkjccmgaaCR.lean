/- CellsChain: the walk. -/
import Derived.Test.YtjahkjkkjccmgaaCQ
namespace Go.Proofs.Ytjahkjkkjccmgaa.Ce
open Go.RowKit
set_option linter.unusedVariables false

def NoX : Nat → Prop := fun _ => False

theorem chain_valid (m : Nat) (hm : 1 ≤ m) : validD (chain m) ((m : Int) - 1) = true := by
  unfold validD
  rw [chain_ok, decide_eq_true (by omega), decide_eq_true (by omega)]
  rfl

theorem chain_out (m : Nat) (at' : Int) (h : at' < 0 ∨ (m : Int) ≤ at') : breakD (chain m) at' = (chain m, 0) := by
  apply break_none
  rintro ⟨h1, h2⟩
  rw [chain_ok] at h2
  have := of_decide_eq_true h2
  omega

theorem chain_then (m a k : Nat) (ha : a < m) (hk : k < m) : validD (breakD (chain m) a).1 (k : Int) = decide (k < a) := by
  unfold validD
  rw [Int.toNat_natCast, (chain_break m a ha).2 k hk]
  simp

theorem chain_again (m a : Nat) (ha : a < m) : breakD (breakD (chain m) a).1 a = ((breakD (chain m) a).1, 0) := by
  apply break_none
  rintro ⟨h1, h2⟩
  rw [Int.toNat_natCast, (chain_break m a ha).2 a ha] at h2
  simp at h2

set_option maxRecDepth 100000 in
set_option maxHeartbeats 8000000 in
theorem chain_walk (w : World) (many at' : Int) :
    Calls Try.prog 5 #[.int .i64 many, .int .i64 at'] w fun e w' => e = .returned (.bool true) ∧ Below w.heap.size w w' := by
  have kn := new_any w
  have KA : Hid (∀ w, Calls Try.prog 8 #[] w fun e w' => e = .returned (.bool true) ∧ Below w.heap.size w w') := alive_any
  by_cases hm : many < 1 ∨ 500 < many
  · go_enter Try.func5, Try.ntmps5
    go_wp2_with fail
    refine kn.mono ?_
    rintro e w1 ⟨rfl, hc, hb⟩
    have HB := (show Hid _ from hb)
    have ka := KA.out w1
    generalize w.heap.size = cb at hc ⊢
    clear kn hc hb
    go_wp2_with fail
    refine ka.mono ?_
    rintro e w2 ⟨rfl, hb2⟩
    have HB2 : Hid (Below w.heap.size w w2) := HB.out.trans (hb2.mono HB.out.size)
    have ka2 := KA.out w2
    clear ka hb2 HB KA
    by_cases c : many < 1
    · go_wp2_with fail
      refine ka2.mono ?_
      rintro e w3 ⟨rfl, hb3⟩
      have HB3 : Hid (Below w.heap.size w w3) := HB2.out.trans (hb3.mono HB2.out.size)
      clear ka2 hb3 HB2
      go_wp2_with fail
      go_ret
      exact ⟨rfl, HB3.out⟩
    · have c2 : 500 < many := by omega
      clear hm
      go_wp2_with fail
      refine ka2.mono ?_
      rintro e w3 ⟨rfl, hb3⟩
      have HB3 : Hid (Below w.heap.size w w3) := HB2.out.trans (hb3.mono HB2.out.size)
      clear ka2 hb3 HB2
      go_wp2_with fail
      go_ret
      exact ⟨rfl, HB3.out⟩
  · obtain ⟨m, rfl⟩ : ∃ m : Nat, many = m := ⟨many.toNat, by omega⟩
    have hm1 : 1 ≤ (m : Int) := by omega
    have hm2 : (m : Int) ≤ 500 := by omega
    have t1 : decide ((m : Int) < 1) = false := decide_eq_false (by omega)
    have t2 : decide ((500 : Int) < (m : Int)) = false := decide_eq_false (by omega)
    clear hm
    go_enter Try.func5, Try.ntmps5
    go_wp2_with fail
    refine kn.mono ?_
    rintro e w1 ⟨rfl, hc, hb⟩
    have HX : Hid (CsX NoX w w1 w.heap.size []) := csx_new hc hb
    have ka := KA.out w1
    generalize w.heap.size = cb at HX ⊢
    clear kn hc hb KA
    go_wp2_with fail
    refine ka.mono ?_
    rintro e w2 ⟨rfl, hb2⟩
    have HX2 : Hid (CsX NoX w w2 cb (chain 0)) := HX.out.below hb2
    clear ka hb2 HX
    go_wp2_with fail
    go_loopw [6, 30] (fun s6 s30 wr => ∃ i : Nat, (i ≤ m ∧ CsX NoX w wr cb (chain i)) ∧ s6 = .int .i64 ((i : Int) - 1) ∧ s30 = .int .i64 (i : Int)) (fun s6 s30 wr => m - (intOf s30).toNat)
    case atStart => exact ⟨0, ⟨Nat.zero_le _, HX2.out⟩, rfl, rfl⟩
    case round =>
      clear HX2
      obtain ⟨i, ⟨hi, hx⟩, rfl, rfl⟩ := hrel
      have HX : Hid (CsX NoX w wr cb (chain i)) := hx
      clear hx
      rcases Nat.lt_or_ge i m with c | c
      · have k1 := HX.out.make (fun _ q => q.elim) (by rw [chain_len]; unfold top; omega) ((i : Int) - 1)
        rw [chain_make, chain_len] at k1
        have cil : (i : Int) < m := by omega
        clear HX
        go_wp2_with fail
        refine k1.mono ?_
        rintro e w3 ⟨rfl, hx, _, _⟩
        have HX : Hid (CsX NoX w w3 cb (chain (i + 1))) := hx
        clear k1 hx
        go_wp2_with fail
        refine ⟨⟨i + 1, ⟨c, HX.out⟩, by go_num, by go_num⟩, ?_⟩
        simp [intOf]
        omega
      · have him : i = m := by omega
        subst him
        have cil : ¬ (i : Int) < i := by omega
        have k1 := HX.out.break' (fun _ q => q.elim) at'
        clear HX c hi
        by_cases ho : at' < 0 ∨ (i : Int) ≤ at'
        · rw [chain_out i at' ho] at k1
          have KV : Hid (validD (chain i) ((i : Int) - 1) = true) := chain_valid i (by omega)
          go_wp2_with fail
          refine k1.mono ?_
          rintro e w3 ⟨rfl, hx, _, _⟩
          have kv := hx.valid ((i : Int) - 1)
          rw [KV.out] at kv
          have HB := (show Hid _ from hx.bel)
          clear k1 hx KV
          by_cases c0 : at' < 0
          · go_wp2_with fail
            refine kv.mono ?_
            rintro e w4 ⟨rfl, rfl⟩
            clear kv
            go_wp2_with fail
            go_ret
            exact ⟨rfl, HB.out⟩
          · have c1 : (i : Int) ≤ at' := by omega
            clear ho
            go_wp2_with fail
            refine kv.mono ?_
            rintro e w4 ⟨rfl, rfl⟩
            clear kv
            go_wp2_with fail
            go_ret
            exact ⟨rfl, HB.out⟩
        · obtain ⟨a, rfl⟩ : ∃ a : Nat, at' = a := ⟨at'.toNat, by omega⟩
          have hai : (a : Int) < i := by omega
          have t3 : decide ((a : Int) < 0) = false := decide_eq_false (by omega)
          have t5 : decide (i ≤ a) = false := decide_eq_false (by omega)
          have t4 : decide ((i : Int) ≤ (a : Int)) = false := decide_eq_false (by omega)
          have e1 := (chain_break i a (by omega)).1
          have hsub : ((i - a : Nat) : Int) = (i : Int) - a := by omega
          rw [e1, hsub] at k1
          have HCT : Hid (∀ k, k < i → validD (breakD (chain i) a).1 (k : Int) = decide (k < a)) := fun k hk => chain_then i a k (by omega) hk
          have HCA : Hid (breakD (breakD (chain i) a).1 a = ((breakD (chain i) a).1, 0)) := chain_again i a (by omega)
          clear ho e1 hsub
          go_wp2_with fail
          refine k1.mono ?_
          rintro e w3 ⟨rfl, hx, _, _⟩
          have HX : Hid (CsX NoX w w3 cb (breakD (chain i) a).1) := hx
          have k2 := hx.break' (fun _ q => q.elim) (a : Int)
          rw [HCA.out] at k2
          clear k1 hx HCA
          have hne : ((i : Int) - a != (i : Int) - a) = false := by simp
          go_wp2_with fail
          go_loopw [60] (fun s60 wr => ∃ q : Nat, q ≤ i ∧ w3 = wr ∧ s60 = .int .i64 (q : Int)) (fun s60 wr => i - (intOf s60).toNat)
          case atStart => exact ⟨0, Nat.zero_le _, rfl, rfl⟩
          case round =>
            obtain ⟨q, hq, rfl, rfl⟩ := hrel
            rcases Nat.lt_or_ge q i with c | c
            · have kv := HX.out.valid (q : Int)
              rw [HCT.out q c] at kv
              have cql : (q : Int) < i := by omega
              clear k2
              by_cases c2 : q < a
              · rw [decide_eq_true c2] at kv
                have c3 : (q : Int) < a := by omega
                go_wp2_with fail
                refine kv.mono ?_
                rintro e w4 ⟨rfl, rfl⟩
                clear kv
                go_wp2_with fail
                refine ⟨⟨q + 1, c, trivial, by go_num⟩, ?_⟩
                simp [intOf]
                omega
              · rw [decide_eq_false c2] at kv
                have c3 : ¬ (q : Int) < a := by omega
                go_wp2_with fail
                refine kv.mono ?_
                rintro e w4 ⟨rfl, rfl⟩
                clear kv
                go_wp2_with fail
                refine ⟨⟨q + 1, c, trivial, by go_num⟩, ?_⟩
                simp [intOf]
                omega
            · have cql : ¬ (q : Int) < i := by omega
              clear HX HCT
              go_wp2_with fail
              refine k2.mono ?_
              rintro e w4 ⟨rfl, hx, _, _⟩
              have HB := (show Hid _ from hx.bel)
              clear k2 hx
              go_wp2_with fail
              go_ret
              exact ⟨rfl, HB.out⟩

end Go.Proofs.Ytjahkjkkjccmgaa.Ce
