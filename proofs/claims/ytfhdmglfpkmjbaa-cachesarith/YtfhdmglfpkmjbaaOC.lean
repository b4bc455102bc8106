/- CachesArith: the walk. -/
import Derived.Test.YtfhdmglfpkmjbaaOB
import Derived.Test.YtfhdmglfpkmjbaaHV
namespace Go.Proofs.Ytfhdmglfpkmjbaa.Hp
open Go.RowKit Go.ChangeShapes Go.WideShapes
set_option linter.unusedVariables false
set_option linter.unusedSimpArgs false

def prC2 (p : Int × Int) : List Value := [.int .u64 p.1, .int .u64 p.2]
def wC1 (n : Int) : List Value := [.int .u64 n]

theorem ar_ge {s a b : Int} (h : 0 ≤ s ∧ s ≤ 3) : s ≤ arI s a b ∧ arI s a b ≤ 3 := by
  have h1 := rk_bd a
  have h2 := rk_bd b
  unfold arI mxI
  generalize rkI a = x at *
  generalize rkI b = y at *
  split <;> split <;> split <;> omega

theorem open_pair {H : Type} {enc : TypeId × Value → H} {w : World} {base : Nat} {spare : Nat → Bool} {held : Bool} {n : Nat} {cs : List Value} {x : DataW H × List MemPlace} (h : DataW.trod enc Try.prog w base spare held n 44 cs = some x) :
    ∃ y : Int × Int, cs = prC2 y ∧ (0 ≤ y.1 ∧ y.1 < 18446744073709551616) ∧ (0 ≤ y.2 ∧ y.2 < 18446744073709551616) := by
  obtain ⟨xs, k, hk, hxy, hlen, hxl, hf⟩ := DataW.trod_array Try.underlying44 h
  rw [show Try.prog.cellsOf 44 = 2 by kernel_rfl] at hlen
  rw [show Try.prog.cellsOf 43 = 1 by kernel_rfl] at hf
  match cs, hlen, xs, hxl with
  | [v0, v1], _, [y0, y1], _ =>
    have g0 : DataW.trod enc Try.prog w base spare held k 43 [v0] = some y0 := hf 0 (by omega)
    obtain ⟨a0, e0, w0⟩ := open_word g0
    obtain rfl : v0 = _ := by simpa using e0
    have g1 : DataW.trod enc Try.prog w base spare held k 43 [v1] = some y1 := hf 1 (by omega)
    obtain ⟨a1, e1, w1⟩ := open_word g1
    obtain rfl : v1 = _ := by simpa using e1
    exact ⟨(a0, a1), rfl, w0, w1⟩

set_option maxRecDepth 100000 in
set_option maxHeartbeats 8000000 in
theorem arith_walk (w : World) (m : Sli (Int × Int)) (hm : m.ok prC2 2 w) (hg : ∀ y ∈ m.xs, (0 ≤ y.1 ∧ y.1 < 18446744073709551616) ∧ (0 ≤ y.2 ∧ y.2 < 18446744073709551616)) (mc : Sli Int) (hc : mc.ok wC1 1 w) (hgc : ∀ y ∈ mc.xs, 0 ≤ y ∧ y < 18446744073709551616) :
    Calls Try.prog 6 #[m.val, mc.val] w fun e w' => e = .returned (.bool true) ∧ Below w.heap.size w w' := by
  have HA : Hid (∀ w : World, Calls Try.prog 13 #[] w fun e w' => e = .returned (.bool true) ∧ Below w.heap.size w w') := alive_any
  have HM : Hid (m.ok prC2 2 w) := hm
  have HC : Hid (mc.ok wC1 1 w) := hc
  have HG : Hid (∀ y ∈ m.xs, (0 ≤ y.1 ∧ y.1 < 18446744073709551616) ∧ (0 ≤ y.2 ∧ y.2 < 18446744073709551616)) := hg
  obtain ⟨ad, cap, l⟩ := m
  obtain ⟨ca, cc, cl⟩ := mc
  have hlim : (l.length : Int) ≤ 9223372036854775807 := by have := hm.len; have := hm.cap; unfold maxLen at this; simp only at *; omega
  have hlim2 : (cl.length : Int) ≤ 9223372036854775807 := by have := hc.len; have := hc.cap; unfold maxLen at this; simp only at *; omega
  unfold Sli.val
  simp only
  clear hm hc hg hgc
  go_enter Try.func6, Try.ntmps6
  go_wp2_with fail
  go_loopw [5, 17] (fun q p wr => ∃ (i : Nat) (s : Int), i ≤ l.length ∧ Hid (0 ≤ s ∧ s ≤ 3) ∧ Hid (Below w.heap.size w wr) ∧ q = .int .i64 s ∧ p = .int .i64 (i : Int)) (fun q p wr => ((l.length : Int) - intOf p).toNat)
  case atStart => exact ⟨0, 0, Nat.zero_le _, ⟨by omega, by omega⟩, Below.refl _ _, rfl, rfl⟩
  case round =>
    obtain ⟨i, s, hi, hs, hbw, rfl, rfl⟩ := hrel
    by_cases c : i < l.length
    · have hex : ∃ x, l[i]? = some x := ⟨_, List.getElem?_eq_getElem c⟩
      obtain ⟨x, hx⟩ := hex
      obtain ⟨b, off, hb1, hcc⟩ := HM.out.cells (by intro q; simp only at q; rw [q] at hx; simp at hx)
      simp only at hb1
      subst hb1
      have c0 := cells_below hbw.out _ _ (hcc i x hx 0 _ rfl)
      have c1 := cells_below hbw.out _ _ (hcc i x hx 1 _ rfl)
      simp only [Nat.add_zero] at c0
      obtain ⟨⟨a0, a1⟩, b0, b1⟩ := HG.out x (List.mem_of_getElem? hx)
      have hii : (i : Int) < (l.length : Int) := by omega
      have hii2 : decide ((i : Int) < (l.length : Int)) = true := decide_eq_true hii
      have hw1 : IntKind.i64.wrap ((i : Int) + 1) = ((i + 1 : Nat) : Int) := by rw [IntKind.wrap_i64]; omega
      have HI : Hid (i < l.length) := c
      obtain ⟨xa, xb⟩ := x
      simp only at c0 c1 a0 a1 b0 b1
      have HK1 : Hid (∀ w : World, Calls Try.prog 19 #[.int .i64 s, .int .u64 xa, .int .u64 xb] w fun e w' => e = .returned (.int .i64 (arI s xa xb)) ∧ Below w.heap.size w w') := fun w => arith_any s xa xb w a0 a1 b0 b1
      have HK2 : Hid (∀ w : World, Calls Try.prog 20 #[.int .i64 s, .int .u64 xa, .int .u64 xb] w fun e w' => e = .returned (.int .i64 (arI s xa xb)) ∧ Below w.heap.size w w') := fun w => rarith_any s xa xb w a0 a1 b0 b1
      have HGE : Hid (s ≤ arI s xa xb ∧ arI s xa xb ≤ 3) := ar_ge hs.out
      generalize arI s xa xb = t at *
      have hts : ¬ (t < s) := by have := HGE.out.1; omega
      clear hcc hx hi a0 a1 b0 b1
      go_upto_region 5 with fail
      obtain ⟨W, hW⟩ : ∃ W, W = wr.alloc (.cells #[.int .u64 xa, .int .u64 xb] 44) := ⟨_, rfl⟩
      have hBW : Below wr.heap.size wr W := by rw [hW]; exact (Below.refl _ _).alloc (Nat.le_refl _) _
      have d0 : W.cell? ⟨wr.heap.size, 0, none⟩ = some (.int .u64 xa) := by rw [hW]; exact box_new wr _ _ 0 _ rfl
      have d1 : W.cell? ⟨wr.heap.size, 1, none⟩ = some (.int .u64 xb) := by rw [hW]; exact box_new wr _ _ 1 _ rfl
      have HBW : Hid (Below w.heap.size w W) := hbw.out.trans (hBW.mono hbw.out.size)
      have k1 := HK1.out W
      rw [← hW]
      clear hW hBW c0 c1
      go_wp2_with fail
      refine k1.mono ?_
      rintro ee w3 ⟨rfl, hb3⟩
      have e0 := cells_below hb3 _ _ d0
      have e1 := cells_below hb3 _ _ d1
      have HB3 : Hid (Below w.heap.size w w3) := HBW.out.trans (hb3.mono HBW.out.size)
      have k2 := HK2.out w3
      clear k1 hb3 d0 d1 HBW
      go_wp2_with fail
      refine k2.mono ?_
      rintro ee w4 ⟨rfl, hb4⟩
      have HB4 : Hid (Below w.heap.size w w4) := HB3.out.trans (hb4.mono HB3.out.size)
      clear k2 hb4 HB3 e0 e1
      go_wp2_with fail
      refine ⟨⟨i + 1, t, HI.out, ⟨by have := HGE.out.1; have := hs.out.1; omega, HGE.out.2⟩, HB4, rfl, rfl⟩, ?_⟩
      have := HI.out
      simp [intOf]
      omega
    · have hii2 : ¬ ((i : Int) < (l.length : Int)) := by omega
      obtain ⟨wa, hwa⟩ : ∃ wa, wa = wr := ⟨_, rfl⟩
      subst hwa
      clear HM HG
      go_wp2_with fail
      go_loopw [9, 10, 44] (fun q r p wr => ∃ (j : Nat) (st tg : Int), j ≤ cl.length ∧ (st = 0 ∨ st = 1 ∨ st = 2) ∧ Hid (Below w.heap.size w wr) ∧ q = .int .i64 st ∧ r = .int .u64 tg ∧ p = .int .i64 (j : Int)) (fun q r p wr => ((cl.length : Int) - intOf p).toNat)
      case atStart => exact ⟨0, 0, 0, Nat.zero_le _, Or.inl rfl, hbw, rfl, rfl, rfl⟩
      case round =>
        obtain ⟨j, st, tg, hj, hst, hbq, rfl, rfl, rfl⟩ := hrel
        by_cases cj : j < cl.length
        · have hex : ∃ x, cl[j]? = some x := ⟨_, List.getElem?_eq_getElem cj⟩
          obtain ⟨x, hx⟩ := hex
          obtain ⟨b, off, hb1, hcc⟩ := HC.out.cells (by intro q; simp only at q; rw [q] at hx; simp at hx)
          simp only at hb1
          subst hb1
          have c0 := cells_below hbq.out _ _ (hcc j x hx 0 _ rfl)
          simp only [Nat.add_zero, Nat.mul_one] at c0
          have hjj : (j : Int) < (cl.length : Int) := by omega
          have hjd : decide ((j : Int) < (cl.length : Int)) = true := decide_eq_true hjj
          have hw2 : IntKind.i64.wrap ((j : Int) + 1) = ((j + 1 : Nat) : Int) := by rw [IntKind.wrap_i64]; omega
          have HJ : Hid (j < cl.length) := cj
          have kc := call_any st tg x wr
          clear hcc hx hj
          rcases hst with rfl | rfl | rfl
          · have hca : caI 0 tg x = (1, x) := rfl
            rw [hca] at kc
            clear hca
            go_wp2_with fail
            refine kc.mono ?_
            rintro ee w3 ⟨rfl, rfl⟩
            clear kc
            go_wp2_with fail
            refine ⟨⟨j + 1, 1, x, HJ.out, Or.inr (Or.inl rfl), hbq, rfl, rfl, rfl⟩, ?_⟩
            have := HJ.out
            simp [intOf]
            omega
          · by_cases ce : x = tg
            · subst ce
              have hca : caI 1 x x = (1, x) := by unfold caI; simp
              rw [hca] at kc
              clear hca
              go_wp2_with fail
              refine kc.mono ?_
              rintro ee w3 ⟨rfl, rfl⟩
              clear kc
              go_wp2_with fail
              refine ⟨⟨j + 1, 1, x, HJ.out, Or.inr (Or.inl rfl), hbq, rfl, rfl, rfl⟩, ?_⟩
              have := HJ.out
              simp [intOf]
              omega
            · have hca : caI 1 tg x = (2, 18445336698825998336) := by unfold caI; simp [ce]
              have hce : (x == tg) = false := by simpa using ce
              rw [hca] at kc
              clear hca
              go_wp2_with fail
              refine kc.mono ?_
              rintro ee w3 ⟨rfl, rfl⟩
              clear kc
              go_wp2_with fail
              refine ⟨⟨j + 1, 2, _, HJ.out, Or.inr (Or.inr rfl), hbq, rfl, rfl, rfl⟩, ?_⟩
              have := HJ.out
              simp [intOf]
              omega
          · have hca : caI 2 tg x = (2, 18445336698825998336) := by unfold caI; simp
            rw [hca] at kc
            clear hca
            go_wp2_with fail
            refine kc.mono ?_
            rintro ee w3 ⟨rfl, rfl⟩
            clear kc
            go_wp2_with fail
            refine ⟨⟨j + 1, 2, _, HJ.out, Or.inr (Or.inr rfl), hbq, rfl, rfl, rfl⟩, ?_⟩
            have := HJ.out
            simp [intOf]
            omega
        · have hjj : ¬ ((j : Int) < (cl.length : Int)) := by omega
          have ka := HA.out wr
          clear HC
          go_wp2_with fail
          refine ka.mono ?_
          rintro ee w4 ⟨rfl, hb4⟩
          have HB4 : Hid (Below w.heap.size w w4) := hbq.out.trans (hb4.mono hbq.out.size)
          clear ka hb4
          go_wp2_with fail
          go_ret
          exact ⟨rfl, HB4.out⟩
end Go.Proofs.Ytfhdmglfpkmjbaa.Hp
