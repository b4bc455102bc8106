/- CachesFew: the walk. -/
import Derived.Test.YtfhdmglfpkmjbaaNH
namespace Go.Proofs.Ytfhdmglfpkmjbaa.Hp
open Go.RowKit
set_option linter.unusedVariables false
set_option linter.unusedSimpArgs false

set_option maxRecDepth 100000 in
set_option maxHeartbeats 8000000 in
theorem few_walk (w : World) (m : Sli Int) (hm : m.ok iC 1 w) : Calls Try.prog 5 #[m.val] w fun e w' => e = .returned (.bool true) ∧ Below w.heap.size w w' := by
  have HA : Hid (∀ w : World, Calls Try.prog 13 #[] w fun e w' => e = .returned (.bool true) ∧ Below w.heap.size w w') := alive_any
  have HM : Hid (m.ok iC 1 w) := hm
  obtain ⟨ad, cap, l⟩ := m
  have hlim : (l.length : Int) ≤ 9223372036854775807 := by have := hm.len; have := hm.cap; unfold maxLen at this; simp only at *; omega
  unfold Sli.val
  simp only
  have HS0 : Hid (FeS w (w.alloc (.cells #[.int .i64 0, .slice none 0 0] 24)) w.heap.size (.slice none 0 0) []) := ⟨⟨⟨0, none, 0, [], SiS.new w w (Below.refl _ _), rfl, by omega⟩, by simp⟩, OwnR.nil _ _⟩
  clear hm
  go_enter Try.func5, Try.ntmps5
  go_wp2_with fail
  go_loopw [5, 17] (fun q p wr => ∃ (i : Nat) (met : List Int), i ≤ l.length ∧ Hid (FeS w wr w.heap.size q met) ∧ p = .int .i64 (i : Int)) (fun q p wr => ((l.length : Int) - intOf p).toNat)
  case atStart => exact ⟨0, [], Nat.zero_le _, HS0, rfl⟩
  case round =>
    clear HS0
    obtain ⟨i, met, hi, HFS, rfl⟩ := hrel
    obtain ⟨vm, hvm⟩ : ∃ vm, vm = u5 := ⟨_, rfl⟩
    subst hvm
    by_cases c : i < l.length
    · have hex : ∃ x, l[i]? = some x := ⟨_, List.getElem?_eq_getElem c⟩
      obtain ⟨n, hn⟩ := hex
      obtain ⟨bel, _⟩ : ∃ b : Below w.heap.size w wr, True := by obtain ⟨_, _, _, _, h1, _⟩ := HFS.out.c.at'; exact ⟨h1.bel, trivial⟩
      obtain ⟨b, off, hb1, hcc⟩ := HM.out.cells (by intro q; simp only at q; rw [q] at hn; simp at hn)
      simp only at hb1
      subst hb1
      have c0 := cells_below bel _ _ (hcc i n hn 0 _ rfl)
      simp only [Nat.mul_one, Nat.add_zero] at c0
      have hii : (i : Int) < (l.length : Int) := by omega
      have hii2 : decide ((i : Int) < (l.length : Int)) = true := decide_eq_true hii
      have hw1 : IntKind.i64.wrap ((i : Int) + 1) = ((i + 1 : Nat) : Int) := by rw [IntKind.wrap_i64]; omega
      have HI : Hid (i < l.length) := c
      have HBW : Hid (Below w.heap.size w wr) := bel
      clear hcc hn bel hi
      obtain ⟨sMm, hv, hxs, hok⟩ := own_sliI HFS.out.mrow
      have kin := in_any sMm n wr hok
      rw [hxs, ← hv] at kin
      have hvl : vm = .slice sMm.at' met.length sMm.cap := by rw [hv, ← hxs]; rfl
      generalize sMm.at' = ma at *
      generalize sMm.cap = mc at *
      clear hxs hok hv
      subst hvl
      by_cases ci : inB met n = true
      · rw [ci] at kin
        obtain ⟨st6, ad6, cp6, n6, ⟨s0, s1⟩, kf⟩ := HFS.out.c.find n
        rw [ci] at kf
        go_wp2_with fail
        refine kin.mono ?_
        rintro ee w3 ⟨rfl, rfl⟩
        clear kin
        go_wp2_with fail
        refine kf.mono ?_
        rintro ee w4 ⟨a8, b8, c8, d8, rfl, hb8⟩
        obtain ⟨w6, hw6⟩ : ∃ w6, w6 = w4.alloc (.cells #[.int .i64 a8, .int .i64 b8, .int .i64 c8, .int .i64 d8] 26) := ⟨_, rfl⟩
        have hb6 : Below w4.heap.size w4 w6 := by rw [hw6]; exact (Below.refl _ _).alloc (Nat.le_refl _) _
        have HF6 : Hid (FeS w w6 w.heap.size (.slice ma met.length mc) met) := (HFS.out.below hb8).below hb6
        clear kf hb8 s0 s1 c0 hb6 HBW
        go_upto_region 14 with fail
        rw [← hw6]
        clear hw6 ci
        have HTL : Hid (∀ W2 : World, Below w6.heap.size w6 W2 → FeS w W2 w.heap.size (.slice ma met.length mc) met) := fun W2 hb => HF6.out.below hb
        have HSO : Hid (Sli.ok iC 1 w6 ⟨ma, mc, met⟩) := own_okI HF6.out.mrow
        have hll : (met.length : Int) ≤ 4 := by have := HF6.out.c.few; omega
        clear HFS
        go_wp2_with fail
        go_loopw [49] (fun p wq => ∃ j : Nat, j ≤ met.length ∧ Hid (Below w6.heap.size w6 wq) ∧ p = .int .i64 (j : Int)) (fun p wq => ((met.length : Int) - intOf p).toNat)
        case atStart => exact ⟨0, Nat.zero_le _, Below.refl _ _, rfl⟩
        case round =>
          obtain ⟨j, hj, hbq, rfl⟩ := hrel
          by_cases cj : j < met.length
          · have hex : ∃ x, met[j]? = some x := ⟨_, List.getElem?_eq_getElem cj⟩
            obtain ⟨k, hk⟩ := hex
            obtain ⟨kb, koff, hb1, hcc⟩ := HSO.out.cells (by intro q; simp only at q; rw [q] at hk; simp at hk)
            simp only at hb1
            subst hb1
            have c0 := cells_below hbq.out _ _ (hcc j k hk 0 _ rfl)
            simp only [Nat.mul_one, Nat.add_zero] at c0
            have HFQ : Hid (FeS w wr w.heap.size (.slice (some ⟨kb, koff, none⟩) met.length mc) met) := HTL.out wr hbq.out
            obtain ⟨st6, ad6, cp6, n6, ⟨s0, s1⟩, kf⟩ := HFQ.out.c.find k
            rw [in_hit hk] at kf
            have hjj : (j : Int) < (met.length : Int) := by omega
            have hjd : decide ((j : Int) < (met.length : Int)) = true := decide_eq_true hjj
            have hw2 : IntKind.i64.wrap ((j : Int) + 1) = ((j + 1 : Nat) : Int) := by rw [IntKind.wrap_i64]; omega
            have HJ : Hid (j < met.length) := cj
            clear hcc hk HFQ
            go_wp2_with fail
            refine kf.mono ?_
            rintro ee w8 ⟨a8, b8, c8, d8, rfl, hb8⟩
            have HB8 : Hid (Below w6.heap.size w6 w8) := hbq.out.trans (hb8.mono hbq.out.size)
            clear kf hb8 s0 s1 hbq c0
            go_wp2_with fail
            refine ⟨⟨j + 1, HJ.out, below_new HB8.out HB8.out.size _, rfl⟩, ?_⟩
            have := HJ.out
            simp [intOf]
            omega
          · have hjj : ¬ ((j : Int) < (met.length : Int)) := by omega
            have HFE : Hid (FeS w wr w.heap.size (.slice ma met.length mc) met) := HTL.out wr hbq.out
            clear HTL HSO
            go_wp2_with fail
            refine ⟨⟨i + 1, met, HI.out, HFE, rfl⟩, ?_⟩
            have := HI.out
            simp [intOf]
            omega
      · have cf : inB met n = false := by simpa using ci
        rw [cf] at kin
        clear ci
        by_cases c4 : met.length = 4
        · have c4i : ((met.length : Int) == 4) = true := by rw [c4]; rfl
          clear c4
          have ka := HA.out wr
          go_wp2_with fail
          refine kin.mono ?_
          rintro ee w3 ⟨rfl, rfl⟩
          clear kin
          go_wp2_with fail
          refine ka.mono ?_
          rintro ee w4 ⟨rfl, hb4⟩
          have HB4 : Hid (Below w.heap.size w w4) := HBW.out.trans (hb4.mono HBW.out.size)
          clear ka hb4
          go_wp2_with fail
          go_ret
          exact ⟨rfl, HB4.out⟩
        · have HL4 : Hid (met.length < 4) := by have := HFS.out.c.few; show _ < _; omega
          have c4' : ¬ ((met.length : Int) = 4) := by omega
          have c4'' : ((met.length : Int) == 4) = false := by simpa using c4'
          have HOM : Hid (OwnR iC 1 3 w.heap.size (wr.alloc (.cells #[.int .i64 n] 3)) (.slice ma met.length mc) met) := OwnR.below HFS.out.mrow ((Below.refl _ _).alloc (Nat.le_refl _) _)
          have HFA : Hid (FeS w (wr.alloc (.cells #[.int .i64 n] 3)) w.heap.size (.slice ma met.length mc) met) := HFS.out.below ((Below.refl _ _).alloc (Nat.le_refl _) _)
          have HBA : Hid (Below w.heap.size w (wr.alloc (.cells #[.int .i64 n] 3))) := below_new HBW.out HBW.out.size _
          have HONE : Hid (Sli.ok iC 1 (wr.alloc (.cells #[.int .i64 n] 3)) ⟨some ⟨wr.heap.size, 0, none⟩, 1, [n]⟩) := one_sli rtI (at_new _ _) rfl
          go_wp2_with fail
          refine kin.mono ?_
          rintro ee w3 ⟨rfl, rfl⟩
          clear kin
          go_upto_region 10 with fail
          go_wp2_with (at_builtin; refine app_row rtI rfl _ _ rfl w.heap.size (.slice ma met.length mc) met ?h1 HOM.out ⟨some ⟨w3.heap.size, 0, none⟩, 1, [n]⟩ ?h3 HONE.out (by have := HL4.out; show _ ≤ 9223372036854775807; simp only [List.length_cons, List.length_nil]; omega) (by have := HL4.out; simp only [List.length_cons, List.length_nil]; omega) HBA.out.size ?_)
          case h1 => rfl
          case h3 => rfl
          intro v5 w5 ho5 hg5 hl5
          have HNN : Hid (inB met n = false) := cf
          obtain ⟨v5a, v5c, hv5, HF5, HM5⟩ : ∃ a5 c5, v5 = .slice a5 (met ++ [n]).length c5 ∧ Hid (FeC w w5 w.heap.size met) ∧ Hid (OwnR iC 1 3 w.heap.size w5 v5 (met ++ [n])) := few_next HFA.out hg5 ho5
          obtain ⟨met2, hmet2⟩ : ∃ m2, m2 = met ++ [n] := ⟨_, rfl⟩
          have HM2 : Hid (met2 = met ++ [n]) := hmet2
          rw [← hmet2] at hv5 HM5
          clear hmet2
          subst hv5
          obtain ⟨st6, ad6, cp6, n6, ⟨s0, s1⟩, kf⟩ := HF5.out.find n
          rw [cf] at kf
          clear ho5 hg5 hl5 HOM HFA HONE HBA HFS cf c4 c4' c4'' HBW
          go_wp2_with fail
          refine kf.mono ?_
          rintro ee w7 ⟨a8, b8, c8, d8, rfl, hb8⟩
          obtain ⟨w4, hw4⟩ : ∃ w4, w4 = w7.alloc (.cells #[.int .i64 a8, .int .i64 b8, .int .i64 c8, .int .i64 d8] 26) := ⟨_, rfl⟩
          have hb4 : Below w7.heap.size w7 w4 := by rw [hw4]; exact (Below.refl _ _).alloc (Nat.le_refl _) _
          have HF4 : Hid (FeC w w4 w.heap.size met) := (HF5.out.below hb8).below hb4
          have HM4 : Hid (OwnR iC 1 3 w.heap.size w4 (.slice v5a met2.length v5c) met2) := OwnR.below (OwnR.below HM5.out hb8) hb4
          clear kf hb8 s0 s1 HF5 HM5 hb4
          obtain ⟨st7, ad7, cp7, n7, ⟨s0, s1⟩, kl⟩ := HF4.out.learn n HNN.out HL4.out
          rw [← HM2.out] at kl
          go_upto_region 12 with fail
          rw [← hw4]
          clear hw4
          go_wp2_with fail
          refine kl.mono ?_
          rintro ee w9 ⟨st8, ad8, cp8, n8, rfl, ⟨t0, t1, f0, f1⟩, hnx⟩
          have HF6' : Hid (FeS w (stS w9 w.heap.size st8 (.slice ad8 n8 cp8)) w.heap.size (.slice v5a met2.length v5c) met2) := hnx _ HM4.out
          clear kl s0 s1 hnx HF4 HM4 HNN HL4 HM2
          obtain ⟨w6, hw6⟩ : ∃ w6, w6 = stS w9 w.heap.size st8 (.slice ad8 n8 cp8) := ⟨_, rfl⟩
          have HF6 : Hid (FeS w w6 w.heap.size (.slice v5a met2.length v5c) met2) := by rw [hw6]; exact HF6'.out
          clear HF6'
          unfold stS at hw6
          go_upto_region 14 with fail
          rw [← hw6]
          clear hw6 t0 t1 f0 f1
          have HTL : Hid (∀ W2 : World, Below w6.heap.size w6 W2 → FeS w W2 w.heap.size (.slice v5a met2.length v5c) met2) := fun W2 hb => HF6.out.below hb
          have HSO : Hid (Sli.ok iC 1 w6 ⟨v5a, v5c, met2⟩) := own_okI HF6.out.mrow
          have hll : (met2.length : Int) ≤ 4 := by have := HF6.out.c.few; omega
          go_wp2_with fail
          go_loopw [49] (fun p wq => ∃ j : Nat, j ≤ met2.length ∧ Hid (Below w6.heap.size w6 wq) ∧ p = .int .i64 (j : Int)) (fun p wq => ((met2.length : Int) - intOf p).toNat)
          case atStart => exact ⟨0, Nat.zero_le _, Below.refl _ _, rfl⟩
          case round =>
            obtain ⟨j, hj, hbq, rfl⟩ := hrel
            by_cases cj : j < met2.length
            · have hex : ∃ x, met2[j]? = some x := ⟨_, List.getElem?_eq_getElem cj⟩
              obtain ⟨k, hk⟩ := hex
              obtain ⟨kb, koff, hb1, hcc⟩ := HSO.out.cells (by intro q; simp only at q; rw [q] at hk; simp at hk)
              simp only at hb1
              subst hb1
              have c0 := cells_below hbq.out _ _ (hcc j k hk 0 _ rfl)
              simp only [Nat.mul_one, Nat.add_zero] at c0
              have HFQ : Hid (FeS w wr w.heap.size (.slice (some ⟨kb, koff, none⟩) met2.length v5c) met2) := HTL.out wr hbq.out
              obtain ⟨st6, ad6, cp6, n6, ⟨s0, s1⟩, kf⟩ := HFQ.out.c.find k
              rw [in_hit hk] at kf
              have hjj : (j : Int) < (met2.length : Int) := by omega
              have hjd : decide ((j : Int) < (met2.length : Int)) = true := decide_eq_true hjj
              have hw2 : IntKind.i64.wrap ((j : Int) + 1) = ((j + 1 : Nat) : Int) := by rw [IntKind.wrap_i64]; omega
              have HJ : Hid (j < met2.length) := cj
              clear hcc hk HFQ
              go_wp2_with fail
              refine kf.mono ?_
              rintro ee w8 ⟨a8, b8, c8, d8, rfl, hb8⟩
              have HB8 : Hid (Below w6.heap.size w6 w8) := hbq.out.trans (hb8.mono hbq.out.size)
              clear kf hb8 s0 s1 hbq c0
              go_wp2_with fail
              refine ⟨⟨j + 1, HJ.out, below_new HB8.out HB8.out.size _, rfl⟩, ?_⟩
              have := HJ.out
              simp [intOf]
              omega
            · have hjj : ¬ ((j : Int) < (met2.length : Int)) := by omega
              have HFE : Hid (FeS w wr w.heap.size (.slice v5a met2.length v5c) met2) := HTL.out wr hbq.out
              clear HTL HSO
              go_wp2_with fail
              refine ⟨⟨i + 1, met2, HI.out, HFE, rfl⟩, ?_⟩
              have := HI.out
              simp [intOf]
              omega
    · have hii2 : ¬ ((i : Int) < (l.length : Int)) := by omega
      obtain ⟨st5, ad5, cp5, es5, hs5, he5, hst5⟩ := HFS.out.c.at'
      have ka := HA.out wr
      have HBE : Hid (SiS w wr w.heap.size st5 ad5 cp5 es5) := hs5
      clear HM hs5 he5
      go_wp2_with fail
      refine ka.mono ?_
      rintro ee w4 ⟨rfl, hb4⟩
      obtain ⟨t0, t1⟩ := (HBE.out.below hb4).box.ce
      have HB4 : Hid (Below w.heap.size w w4) := (HBE.out.below hb4).bel
      clear ka hb4 HBE HFS
      go_wp2_with fail
      go_ret
      exact ⟨rfl, HB4.out⟩
end Go.Proofs.Ytfhdmglfpkmjbaa.Hp
