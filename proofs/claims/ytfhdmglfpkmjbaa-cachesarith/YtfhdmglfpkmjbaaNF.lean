/- Caches: a site that has learnt one shape. -/
import Derived.Test.YtfhdmglfpkmjbaaNE
namespace Go.Proofs.Ytfhdmglfpkmjbaa.Hp
open Go.RowKit
set_option linter.unusedVariables false
set_option linter.unusedSimpArgs false

/-- a slice of a row of the call's own -/
theorem own_sli {w : World} {B : Nat} {v : Value} {xs : List En} (h : OwnR encE 4 26 B w v xs) : ∃ s : Sli En, v = s.val ∧ s.xs = xs ∧ s.ok encE 4 w := by
  obtain ⟨s, h1, h2, h3, _⟩ := h.sl (fun y => (rfl : (encE y).length = 4))
  exact ⟨s, h1, h2, h3⟩

/-- Find and Learn of a site whose row is the call's own -/
theorem find_own {X : World → Prop} {f : Nat} {cap : Array Value} {vf : Int → Bool} (A : Ask X f cap vf) {w : World} {B : Nat} {v : Value} {xs : List En} (h : OwnR encE 4 26 B w v xs) (st sh : Int) (hX : X w) :
    Calls Try.prog 11 #[.agg #[.int .i64 st, v], .int .i64 sh, fnV f cap] w fun r w' => r = .returned (fvE (fndE vf sh xs)) ∧ Below w.heap.size w w' := by
  obtain ⟨s, rfl, rfl, h3⟩ := own_sli h
  exact find_any A s st sh w hX h3
theorem learn_own {X : World → Prop} {f : Nat} {cap : Array Value} {vf : Int → Bool} (A : Ask X f cap vf) {w : World} {B : Nat} {v : Value} {xs : List En} (h : OwnR encE 4 26 B w v xs) (hl : xs.length ≤ 1000) (st : Int) (e : En) (hX : X w) :
    Calls Try.prog 15 #[.agg #[.int .i64 st, v], e.val, fnV f cap] w fun r w' => ∃ ad cp, r = .returned (.agg #[.int .i64 (lrnP vf st xs e).1, .slice ad (lrnP vf st xs e).2.length cp]) ∧ OwnR encE 4 26 w.heap.size w' (.slice ad (lrnP vf st xs e).2.length cp) (lrnP vf st xs e).2 ∧ Below w.heap.size w w' := by
  obtain ⟨s, rfl, rfl, h3⟩ := own_sli h
  refine (learn_any A s st e w hX h3 (by unfold RoE; omega)).mono ?_
  rintro r w' ⟨v, rfl, ho, hb⟩
  obtain ⟨s2, rfl, h2, _⟩ := own_sli ho
  refine ⟨s2.at', s2.cap, ?_, ?_, hb⟩
  · rw [← h2]; rfl
  · have : s2.val = .slice s2.at' (lrnP vf st s.xs e).2.length s2.cap := by rw [← h2]; rfl
    rw [← this]; exact ho

set_option maxRecDepth 100000 in
set_option maxHeartbeats 1000000 in
theorem alive_any (w : World) : Calls Try.prog 13 #[] w fun e w' => e = .returned (.bool true) ∧ Below w.heap.size w w' := by
  have hk := fun w : World => learn_own ask_alive1 (OwnR.nil (enc := encE) (k := 4) (e := 26) w.heap.size w) (by simp) 0 ⟨4, 0, 2, -1⟩ trivial
  have hp : lrnP (fun _ => false) 0 [] ⟨4, 0, 2, -1⟩ = (1, [⟨4, 0, 2, -1⟩]) := by decide
  rw [hp] at hk
  have hf : ∀ (w : World) (v : Value), OwnR encE 4 26 0 w v [⟨4, 0, 2, -1⟩] → Calls Try.prog 11 #[.agg #[.int .i64 1, v], .int .i64 4, fnV 27 #[]] w fun r w' => r = .returned (.tuple #[.agg #[.int .i64 4, .int .i64 0, .int .i64 2, .int .i64 (-1)], .bool true]) ∧ Below w.heap.size w w' := fun w v h => find_own ask_alive2 h 1 4 trivial
  unfold fnV En.val at hk
  unfold fnV at hf
  simp only at hk
  have HF := (show Hid _ from hf)
  clear hp hf
  go_enter Try.func13, Try.ntmps13
  go_wp2_with fail
  refine (hk w).mono ?_
  rintro e w1 ⟨ad, cp, rfl, ho1, hb1⟩
  simp only [List.length_cons, List.length_nil, Nat.zero_add] at ho1 ⊢
  have HO : Hid (OwnR encE 4 26 w.heap.size w1 (.slice ad 1 cp) [⟨4, 0, 2, -1⟩]) := ho1
  have HB1 : Hid (Below w.heap.size w w1) := hb1
  clear hk ho1 hb1
  go_upto_region 2 with fail
  obtain ⟨w2, hw2⟩ : ∃ w2, w2 = w1.alloc (.cells #[.int .i64 1, .slice ad 1 cp] 24) := ⟨_, rfl⟩
  have hb2 : Below w1.heap.size w1 w2 := by rw [hw2]; exact (Below.refl _ _).alloc (Nat.le_refl _) _
  have HX2 : Hid (BxS w2 w1.heap.size 1 (.slice ad 1 cp)) := by rw [hw2]; exact bxS_new w1 _ _
  have kf := HF.out w2 (.slice ad 1 cp) (OwnR.low (OwnR.below HO.out hb2) (Nat.zero_le _))
  have HB2 : Hid (Below w.heap.size w w2) := HB1.out.trans (hb2.mono HB1.out.size)
  obtain ⟨s0, s1⟩ := HX2.out.ce
  rw [← hw2]
  clear hw2 hb2 HF HO HB1
  go_wp2_with fail
  refine kf.mono ?_
  rintro e w3 ⟨rfl, hb3⟩
  have HB3 : Hid (Below w.heap.size w w3) := HB2.out.trans (hb3.mono HB2.out.size)
  obtain ⟨w4, hw4⟩ : ∃ w4, w4 = w3.alloc (.cells #[.int .i64 4, .int .i64 0, .int .i64 2, .int .i64 (-1)] 26) := ⟨_, rfl⟩
  have hb4 : Below w3.heap.size w3 w4 := by rw [hw4]; exact (Below.refl _ _).alloc (Nat.le_refl _) _
  have hE : BxE w4 w3.heap.size ⟨4, 0, 2, -1⟩ := by rw [hw4]; exact bxE_new w3 ⟨4, 0, 2, -1⟩
  have HB4 : Hid (Below w.heap.size w w4) := HB3.out.trans (hb4.mono HB3.out.size)
  obtain ⟨t0, t1⟩ := ((HX2.out.below hb3).below hb4).ce
  obtain ⟨_, _, c2, _⟩ := hE.at'
  simp only [Nat.zero_add] at c2
  clear kf hb3 HX2 HB2 s0 s1 hE hb4
  go_upto_region 3 with fail
  rw [← hw4]
  clear hw4
  go_wp2_with fail
  go_ret
  exact ⟨rfl, HB4.out⟩
end Go.Proofs.Ytfhdmglfpkmjbaa.Hp
