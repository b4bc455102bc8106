/- alive. -/
import Derived.Test.YtjahkjkkjccmgaaCP
namespace Go.Proofs.Ytjahkjkkjccmgaa.Ce
open Go.RowKit
set_option linter.unusedVariables false

/-- what was laid behind B may go on changing -/
theorem Went.below {W w w' : World} {B cb : Nat} {O : Nat → Prop} {l : List Cel} (h : Went w B cb O l w') (hb : Below B W w) (hB : B ≤ w.heap.size) (hO : ∀ b, O b → B ≤ b) : Below B W w' := by
  obtain ⟨O', h1, h2, h3⟩ := h
  exact h2.below hb hB hO

/-- cells of the call's own, whose blocks are not among X -/
def CsX (X : Nat → Prop) (W w : World) (cb : Nat) (l : List Cel) : Prop := ∃ O, Cs w W.heap.size cb O l ∧ (∀ b, O b → ¬ X b) ∧ Below W.heap.size W w

theorem CsX.went {X : Nat → Prop} {W w w' : World} {cb : Nat} {l l' : List Cel} (hX : ∀ b, X b → b < w.heap.size) (O : Nat → Prop) (h : Cs w W.heap.size cb O l) (hn : ∀ b, O b → ¬ X b) (hb : Below W.heap.size W w) (hw : Went w W.heap.size cb O l' w') : CsX X W w' cb l' ∧ Chg O w w' := by
  have hlt := h.lt
  obtain ⟨O', h1, h2, h3⟩ := hw
  refine ⟨⟨O', h1, fun b q => ?_, h2.below hb hb.size (fun b q => (hlt b q).1)⟩, h2⟩
  rcases h3 b q with c | c
  · exact hn b c
  · intro x
    have := hX b x
    omega

theorem CsX.make {X : Nat → Prop} {W w : World} {cb : Nat} {l : List Cel} (h : CsX X W w cb l) (hX : ∀ b, X b → b < w.heap.size) (ht : l.length + 1 ≤ top) (on : Int) :
    Calls Try.prog 9 #[.pointer (some ⟨cb, 0, none⟩), .int .i64 on] w fun e w' => e = .returned (.int .i64 (l.length : Int)) ∧ CsX X W w' cb (makeD l on) ∧ (∀ b, X b → w'.heap[b]? = w.heap[b]?) ∧ w.heap.size ≤ w'.heap.size := by
  obtain ⟨O, h1, h2, h3⟩ := h
  refine (make_any w W.heap.size cb O l h1 ht on).mono ?_
  rintro e w' ⟨rfl, hw⟩
  obtain ⟨g1, g2⟩ := CsX.went hX O h1 h2 h3 hw
  exact ⟨rfl, g1, fun b q => g2.block b (hX b q) (fun r => h2 b r q), g2.size⟩

theorem CsX.break' {X : Nat → Prop} {W w : World} {cb : Nat} {l : List Cel} (h : CsX X W w cb l) (hX : ∀ b, X b → b < w.heap.size) (n : Int) :
    Calls Try.prog 12 #[.pointer (some ⟨cb, 0, none⟩), .int .i64 n] w fun e w' => e = .returned (.int .i64 ((breakD l n).2 : Int)) ∧ CsX X W w' cb (breakD l n).1 ∧ (∀ b, X b → w'.heap[b]? = w.heap[b]?) ∧ w.heap.size ≤ w'.heap.size := by
  obtain ⟨O, h1, h2, h3⟩ := h
  refine (break_any w W.heap.size cb O l h1 n).mono ?_
  rintro e w' ⟨rfl, hw⟩
  obtain ⟨g1, g2⟩ := CsX.went hX O h1 h2 h3 hw
  exact ⟨rfl, g1, fun b q => g2.block b (hX b q) (fun r => h2 b r q), g2.size⟩

theorem CsX.valid {X : Nat → Prop} {W w : World} {cb : Nat} {l : List Cel} (h : CsX X W w cb l) (n : Int) :
    Calls Try.prog 13 #[.pointer (some ⟨cb, 0, none⟩), .int .i64 n] w fun e w' => e = .returned (.bool (validD l n)) ∧ w' = w := by
  obtain ⟨O, h1, h2, h3⟩ := h
  exact valid_any w W.heap.size cb O l h1 n

theorem CsX.count {X : Nat → Prop} {W w : World} {cb : Nat} {l : List Cel} (h : CsX X W w cb l) :
    Calls Try.prog 14 #[.pointer (some ⟨cb, 0, none⟩)] w fun e w' => e = .returned (.int .i64 (l.length : Int)) ∧ w' = w := by
  obtain ⟨O, h1, h2, h3⟩ := h
  exact count_any w W.heap.size cb O l h1

theorem CsX.bel {X : Nat → Prop} {W w : World} {cb : Nat} {l : List Cel} (h : CsX X W w cb l) : Below W.heap.size W w := by
  obtain ⟨O, h1, h2, h3⟩ := h
  exact h3

/-- something else is laid or changed -/
theorem CsX.kept {X : Nat → Prop} {W w w' : World} {cb : Nat} {l : List Cel} (h : CsX X W w cb l) (hc : Chg X w w') (hX : ∀ b, X b → W.heap.size ≤ b) : CsX X W w' cb l := by
  obtain ⟨O, h1, h2, h3⟩ := h
  exact ⟨O, h1.kept hc h2, h2, hc.below h3 h3.size hX⟩

theorem CsX.below {X : Nat → Prop} {W w w' : World} {cb : Nat} {l : List Cel} (h : CsX X W w cb l) (hc : Below w.heap.size w w') : CsX X W w' cb l := by
  obtain ⟨O, h1, h2, h3⟩ := h
  exact ⟨O, h1.below hc, h2, h3.trans (hc.mono h3.size)⟩

/-- blocks that were not there are free to be kept apart -/
theorem CsX.mono {X X' : Nat → Prop} {W w w' : World} {cb : Nat} {l : List Cel} (h : CsX X W w cb l) (hb : Below w.heap.size w w') (hx : ∀ b, X' b → X b ∨ w.heap.size ≤ b) : CsX X' W w' cb l := by
  obtain ⟨O, h1, h2, h3⟩ := h
  have hlt := h1.lt
  refine ⟨O, h1.below hb, fun b q r => ?_, h3.trans (hb.mono h3.size)⟩
  rcases hx b r with c | c
  · exact h2 b q c
  · have := (hlt b q).2
    omega

theorem csx_new {w w' : World} (h : Cs w' w.heap.size w.heap.size (fun b => b = w.heap.size) []) (hb : Below w.heap.size w w') : CsX (fun _ => False) w w' w.heap.size [] := ⟨_, h, fun _ _ q => q, hb⟩

theorem plain_alive : makeD [] (-1) = [⟨true, -1⟩] ∧ makeD [⟨true, -1⟩] 0 = [⟨true, -1⟩, ⟨true, 0⟩] ∧ validD [⟨true, -1⟩, ⟨true, 0⟩] 0 = true ∧ validD [⟨true, -1⟩, ⟨true, 0⟩] 1 = true ∧ breakD [⟨true, -1⟩, ⟨true, 0⟩] 0 = ([⟨false, -1⟩, ⟨false, 0⟩], 2) ∧ validD [⟨false, -1⟩, ⟨false, 0⟩] 1 = false := by
  refine ⟨rfl, rfl, rfl, rfl, rfl, rfl⟩

set_option maxRecDepth 100000 in
set_option maxHeartbeats 4000000 in
theorem alive_any (w : World) : Calls Try.prog 8 #[] w fun e w' => e = .returned (.bool true) ∧ Below w.heap.size w w' := by
  obtain ⟨p1, p2, p3, p4, p5, p6⟩ := plain_alive
  have P := (show Hid _ from plain_alive)
  clear p1 p2 p3 p4 p5 p6
  have kn := new_any w
  go_enter Try.func8, Try.ntmps8
  go_wp2_with fail
  refine kn.mono ?_
  rintro e w1 ⟨rfl, hc, hb⟩
  have k1 := (csx_new hc hb).make (fun _ q => q.elim) (by unfold top; simp) (-1)
  rw [P.out.1] at k1
  simp only [List.length_nil] at k1
  clear kn hc hb
  generalize w.heap.size = cb at k1 ⊢
  go_wp2_with fail
  refine k1.mono ?_
  rintro e w2 ⟨rfl, hc, _, _⟩
  have k2 := hc.make (fun _ q => q.elim) (by unfold top; simp) 0
  rw [P.out.2.1] at k2
  simp only [List.length_singleton] at k2
  clear k1 hc
  go_wp2_with fail
  refine k2.mono ?_
  rintro e w3 ⟨rfl, hc, _, _⟩
  have k3 := hc.valid 0
  have k4 := hc.valid 1
  rw [P.out.2.2.1] at k3
  rw [P.out.2.2.2.1] at k4
  have k5 := hc.break' (fun _ q => q.elim) 0
  rw [P.out.2.2.2.2.1] at k5
  clear k2 hc
  go_wp2_with fail
  refine k3.mono ?_
  rintro e w4 ⟨rfl, rfl⟩
  clear k3
  go_wp2_with fail
  refine k4.mono ?_
  rintro e w5 ⟨rfl, rfl⟩
  clear k4
  go_wp2_with fail
  refine k5.mono ?_
  rintro e w6 ⟨rfl, hc, _, _⟩
  have k6 := hc.valid 1
  have k7 := hc.count
  rw [P.out.2.2.2.2.2] at k6
  have HB := (show Hid _ from hc.bel)
  simp only [List.length_cons, List.length_nil] at k7
  clear k5 hc P
  go_wp2_with fail
  refine k6.mono ?_
  rintro e w7 ⟨rfl, rfl⟩
  clear k6
  go_wp2_with fail
  refine k7.mono ?_
  rintro e w8 ⟨rfl, rfl⟩
  clear k7
  go_wp2_with fail
  go_ret
  exact ⟨rfl, HB.out⟩

end Go.Proofs.Ytjahkjkkjccmgaa.Ce
