/- CodeWithin: the law's walk. -/
import Derived.Test.YtkoamenfbnpdbaaDoorCQ
import Derived.Test.YtkoamenfbnpdbaaDoorCM
namespace Go.Proofs.YtkoamenfbnpdbaaDoor.Cd
open Go.RowKit
set_option linter.unusedVariables false

theorem progB_cell (v : Value) (w : World) : (w.alloc (.cells #[v] 24)).cell? ⟨w.heap.size, 0, none⟩ = some v := by
  rw [cell_of_row _ w.heap.size 0 _ 24 (0, 0) (by show (w.heap.push _)[w.heap.size]? = _; rw [Array.getElem?_push_size])]
  rfl

set_option maxRecDepth 100000 in
set_option maxHeartbeats 16000000 in
theorem within_walk (s : Sli Fn) (w : World) (hS : ShAt w) (hs : FnsOk w s) :
    Calls Tryd.prog 6 #[.agg #[s.val]] w fun e w' => e = .returned (.bool true) ∧ Below w.heap.size w w' := by
  obtain ⟨ad, cap, fs⟩ := s
  have hml : fs.length ≤ maxLen := Nat.le_trans hs.all.len hs.all.cap
  unfold maxLen at hml
  have B0 : Below w.heap.size w (w.alloc (.cells #[.slice ad fs.length cap] 24)) := below_new (Below.refl _ _) (Nat.le_refl _) _
  have hs1 := hs.kept (cells_below B0)
  have hS1 := hS.below B0
  have HF : Hid (∀ w', Below (w.alloc (.cells #[.slice ad fs.length cap] 24)).heap.size (w.alloc (.cells #[.slice ad fs.length cap] 24)) w' → FnsOk w' ⟨ad, cap, fs⟩ ∧ ShAt w' ∧ w'.cell? ⟨w.heap.size, 0, none⟩ = some (.slice ad fs.length cap)) := fun w' h =>
    ⟨hs1.kept (cells_below h), hS1.below h, cells_below h _ _ (progB_cell _ w)⟩
  have HD : Hid (∀ w', Below (w.alloc (.cells #[.slice ad fs.length cap] 24)).heap.size (w.alloc (.cells #[.slice ad fs.length cap] 24)) w' → Below w.heap.size w w') := fun w' h => B0.trans (h.mono B0.size)
  have HR : Hid (Below (w.alloc (.cells #[.slice ad fs.length cap] 24)).heap.size (w.alloc (.cells #[.slice ad fs.length cap] 24)) (w.alloc (.cells #[.slice ad fs.length cap] 24))) := Below.refl _ _
  have kc := check_any ⟨ad, cap, fs⟩ _ hs1 hS1
  unfold Sli.val at kc ⊢
  simp only at kc ⊢
  clear hs hs1 hS hS1 B0
  rcases check_cases fs with ⟨hcb, hci⟩ | ⟨hcb, hci⟩
  · rw [hci] at kc
    have HE : Hid (∀ (j : Nat) f, fs[j]? = some f → fnOkB fs f = true) := fun j f h => (check_each hcb).2.2 f (List.mem_of_getElem? h)
    clear hcb hci
    go_enter Tryd.func6, Tryd.ntmps6
    go_wp2_with fail
    refine kc.mono ?_
    rintro e w2 ⟨rfl, hb2⟩
    generalize w.alloc (.cells #[.slice ad fs.length cap] 24) = w1 at *
    have HB2 : Hid (Below w1.heap.size w1 w2) := hb2
    clear kc hb2
    have m0 := (HF.out w2 HB2.out).2.2
    go_wp2_with fail
    clear m0
    go_loopw [17] (fun i wr => ∃ k : Nat, (k ≤ fs.length ∧ Below w1.heap.size w1 wr) ∧ i = .int .i64 k) (fun i wr => fs.length - (intOf i).toNat)
    case atStart => exact ⟨0, ⟨Nat.zero_le _, HB2.out⟩, rfl⟩
    case round =>
      obtain ⟨k, ⟨kle, hB⟩, rfl⟩ := hrel
      have HB : Hid (Below w1.heap.size w1 wr) := hB
      clear hB HB2
      rcases Nat.lt_or_ge k fs.length with c | c
      · have hex : ∃ y, fs[k]? = some y := ⟨_, List.getElem?_eq_getElem c⟩
        obtain ⟨f, hy⟩ := hex
        have HOK : Hid (fnOkB fs f = true) := HE.out k f hy
        obtain ⟨okr, shr, _⟩ := HF.out wr HB.out
        obtain ⟨b, off, had, hcc⟩ := okr.all.cells (by intro e; simp at e; subst e; simp at c)
        simp only at had
        subst had
        have g0 := hcc k f hy 0 _ rfl
        have g1 := hcc k f hy 1 _ rfl
        have g2 := hcc k f hy 2 _ rfl
        have g3 := hcc k f hy 3 _ rfl
        have g4 := hcc k f hy 4 _ rfl
        have g5 := hcc k f hy 5 _ rfl
        have g6 := hcc k f hy 6 _ rfl
        have g7 := hcc k f hy 7 _ rfl
        simp only [Nat.add_zero] at g0
        have hfo := okr.each f (List.mem_of_getElem? hy)
        clear hcc okr shr hy
        have B4 := below_new (Below.refl wr.heap.size wr) (Nat.le_refl _) (fnB f)
        have hfo4 := hfo.kept (cells_below B4)
        have HY : Hid (∀ w', Below (wr.alloc (fnB f)).heap.size (wr.alloc (fnB f)) w' → Below w1.heap.size w1 w' ∧ f.ok w' ∧ ∀ j u, (fnC f)[j]? = some u → w'.cell? ⟨wr.heap.size, j, none⟩ = some u) := by
          intro w' h
          have h1 := HB.out.trans (B4.mono HB.out.size)
          exact ⟨h1.trans (h.mono h1.size), hfo4.kept (cells_below h), fun j u hj => cells_below h _ _ (fnB_cell f wr j u hj)⟩
        have HRR : Hid (Below (wr.alloc (fnB f)).heap.size (wr.alloc (fnB f)) (wr.alloc (fnB f))) := Below.refl _ _
        have HNX : Hid (∀ (j : Nat) w', f.ok w' → Calls Tryd.prog 15 #[fnV f, .int .i64 (j : Int)] w' fun e w'' => ∃ v, e = .returned v ∧ OwnI w'.heap.size w'' v (nextI f j) ∧ Below w'.heap.size w' w'') := fun j w' h => next_any f j w' h
        have HIN : Hid (∀ (j : Nat) y, f.code.xs[j]? = some y → (∀ n ∈ nextI f j, 0 ≤ n ∧ n < (f.code.xs.length : Int)) ∧ (nextI f j = [] → y.op = 55 ∨ y.op = 56)) := fun j y h => next_in_code HOK.out h
        have hmc : f.code.xs.length ≤ 65536 := (sized_out (fnOk_out HOK.out).1).2.1
        clear hfo hfo4 B4 HOK
        have HCX : Hid (∀ F : Fn, F = f → F.code.xs = f.code.xs ∧ F.code.at' = f.code.at') := fun F h => by rw [h]; exact ⟨rfl, rfl⟩
        obtain ⟨nm, pa, re, ge, ⟨ca, c1, cx⟩, ⟨ka, kc, kx⟩, ⟨pa', pc, px⟩, ⟨ha, hc, hx⟩⟩ := f
        unfold fnB fnC at *
        unfold fnV at *
        unfold Sli.val at *
        simp only at *
        generalize hFF : (⟨nm, pa, re, ge, ⟨ca, c1, cx⟩, ⟨ka, kc, kx⟩, ⟨pa', pc, px⟩, ⟨ha, hc, hx⟩⟩ : Fn) = F at *
        have HC : Hid (F.code.xs = cx ∧ F.code.at' = ca) := HCX.out F rfl
        clear hFF HCX
        go_wp2_with fail
        generalize wr.alloc (.cells #[.string nm, .int .i64 pa, .int .i64 re, .bool ge, .slice ca cx.length c1, .slice ka kx.length kc, .slice pa' px.length pc, .slice ha hx.length hc] 36) = w3 at *
        clear g0 g1 g2 g3 g4 g5 g6 g7
        generalize wr.heap.size = gb at *
        go_loopw [24] (fun i wv => ∃ j : Nat, (j ≤ cx.length ∧ Below w3.heap.size w3 wv) ∧ i = .int .i64 j) (fun i wv => cx.length - (intOf i).toNat)
        case atStart => exact ⟨0, ⟨Nat.zero_le _, HRR.out⟩, rfl⟩
        case round =>
          obtain ⟨j, ⟨jle, hB3⟩, rfl⟩ := hrel
          have HM : Hid (Below w3.heap.size w3 wr) := hB3
          clear hB3
          rcases Nat.lt_or_ge j cx.length with d | d
          · have hex : ∃ y, F.code.xs[j]? = some y := by rw [HC.out.1]; exact ⟨_, List.getElem?_eq_getElem d⟩
            obtain ⟨y, hy⟩ := hex
            have HIJ := HIN.out j y (by rw [← HC.out.1]; exact hy)
            obtain ⟨ha1, ha2⟩ := HIJ
            have hcc := (HY.out wr HM.out).2.1.code.cells (by intro e; rw [e] at hy; simp at hy)
            obtain ⟨b2, off2, had, hcc⟩ := hcc
            rw [HC.out.2] at had
            subst had
            have g0 := hcc j y hy 0 _ rfl
            have g1 := hcc j y hy 1 _ rfl
            have g2 := hcc j y hy 2 _ rfl
            have g3 := hcc j y hy 3 _ rfl
            rw [Nat.add_zero] at g0
            clear hcc hy
            obtain ⟨op, ia, ib, ic⟩ := y
            simp only at *
            have HB4 : Hid (Below w3.heap.size w3 (wr.alloc (.cells #[.int .i64 op, .int .i64 ia, .int .i64 ib, .int .i64 ic] 43))) := below_new HM.out HM.out.size _
            have HW : Hid (∀ w', Below (wr.alloc (.cells #[.int .i64 op, .int .i64 ia, .int .i64 ib, .int .i64 ic] 43)).heap.size (wr.alloc (.cells #[.int .i64 op, .int .i64 ia, .int .i64 ib, .int .i64 ic] 43)) w' → w'.cell? ⟨wr.heap.size, 0, none⟩ = some (.int .i64 op)) := fun w' h => cells_below h _ _ (insB_cell _ _ _ _ wr 0 _ rfl)
            obtain ⟨_, ok4, fc4⟩ := HY.out _ HB4.out
            have q0 := fc4 0 _ rfl
            have q1 := fc4 1 _ rfl
            have q2 := fc4 2 _ rfl
            have q3 := fc4 3 _ rfl
            have q4 := fc4 4 _ rfl
            have q5 := fc4 5 _ rfl
            have q6 := fc4 6 _ rfl
            have q7 := fc4 7 _ rfl
            have kn := HNX.out j _ ok4
            have HA : Hid ((∀ n ∈ nextI F j, 0 ≤ n ∧ n < (cx.length : Int)) ∧ (nextI F j = [] → op = 55 ∨ op = 56)) := ⟨ha1, ha2⟩
            clear ok4 fc4 ha1 ha2
            generalize nextI F j = NL at *
            go_wp2_with fail
            refine kn.mono ?_
            rintro e w5 ⟨v5, rfl, ho5, hb5⟩
            obtain ⟨ad5, cap5, rfl, l5, m5, i5⟩ := ho5.ints
            have HB5 : Hid (Below w3.heap.size w3 w5) := HB4.out.trans (hb5.mono HB4.out.size)
            have p0 := HW.out w5 hb5
            have p4 := (HY.out w5 HB5.out).2.2 4 _ rfl
            have HI5 : Hid (IntsAt w5 ad5 NL) := i5
            have nl : NL.length ≤ maxLen := by omega
            unfold maxLen at nl
            clear kn ho5 hb5 i5 l5 m5 g0 g1 g2 g3 q0 q1 q2 q3 q4 q5 q6 q7
            go_wp2_with fail
            go_loopw [34] (fun i wv => ∃ q : Nat, (q ≤ NL.length ∧ w5 = wv) ∧ i = .int .i64 q) (fun i wv => NL.length - (intOf i).toNat)
            case atStart => exact ⟨0, ⟨Nat.zero_le _, rfl⟩, rfl⟩
            case round =>
              obtain ⟨q, ⟨qle, rfl⟩, rfl⟩ := hrel
              rcases Nat.lt_or_ge q NL.length with d2 | d2
              · have hex : ∃ z, NL[q]? = some z := ⟨_, List.getElem?_eq_getElem d2⟩
                obtain ⟨z, hz⟩ := hex
                obtain ⟨zb, zo, rfl, zc⟩ := HI5.out (by intro e; rw [e] at d2; simp at d2)
                have z0 := zc q z hz
                obtain ⟨z1, z2⟩ := HA.out.1 z (List.mem_of_getElem? hz)
                clear zc hz
                go_wp2_with fail
                refine ⟨⟨q + 1, ⟨d2, by first | rfl | trivial⟩, by go_num⟩, ?_⟩
                simp [intOf]
                omega
              · have hdq : decide (q < NL.length) = false := decide_eq_false (by omega)
                by_cases hn : NL = []
                · rcases HA.out.2 hn with rfl | rfl
                  · have hl0 : ((NL.length : Int) == 0) = true := by rw [hn]; rfl
                    go_wp2_with fail
                    refine ⟨⟨j + 1, ⟨d, HB5.out⟩, by go_num⟩, ?_⟩
                    simp [intOf]
                    omega
                  · have hl0 : ((NL.length : Int) == 0) = true := by rw [hn]; rfl
                    go_wp2_with fail
                    refine ⟨⟨j + 1, ⟨d, HB5.out⟩, by go_num⟩, ?_⟩
                    simp [intOf]
                    omega
                · have hl0 : ((NL.length : Int) == 0) = false := by
                    have := List.length_pos_iff.2 hn
                    rw [beq_eq_false_iff_ne]
                    omega
                  go_wp2_with fail
                  refine ⟨⟨j + 1, ⟨d, HB5.out⟩, by go_num⟩, ?_⟩
                  simp [intOf]
                  omega
          · have HB6 : Hid (Below w1.heap.size w1 wr) := (HY.out wr HM.out).1
            have hdj : decide (j < cx.length) = false := decide_eq_false (by omega)
            go_wp2_with fail
            refine ⟨⟨k + 1, ⟨c, HB6.out⟩, by go_num⟩, ?_⟩
            simp [intOf]
            omega
      · have ka := alive_any wr (HF.out wr HB.out).2.1
        go_wp2_with fail
        refine ka.mono ?_
        rintro e w3 ⟨rfl, hb3⟩
        have HB3 : Hid (Below w.heap.size w w3) := HD.out _ (HB.out.trans (hb3.mono HB.out.size))
        clear ka hb3
        go_wp2_with fail
        go_ret
        exact ⟨rfl, HB3.out⟩
  · rw [hci] at kc
    have HA : Hid (∀ w', Below (w.alloc (.cells #[.slice ad fs.length cap] 24)).heap.size (w.alloc (.cells #[.slice ad fs.length cap] 24)) w' → Calls Tryd.prog 9 #[] w' fun e w'' => e = .returned (.bool true) ∧ Below w.heap.size w w'') := fun w' h =>
      (alive_any w' (HF.out w' h).2.1).mono fun e w'' k => ⟨k.1, HD.out _ (h.trans (k.2.mono h.size))⟩
    clear hcb hci
    go_enter Tryd.func6, Tryd.ntmps6
    go_wp2_with fail
    refine kc.mono ?_
    rintro e w2 ⟨rfl, hb2⟩
    have ka := HA.out w2 hb2
    clear kc hb2
    go_wp2_with fail
    refine ka.mono ?_
    rintro e w3 ⟨rfl, hb3⟩
    have HB3 : Hid (Below w.heap.size w w3) := hb3
    clear ka hb3
    go_wp2_with fail
    go_ret
    exact ⟨rfl, HB3.out⟩

end Go.Proofs.YtkoamenfbnpdbaaDoor.Cd
