/- Package code: Check. -/
import Derived.Test.YtkoamenfbnpdbaaDoorCG
namespace Go.Proofs.YtkoamenfbnpdbaaDoor.Cd
open Go.RowKit
set_option linter.unusedVariables false

/-- a function of a program may be -/
def fnOkB (fs : List Fn) (f : Fn) : Bool := sizedB f && flowsB f && filledB f fs

def headB (fs : List Fn) : Bool := match fs with | f :: _ => firstB f | [] => false

/-- a program may be run -/
def checkB (fs : List Fn) : Bool := decide (fs.length ≤ 200) && headB fs && fs.all (fnOkB fs)

def checkI (fs : List Fn) : Int := if checkB fs then 0 else 80

theorem sized_out {f : Fn} (h : sizedB f = true) : f.code.xs ≠ [] ∧ f.code.xs.length ≤ 65536 ∧ f.consts.xs.length ≤ 65536 ∧ 0 ≤ f.regs ∧ f.regs ≤ 400 ∧ 0 ≤ f.params ∧ f.params ≤ f.regs := by
  unfold sizedB withinB at h
  simp only [Bool.and_eq_true, decide_eq_true_eq] at h
  obtain ⟨⟨⟨⟨⟨h1, h2⟩, h3⟩, h4⟩, h5⟩, h6, h7⟩ := h
  exact ⟨by intro e; rw [e] at h1; simp at h1, h2, h3, h4, h5, h6, by omega⟩

structure ChAt (fs : List Fn) (w1 wr : World) (k : Nat) : Prop where
  le : k ≤ fs.length
  val : fs.all (fnOkB fs) = (fs.drop k).all (fnOkB fs)
  bel : Below w1.heap.size w1 wr

set_option maxRecDepth 100000 in
set_option maxHeartbeats 8000000 in
theorem check_any (s : Sli Fn) (w : World) (hs : FnsOk w s) (hS : ShAt w) :
    Calls Tryd.prog 10 #[.agg #[s.val]] w fun e w' => e = .returned (.int .i64 (checkI s.xs)) ∧ Below w.heap.size w w' := by
  obtain ⟨ad, cap, fs⟩ := s
  have hml : fs.length ≤ maxLen := Nat.le_trans hs.all.len hs.all.cap
  unfold maxLen at hml
  have HB0 : Hid (Below w.heap.size w (w.alloc (.cells #[.slice ad fs.length cap] 24))) := below_new (Below.refl _ _) (Nat.le_refl _) _
  have hs1 := hs.kept (cells_below HB0.out)
  have hS1 := hS.below HB0.out
  have HF : Hid (∀ w', Below (w.alloc (.cells #[.slice ad fs.length cap] 24)).heap.size (w.alloc (.cells #[.slice ad fs.length cap] 24)) w' → FnsOk w' ⟨ad, cap, fs⟩ ∧ ShAt w' ∧ w'.cell? ⟨w.heap.size, 0, none⟩ = some (.slice ad fs.length cap)) := by
    intro w' h
    have h' := cells_below h
    refine ⟨hs1.kept h', hS1.below h, h' _ _ ?_⟩
    rw [cell_of_row _ w.heap.size 0 _ 24 (0, 0) (by show (w.heap.push _)[w.heap.size]? = _; rw [Array.getElem?_push_size])]
    rfl
  have HD : Hid (∀ w', Below (w.alloc (.cells #[.slice ad fs.length cap] 24)).heap.size (w.alloc (.cells #[.slice ad fs.length cap] 24)) w' → Below w.heap.size w w') := fun w' h => HB0.out.trans (h.mono HB0.out.size)
  have HR : Hid (Below (w.alloc (.cells #[.slice ad fs.length cap] 24)).heap.size (w.alloc (.cells #[.slice ad fs.length cap] 24)) (w.alloc (.cells #[.slice ad fs.length cap] 24))) := Below.refl _ _
  clear hs hs1 hS hS1
  unfold Sli.val
  simp only
  have HQ : Hid (checkI fs = if checkB fs then 0 else 80) := rfl
  have HC : Hid (checkB fs = (decide (fs.length ≤ 200) && headB fs && fs.all (fnOkB fs))) := rfl
  generalize checkI fs = D at *
  by_cases h0 : fs.length = 0
  · have HV : Hid (D = 80) := by
      show _ = _
      rw [HQ.out, HC.out, List.length_eq_zero_iff.1 h0]
      rfl
    go_enter Tryd.func10, Tryd.ntmps10
    go_wp2_with fail
    go_ret
    rw [HV.out]
    rw [h0] at HB0
    exact ⟨rfl, HB0.out⟩
  by_cases h200 : 200 < fs.length
  · have HV : Hid (D = 80) := by
      show _ = _
      rw [HQ.out, HC.out, decide_eq_false (by omega)]
      rfl
    go_enter Tryd.func10, Tryd.ntmps10
    go_wp2_with fail
    go_ret
    rw [HV.out]
    exact ⟨rfl, HB0.out⟩
  have hex : ∃ y, fs[0]? = some y := ⟨_, List.getElem?_eq_getElem (by omega)⟩
  obtain ⟨y, hy⟩ := hex
  have HH : Hid (headB fs = firstB y) := by
    show _ = _
    cases fs with
    | nil => simp at hy
    | cons f r => simp at hy; subst hy; rfl
  obtain ⟨b, off, had, hcc⟩ := (HF.out _ HR.out).1.all.cells (by intro e; simp at e; subst e; simp at h0)
  simp only at had
  subst had
  have g0 := hcc 0 y hy 0 _ rfl
  have g1 := hcc 0 y hy 1 _ rfl
  have g2 := hcc 0 y hy 2 _ rfl
  have g3 := hcc 0 y hy 3 _ rfl
  have g4 := hcc 0 y hy 4 _ rfl
  have g5 := hcc 0 y hy 5 _ rfl
  have g6 := hcc 0 y hy 6 _ rfl
  have g7 := hcc 0 y hy 7 _ rfl
  simp only [Nat.zero_mul, Nat.add_zero] at g0 g1 g2 g3 g4 g5 g6 g7
  clear hcc hy
  have kf := first_any y (w.alloc (.cells #[.slice (some ⟨b, off, none⟩) fs.length cap] 24))
  have hlt : (fs.length : Int) ≤ 200 := by omega
  have hgt : (1 : Int) ≤ fs.length := by omega
  unfold fnV at kf
  generalize firstB y = FB at *
  obtain ⟨nm, pa, re, ge, ⟨ca, c1, cx⟩, ⟨ka, kc, kx⟩, ⟨pa', pc, px⟩, ⟨ha, hc, hx⟩⟩ := y
  unfold Sli.val at kf g4 g5 g6 g7
  simp only at kf g0 g1 g2 g3 g4 g5 g6 g7
  cases FB with
  | false =>
    have HV : Hid (D = 80) := by
      show _ = _
      rw [HQ.out, HC.out, HH.out, Bool.and_false, Bool.false_and]
      rfl
    go_enter Tryd.func10, Tryd.ntmps10
    go_wp2_with fail
    refine kf.mono ?_
    rintro e w2 ⟨rfl, hb2⟩
    have HB2 : Hid (Below w.heap.size w w2) := HD.out _ hb2
    clear kf hb2 g0 g1 g2 g3 g4 g5 g6 g7
    go_wp2_with fail
    go_ret
    rw [HV.out]
    exact ⟨rfl, HB2.out⟩
  | true =>
    have HV : Hid (D = if fs.all (fnOkB fs) then 0 else 80) := by
      show _ = _
      rw [HQ.out, HC.out, HH.out, decide_eq_true (by omega), Bool.and_self, Bool.true_and]
    go_enter Tryd.func10, Tryd.ntmps10
    go_wp2_with fail
    refine kf.mono ?_
    rintro e w2 ⟨rfl, hb2⟩
    generalize w.alloc (.cells #[.slice (some ⟨b, off, none⟩) fs.length cap] 24) = w1 at *
    have HB2 : Hid (Below w1.heap.size w1 w2) := hb2
    clear kf hb2 g0 g1 g2 g3 g4 g5 g6 g7
    obtain ⟨ok2, sh2, m0⟩ := HF.out w2 HB2.out
    have kw := wants_any ⟨some ⟨b, off, none⟩, cap, fs⟩ w2 ok2 (by simp only; omega)
    unfold Sli.val at kw
    simp only at kw
    clear ok2 sh2
    go_wp2_with fail
    refine kw.mono ?_
    rintro e w3 ⟨rfl, ht3, hb3⟩
    have HB3 : Hid (Below w1.heap.size w1 w3) := HB2.out.trans (hb3.mono HB2.out.size)
    have HT3 : Hid (TakAt fs fs.length w3 w2.heap.size) := ht3
    have m3 := (HF.out w3 HB3.out).2.2
    clear kw ht3 hb3 m0
    go_wp2_with fail
    clear m3
    go_loopw [30] (fun i wr => ∃ k : Nat, (ChAt fs w1 wr k ∧ Below w3.heap.size w3 wr) ∧ i = .int .i64 k) (fun i wr => fs.length - (intOf i).toNat)
    case atStart => exact ⟨0, ⟨⟨Nat.zero_le _, rfl, HB3.out⟩, Below.refl _ _⟩, rfl⟩
    case round =>
      obtain ⟨k, ⟨hr, hb⟩, rfl⟩ := hrel
      have HS : Hid (ChAt fs w1 wr k ∧ Below w3.heap.size w3 wr) := ⟨hr, hb⟩
      have kle := hr.le
      clear hr hb
      rcases Nat.lt_or_ge k fs.length with c | c
      · have hex : ∃ y, fs[k]? = some y := ⟨_, List.getElem?_eq_getElem c⟩
        obtain ⟨y, hy⟩ := hex
        have HVk : Hid (fs.all (fnOkB fs) = (fnOkB fs y && (fs.drop (k + 1)).all (fnOkB fs))) := by
          show _ = _
          rw [HS.out.1.val, List.drop_eq_getElem_cons c, List.all_cons]
          rw [List.getElem?_eq_getElem c] at hy
          rw [Option.some.inj hy]
        obtain ⟨okr, shr, _⟩ := HF.out wr HS.out.1.bel
        obtain ⟨b', off', had, hcc⟩ := okr.all.cells (by intro e; simp at e; subst e; simp at c)
        simp only at had
        cases had
        have g0 := hcc k y hy 0 _ rfl
        have g1 := hcc k y hy 1 _ rfl
        have g2 := hcc k y hy 2 _ rfl
        have g3 := hcc k y hy 3 _ rfl
        have g4 := hcc k y hy 4 _ rfl
        have g5 := hcc k y hy 5 _ rfl
        have g6 := hcc k y hy 6 _ rfl
        have g7 := hcc k y hy 7 _ rfl
        simp only [Nat.add_zero] at g0
        have B4 := below_new (Below.refl wr.heap.size wr) (Nat.le_refl _) (fnB y)
        have HB4 : Hid (Below wr.heap.size wr (wr.alloc (fnB y))) := B4
        have HB5 : Hid (Below w1.heap.size w1 (wr.alloc (fnB y)) ∧ Below w3.heap.size w3 (wr.alloc (fnB y))) := ⟨HS.out.1.bel.trans (B4.mono HS.out.1.bel.size), HS.out.2.trans (B4.mono HS.out.2.size)⟩
        have HY : Hid (∀ w', Below (wr.alloc (fnB y)).heap.size (wr.alloc (fnB y)) w' → Below w1.heap.size w1 w' ∧ Below w3.heap.size w3 w' ∧ y.ok w' ∧ ShAt w' ∧ TakAt fs fs.length w' w2.heap.size ∧ ∀ j u, (fnC y)[j]? = some u → w'.cell? ⟨wr.heap.size, j, none⟩ = some u) := by
          intro w' h
          have b1 := HB5.out.1.trans (h.mono HB5.out.1.size)
          have b3 := HB5.out.2.trans (h.mono HB5.out.2.size)
          obtain ⟨o, sh, _⟩ := HF.out w' b1
          exact ⟨b1, b3, o.each y (List.mem_of_getElem? hy), sh, HT3.out.keep b3, fun j u hj => cells_below h _ _ (fnB_cell y wr j u hj)⟩
        clear hcc okr shr B4 hy
        have ks := sized_any y (wr.alloc (fnB y))
        have HFL : Hid (sizedB y = true → ∀ w', y.ok w' → Calls Tryd.prog 23 #[fnV y] w' fun e w'' => e = .returned (.bool (flowsB y)) ∧ Below w'.heap.size w' w'') := fun h w' ho => flows_any y w' ho (sized_out h).1
        have HFI : Hid (sizedB y = true → ∀ w', y.ok w' → ShAt w' → TakAt fs fs.length w' w2.heap.size → Calls Tryd.prog 24 #[fnV y, .slice (some ⟨w2.heap.size, 0, none⟩) fs.length fs.length] w' fun e w'' => e = .returned (.bool (filledB y fs)) ∧ Below w'.heap.size w' w'') :=
          fun h w' ho hs ht => filled_any y fs w2.heap.size w' ho hs ht (sized_out h).2.2.2.1 (sized_out h).2.2.2.2.1 (by omega) (sized_out h).2.1
        have HOK : Hid (fnOkB fs y = (sizedB y && flowsB y && filledB y fs)) := rfl
        generalize fnOkB fs y = OK at *
        generalize flowsB y = FL at *
        generalize filledB y fs = FI at *
        generalize sizedB y = SZ at *
        obtain ⟨nm, pa, re, ge, ⟨ca, c1, cx⟩, ⟨ka, kc, kx⟩, ⟨pa', pc, px⟩, ⟨ha, hc, hx⟩⟩ := y
        unfold fnB fnC at *
        unfold fnV at *
        unfold Sli.val at *
        simp only at *
        have HRR : Hid (Below (wr.alloc (.cells #[.string nm, .int .i64 pa, .int .i64 re, .bool ge, .slice ca cx.length c1, .slice ka kx.length kc, .slice pa' px.length pc, .slice ha hx.length hc] 36)).heap.size (wr.alloc (.cells #[.string nm, .int .i64 pa, .int .i64 re, .bool ge, .slice ca cx.length c1, .slice ka kx.length kc, .slice pa' px.length pc, .slice ha hx.length hc] 36)) (wr.alloc (.cells #[.string nm, .int .i64 pa, .int .i64 re, .bool ge, .slice ca cx.length c1, .slice ka kx.length kc, .slice pa' px.length pc, .slice ha hx.length hc] 36))) := Below.refl _ _
        cases SZ with
        | false =>
          have HV2 : Hid (D = 80) := by
            show _ = _
            rw [HV.out, HVk.out, HOK.out]
            rfl
          go_wp2_with fail
          refine ks.mono ?_
          rintro e w5 ⟨rfl, hb5⟩
          have HB6 : Hid (Below w1.heap.size w1 w5) := (HY.out w5 hb5).1
          clear ks hb5 g0 g1 g2 g3 g4 g5 g6 g7
          go_wp2_with fail
          go_ret
          rw [HV2.out]
          exact ⟨rfl, HD.out _ HB6.out⟩
        | true =>
          go_wp2_with fail
          refine ks.mono ?_
          rintro e w5 ⟨rfl, hb5⟩
          have HB6 : Hid (Below (wr.alloc (.cells #[.string nm, .int .i64 pa, .int .i64 re, .bool ge, .slice ca cx.length c1, .slice ka kx.length kc, .slice pa' px.length pc, .slice ha hx.length hc] 36)).heap.size (wr.alloc (.cells #[.string nm, .int .i64 pa, .int .i64 re, .bool ge, .slice ca cx.length c1, .slice ka kx.length kc, .slice pa' px.length pc, .slice ha hx.length hc] 36)) w5) := hb5
          clear ks hb5 g0 g1 g2 g3 g4 g5 g6 g7
          obtain ⟨x1, x3, ok5, sh5, tk5, fc5⟩ := HY.out w5 HB6.out
          have q0 := fc5 0 _ rfl
          have q1 := fc5 1 _ rfl
          have q2 := fc5 2 _ rfl
          have q3 := fc5 3 _ rfl
          have q4 := fc5 4 _ rfl
          have q5 := fc5 5 _ rfl
          have q6 := fc5 6 _ rfl
          have q7 := fc5 7 _ rfl
          have kl := HFL.out (by first | rfl | trivial) w5 ok5
          clear x1 x3 ok5 sh5 tk5 fc5
          cases FL with
          | false =>
            have HV2 : Hid (D = 80) := by
              show _ = _
              rw [HV.out, HVk.out, HOK.out]
              rfl
            go_wp2_with fail
            refine kl.mono ?_
            rintro e w6 ⟨rfl, hb6⟩
            have HB7 : Hid (Below w1.heap.size w1 w6) := (HY.out w6 (HB6.out.trans (hb6.mono HB6.out.size))).1
            clear kl hb6 q0 q1 q2 q3 q4 q5 q6 q7
            go_wp2_with fail
            go_ret
            rw [HV2.out]
            exact ⟨rfl, HD.out _ HB7.out⟩
          | true =>
            go_wp2_with fail
            refine kl.mono ?_
            rintro e w6 ⟨rfl, hb6⟩
            have HB7 : Hid (Below (wr.alloc (.cells #[.string nm, .int .i64 pa, .int .i64 re, .bool ge, .slice ca cx.length c1, .slice ka kx.length kc, .slice pa' px.length pc, .slice ha hx.length hc] 36)).heap.size (wr.alloc (.cells #[.string nm, .int .i64 pa, .int .i64 re, .bool ge, .slice ca cx.length c1, .slice ka kx.length kc, .slice pa' px.length pc, .slice ha hx.length hc] 36)) w6) := HB6.out.trans (hb6.mono HB6.out.size)
            clear kl hb6 q0 q1 q2 q3 q4 q5 q6 q7
            obtain ⟨x1, x3, ok5, sh5, tk5, fc5⟩ := HY.out w6 HB7.out
            have q0 := fc5 0 _ rfl
            have q1 := fc5 1 _ rfl
            have q2 := fc5 2 _ rfl
            have q3 := fc5 3 _ rfl
            have q4 := fc5 4 _ rfl
            have q5 := fc5 5 _ rfl
            have q6 := fc5 6 _ rfl
            have q7 := fc5 7 _ rfl
            have ki := HFI.out (by first | rfl | trivial) w6 ok5 sh5 tk5
            clear x1 x3 ok5 sh5 tk5 fc5
            cases FI with
            | false =>
              have HV2 : Hid (D = 80) := by
                show _ = _
                rw [HV.out, HVk.out, HOK.out]
                rfl
              go_wp2_with fail
              refine ki.mono ?_
              rintro e w7 ⟨rfl, hb7⟩
              have HB8 : Hid (Below w1.heap.size w1 w7) := (HY.out w7 (HB7.out.trans (hb7.mono HB7.out.size))).1
              clear ki hb7 q0 q1 q2 q3 q4 q5 q6 q7
              go_wp2_with fail
              go_ret
              rw [HV2.out]
              exact ⟨rfl, HD.out _ HB8.out⟩
            | true =>
              have HE : Hid (fs.all (fnOkB fs) = (fs.drop (k + 1)).all (fnOkB fs)) := by
                show _ = _
                rw [HVk.out, HOK.out]
                rfl
              go_wp2_with fail
              refine ki.mono ?_
              rintro e w7 ⟨rfl, hb7⟩
              obtain ⟨x1, x3, _⟩ := HY.out w7 (HB7.out.trans (hb7.mono HB7.out.size))
              have HP : Hid (ChAt fs w1 w7 (k + 1) ∧ Below w3.heap.size w3 w7) := ⟨⟨c, HE.out, x1⟩, x3⟩
              clear ki hb7 q0 q1 q2 q3 q4 q5 q6 q7 x1 x3
              go_wp2_with fail
              refine ⟨⟨k + 1, HP.out, by go_num⟩, ?_⟩
              simp [intOf]
              omega
      · have HV2 : Hid (D = 0) := by
          show _ = _
          rw [HV.out, HS.out.1.val, List.drop_of_length_le c]
          rfl
        go_wp2_with fail
        go_ret
        rw [HV2.out]
        exact ⟨rfl, HD.out _ HS.out.1.bel⟩

end Go.Proofs.YtkoamenfbnpdbaaDoor.Cd
