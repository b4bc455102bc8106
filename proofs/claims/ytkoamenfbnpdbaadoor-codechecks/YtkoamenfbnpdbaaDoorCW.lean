/- The document's Check. -/
import Derived.Test.YtkoamenfbnpdbaaDoorCU
import Derived.Test.YtkoamenfbnpdbaaDoorCV
import Derived.Test.YtkoamenfbnpdbaaDoorCR
namespace Go.Proofs.YtkoamenfbnpdbaaDoor.Cd
open Go.RowKit Go.Deep
set_option linter.unusedVariables false

def rcheckI (fs : List Fn) : Int := if rcheckB fs then 0 else 80

structure K1At (fs : List Fn) (w1 wr : World) (k : Nat) : Prop where
  le : k ≤ fs.length
  val : fs.all (functionB fs.length) = (fs.drop k).all (functionB fs.length)
  bel : Below w1.heap.size w1 wr

structure K2At (fs : List Fn) (w1 wr : World) (k : Nat) : Prop where
  le : k ≤ fs.length
  val : fs.all (fun f => f.code.xs.all (closB f fs)) = (fs.drop k).all (fun f => f.code.xs.all (closB f fs))
  bel : Below w1.heap.size w1 wr

structure K3At (f : Fn) (fs : List Fn) (w3 wr : World) (k : Nat) : Prop where
  le : k ≤ f.code.xs.length
  val : f.code.xs.all (closB f fs) = (f.code.xs.drop k).all (closB f fs)
  bel : Below w3.heap.size w3 wr

set_option maxRecDepth 100000 in
set_option maxHeartbeats 64000000 in
theorem rcheck_any (s : Sli Fn) (w : World) (hs : FnsOk w s) :
    Calls Tryd.prog 11 #[.agg #[s.val]] w fun e w' => e = .returned (.int .i64 (rcheckI s.xs)) ∧ Below w.heap.size w w' := by
  obtain ⟨ad, cap, fs⟩ := s
  have hml : fs.length ≤ maxLen := Nat.le_trans hs.all.len hs.all.cap
  unfold maxLen at hml
  have B0 : Below w.heap.size w (w.alloc (.cells #[.slice ad fs.length cap] 24)) := below_new (Below.refl _ _) (Nat.le_refl _) _
  have hs1 := hs.kept (cells_below B0)
  have HF : Hid (∀ w', Below (w.alloc (.cells #[.slice ad fs.length cap] 24)).heap.size (w.alloc (.cells #[.slice ad fs.length cap] 24)) w' → FnsOk w' ⟨ad, cap, fs⟩ ∧ w'.cell? ⟨w.heap.size, 0, none⟩ = some (.slice ad fs.length cap)) := fun w' h =>
    ⟨hs1.kept (cells_below h), cells_below h _ _ (progB_cell _ w)⟩
  have HD : Hid (∀ w', Below (w.alloc (.cells #[.slice ad fs.length cap] 24)).heap.size (w.alloc (.cells #[.slice ad fs.length cap] 24)) w' → Below w.heap.size w w') := fun w' h => B0.trans (h.mono B0.size)
  have HR : Hid (Below (w.alloc (.cells #[.slice ad fs.length cap] 24)).heap.size (w.alloc (.cells #[.slice ad fs.length cap] 24)) (w.alloc (.cells #[.slice ad fs.length cap] 24))) := Below.refl _ _
  have HFU : Hid (∀ f w', f.ok w' → Calls Tryd.prog 25 #[.agg #[.slice ad fs.length cap], fnV f] w' fun e w'' => e = .returned (.bool (functionB fs.length f)) ∧ Below w'.heap.size w' w'') := fun f w' h => function_any ⟨ad, cap, fs⟩ f w' h
  unfold Sli.val
  simp only
  have HQ : Hid (rcheckI fs = if rcheckB fs then 0 else 80) := rfl
  have HC : Hid (rcheckB fs = (decide (fs.length ≤ 200) && headB fs && fs.all (functionB fs.length) && fs.all (fun f => f.code.xs.all (closB f fs)))) := rfl
  generalize rcheckI fs = D at *
  clear hs hs1
  by_cases h0 : fs.length = 0
  · have e0 := List.length_eq_zero_iff.1 h0
    subst e0
    have HV : Hid (D = 80) := HQ.out
    clear h0
    simp only [List.length_nil] at *
    have HB0 : Hid (Below w.heap.size w (w.alloc (.cells #[.slice ad 0 cap] 24))) := B0
    clear B0
    go_enter Tryd.func11, Tryd.ntmps11
    go_wp2_with fail
    go_ret
    rw [HV.out]
    exact ⟨rfl, HB0.out⟩
  have HB0 : Hid (Below w.heap.size w (w.alloc (.cells #[.slice ad fs.length cap] 24))) := B0
  clear B0
  have d0 : ((fs.length : Int) == 0) = false := by
    rw [beq_eq_false_iff_ne]
    omega
  by_cases h200 : 200 < fs.length
  · have HV : Hid (D = 80) := by
      show _ = _
      rw [HQ.out, HC.out, decide_eq_false (by omega)]
      rfl
    go_enter Tryd.func11, Tryd.ntmps11
    go_wp2_with fail
    go_ret
    rw [HV.out]
    exact ⟨rfl, HB0.out⟩
  have hex : ∃ y, fs[0]? = some y := ⟨_, List.getElem?_eq_getElem (by omega)⟩
  obtain ⟨y, hy⟩ := hex
  have HH : Hid (headB fs = (decide (y.params = 0) && !y.gen && decide (y.caps.xs.length = 0))) := by
    show _ = _
    cases fs with
    | nil => simp at hy
    | cons f r => simp at hy; subst hy; rfl
  obtain ⟨b, off, had, hcc⟩ := (HF.out _ HR.out).1.all.cells (by intro e; simp at e; subst e; simp at h0)
  simp only at had
  subst had
  have g1 := hcc 0 y hy 1 _ rfl
  have g3 := hcc 0 y hy 3 _ rfl
  have g6 := hcc 0 y hy 6 _ rfl
  simp only [Nat.zero_mul, Nat.add_zero] at g1 g3 g6
  clear hcc hy
  obtain ⟨nm, pa, re, ge, ⟨ca, c1, cx⟩, ⟨ka, kc, kx⟩, ⟨pa', pc, px⟩, ⟨ha, hc, hx⟩⟩ := y
  unfold Sli.val at g6
  simp only at g1 g3 g6 HH
  by_cases t1 : pa = 0
  case neg =>
    have e1 : (pa != 0) = true := by simpa using t1
    have HV : Hid (D = 80) := by
      show _ = _
      rw [HQ.out, HC.out, HH.out, decide_eq_false t1]
      simp
    go_enter Tryd.func11, Tryd.ntmps11
    go_wp2_with fail
    go_ret
    rw [HV.out]
    exact ⟨rfl, HB0.out⟩
  subst t1
  cases ge with
  | true =>
    have HV : Hid (D = 80) := by
      show _ = _
      rw [HQ.out, HC.out, HH.out]
      simp
    go_enter Tryd.func11, Tryd.ntmps11
    go_wp2_with fail
    go_ret
    rw [HV.out]
    exact ⟨rfl, HB0.out⟩
  | false =>
  by_cases t3 : px.length = 0
  case neg =>
    have HV : Hid (D = 80) := by
      show _ = _
      rw [HQ.out, HC.out, HH.out, decide_eq_false t3]
      simp
    have t4 : (0 : Int) < px.length := by omega
    go_enter Tryd.func11, Tryd.ntmps11
    go_wp2_with fail
    go_ret
    rw [HV.out]
    exact ⟨rfl, HB0.out⟩
  have HV : Hid (D = if (fs.all (functionB fs.length) && fs.all (fun f => f.code.xs.all (closB f fs))) then 0 else 80) := by
    show _ = _
    rw [HQ.out, HC.out, HH.out, decide_eq_true t3, decide_eq_true (show fs.length ≤ 200 by omega)]
    simp
  have t4 : ¬ (0 : Int) < px.length := by omega
  clear t3
  go_enter Tryd.func11, Tryd.ntmps11
  go_wp2_with fail
  clear g1 g3 g6
  generalize w.alloc (.cells #[.slice (some ⟨b, off, none⟩) fs.length cap] 24) = w1 at *
  go_loopw [3] (fun i wr => ∃ k : Nat, K1At fs w1 wr k ∧ i = .int .i64 k) (fun i wr => fs.length - (intOf i).toNat)
  case atStart => exact ⟨0, ⟨Nat.zero_le _, rfl, HR.out⟩, rfl⟩
  case round =>
    obtain ⟨k, hr, rfl⟩ := hrel
    have HS : Hid (K1At fs w1 wr k) := hr
    have kle := hr.le
    clear hr
    have m0 := (HF.out wr HS.out.bel).2
    rcases Nat.lt_or_ge k fs.length with c | c
    · have hex : ∃ y, fs[k]? = some y := ⟨_, List.getElem?_eq_getElem c⟩
      obtain ⟨y, hy⟩ := hex
      have HVk : Hid (fs.all (functionB fs.length) = (functionB fs.length y && (fs.drop (k + 1)).all (functionB fs.length))) := by
        show _ = _
        rw [HS.out.val, List.drop_eq_getElem_cons c, List.all_cons]
        rw [List.getElem?_eq_getElem c] at hy
        rw [Option.some.inj hy]
      have okr := (HF.out wr HS.out.bel).1
      obtain ⟨b', off', had, hcc⟩ := okr.all.cells (by intro e; simp at e; subst e; simp at c)
      simp only at had
      cases had
      have g0 := hcc k y hy 0 _ rfl
      have g1 := hcc k y hy 1 _ rfl
      have g2 := hcc k y hy 2 _ rfl
      have g3 := hcc k y hy 3 _ rfl
      have g4 := hcc k y hy 4 _ rfl
      have g5 := hcc k y hy 5 _ rfl
      have g6 := hcc k y hy 6 _ rfl
      have g7 := hcc k y hy 7 _ rfl
      simp only [Nat.add_zero] at g0
      have kf := HFU.out y wr.drew ((okr.each y (List.mem_of_getElem? hy)).kept (fun a u h => h))
      clear hcc okr hy
      generalize functionB fs.length y = FB at *
      obtain ⟨nm, pa, re, ge, ⟨ca, c1, cx⟩, ⟨ka, kc, kx⟩, ⟨pa', pc, px⟩, ⟨ha, hc, hx⟩⟩ := y
      unfold fnV at kf
      unfold Sli.val at kf g4 g5 g6 g7
      simp only at kf g0 g1 g2 g3 g4 g5 g6 g7
      have cm : ∀ w', w' = wr.drew → Calls Tryd.prog 25 #[.agg #[.slice (some ⟨b, off, none⟩) fs.length cap], .agg #[.string nm, .int .i64 pa, .int .i64 re, .bool ge, .slice ca cx.length c1, .slice ka kx.length kc, .slice pa' px.length pc, .slice ha hx.length hc]] w' fun e w'' => e = .returned (.bool FB) ∧ Below wr.heap.size wr w'' ∧ ∀ a u, wr.cell? a = some u → w''.cell? a = some u := by
        intro w' e
        subst e
        refine kf.mono ?_
        rintro e w'' ⟨rfl, hb⟩
        have hb' : Below wr.heap.size wr w'' := (Below.refl wr.heap.size wr).drew.trans hb
        exact ⟨rfl, hb', cells_below hb'⟩
      clear kf
      cases FB with
      | false =>
        have HV2 : Hid (D = 80) := by
          show _ = _
          rw [HV.out, HVk.out]
          simp
        go_wp2_with fail
        go_region_held_law (fun w' => w'.cell? ⟨w.heap.size, 0, none⟩ = some (.slice (some ⟨b, off, none⟩) fs.length cap) ∧ w'.cell? ⟨b, off + k * 8, none⟩ = some (.string nm) ∧ w'.cell? ⟨b, off + k * 8 + 1, none⟩ = some (.int .i64 pa) ∧ w'.cell? ⟨b, off + k * 8 + 2, none⟩ = some (.int .i64 re) ∧ w'.cell? ⟨b, off + k * 8 + 3, none⟩ = some (.bool ge) ∧ w'.cell? ⟨b, off + k * 8 + 4, none⟩ = some (.slice ca cx.length c1) ∧ w'.cell? ⟨b, off + k * 8 + 5, none⟩ = some (.slice ka kx.length kc) ∧ w'.cell? ⟨b, off + k * 8 + 6, none⟩ = some (.slice pa' px.length pc) ∧ w'.cell? ⟨b, off + k * 8 + 7, none⟩ = some (.slice ha hx.length hc)) (first | go_keep | exact ⟨hk5 _ _ m0, hk5 _ _ g0, hk5 _ _ g1, hk5 _ _ g2, hk5 _ _ g3, hk5 _ _ g4, hk5 _ _ g5, hk5 _ _ g6, hk5 _ _ g7⟩) ((go_at_call 25; refine (cm _ rfl).mono ?_; rintro e w5 ⟨rfl, hb5, hk5⟩))
        have HB5 : Hid (Below w1.heap.size w1 w5) := HS.out.bel.trans (hb5.mono HS.out.bel.size)
        clear hb5 hk5 cm g0 g1 g2 g3 g4 g5 g6 g7 m0
        go_wp2_with fail
        go_ret
        rw [HV2.out]
        exact ⟨rfl, HD.out _ HB5.out⟩
      | true =>
        go_wp2_with fail
        go_region_held_law (fun w' => w'.cell? ⟨w.heap.size, 0, none⟩ = some (.slice (some ⟨b, off, none⟩) fs.length cap) ∧ w'.cell? ⟨b, off + k * 8, none⟩ = some (.string nm) ∧ w'.cell? ⟨b, off + k * 8 + 1, none⟩ = some (.int .i64 pa) ∧ w'.cell? ⟨b, off + k * 8 + 2, none⟩ = some (.int .i64 re) ∧ w'.cell? ⟨b, off + k * 8 + 3, none⟩ = some (.bool ge) ∧ w'.cell? ⟨b, off + k * 8 + 4, none⟩ = some (.slice ca cx.length c1) ∧ w'.cell? ⟨b, off + k * 8 + 5, none⟩ = some (.slice ka kx.length kc) ∧ w'.cell? ⟨b, off + k * 8 + 6, none⟩ = some (.slice pa' px.length pc) ∧ w'.cell? ⟨b, off + k * 8 + 7, none⟩ = some (.slice ha hx.length hc)) (first | go_keep | exact ⟨hk5 _ _ m0, hk5 _ _ g0, hk5 _ _ g1, hk5 _ _ g2, hk5 _ _ g3, hk5 _ _ g4, hk5 _ _ g5, hk5 _ _ g6, hk5 _ _ g7⟩) ((go_at_call 25; refine (cm _ rfl).mono ?_; rintro e w5 ⟨rfl, hb5, hk5⟩))
        have HP : Hid (K1At fs w1 w5 (k + 1)) := ⟨c, by rw [HVk.out, Bool.true_and], HS.out.bel.trans (hb5.mono HS.out.bel.size)⟩
        clear hb5 hk5 cm g0 g1 g2 g3 g4 g5 g6 g7 m0
        go_wp2_with fail
        refine ⟨⟨k + 1, HP.out, by go_num⟩, ?_⟩
        simp [intOf]
        omega
    · have HA : Hid (fs.all (functionB fs.length) = true) := by
        show _ = _
        rw [HS.out.val, List.drop_of_length_le c]
        rfl
      have HB1 : Hid (Below w1.heap.size w1 wr) := HS.out.bel
      have HV1 : Hid (D = if fs.all (fun f => f.code.xs.all (closB f fs)) then 0 else 80) := by
        show _ = _
        rw [HV.out, HA.out, Bool.true_and]
      have hdk : decide (k < fs.length) = false := decide_eq_false (by omega)
      clear HS HFU
      go_wp2_with fail
      clear m0
      go_loopw [5] (fun i wr => ∃ k : Nat, K2At fs w1 wr k ∧ i = .int .i64 k) (fun i wr => fs.length - (intOf i).toNat)
      case atStart => exact ⟨0, ⟨Nat.zero_le _, rfl, HB1.out⟩, rfl⟩
      case round =>
        clear HB1 HV
        obtain ⟨k2, hr, rfl⟩ := hrel
        have HS : Hid (K2At fs w1 wr k2) := hr
        have k2le := hr.le
        clear hr
        have m0 := (HF.out wr HS.out.bel).2
        rcases Nat.lt_or_ge k2 fs.length with c2 | c2
        · have hex : ∃ y, fs[k2]? = some y := ⟨_, List.getElem?_eq_getElem c2⟩
          obtain ⟨f, hy⟩ := hex
          have HVk : Hid (fs.all (fun f => f.code.xs.all (closB f fs)) = (f.code.xs.all (closB f fs) && (fs.drop (k2 + 1)).all (fun f => f.code.xs.all (closB f fs)))) := by
            show _ = _
            rw [HS.out.val, List.drop_eq_getElem_cons c2, List.all_cons]
            rw [List.getElem?_eq_getElem c2] at hy
            rw [Option.some.inj hy]
          have HFB : functionB fs.length f = true := List.all_eq_true.1 HA.out f (List.mem_of_getElem? hy)
          have HFT : Hid (∀ (j : Nat) y, f.code.xs[j]? = some y → y.op = 12 → 0 < y.b ∧ y.b < (fs.length : Int)) := by
            intro j y h1 h2
            unfold functionB at HFB
            simp only [Bool.and_eq_true] at HFB
            have h3 := List.all_eq_true.1 HFB.1.2 y (List.mem_of_getElem? h1)
            unfold rinsB at h3
            simp only [Bool.and_eq_true] at h3
            exact fits_closure f y _ h3.1 h2
          have hmc : f.code.xs.length ≤ 65536 := by
            unfold functionB at HFB
            simp only [Bool.and_eq_true] at HFB
            exact (sized_out HFB.1.1).2.1
          have okr := (HF.out wr HS.out.bel).1
          obtain ⟨b', off', had, hcc⟩ := okr.all.cells (by intro e; simp at e; subst e; simp at c2)
          simp only at had
          cases had
          have g0 := hcc k2 f hy 0 _ rfl
          have g1 := hcc k2 f hy 1 _ rfl
          have g2 := hcc k2 f hy 2 _ rfl
          have g3 := hcc k2 f hy 3 _ rfl
          have g4 := hcc k2 f hy 4 _ rfl
          have g5 := hcc k2 f hy 5 _ rfl
          have g6 := hcc k2 f hy 6 _ rfl
          have g7 := hcc k2 f hy 7 _ rfl
          simp only [Nat.add_zero] at g0
          have hfo := okr.each f (List.mem_of_getElem? hy)
          have hmp : f.caps.xs.length ≤ maxLen := Nat.le_trans hfo.caps.len hfo.caps.cap
          unfold maxLen at hmp
          clear hcc okr hy HFB
          have B4 := below_new (Below.refl wr.heap.size wr) (Nat.le_refl _) (fnB f)
          have hfo4 := hfo.kept (cells_below B4)
          have HY : Hid (∀ w', Below (wr.alloc (fnB f)).heap.size (wr.alloc (fnB f)) w' → Below w1.heap.size w1 w' ∧ f.ok w' ∧ ∀ j u, (fnC f)[j]? = some u → w'.cell? ⟨wr.heap.size, j, none⟩ = some u) := by
            intro w' h
            have h1 := HS.out.bel.trans (B4.mono HS.out.bel.size)
            exact ⟨h1.trans (h.mono h1.size), hfo4.kept (cells_below h), fun j u hj => cells_below h _ _ (fnB_cell f wr j u hj)⟩
          have HRR : Hid (Below (wr.alloc (fnB f)).heap.size (wr.alloc (fnB f)) (wr.alloc (fnB f))) := Below.refl _ _
          have HI3 : Hid (K3At f fs (wr.alloc (fnB f)) (wr.alloc (fnB f)) 0) := ⟨Nat.zero_le _, rfl, Below.refl _ _⟩
          clear hfo hfo4 B4
          have HCX : Hid (∀ F : Fn, F = f → F.code.xs = f.code.xs ∧ F.code.at' = f.code.at' ∧ F.regs = f.regs ∧ F.caps.xs = f.caps.xs) := fun F h => by rw [h]; exact ⟨rfl, rfl, rfl, rfl⟩
          obtain ⟨nm, pa, re, ge, ⟨ca, c1, cx⟩, ⟨ka, kc, kx⟩, ⟨pa', pc, px⟩, ⟨ha, hc, hx⟩⟩ := f
          unfold fnB at HY HRR HI3
          unfold fnC at HY
          unfold Sli.val at *
          simp only at *
          generalize hFF : (⟨nm, pa, re, ge, ⟨ca, c1, cx⟩, ⟨ka, kc, kx⟩, ⟨pa', pc, px⟩, ⟨ha, hc, hx⟩⟩ : Fn) = F at *
          have HCF : Hid (F.code.xs = cx ∧ F.code.at' = ca ∧ F.regs = re ∧ F.caps.xs = px) := HCX.out F rfl
          clear hFF HCX
          go_wp2_with fail
          generalize wr.alloc (.cells #[.string nm, .int .i64 pa, .int .i64 re, .bool ge, .slice ca cx.length c1, .slice ka kx.length kc, .slice pa' px.length pc, .slice ha hx.length hc] 36) = w3 at *
          clear g0 g1 g2 g3 g4 g5 g6 g7 m0
          generalize wr.heap.size = gb at *
          go_loopw [7] (fun i wr => ∃ j : Nat, K3At F fs w3 wr j ∧ i = .int .i64 j) (fun i wr => cx.length - (intOf i).toNat)
          case atStart => exact ⟨0, HI3.out, rfl⟩
          case round =>
            obtain ⟨j, hr, rfl⟩ := hrel
            have HT : Hid (K3At F fs w3 wr j) := hr
            have jle : j ≤ cx.length := by have := hr.le; rw [HCF.out.1] at this; exact this
            clear hr
            obtain ⟨bw, okw, fcw⟩ := HY.out wr HT.out.bel
            have q4 := fcw 4 _ rfl
            rcases Nat.lt_or_ge j cx.length with d | d
            · have hex : ∃ y, F.code.xs[j]? = some y := by rw [HCF.out.1]; exact ⟨_, List.getElem?_eq_getElem d⟩
              obtain ⟨y, hy⟩ := hex
              have HVj : Hid (cx.all (closB F fs) = (closB F fs y && (cx.drop (j + 1)).all (closB F fs))) := by
                show _ = _
                have hv := HT.out.val
                rw [HCF.out.1] at hv hy
                rw [hv, List.drop_eq_getElem_cons d, List.all_cons]
                rw [List.getElem?_eq_getElem d] at hy
                rw [Option.some.inj hy]
              have HBD : Hid (y.op = 12 → 0 < y.b ∧ y.b < (fs.length : Int)) := HFT.out j y (by rw [← HCF.out.1]; exact hy)
              obtain ⟨b2, off2, had, hcc⟩ := okw.code.cells (by intro e; rw [e] at hy; simp at hy)
              rw [HCF.out.2.1] at had
              subst had
              have i0 := hcc j y hy 0 _ rfl
              have i2 := hcc j y hy 2 _ rfl
              rw [Nat.add_zero] at i0
              clear hcc hy
              have HCL : Hid (closB F fs y = (decide (y.op ≠ 12) || (match fs[y.b.toNat]? with | some g => g.caps.xs.all (capOkB F) | none => false))) := rfl
              obtain ⟨op, ia, ib, ic⟩ := y
              simp only at *
              generalize closB F fs ⟨op, ia, ib, ic⟩ = CB at *
              by_cases h12 : op = 12
              · subst h12
                obtain ⟨x1, x2⟩ := HBD.out (by first | rfl | trivial)
                obtain ⟨v, rfl⟩ : ∃ v : Nat, ib = (v : Int) := ⟨ib.toNat, by omega⟩
                have vl : v < fs.length := by omega
                have hex : ∃ gf, fs[v]? = some gf := ⟨_, List.getElem?_eq_getElem vl⟩
                obtain ⟨gf, hgf⟩ := hex
                have HCB : Hid (CB = gf.caps.xs.all (capOkB F)) := by
                  show _ = _
                  rw [HCL.out, Int.toNat_natCast, hgf]
                  rfl
                obtain ⟨okp, m0⟩ := HF.out wr bw
                obtain ⟨b3, off3, had, hcc⟩ := okp.all.cells (by intro e; simp at e; subst e; simp at vl)
                simp only at had
                cases had
                have g6 := hcc v gf hgf 6 _ rfl
                have hgo := (okp.each gf (List.mem_of_getElem? hgf)).caps
                have hml2 : gf.caps.xs.length ≤ maxLen := Nat.le_trans hgo.len hgo.cap
                unfold maxLen at hml2
                have q2 := fcw 2 _ rfl
                have q6 := fcw 6 _ rfl
                have HGO : Hid (gf.caps.ok capC 2 wr) := hgo
                clear hcc okp hgf hgo x1 x2 HBD HCL okw fcw
                generalize gf.caps = gc at *
                obtain ⟨ga, gcap, gx⟩ := gc
                unfold Sli.val at g6
                simp only at g6 HCB hml2
                have HW4 : Hid (∀ n, Below w3.heap.size w3 (wr.drewN n)) := fun n => below_dN HT.out.bel n
                go_wp2_with fail
                go_quiet (fail)
                have HNQ : Hid (Below w3.heap.size w3 (wr.drewN nq) ∧ Below w1.heap.size w1 (wr.drewN nq)) := ⟨HW4.out nq, below_dN bw nq⟩
                have HGQ : Hid (Sli.ok capC 2 (wr.drewN nq) ⟨ga, gcap, gx⟩) := HGO.out.kept (fun a u h => h)
                have qq2 : (wr.drewN nq).cell? ⟨gb, 2, none⟩ = some (.int .i64 re) := q2
                have qq4 : (wr.drewN nq).cell? ⟨gb, 4, none⟩ = some (.slice (some ⟨b2, off2, none⟩) cx.length c1) := q4
                have qq6 : (wr.drewN nq).cell? ⟨gb, 6, none⟩ = some (.slice pa' px.length pc) := q6
                clear q2 q4 q6 i0 i2 m0 g6 HGO HW4
                generalize wr.drewN nq = w6 at *
                go_wp2_with fail
                go_loopw [9] (fun i wv => ∃ q : Nat, (q ≤ gx.length ∧ gx.all (capOkB F) = (gx.drop q).all (capOkB F) ∧ w6 = wv) ∧ i = .int .i64 q) (fun i wv => gx.length - (intOf i).toNat)
                case atStart => exact ⟨0, ⟨Nat.zero_le _, rfl, rfl⟩, rfl⟩
                case round =>
                  obtain ⟨q, ⟨qle, hv, rfl⟩, rfl⟩ := hrel
                  have HV4 : Hid (gx.all (capOkB F) = (gx.drop q).all (capOkB F)) := hv
                  clear hv
                  rcases Nat.lt_or_ge q gx.length with d4 | d4
                  · have hex : ∃ z, gx[q]? = some z := ⟨_, List.getElem?_eq_getElem d4⟩
                    obtain ⟨z, hz⟩ := hex
                    have HV5 : Hid (gx.all (capOkB F) = (capOkB F z && (gx.drop (q + 1)).all (capOkB F))) := by
                      show _ = _
                      rw [HV4.out, List.drop_eq_getElem_cons d4, List.all_cons]
                      rw [List.getElem?_eq_getElem d4] at hz
                      rw [Option.some.inj hz]
                    obtain ⟨zb, zo, rfl, zc⟩ := HGQ.out.cells (by intro e; simp at e; subst e; simp at d4)
                    have z0 := zc q z hz 0 _ rfl
                    have z1 := zc q z hz 1 _ rfl
                    rw [Nat.add_zero] at z0
                    have HCO : Hid (capOkB F z = (decide (0 ≤ z.idx) && decide (z.idx < (if z.free then (px.length : Int) else re)))) := by
                      show _ = _
                      unfold capOkB
                      rw [HCF.out.2.2.2, HCF.out.2.2.1]
                    clear zc hz
                    obtain ⟨fr, ix⟩ := z
                    simp only at *
                    generalize capOkB F ⟨fr, ix⟩ = CO at *
                    cases fr with
                    | true =>
                      have HCP : Hid (CO = (decide (0 ≤ ix) && decide (ix < (px.length : Int)))) := HCO.out
                      clear HCO
                      have HCO := HCP
                      by_cases y0 : ix < 0
                      · have HV2 : Hid (D = 80) := by
                          show _ = _
                          rw [HV1.out, HVk.out, HVj.out, HCB.out, HV5.out, HCO.out, decide_eq_false (show ¬ 0 ≤ ix by omega)]
                          simp
                        go_wp2_with fail
                        go_ret
                        rw [HV2.out]
                        exact ⟨rfl, HD.out _ HNQ.out.2⟩
                      by_cases y1 : (px.length : Int) ≤ ix
                      · have HV2 : Hid (D = 80) := by
                          show _ = _
                          rw [HV1.out, HVk.out, HVj.out, HCB.out, HV5.out, HCO.out]
                          rw [show (decide (0 ≤ ix) && decide (ix < (px.length : Int))) = false from by rw [decide_eq_false (show ¬ ix < (px.length : Int) by omega), Bool.and_false]]
                          simp
                        go_wp2_with fail
                        go_ret
                        rw [HV2.out]
                        exact ⟨rfl, HD.out _ HNQ.out.2⟩
                      have HE : Hid (gx.all (capOkB F) = (gx.drop (q + 1)).all (capOkB F)) := by
                        show _ = _
                        rw [HV5.out, HCO.out]
                        rw [show (decide (0 ≤ ix) && decide (ix < (px.length : Int))) = true from by rw [decide_eq_true (show 0 ≤ ix by omega), decide_eq_true (show ix < (px.length : Int) by omega)]; rfl, Bool.true_and]
                      go_wp2_with fail
                      refine ⟨⟨q + 1, ⟨d4, HE.out, by first | rfl | trivial⟩, by go_num⟩, ?_⟩
                      simp [intOf]
                      omega
                    | false =>
                      have HCP : Hid (CO = (decide (0 ≤ ix) && decide (ix < re))) := HCO.out
                      clear HCO
                      have HCO := HCP
                      by_cases y0 : ix < 0
                      · have HV2 : Hid (D = 80) := by
                          show _ = _
                          rw [HV1.out, HVk.out, HVj.out, HCB.out, HV5.out, HCO.out, decide_eq_false (show ¬ 0 ≤ ix by omega)]
                          simp
                        go_wp2_with fail
                        go_ret
                        rw [HV2.out]
                        exact ⟨rfl, HD.out _ HNQ.out.2⟩
                      by_cases y1 : re ≤ ix
                      · have HV2 : Hid (D = 80) := by
                          show _ = _
                          rw [HV1.out, HVk.out, HVj.out, HCB.out, HV5.out, HCO.out]
                          rw [show (decide (0 ≤ ix) && decide (ix < re)) = false from by rw [decide_eq_false (show ¬ ix < re by omega), Bool.and_false]]
                          simp
                        go_wp2_with fail
                        go_ret
                        rw [HV2.out]
                        exact ⟨rfl, HD.out _ HNQ.out.2⟩
                      have HE : Hid (gx.all (capOkB F) = (gx.drop (q + 1)).all (capOkB F)) := by
                        show _ = _
                        rw [HV5.out, HCO.out]
                        rw [show (decide (0 ≤ ix) && decide (ix < re)) = true from by rw [decide_eq_true (show 0 ≤ ix by omega), decide_eq_true (show ix < re by omega)]; rfl, Bool.true_and]
                      go_wp2_with fail
                      refine ⟨⟨q + 1, ⟨d4, HE.out, by first | rfl | trivial⟩, by go_num⟩, ?_⟩
                      simp [intOf]
                      omega
                  · have HE : Hid (gx.all (capOkB F) = true) := by
                      show _ = _
                      rw [HV4.out, List.drop_of_length_le d4]
                      rfl
                    have HP : Hid (K3At F fs w3 w6 (j + 1)) := ⟨by rw [HCF.out.1]; exact d, by rw [HCF.out.1, HVj.out, HCB.out, HE.out, Bool.true_and], HNQ.out.1⟩
                    have hdq : decide (q < gx.length) = false := decide_eq_false (by omega)
                    go_wp2_with fail
                    refine ⟨⟨j + 1, HP.out, by go_num⟩, ?_⟩
                    simp [intOf]
                    omega
              · have e12 : (op != 12) = true := by simpa using h12
                have HP : Hid (K3At F fs w3 wr (j + 1)) := ⟨by rw [HCF.out.1]; exact d, by rw [HCF.out.1, HVj.out, HCL.out, decide_eq_true h12]; rfl, HT.out.bel⟩
                clear HBD HCL okw fcw bw
                go_wp2_with fail
                refine ⟨⟨j + 1, HP.out, by go_num⟩, ?_⟩
                simp [intOf]
                omega
            · have HP : Hid (K2At fs w1 wr (k2 + 1)) := by
                refine ⟨c2, ?_, bw⟩
                have hv := HT.out.val
                rw [HCF.out.1, List.drop_of_length_le d] at hv
                rw [HVk.out, hv]
                rfl
              have hdj : decide (j < cx.length) = false := decide_eq_false (by omega)
              clear okw fcw bw
              go_wp2_with fail
              refine ⟨⟨k2 + 1, HP.out, by go_num⟩, ?_⟩
              simp [intOf]
              omega
        · have HV2 : Hid (D = 0) := by
            show _ = _
            rw [HV1.out, HS.out.val, List.drop_of_length_le c2]
            rfl
          go_wp2_with fail
          go_ret
          rw [HV2.out]
          exact ⟨rfl, HD.out _ HS.out.bel⟩

end Go.Proofs.YtkoamenfbnpdbaaDoor.Cd
