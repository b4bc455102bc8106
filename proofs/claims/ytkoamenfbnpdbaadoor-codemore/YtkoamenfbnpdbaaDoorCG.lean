/- Package code: filled. -/
import Derived.Test.YtkoamenfbnpdbaaDoorCF
namespace Go.Proofs.YtkoamenfbnpdbaaDoor.Cd
open Go.RowKit Go.Deep
set_option linter.unusedVariables false

/-- what the function that an instruction makes asks, its maker has -/
def makesB (f : Fn) (fs : List Fn) (y : Ins) : Bool := match fs[y.b.toNat]? with | some g => metB (wantOf g).1 (wantOf g).2 f | none => false

/-- an instruction has the operands that it must have -/
def insB (f : Fn) (fs : List Fn) (y : Ins) : Bool := fitsB f y fs.length && (decide (y.op ≠ 60) || f.gen) && (decide (y.op ≠ 12) || makesB f fs y)

def filledB (f : Fn) (fs : List Fn) : Bool := f.code.xs.all (insB f fs)

theorem fits_closure (f : Fn) (y : Ins) (n : Int) (h : fitsB f y n = true) (h12 : y.op = 12) : 0 < y.b ∧ y.b < n := by
  unfold fitsB at h
  rw [h12, show shapeI 12 = [119, 102, 45] from rfl] at h
  simp only [Bool.and_eq_true] at h
  have h2 := h.1.2
  have h3 : (decide (0 < y.b) && decide (y.b < n)) = true := h2
  simpa using h3

structure FiAt (f : Fn) (fs : List Fn) (w1 wr : World) (k : Nat) : Prop where
  le : k ≤ f.code.xs.length
  val : filledB f fs = (f.code.xs.drop k).all (insB f fs)
  bel : Below w1.heap.size w1 wr

set_option maxRecDepth 100000 in
set_option maxHeartbeats 8000000 in
theorem filled_any (f : Fn) (fs : List Fn) (g : Nat) (w : World) (hf : f.ok w) (hS : ShAt w) (hT : TakAt fs fs.length w g) (h1 : 0 ≤ f.regs) (h2 : f.regs ≤ 400) (hn : fs.length ≤ 200) (hcl : f.code.xs.length ≤ 65536) :
    Calls Tryd.prog 24 #[fnV f, .slice (some ⟨g, 0, none⟩) fs.length fs.length] w fun e w' => e = .returned (.bool (filledB f fs)) ∧ Below w.heap.size w w' := by
  have B0 : Below w.heap.size w (w.alloc (fnB f)) := below_new (Below.refl _ _) (Nat.le_refl _) _
  have hf1 := hf.kept (cells_below B0)
  have hS1 := hS.below B0
  have hT1 := hT.keep B0
  have HF : Hid (∀ w', Below (w.alloc (fnB f)).heap.size (w.alloc (fnB f)) w' → f.ok w' ∧ ShAt w' ∧ TakAt fs fs.length w' g ∧ ∀ j u, (fnC f)[j]? = some u → w'.cell? ⟨w.heap.size, j, none⟩ = some u) := by
    intro w' h
    have h' := cells_below h
    exact ⟨hf1.kept h', hS1.below h, hT1.keep h, fun j u hj => h' _ _ (fnB_cell f w j u hj)⟩
  have HD : Hid (∀ w', Below (w.alloc (fnB f)).heap.size (w.alloc (fnB f)) w' → Below w.heap.size w w') := fun w' h => B0.trans (h.mono B0.size)
  have HR : Hid (Below (w.alloc (fnB f)).heap.size (w.alloc (fnB f)) (w.alloc (fnB f))) := Below.refl _ _
  have HI : Hid (FiAt f fs (w.alloc (fnB f)) (w.alloc (fnB f)) 0) := ⟨Nat.zero_le _, rfl, Below.refl _ _⟩
  have HFI : Hid (∀ y w', f.ok w' → ShAt w' → Calls Tryd.prog 34 #[fnV f, insV y, .int .i64 (fs.length : Int)] w' fun e w'' => e = .returned (.bool (fitsB f y fs.length)) ∧ Below w'.heap.size w' w'') := fun y w' a b => fits_any f y _ w' a b h1 h2
  have HME : Hid (∀ r fr w', Calls Tryd.prog 35 #[.agg #[.int .i64 r, .int .i64 fr], fnV f] w' fun e w'' => e = .returned (.bool (metB r fr f)) ∧ Below w'.heap.size w' w'') := fun r fr w' => met_any r fr f w'
  have hm4 := fnB_cell f w 4 _ rfl
  clear hf hf1 hS hS1 hT hT1 B0 h1 h2
  generalize hQ : filledB f fs = D
  have HQ : Hid (D = filledB f fs) := hQ.symm
  clear hQ
  have HN : Hid (∀ (k : Nat) y, f.code.xs[k]? = some y → f.code.xs.drop k = y :: f.code.xs.drop (k + 1)) := by
    intro k y h
    have c : k < f.code.xs.length := by
      rcases Nat.lt_or_ge k f.code.xs.length with c | c
      · exact c
      · rw [List.getElem?_eq_none c] at h; cases h
    rw [List.drop_eq_getElem_cons c]
    rw [List.getElem?_eq_getElem c] at h
    rw [Option.some.inj h]
  obtain ⟨nm, pa, re, ge, ⟨ca, c1, cx⟩, ⟨ka, kc, kx⟩, ⟨pa', pc, px⟩, ⟨ha, hc, hx⟩⟩ := f
  have HCX : Hid (∀ F : Fn, F = ⟨nm, pa, re, ge, ⟨ca, c1, cx⟩, ⟨ka, kc, kx⟩, ⟨pa', pc, px⟩, ⟨ha, hc, hx⟩⟩ → F.code.xs = cx ∧ F.gen = ge ∧ F.code.at' = ca) := fun F h => by rw [h]; exact ⟨rfl, rfl, rfl⟩
  unfold fnB at *
  unfold fnV at *
  unfold fnC at HF
  unfold Sli.val at *
  simp only at *
  generalize hFF : (⟨nm, pa, re, ge, ⟨ca, c1, cx⟩, ⟨ka, kc, kx⟩, ⟨pa', pc, px⟩, ⟨ha, hc, hx⟩⟩ : Fn) = F at *
  have HC : Hid (F.code.xs = cx ∧ F.gen = ge ∧ F.code.at' = ca) := HCX.out F rfl
  clear hFF HCX
  go_enter Tryd.func24, Tryd.ntmps24
  go_wp2_with fail
  generalize w.alloc (.cells #[.string nm, .int .i64 pa, .int .i64 re, .bool ge, .slice ca cx.length c1, .slice ka kx.length kc, .slice pa' px.length pc, .slice ha hx.length hc] 36) = w1 at *
  clear hm4
  go_loopw [10] (fun i wr => ∃ k : Nat, FiAt F fs w1 wr k ∧ i = .int .i64 k) (fun i wr => cx.length - (intOf i).toNat)
  case atStart => exact ⟨0, HI.out, rfl⟩
  case round =>
    obtain ⟨k, hr, rfl⟩ := hrel
    have HS : Hid (FiAt F fs w1 wr k) := hr
    have kle : k ≤ cx.length := by have := hr.le; rw [HC.out.1] at this; exact this
    clear hr
    rcases Nat.lt_or_ge k cx.length with c | c
    · have hex : ∃ y, F.code.xs[k]? = some y := by rw [HC.out.1]; exact ⟨_, List.getElem?_eq_getElem c⟩
      obtain ⟨y, hy⟩ := hex
      have HV : Hid (D = (insB F fs y && (cx.drop (k + 1)).all (insB F fs))) := by
        show _ = _
        rw [HQ.out, HS.out.val, HC.out.1, HN.out k y (by rw [← HC.out.1]; exact hy), List.all_cons]
      have hcc := (HF.out wr HS.out.bel).1.code.cells (by intro e; rw [e] at hy; simp at hy)
      obtain ⟨b, off, had, hcc⟩ := hcc
      rw [HC.out.2.2] at had
      subst had
      have g0 := hcc k y hy 0 _ rfl
      have g1 := hcc k y hy 1 _ rfl
      have g2 := hcc k y hy 2 _ rfl
      have g3 := hcc k y hy 3 _ rfl
      rw [Nat.add_zero] at g0
      clear hcc hy
      have HB1 : Hid (Below w1.heap.size w1 (wr.alloc (.cells #[.int .i64 y.op, .int .i64 y.a, .int .i64 y.b, .int .i64 y.c] 43))) := below_new HS.out.bel HS.out.bel.size _
      have HW : Hid (∀ w', Below (wr.alloc (.cells #[.int .i64 y.op, .int .i64 y.a, .int .i64 y.b, .int .i64 y.c] 43)).heap.size (wr.alloc (.cells #[.int .i64 y.op, .int .i64 y.a, .int .i64 y.b, .int .i64 y.c] 43)) w' → w'.cell? ⟨wr.heap.size, 0, none⟩ = some (.int .i64 y.op) ∧ w'.cell? ⟨wr.heap.size, 2, none⟩ = some (.int .i64 y.b)) := by
        intro w' h
        have h' := cells_below h
        exact ⟨h' _ _ (insB_cell _ _ _ _ wr 0 _ rfl), h' _ _ (insB_cell _ _ _ _ wr 2 _ rfl)⟩
      obtain ⟨ok1, sh1, tk1, fc1⟩ := HF.out _ HB1.out
      have kf := HFI.out y _ ok1 sh1
      have q0 := fc1 0 _ rfl
      have q1 := fc1 1 _ rfl
      have q2 := fc1 2 _ rfl
      have q3 := fc1 3 _ rfl
      have q4 := fc1 4 _ rfl
      have q5 := fc1 5 _ rfl
      have q6 := fc1 6 _ rfl
      have q7 := fc1 7 _ rfl
      clear ok1 sh1 tk1 fc1
      unfold insV at kf
      have HCL : Hid (fitsB F y fs.length = true → y.op = 12 → 0 < y.b ∧ y.b < (fs.length : Int)) := fits_closure F y fs.length
      have HIN : Hid (insB F fs y = (fitsB F y fs.length && (decide (y.op ≠ 60) || F.gen) && (decide (y.op ≠ 12) || makesB F fs y))) := rfl
      have HMK : Hid (makesB F fs y = match fs[y.b.toNat]? with | some g => metB (wantOf g).1 (wantOf g).2 F | none => false) := rfl
      obtain ⟨op, ia, ib, ic⟩ := y
      simp only at *
      generalize insB F fs ⟨op, ia, ib, ic⟩ = IB at *
      generalize makesB F fs ⟨op, ia, ib, ic⟩ = MB at *
      generalize fitsB F ⟨op, ia, ib, ic⟩ fs.length = FB at *
      cases FB with
      | false =>
        have HV2 : Hid (D = false) := by
          show _ = _
          rw [HV.out, HIN.out]
          rfl
        go_wp2_with fail
        refine kf.mono ?_
        rintro e w3 ⟨rfl, hb3⟩
        have HB3 : Hid (Below w1.heap.size w1 w3) := HB1.out.trans (hb3.mono HB1.out.size)
        clear kf hb3 g0 g1 g2 g3 q0 q1 q2 q3 q4 q5 q6 q7
        go_wp2_with fail
        go_ret
        rw [HV2.out]
        exact ⟨rfl, HD.out _ HB3.out⟩
      | true =>
        go_wp2_with fail
        refine kf.mono ?_
        rintro e w3 ⟨rfl, hb3⟩
        have HB3 : Hid (Below w1.heap.size w1 w3) := HB1.out.trans (hb3.mono HB1.out.size)
        obtain ⟨i0, i2⟩ := HW.out w3 hb3
        obtain ⟨ok1, sh1, tk1, fc1⟩ := HF.out _ HB3.out
        have HTK : Hid (TakAt fs fs.length w3 g) := tk1
        clear kf hb3 g0 g1 g2 g3 q0 q1 q2 q3 q4 q5 q6 q7
        have q0 := fc1 0 _ rfl
        have q1 := fc1 1 _ rfl
        have q2 := fc1 2 _ rfl
        have q3 := fc1 3 _ rfl
        have q4 := fc1 4 _ rfl
        have q5 := fc1 5 _ rfl
        have q6 := fc1 6 _ rfl
        have q7 := fc1 7 _ rfl
        clear ok1 sh1 tk1 fc1
        by_cases h60 : op = 60
        · subst h60
          cases ge with
          | false =>
            have HV2 : Hid (D = false) := by
              show _ = _
              rw [HV.out, HIN.out, HC.out.2.1]
              rfl
            go_wp2_with fail
            go_ret
            rw [HV2.out]
            exact ⟨rfl, HD.out _ HB3.out⟩
          | true =>
            have HP : Hid (∀ n, FiAt F fs w1 (w3.drewN n) (k + 1)) := fun n => ⟨by rw [HC.out.1]; exact c, by rw [← HQ.out, HV.out, HIN.out, HC.out.1, HC.out.2.1]; rfl, below_dN HB3.out n⟩
            have hdd : decide ((60 : Int) = 12) = false := rfl
            go_wp2_with fail
            go_quiet (fail)
            go_wp2_with fail
            refine ⟨⟨k + 1, HP.out _, by go_num⟩, ?_⟩
            simp [intOf]
            omega
        by_cases h12 : op = 12
        · subst h12
          obtain ⟨b1, b2⟩ := HCL.out (by first | rfl | trivial) (by first | rfl | trivial)
          obtain ⟨j, rfl⟩ : ∃ j : Nat, ib = (j : Int) := ⟨ib.toNat, by omega⟩
          have jl : j < fs.length := by omega
          have hex : ∃ gf, fs[j]? = some gf := ⟨_, List.getElem?_eq_getElem jl⟩
          obtain ⟨gf, hgf⟩ := hex
          obtain ⟨t0, t1⟩ := HTK.out.at' j gf jl hgf
          have HM2 : Hid (MB = metB (wantOf gf).1 (wantOf gf).2 F) := by
            show _ = _
            rw [HMK.out, Int.toNat_natCast, hgf]
          have cm0 := HME.out (wantOf gf).1 (wantOf gf).2 w3.drew
          clear hgf HCL HMK b1 b2
          generalize wantOf gf = W at *
          obtain ⟨W1, W2⟩ := W
          simp only at *
          rw [← HM2.out] at cm0
          have cm : ∀ w', w' = w3.drew → Calls Tryd.prog 35 #[.agg #[.int .i64 W1, .int .i64 W2], .agg #[.string nm, .int .i64 pa, .int .i64 re, .bool ge, .slice (some ⟨b, off, none⟩) cx.length c1, .slice ka kx.length kc, .slice pa' px.length pc, .slice ha hx.length hc]] w' fun e w'' => e = .returned (.bool MB) ∧ Below w3.heap.size w3 w'' ∧ ∀ a u, w3.cell? a = some u → w''.cell? a = some u := by
            intro w' e
            subst e
            refine cm0.mono ?_
            rintro e w'' ⟨rfl, hb⟩
            have hb' : Below w3.heap.size w3 w'' := (Below.refl w3.heap.size w3).drew.trans hb
            exact ⟨rfl, hb', cells_below hb'⟩
          clear cm0 HM2
          cases MB with
          | true =>
            have HP : Hid (∀ w5, Below w3.heap.size w3 w5 → FiAt F fs w1 w5 (k + 1)) := fun w5 hb => ⟨by rw [HC.out.1]; exact c, by rw [← HQ.out, HV.out, HIN.out, HC.out.1]; rfl, HB3.out.trans (hb.mono HB3.out.size)⟩
            go_wp2_with fail
            go_region_held_law (fun w' => w'.cell? ⟨w.heap.size, 0, none⟩ = some (.string nm) ∧ w'.cell? ⟨w.heap.size, 1, none⟩ = some (.int .i64 pa) ∧ w'.cell? ⟨w.heap.size, 2, none⟩ = some (.int .i64 re) ∧ w'.cell? ⟨w.heap.size, 3, none⟩ = some (.bool ge) ∧ w'.cell? ⟨w.heap.size, 4, none⟩ = some (.slice (some ⟨b, off, none⟩) cx.length c1) ∧ w'.cell? ⟨w.heap.size, 5, none⟩ = some (.slice ka kx.length kc) ∧ w'.cell? ⟨w.heap.size, 6, none⟩ = some (.slice pa' px.length pc) ∧ w'.cell? ⟨w.heap.size, 7, none⟩ = some (.slice ha hx.length hc) ∧ w'.cell? ⟨wr.heap.size, 0, none⟩ = some (.int .i64 12) ∧ w'.cell? ⟨wr.heap.size, 2, none⟩ = some (.int .i64 j) ∧ w'.cell? ⟨g, j * 2, none⟩ = some (.int .i64 W1) ∧ w'.cell? ⟨g, j * 2 + 1, none⟩ = some (.int .i64 W2)) (first | go_keep | exact ⟨hk5 _ _ q0, hk5 _ _ q1, hk5 _ _ q2, hk5 _ _ q3, hk5 _ _ q4, hk5 _ _ q5, hk5 _ _ q6, hk5 _ _ q7, hk5 _ _ i0, hk5 _ _ i2, hk5 _ _ t0, hk5 _ _ t1⟩) ((go_at_call 35; refine (cm _ rfl).mono ?_; rintro e w5 ⟨rfl, hb5, hk5⟩))
            all_goals
              have HN5 : Hid (FiAt F fs w1 w5 (k + 1)) := HP.out w5 hb5
              clear hb5 hk5 q0 q1 q2 q3 q4 q5 q6 q7 i0 i2 t0 t1
              go_wp2_with fail
              refine ⟨⟨k + 1, HN5.out, by go_num⟩, ?_⟩
              simp [intOf]
              omega
          | false =>
            have HV2 : Hid (D = false) := by
              show _ = _
              rw [HV.out, HIN.out]
              rfl
            go_wp2_with fail
            go_region_held_law (fun w' => w'.cell? ⟨w.heap.size, 0, none⟩ = some (.string nm) ∧ w'.cell? ⟨w.heap.size, 1, none⟩ = some (.int .i64 pa) ∧ w'.cell? ⟨w.heap.size, 2, none⟩ = some (.int .i64 re) ∧ w'.cell? ⟨w.heap.size, 3, none⟩ = some (.bool ge) ∧ w'.cell? ⟨w.heap.size, 4, none⟩ = some (.slice (some ⟨b, off, none⟩) cx.length c1) ∧ w'.cell? ⟨w.heap.size, 5, none⟩ = some (.slice ka kx.length kc) ∧ w'.cell? ⟨w.heap.size, 6, none⟩ = some (.slice pa' px.length pc) ∧ w'.cell? ⟨w.heap.size, 7, none⟩ = some (.slice ha hx.length hc) ∧ w'.cell? ⟨wr.heap.size, 0, none⟩ = some (.int .i64 12) ∧ w'.cell? ⟨wr.heap.size, 2, none⟩ = some (.int .i64 j) ∧ w'.cell? ⟨g, j * 2, none⟩ = some (.int .i64 W1) ∧ w'.cell? ⟨g, j * 2 + 1, none⟩ = some (.int .i64 W2)) (first | go_keep | exact ⟨hk5 _ _ q0, hk5 _ _ q1, hk5 _ _ q2, hk5 _ _ q3, hk5 _ _ q4, hk5 _ _ q5, hk5 _ _ q6, hk5 _ _ q7, hk5 _ _ i0, hk5 _ _ i2, hk5 _ _ t0, hk5 _ _ t1⟩) ((go_at_call 35; refine (cm _ rfl).mono ?_; rintro e w5 ⟨rfl, hb5, hk5⟩))
            all_goals
              have HB5 : Hid (Below w1.heap.size w1 w5) := HB3.out.trans (hb5.mono HB3.out.size)
              clear hb5 hk5 q0 q1 q2 q3 q4 q5 q6 q7 i0 i2 t0 t1
              go_wp2_with fail
              go_ret
              rw [HV2.out]
              exact ⟨rfl, HD.out _ HB5.out⟩
        · have HP : Hid (∀ n, FiAt F fs w1 (w3.drewN n) (k + 1)) := fun n => ⟨by rw [HC.out.1]; exact c, by rw [← HQ.out, HV.out, HIN.out, HC.out.1, decide_eq_true h60, decide_eq_true h12]; rfl, below_dN HB3.out n⟩
          have e60 : (op == 60) = false := by simpa using h60
          have e12 : (op == 12) = false := by simpa using h12
          have hdd : decide (op = 12) = false := decide_eq_false h12
          go_wp2_with fail
          go_quiet (fail)
          go_wp2_with fail
          refine ⟨⟨k + 1, HP.out _, by go_num⟩, ?_⟩
          simp [intOf]
          omega
    · have HV2 : Hid (D = true) := by
        show _ = _
        rw [HQ.out, HS.out.val, HC.out.1, List.drop_of_length_le c]
        rfl
      go_wp2_with fail
      go_ret
      rw [HV2.out]
      exact ⟨rfl, HD.out _ HS.out.bel⟩

end Go.Proofs.YtkoamenfbnpdbaaDoor.Cd
