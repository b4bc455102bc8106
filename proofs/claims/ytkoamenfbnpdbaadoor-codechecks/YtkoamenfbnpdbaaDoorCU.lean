/- The document's function: the walk. -/
import Derived.Test.YtkoamenfbnpdbaaDoorCT
import Derived.Deep.RegionHeldLaw
namespace Go.Proofs.YtkoamenfbnpdbaaDoor.Cd
open Go.RowKit Go.Deep
set_option linter.unusedVariables false

set_option maxRecDepth 100000 in
set_option maxHeartbeats 64000000 in
theorem function_in (s : Sli Fn) (f : Fn) (w : World) (hf : f.ok w) (h : sizedB f = true) :
    Calls Tryd.prog 25 #[.agg #[s.val], fnV f] w fun e w' => e = .returned (.bool (f.code.xs.all (rinsB f s.xs.length) && flowsB f)) ∧ Below w.heap.size w w' := by
  obtain ⟨z0, z1, z2, z3, z4, z5, z6⟩ := sized_out h
  clear h
  have B1 : Below w.heap.size w ((w.alloc (.cells #[s.val] 24)).alloc (fnB f)) := below_new (below_new (Below.refl _ _) (Nat.le_refl _) _) (by rw [size_new]; omega) _
  have hf1 := hf.kept (cells_below B1)
  have HF : Hid (∀ w', Below ((w.alloc (.cells #[s.val] 24)).alloc (fnB f)).heap.size ((w.alloc (.cells #[s.val] 24)).alloc (fnB f)) w' → f.ok w' ∧ w'.cell? ⟨w.heap.size, 0, none⟩ = some s.val ∧ ∀ j u, (fnC f)[j]? = some u → w'.cell? ⟨w.heap.size + 1, j, none⟩ = some u) := by
    intro w' h
    have h' := cells_below h
    refine ⟨hf1.kept h', h' _ _ (cells_below (below_new (Below.refl _ _) (Nat.le_refl _) _) _ _ ?_), fun j u hj => h' _ _ ?_⟩
    · rw [cell_of_row _ w.heap.size 0 _ 24 (0, 0) (by show (w.heap.push _)[w.heap.size]? = _; rw [Array.getElem?_push_size])]
      rfl
    · have := fnB_cell f (w.alloc (.cells #[s.val] 24)) j u hj
      rw [size_new] at this
      exact this
  have HD : Hid (∀ w', Below ((w.alloc (.cells #[s.val] 24)).alloc (fnB f)).heap.size ((w.alloc (.cells #[s.val] 24)).alloc (fnB f)) w' → Below w.heap.size w w') := fun w' h => B1.trans (h.mono B1.size)
  have HR : Hid (Below ((w.alloc (.cells #[s.val] 24)).alloc (fnB f)).heap.size ((w.alloc (.cells #[s.val] 24)).alloc (fnB f)) ((w.alloc (.cells #[s.val] 24)).alloc (fnB f))) := Below.refl _ _
  have HI : Hid (F1At f s.xs.length ((w.alloc (.cells #[s.val] 24)).alloc (fnB f)) ((w.alloc (.cells #[s.val] 24)).alloc (fnB f)) 0) := ⟨Nat.zero_le _, rfl, Below.refl _ _⟩
  have HOP : Hid (∀ y l o w', f.ok w' → l ∈ letters → (l = 110 → 0 ≤ y.b ∧ y.b < f.regs) → Calls Tryd.prog 36 #[.agg #[s.val], fnV f, insV y, .int .u8 l, .int .i64 o] w' fun e w'' => e = .returned (.bool (meansB f y l o s.xs.length)) ∧ Below w'.heap.size w' w'') := fun y l o w' hk hl hn => oper_any s f y l o w' hl hk.consts (fun e => ⟨z3, z4, (hn e).1, (hn e).2⟩)
  have HQ : Hid ((f.code.xs.all (rinsB f s.xs.length) && flowsB f) = (f.code.xs.all (rinsB f s.xs.length) && (!goesB (lastOp f) && f.hnds.xs.all (hndB f.code.xs.length)))) := rfl
  generalize (f.code.xs.all (rinsB f s.xs.length) && flowsB f) = D at *
  have hpos : 0 < f.code.xs.length := List.length_pos_iff.2 z0
  have d1 : ((f.code.xs.length : Int) == 0) = false := by
    rw [beq_eq_false_iff_ne]
    omega
  have hmh : f.hnds.xs.length ≤ maxLen := Nat.le_trans hf.hnds.len hf.hnds.cap
  unfold maxLen at hmh
  have HWB : Hid (∀ y : Ins, meansB f y 114 y.b s.xs.length = true → 0 ≤ y.b ∧ y.b < f.regs) := fun y h => within_out h
  have HLA : Hid (∃ y, f.code.xs[f.code.xs.length - 1]? = some y ∧ lastOp f = y.op) := by
    refine ⟨f.code.xs[f.code.xs.length - 1]'(by omega), List.getElem?_eq_getElem (by omega), ?_⟩
    unfold lastOp
    rw [List.getElem?_eq_getElem (by omega)]
    rfl
  clear hf hf1 B1 z0
  obtain ⟨ad, cap, fs⟩ := s
  have HCX : Hid (∀ F : Fn, F = f → F.code.xs = f.code.xs ∧ F.code.at' = f.code.at' ∧ F.hnds.xs = f.hnds.xs ∧ F.hnds.at' = f.hnds.at' ∧ F.gen = f.gen) := fun F h => by rw [h]; exact ⟨rfl, rfl, rfl, rfl, rfl⟩
  obtain ⟨nm, pa, re, ge, ⟨ca, c1, cx⟩, ⟨ka, kc, kx⟩, ⟨pa', pc, px⟩, ⟨ha, hc, hx⟩⟩ := f
  unfold fnB at *
  unfold fnV at *
  unfold fnC at HF
  unfold Sli.val at *
  simp only at *
  generalize hFF : (⟨nm, pa, re, ge, ⟨ca, c1, cx⟩, ⟨ka, kc, kx⟩, ⟨pa', pc, px⟩, ⟨ha, hc, hx⟩⟩ : Fn) = F at *
  have HC : Hid (F.code.xs = cx ∧ F.code.at' = ca ∧ F.hnds.xs = hx ∧ F.hnds.at' = ha ∧ F.gen = ge) := HCX.out F rfl
  clear hFF HCX
  go_enter Tryd.func25, Tryd.ntmps25
  go_wp2_with fail
  generalize ((w.alloc (.cells #[.slice ad fs.length cap] 24)).alloc (.cells #[.string nm, .int .i64 pa, .int .i64 re, .bool ge, .slice ca cx.length c1, .slice ka kx.length kc, .slice pa' px.length pc, .slice ha hx.length hc] 36)) = w1 at *
  go_loopw [5] (fun i wr => ∃ k : Nat, F1At F fs.length w1 wr k ∧ i = .int .i64 k) (fun i wr => cx.length - (intOf i).toNat)
  case atStart => exact ⟨0, HI.out, rfl⟩
  case round =>
    obtain ⟨k, hr, rfl⟩ := hrel
    have HS : Hid (F1At F fs.length w1 wr k) := hr
    have kle : k ≤ cx.length := by have := hr.le; rw [HC.out.1] at this; exact this
    clear hr
    have m4 := (HF.out wr HS.out.bel).2.2 4 _ rfl
    rcases Nat.lt_or_ge k cx.length with c | c
    · have hex : ∃ y, F.code.xs[k]? = some y := by rw [HC.out.1]; exact ⟨_, List.getElem?_eq_getElem c⟩
      obtain ⟨y, hy⟩ := hex
      have HV0 : Hid (cx.all (rinsB F fs.length) = (rinsB F fs.length y && (cx.drop (k + 1)).all (rinsB F fs.length))) := by
        show _ = _
        have hv := HS.out.val
        rw [HC.out.1] at hy hv
        rw [hv, List.drop_eq_getElem_cons c, List.all_cons]
        rw [List.getElem?_eq_getElem c] at hy
        rw [Option.some.inj hy]
      have hcc := (HF.out wr HS.out.bel).1.code.cells (by intro e; rw [e] at hy; simp at hy)
      obtain ⟨b, off, had, hcc⟩ := hcc
      rw [HC.out.2.1] at had
      subst had
      have g0 := hcc k y hy 0 _ rfl
      have g1 := hcc k y hy 1 _ rfl
      have g2 := hcc k y hy 2 _ rfl
      have g3 := hcc k y hy 3 _ rfl
      rw [Nat.add_zero] at g0
      clear hcc hy
      have B2 : Below wr.heap.size wr (wr.alloc (.cells #[.int .i64 y.op, .int .i64 y.a, .int .i64 y.b, .int .i64 y.c] 43)) := below_new (Below.refl _ _) (Nat.le_refl _) _
      have B3 : Below (wr.alloc (.cells #[.int .i64 y.op, .int .i64 y.a, .int .i64 y.b, .int .i64 y.c] 43)).heap.size (wr.alloc (.cells #[.int .i64 y.op, .int .i64 y.a, .int .i64 y.b, .int .i64 y.c] 43)) ((wr.alloc (.cells #[.int .i64 y.op, .int .i64 y.a, .int .i64 y.b, .int .i64 y.c] 43)).alloc (.cells shV 9)) := below_new (Below.refl _ _) (Nat.le_refl _) _
      have HBI : Hid (Below (wr.alloc (.cells #[.int .i64 y.op, .int .i64 y.a, .int .i64 y.b, .int .i64 y.c] 43)).heap.size (wr.alloc (.cells #[.int .i64 y.op, .int .i64 y.a, .int .i64 y.b, .int .i64 y.c] 43)) ((wr.alloc (.cells #[.int .i64 y.op, .int .i64 y.a, .int .i64 y.b, .int .i64 y.c] 43)).alloc (.cells shV 9))) := B3
      have HB2 : Hid (Below w1.heap.size w1 ((wr.alloc (.cells #[.int .i64 y.op, .int .i64 y.a, .int .i64 y.b, .int .i64 y.c] 43)).alloc (.cells shV 9))) := by
        have h1 := HS.out.bel.trans (B2.mono HS.out.bel.size)
        exact h1.trans (B3.mono h1.size)
      have HG : Hid (∀ w', Below (wr.alloc (.cells #[.int .i64 y.op, .int .i64 y.a, .int .i64 y.b, .int .i64 y.c] 43)).heap.size (wr.alloc (.cells #[.int .i64 y.op, .int .i64 y.a, .int .i64 y.b, .int .i64 y.c] 43)) w' → w'.cell? ⟨wr.heap.size, 0, none⟩ = some (.int .i64 y.op) ∧ w'.cell? ⟨wr.heap.size, 1, none⟩ = some (.int .i64 y.a) ∧ w'.cell? ⟨wr.heap.size, 2, none⟩ = some (.int .i64 y.b) ∧ w'.cell? ⟨wr.heap.size, 3, none⟩ = some (.int .i64 y.c)) := by
        intro w' h
        have h' := cells_below h
        exact ⟨h' _ _ (insB_cell _ _ _ _ wr 0 _ rfl), h' _ _ (insB_cell _ _ _ _ wr 1 _ rfl), h' _ _ (insB_cell _ _ _ _ wr 2 _ rfl), h' _ _ (insB_cell _ _ _ _ wr 3 _ rfl)⟩
      have ks := refshape_any y.op (wr.alloc (.cells #[.int .i64 y.op, .int .i64 y.a, .int .i64 y.b, .int .i64 y.c] 43))
      have HV : Hid (cx.all (rinsB F fs.length) = (rinsB F fs.length y && (cx.drop (k + 1)).all (rinsB F fs.length))) := HV0.out
      clear B2 B3 HV0
      rcases shape_cases y.op with hsh | ⟨l0, l1, l2, hsh, m0, m1, m2, n0, n1, n2⟩
      · have HFI : Hid (rinsB F fs.length y = false) := by
          show _ = _
          unfold rinsB fitsB
          rw [hsh]
          rfl
        rw [hsh] at ks
        have hne : (bs []).toList = [] := bs_toList []
        clear hsh
        generalize bs [] = s at *
        obtain ⟨op, ia, ib, ic⟩ := y
        simp only at *
        generalize rinsB F fs.length ⟨op, ia, ib, ic⟩ = RB at *
        have HV2 : Hid (D = false) := by
          show _ = _
          rw [HQ.out, HV.out, HFI.out]
          rfl
        clear HG HBI
        generalize (wr.alloc (.cells #[.int .i64 op, .int .i64 ia, .int .i64 ib, .int .i64 ic] 43)).alloc (.cells shV 9) = w2 at *
        go_wp2_with fail
        refine ks.mono ?_
        rintro e w' ⟨rfl, rfl⟩
        clear ks g0 g1 g2 g3 m4
        go_wp2_with fail
        go_ret
        rw [HV2.out]
        exact ⟨rfl, HD.out _ HB2.out⟩
      · rw [hsh] at ks
        have HFI : Hid (rinsB F fs.length y = (meansB F y l0.toNat y.a fs.length && meansB F y l1.toNat y.b fs.length && meansB F y l2.toNat y.c fs.length && (decide (y.op ≠ 60) || F.gen))) := by
          show _ = _
          unfold rinsB fitsB
          rw [hsh]
        have HM0 : Hid (∀ w', F.ok w' → Calls Tryd.prog 36 #[.agg #[.slice ad fs.length cap], .agg #[.string nm, .int .i64 pa, .int .i64 re, .bool ge, .slice (some ⟨b, off, none⟩) cx.length c1, .slice ka kx.length kc, .slice pa' px.length pc, .slice ha hx.length hc], insV y, .int .u8 l0.toNat, .int .i64 y.a] w' fun e w'' => e = .returned (.bool (meansB F y l0.toNat y.a fs.length)) ∧ Below w'.heap.size w' w'') := fun w' h => HOP.out y _ _ w' h m0 (fun e => absurd e n0)
        have HM1 : Hid (∀ w', F.ok w' → Calls Tryd.prog 36 #[.agg #[.slice ad fs.length cap], .agg #[.string nm, .int .i64 pa, .int .i64 re, .bool ge, .slice (some ⟨b, off, none⟩) cx.length c1, .slice ka kx.length kc, .slice pa' px.length pc, .slice ha hx.length hc], insV y, .int .u8 l1.toNat, .int .i64 y.b] w' fun e w'' => e = .returned (.bool (meansB F y l1.toNat y.b fs.length)) ∧ Below w'.heap.size w' w'') := fun w' h => HOP.out y _ _ w' h m1 (fun e => absurd e n1)
        have HM2 : Hid (meansB F y l1.toNat y.b fs.length = true → ∀ w', F.ok w' → Calls Tryd.prog 36 #[.agg #[.slice ad fs.length cap], .agg #[.string nm, .int .i64 pa, .int .i64 re, .bool ge, .slice (some ⟨b, off, none⟩) cx.length c1, .slice ka kx.length kc, .slice pa' px.length pc, .slice ha hx.length hc], insV y, .int .u8 l2.toNat, .int .i64 y.c] w' fun e w'' => e = .returned (.bool (meansB F y l2.toNat y.c fs.length)) ∧ Below w'.heap.size w' w'') := fun hb w' h => HOP.out y _ _ w' h m2 (fun e => by rw [n2 e] at hb; exact HWB.out y hb)
        have hx0 : ∀ w, (Instr.index 9 (.string (bs [l0, l1, l2])) (.int .i64 0)).run Tryd.prog w = .ok (.int .u8 l0.toNat) w := fun w => idx_str _ 0 l0 w rfl
        have hx1 : ∀ w, (Instr.index 9 (.string (bs [l0, l1, l2])) (.int .i64 1)).run Tryd.prog w = .ok (.int .u8 l1.toNat) w := fun w => idx_str _ 1 l1 w rfl
        have hx2 : ∀ w, (Instr.index 9 (.string (bs [l0, l1, l2])) (.int .i64 2)).run Tryd.prog w = .ok (.int .u8 l2.toNat) w := fun w => idx_str _ 2 l2 w rfl
        have hne : (bs [l0, l1, l2]).toList.isEmpty = false := by rw [bs_toList]; rfl
        clear hsh m0 m1 m2 n0 n1 n2 HOP HWB
        generalize meansB F y l0.toNat y.a fs.length = M0 at *
        generalize meansB F y l1.toNat y.b fs.length = M1 at *
        generalize meansB F y l2.toNat y.c fs.length = M2 at *
        generalize (l0.toNat : Int) = L0 at *
        generalize (l1.toNat : Int) = L1 at *
        generalize (l2.toNat : Int) = L2 at *
        generalize bs [l0, l1, l2] = s at *
        obtain ⟨op, ia, ib, ic⟩ := y
        unfold insV at *
        simp only at *
        generalize rinsB F fs.length ⟨op, ia, ib, ic⟩ = RB at *
        rw [HC.out.2.2.2.2] at HFI
        by_cases h60 : op = 60
        · subst h60
          cases ge with
          | false =>
            have HV2 : Hid (D = false) := by
              show _ = _
              rw [HQ.out, HV.out, HFI.out]
              cases M0 <;> cases M1 <;> cases M2 <;> rfl
            obtain ⟨i0, _⟩ := HG.out _ HBI.out
            have q3 := (HF.out _ HB2.out).2.2 3 _ rfl
            clear HG HBI HM0 HM1 HM2
            generalize (wr.alloc (.cells #[.int .i64 60, .int .i64 ia, .int .i64 ib, .int .i64 ic] 43)).alloc (.cells shV 9) = w2 at *
            go_wp2_with fail
            refine ks.mono ?_
            rintro e w' ⟨rfl, rfl⟩
            clear ks g0 g1 g2 g3 m4
            go_wp2_with fail
            go_ret
            rw [HV2.out]
            exact ⟨rfl, HD.out _ HB2.out⟩
          | true =>
            have HFJ : Hid (RB = (M0 && M1 && M2 && true)) := HFI.out
            clear HFI
            have HFI := HFJ
            obtain ⟨i0, _⟩ := HG.out _ HBI.out
            have q3 := (HF.out _ HB2.out).2.2 3 _ rfl
            generalize hwb : wr.alloc (.cells #[.int .i64 60, .int .i64 ia, .int .i64 ib, .int .i64 ic] 43) = wb at HBI HG
            have HWB2 : Hid (wr.alloc (.cells #[.int .i64 60, .int .i64 ia, .int .i64 ib, .int .i64 ic] 43) = wb) := hwb
            rw [← hwb] at HBI
            clear hwb
            go_wp2_with fail
            refine ks.mono ?_
            rintro e w' ⟨rfl, rfl⟩
            have HBI2 : Hid (Below wb.heap.size wb ((wr.alloc (.cells #[.int .i64 60, .int .i64 ia, .int .i64 ib, .int .i64 ic] 43)).alloc (.cells shV 9))) := by
              have h := HBI.out
              show Below wb.heap.size wb _
              rw [HWB2.out] at h ⊢
              exact h
            clear HBI HWB2
            have HBI := HBI2
            generalize (wr.alloc (.cells #[.int .i64 60, .int .i64 ia, .int .i64 ib, .int .i64 ic] 43)).alloc (.cells shV 9) = w2 at *
            generalize wr.heap.size = gi at *
            clear ks g0 g1 g2 g3 m4
            go_wp2_with fail
            clear i0 q3
            obtain ⟨ok5, pp, fc5⟩ := HF.out w2 HB2.out
            obtain ⟨i0, i1, i2, i3⟩ := HG.out w2 HBI.out
            have q0 := fc5 0 _ rfl
            have q1 := fc5 1 _ rfl
            have q2 := fc5 2 _ rfl
            have q3 := fc5 3 _ rfl
            have q4 := fc5 4 _ rfl
            have q5 := fc5 5 _ rfl
            have q6 := fc5 6 _ rfl
            have q7 := fc5 7 _ rfl
            have cm0 : ∀ w', w' = w2.drew → Calls Tryd.prog 36 #[.agg #[.slice ad fs.length cap], .agg #[.string nm, .int .i64 pa, .int .i64 re, .bool true, .slice (some ⟨b, off, none⟩) cx.length c1, .slice ka kx.length kc, .slice pa' px.length pc, .slice ha hx.length hc], .agg #[.int .i64 60, .int .i64 ia, .int .i64 ib, .int .i64 ic], .int .u8 L0, .int .i64 ia] w' fun e w'' => e = .returned (.bool M0) ∧ Below w2.heap.size w2 w'' ∧ ∀ a u, w2.cell? a = some u → w''.cell? a = some u := by
              intro w' e
              subst e
              refine (HM0.out w2.drew (ok5.kept (fun a u h => h))).mono ?_
              rintro e w'' ⟨rfl, hb⟩
              have hb' : Below w2.heap.size w2 w'' := (Below.refl w2.heap.size w2).drew.trans hb
              exact ⟨rfl, hb', cells_below hb'⟩
            clear ok5 fc5
            go_wp2_with fail
            go_region_held_law (fun w' => w'.cell? ⟨w.heap.size, 0, none⟩ = some (.slice ad fs.length cap) ∧ w'.cell? ⟨w.heap.size + 1, 0, none⟩ = some (.string nm) ∧ w'.cell? ⟨w.heap.size + 1, 1, none⟩ = some (.int .i64 pa) ∧ w'.cell? ⟨w.heap.size + 1, 2, none⟩ = some (.int .i64 re) ∧ w'.cell? ⟨w.heap.size + 1, 3, none⟩ = some (.bool true) ∧ w'.cell? ⟨w.heap.size + 1, 4, none⟩ = some (.slice (some ⟨b, off, none⟩) cx.length c1) ∧ w'.cell? ⟨w.heap.size + 1, 5, none⟩ = some (.slice ka kx.length kc) ∧ w'.cell? ⟨w.heap.size + 1, 6, none⟩ = some (.slice pa' px.length pc) ∧ w'.cell? ⟨w.heap.size + 1, 7, none⟩ = some (.slice ha hx.length hc) ∧ w'.cell? ⟨gi, 0, none⟩ = some (.int .i64 60) ∧ w'.cell? ⟨gi, 1, none⟩ = some (.int .i64 ia) ∧ w'.cell? ⟨gi, 2, none⟩ = some (.int .i64 ib) ∧ w'.cell? ⟨gi, 3, none⟩ = some (.int .i64 ic)) (first | go_keep | exact ⟨hk5 _ _ pp, hk5 _ _ q0, hk5 _ _ q1, hk5 _ _ q2, hk5 _ _ q3, hk5 _ _ q4, hk5 _ _ q5, hk5 _ _ q6, hk5 _ _ q7, hk5 _ _ i0, hk5 _ _ i1, hk5 _ _ i2, hk5 _ _ i3⟩) ((go_at_call 36; refine (cm0 _ rfl).mono ?_; rintro e w5 ⟨rfl, hb5, hk5⟩))
            have HB5 : Hid (Below w1.heap.size w1 w5) := HB2.out.trans (hb5.mono HB2.out.size)
            have HBJ : Hid (Below wb.heap.size wb w5) := HBI.out.trans (hb5.mono HBI.out.size)
            clear pp q0 q1 q2 q3 q4 q5 q6 q7 i0 i1 i2 i3
            clear hb5 hk5 cm0 HBI
            have HBI := HBJ
            generalize w5 = w4 at *
            obtain ⟨ok5, pp, fc5⟩ := HF.out w4 HB5.out
            obtain ⟨i0, i1, i2, i3⟩ := HG.out w4 HBI.out
            have q0 := fc5 0 _ rfl
            have q1 := fc5 1 _ rfl
            have q2 := fc5 2 _ rfl
            have q3 := fc5 3 _ rfl
            have q4 := fc5 4 _ rfl
            have q5 := fc5 5 _ rfl
            have q6 := fc5 6 _ rfl
            have q7 := fc5 7 _ rfl
            have cm1 : ∀ w', w' = w4.drew → Calls Tryd.prog 36 #[.agg #[.slice ad fs.length cap], .agg #[.string nm, .int .i64 pa, .int .i64 re, .bool true, .slice (some ⟨b, off, none⟩) cx.length c1, .slice ka kx.length kc, .slice pa' px.length pc, .slice ha hx.length hc], .agg #[.int .i64 60, .int .i64 ia, .int .i64 ib, .int .i64 ic], .int .u8 L1, .int .i64 ib] w' fun e w'' => e = .returned (.bool M1) ∧ Below w4.heap.size w4 w'' ∧ ∀ a u, w4.cell? a = some u → w''.cell? a = some u := by
              intro w' e
              subst e
              refine (HM1.out w4.drew (ok5.kept (fun a u h => h))).mono ?_
              rintro e w'' ⟨rfl, hb⟩
              have hb' : Below w4.heap.size w4 w'' := (Below.refl w4.heap.size w4).drew.trans hb
              exact ⟨rfl, hb', cells_below hb'⟩
            clear ok5 fc5
            go_wp2_with fail
            go_region_held_law (fun w' => w'.cell? ⟨w.heap.size, 0, none⟩ = some (.slice ad fs.length cap) ∧ w'.cell? ⟨w.heap.size + 1, 0, none⟩ = some (.string nm) ∧ w'.cell? ⟨w.heap.size + 1, 1, none⟩ = some (.int .i64 pa) ∧ w'.cell? ⟨w.heap.size + 1, 2, none⟩ = some (.int .i64 re) ∧ w'.cell? ⟨w.heap.size + 1, 3, none⟩ = some (.bool true) ∧ w'.cell? ⟨w.heap.size + 1, 4, none⟩ = some (.slice (some ⟨b, off, none⟩) cx.length c1) ∧ w'.cell? ⟨w.heap.size + 1, 5, none⟩ = some (.slice ka kx.length kc) ∧ w'.cell? ⟨w.heap.size + 1, 6, none⟩ = some (.slice pa' px.length pc) ∧ w'.cell? ⟨w.heap.size + 1, 7, none⟩ = some (.slice ha hx.length hc) ∧ w'.cell? ⟨gi, 0, none⟩ = some (.int .i64 60) ∧ w'.cell? ⟨gi, 1, none⟩ = some (.int .i64 ia) ∧ w'.cell? ⟨gi, 2, none⟩ = some (.int .i64 ib) ∧ w'.cell? ⟨gi, 3, none⟩ = some (.int .i64 ic)) (first | go_keep | exact ⟨hk5 _ _ pp, hk5 _ _ q0, hk5 _ _ q1, hk5 _ _ q2, hk5 _ _ q3, hk5 _ _ q4, hk5 _ _ q5, hk5 _ _ q6, hk5 _ _ q7, hk5 _ _ i0, hk5 _ _ i1, hk5 _ _ i2, hk5 _ _ i3⟩) ((go_at_call 36; refine (cm1 _ rfl).mono ?_; rintro e w5 ⟨rfl, hb5, hk5⟩))
            have HB6 : Hid (Below w1.heap.size w1 w5) := HB5.out.trans (hb5.mono HB5.out.size)
            have HBK : Hid (Below wb.heap.size wb w5) := HBI.out.trans (hb5.mono HBI.out.size)
            clear pp q0 q1 q2 q3 q4 q5 q6 q7 i0 i1 i2 i3
            clear hb5 hk5 cm1 HBI HBJ
            have HBI := HBK
            generalize w5 = w6 at *
            cases M0 with
            | false =>
              have HV2 : Hid (D = false) := by
                show _ = _
                rw [HQ.out, HV.out, HFI.out]
                rfl
              go_wp2_with fail
              go_ret
              rw [HV2.out]
              exact ⟨rfl, HD.out _ HB6.out⟩
            | true =>
              cases M1 with
              | false =>
                have HV2 : Hid (D = false) := by
                  show _ = _
                  rw [HQ.out, HV.out, HFI.out]
                  rfl
                go_wp2_with fail
                go_ret
                rw [HV2.out]
                exact ⟨rfl, HD.out _ HB6.out⟩
              | true =>
                obtain ⟨ok5, pp, fc5⟩ := HF.out w6 HB6.out
                obtain ⟨i0, i1, i2, i3⟩ := HG.out w6 HBI.out
                have q0 := fc5 0 _ rfl
                have q1 := fc5 1 _ rfl
                have q2 := fc5 2 _ rfl
                have q3 := fc5 3 _ rfl
                have q4 := fc5 4 _ rfl
                have q5 := fc5 5 _ rfl
                have q6 := fc5 6 _ rfl
                have q7 := fc5 7 _ rfl
                have cm2 : ∀ w', w' = w6.drew → Calls Tryd.prog 36 #[.agg #[.slice ad fs.length cap], .agg #[.string nm, .int .i64 pa, .int .i64 re, .bool true, .slice (some ⟨b, off, none⟩) cx.length c1, .slice ka kx.length kc, .slice pa' px.length pc, .slice ha hx.length hc], .agg #[.int .i64 60, .int .i64 ia, .int .i64 ib, .int .i64 ic], .int .u8 L2, .int .i64 ic] w' fun e w'' => e = .returned (.bool M2) ∧ Below w6.heap.size w6 w'' ∧ ∀ a u, w6.cell? a = some u → w''.cell? a = some u := by
                  intro w' e
                  subst e
                  refine (HM2.out (by first | rfl | trivial) w6.drew (ok5.kept (fun a u h => h))).mono ?_
                  rintro e w'' ⟨rfl, hb⟩
                  have hb' : Below w6.heap.size w6 w'' := (Below.refl w6.heap.size w6).drew.trans hb
                  exact ⟨rfl, hb', cells_below hb'⟩
                clear ok5 fc5
                go_wp2_with fail
                go_region_held_law (fun w' => w'.cell? ⟨w.heap.size, 0, none⟩ = some (.slice ad fs.length cap) ∧ w'.cell? ⟨w.heap.size + 1, 0, none⟩ = some (.string nm) ∧ w'.cell? ⟨w.heap.size + 1, 1, none⟩ = some (.int .i64 pa) ∧ w'.cell? ⟨w.heap.size + 1, 2, none⟩ = some (.int .i64 re) ∧ w'.cell? ⟨w.heap.size + 1, 3, none⟩ = some (.bool true) ∧ w'.cell? ⟨w.heap.size + 1, 4, none⟩ = some (.slice (some ⟨b, off, none⟩) cx.length c1) ∧ w'.cell? ⟨w.heap.size + 1, 5, none⟩ = some (.slice ka kx.length kc) ∧ w'.cell? ⟨w.heap.size + 1, 6, none⟩ = some (.slice pa' px.length pc) ∧ w'.cell? ⟨w.heap.size + 1, 7, none⟩ = some (.slice ha hx.length hc) ∧ w'.cell? ⟨gi, 0, none⟩ = some (.int .i64 60) ∧ w'.cell? ⟨gi, 1, none⟩ = some (.int .i64 ia) ∧ w'.cell? ⟨gi, 2, none⟩ = some (.int .i64 ib) ∧ w'.cell? ⟨gi, 3, none⟩ = some (.int .i64 ic)) (first | go_keep | exact ⟨hk5 _ _ pp, hk5 _ _ q0, hk5 _ _ q1, hk5 _ _ q2, hk5 _ _ q3, hk5 _ _ q4, hk5 _ _ q5, hk5 _ _ q6, hk5 _ _ q7, hk5 _ _ i0, hk5 _ _ i1, hk5 _ _ i2, hk5 _ _ i3⟩) ((go_at_call 36; refine (cm2 _ rfl).mono ?_; rintro e w5 ⟨rfl, hb5, hk5⟩))
                have HB7 : Hid (Below w1.heap.size w1 w5) := HB6.out.trans (hb5.mono HB6.out.size)
                clear pp q0 q1 q2 q3 q4 q5 q6 q7 i0 i1 i2 i3
                clear hb5 hk5 cm2
                cases M2 with
                | false =>
                  have HV2 : Hid (D = false) := by
                    show _ = _
                    rw [HQ.out, HV.out, HFI.out]
                    rfl
                  go_wp2_with fail
                  go_ret
                  rw [HV2.out]
                  exact ⟨rfl, HD.out _ HB7.out⟩
                | true =>
                  have HP : Hid (F1At F fs.length w1 w5 (k + 1)) := ⟨by rw [HC.out.1]; exact c, by rw [HC.out.1, HV.out, HFI.out]; rfl, HB7.out⟩
                  go_wp2_with fail
                  refine ⟨⟨k + 1, HP.out, by go_num⟩, ?_⟩
                  simp [intOf]
                  omega
        · have HFJ : Hid (RB = (M0 && M1 && M2 && true)) := by
            show _ = _
            rw [HFI.out, decide_eq_true h60]
            rfl
          have e60 : (op == 60) = false := by simpa using h60
          clear HFI
          have HFI := HFJ
          obtain ⟨i0, _⟩ := HG.out _ HBI.out
          have q3 := (HF.out _ HB2.out).2.2 3 _ rfl
          generalize hwb : wr.alloc (.cells #[.int .i64 op, .int .i64 ia, .int .i64 ib, .int .i64 ic] 43) = wb at HBI HG
          have HWB2 : Hid (wr.alloc (.cells #[.int .i64 op, .int .i64 ia, .int .i64 ib, .int .i64 ic] 43) = wb) := hwb
          rw [← hwb] at HBI
          clear hwb
          go_wp2_with fail
          refine ks.mono ?_
          rintro e w' ⟨rfl, rfl⟩
          have HBI2 : Hid (Below wb.heap.size wb ((wr.alloc (.cells #[.int .i64 op, .int .i64 ia, .int .i64 ib, .int .i64 ic] 43)).alloc (.cells shV 9))) := by
            have h := HBI.out
            show Below wb.heap.size wb _
            rw [HWB2.out] at h ⊢
            exact h
          clear HBI HWB2
          have HBI := HBI2
          generalize (wr.alloc (.cells #[.int .i64 op, .int .i64 ia, .int .i64 ib, .int .i64 ic] 43)).alloc (.cells shV 9) = w2 at *
          generalize wr.heap.size = gi at *
          clear ks g0 g1 g2 g3 m4
          go_wp2_with fail
          clear i0 q3
          obtain ⟨ok5, pp, fc5⟩ := HF.out w2 HB2.out
          obtain ⟨i0, i1, i2, i3⟩ := HG.out w2 HBI.out
          have q0 := fc5 0 _ rfl
          have q1 := fc5 1 _ rfl
          have q2 := fc5 2 _ rfl
          have q3 := fc5 3 _ rfl
          have q4 := fc5 4 _ rfl
          have q5 := fc5 5 _ rfl
          have q6 := fc5 6 _ rfl
          have q7 := fc5 7 _ rfl
          have cm0 : ∀ w', w' = w2.drew → Calls Tryd.prog 36 #[.agg #[.slice ad fs.length cap], .agg #[.string nm, .int .i64 pa, .int .i64 re, .bool ge, .slice (some ⟨b, off, none⟩) cx.length c1, .slice ka kx.length kc, .slice pa' px.length pc, .slice ha hx.length hc], .agg #[.int .i64 op, .int .i64 ia, .int .i64 ib, .int .i64 ic], .int .u8 L0, .int .i64 ia] w' fun e w'' => e = .returned (.bool M0) ∧ Below w2.heap.size w2 w'' ∧ ∀ a u, w2.cell? a = some u → w''.cell? a = some u := by
            intro w' e
            subst e
            refine (HM0.out w2.drew (ok5.kept (fun a u h => h))).mono ?_
            rintro e w'' ⟨rfl, hb⟩
            have hb' : Below w2.heap.size w2 w'' := (Below.refl w2.heap.size w2).drew.trans hb
            exact ⟨rfl, hb', cells_below hb'⟩
          clear ok5 fc5
          go_wp2_with fail
          go_region_held_law (fun w' => w'.cell? ⟨w.heap.size, 0, none⟩ = some (.slice ad fs.length cap) ∧ w'.cell? ⟨w.heap.size + 1, 0, none⟩ = some (.string nm) ∧ w'.cell? ⟨w.heap.size + 1, 1, none⟩ = some (.int .i64 pa) ∧ w'.cell? ⟨w.heap.size + 1, 2, none⟩ = some (.int .i64 re) ∧ w'.cell? ⟨w.heap.size + 1, 3, none⟩ = some (.bool ge) ∧ w'.cell? ⟨w.heap.size + 1, 4, none⟩ = some (.slice (some ⟨b, off, none⟩) cx.length c1) ∧ w'.cell? ⟨w.heap.size + 1, 5, none⟩ = some (.slice ka kx.length kc) ∧ w'.cell? ⟨w.heap.size + 1, 6, none⟩ = some (.slice pa' px.length pc) ∧ w'.cell? ⟨w.heap.size + 1, 7, none⟩ = some (.slice ha hx.length hc) ∧ w'.cell? ⟨gi, 0, none⟩ = some (.int .i64 op) ∧ w'.cell? ⟨gi, 1, none⟩ = some (.int .i64 ia) ∧ w'.cell? ⟨gi, 2, none⟩ = some (.int .i64 ib) ∧ w'.cell? ⟨gi, 3, none⟩ = some (.int .i64 ic)) (first | go_keep | exact ⟨hk5 _ _ pp, hk5 _ _ q0, hk5 _ _ q1, hk5 _ _ q2, hk5 _ _ q3, hk5 _ _ q4, hk5 _ _ q5, hk5 _ _ q6, hk5 _ _ q7, hk5 _ _ i0, hk5 _ _ i1, hk5 _ _ i2, hk5 _ _ i3⟩) ((go_at_call 36; refine (cm0 _ rfl).mono ?_; rintro e w5 ⟨rfl, hb5, hk5⟩))
          have HB5 : Hid (Below w1.heap.size w1 w5) := HB2.out.trans (hb5.mono HB2.out.size)
          have HBJ : Hid (Below wb.heap.size wb w5) := HBI.out.trans (hb5.mono HBI.out.size)
          clear pp q0 q1 q2 q3 q4 q5 q6 q7 i0 i1 i2 i3
          clear hb5 hk5 cm0 HBI
          have HBI := HBJ
          generalize w5 = w4 at *
          obtain ⟨ok5, pp, fc5⟩ := HF.out w4 HB5.out
          obtain ⟨i0, i1, i2, i3⟩ := HG.out w4 HBI.out
          have q0 := fc5 0 _ rfl
          have q1 := fc5 1 _ rfl
          have q2 := fc5 2 _ rfl
          have q3 := fc5 3 _ rfl
          have q4 := fc5 4 _ rfl
          have q5 := fc5 5 _ rfl
          have q6 := fc5 6 _ rfl
          have q7 := fc5 7 _ rfl
          have cm1 : ∀ w', w' = w4.drew → Calls Tryd.prog 36 #[.agg #[.slice ad fs.length cap], .agg #[.string nm, .int .i64 pa, .int .i64 re, .bool ge, .slice (some ⟨b, off, none⟩) cx.length c1, .slice ka kx.length kc, .slice pa' px.length pc, .slice ha hx.length hc], .agg #[.int .i64 op, .int .i64 ia, .int .i64 ib, .int .i64 ic], .int .u8 L1, .int .i64 ib] w' fun e w'' => e = .returned (.bool M1) ∧ Below w4.heap.size w4 w'' ∧ ∀ a u, w4.cell? a = some u → w''.cell? a = some u := by
            intro w' e
            subst e
            refine (HM1.out w4.drew (ok5.kept (fun a u h => h))).mono ?_
            rintro e w'' ⟨rfl, hb⟩
            have hb' : Below w4.heap.size w4 w'' := (Below.refl w4.heap.size w4).drew.trans hb
            exact ⟨rfl, hb', cells_below hb'⟩
          clear ok5 fc5
          go_wp2_with fail
          go_region_held_law (fun w' => w'.cell? ⟨w.heap.size, 0, none⟩ = some (.slice ad fs.length cap) ∧ w'.cell? ⟨w.heap.size + 1, 0, none⟩ = some (.string nm) ∧ w'.cell? ⟨w.heap.size + 1, 1, none⟩ = some (.int .i64 pa) ∧ w'.cell? ⟨w.heap.size + 1, 2, none⟩ = some (.int .i64 re) ∧ w'.cell? ⟨w.heap.size + 1, 3, none⟩ = some (.bool ge) ∧ w'.cell? ⟨w.heap.size + 1, 4, none⟩ = some (.slice (some ⟨b, off, none⟩) cx.length c1) ∧ w'.cell? ⟨w.heap.size + 1, 5, none⟩ = some (.slice ka kx.length kc) ∧ w'.cell? ⟨w.heap.size + 1, 6, none⟩ = some (.slice pa' px.length pc) ∧ w'.cell? ⟨w.heap.size + 1, 7, none⟩ = some (.slice ha hx.length hc) ∧ w'.cell? ⟨gi, 0, none⟩ = some (.int .i64 op) ∧ w'.cell? ⟨gi, 1, none⟩ = some (.int .i64 ia) ∧ w'.cell? ⟨gi, 2, none⟩ = some (.int .i64 ib) ∧ w'.cell? ⟨gi, 3, none⟩ = some (.int .i64 ic)) (first | go_keep | exact ⟨hk5 _ _ pp, hk5 _ _ q0, hk5 _ _ q1, hk5 _ _ q2, hk5 _ _ q3, hk5 _ _ q4, hk5 _ _ q5, hk5 _ _ q6, hk5 _ _ q7, hk5 _ _ i0, hk5 _ _ i1, hk5 _ _ i2, hk5 _ _ i3⟩) ((go_at_call 36; refine (cm1 _ rfl).mono ?_; rintro e w5 ⟨rfl, hb5, hk5⟩))
          have HB6 : Hid (Below w1.heap.size w1 w5) := HB5.out.trans (hb5.mono HB5.out.size)
          have HBK : Hid (Below wb.heap.size wb w5) := HBI.out.trans (hb5.mono HBI.out.size)
          clear pp q0 q1 q2 q3 q4 q5 q6 q7 i0 i1 i2 i3
          clear hb5 hk5 cm1 HBI HBJ
          have HBI := HBK
          generalize w5 = w6 at *
          cases M0 with
          | false =>
            have HV2 : Hid (D = false) := by
              show _ = _
              rw [HQ.out, HV.out, HFI.out]
              rfl
            go_wp2_with fail
            go_ret
            rw [HV2.out]
            exact ⟨rfl, HD.out _ HB6.out⟩
          | true =>
            cases M1 with
            | false =>
              have HV2 : Hid (D = false) := by
                show _ = _
                rw [HQ.out, HV.out, HFI.out]
                rfl
              go_wp2_with fail
              go_ret
              rw [HV2.out]
              exact ⟨rfl, HD.out _ HB6.out⟩
            | true =>
              obtain ⟨ok5, pp, fc5⟩ := HF.out w6 HB6.out
              obtain ⟨i0, i1, i2, i3⟩ := HG.out w6 HBI.out
              have q0 := fc5 0 _ rfl
              have q1 := fc5 1 _ rfl
              have q2 := fc5 2 _ rfl
              have q3 := fc5 3 _ rfl
              have q4 := fc5 4 _ rfl
              have q5 := fc5 5 _ rfl
              have q6 := fc5 6 _ rfl
              have q7 := fc5 7 _ rfl
              have cm2 : ∀ w', w' = w6.drew → Calls Tryd.prog 36 #[.agg #[.slice ad fs.length cap], .agg #[.string nm, .int .i64 pa, .int .i64 re, .bool ge, .slice (some ⟨b, off, none⟩) cx.length c1, .slice ka kx.length kc, .slice pa' px.length pc, .slice ha hx.length hc], .agg #[.int .i64 op, .int .i64 ia, .int .i64 ib, .int .i64 ic], .int .u8 L2, .int .i64 ic] w' fun e w'' => e = .returned (.bool M2) ∧ Below w6.heap.size w6 w'' ∧ ∀ a u, w6.cell? a = some u → w''.cell? a = some u := by
                intro w' e
                subst e
                refine (HM2.out (by first | rfl | trivial) w6.drew (ok5.kept (fun a u h => h))).mono ?_
                rintro e w'' ⟨rfl, hb⟩
                have hb' : Below w6.heap.size w6 w'' := (Below.refl w6.heap.size w6).drew.trans hb
                exact ⟨rfl, hb', cells_below hb'⟩
              clear ok5 fc5
              go_wp2_with fail
              go_region_held_law (fun w' => w'.cell? ⟨w.heap.size, 0, none⟩ = some (.slice ad fs.length cap) ∧ w'.cell? ⟨w.heap.size + 1, 0, none⟩ = some (.string nm) ∧ w'.cell? ⟨w.heap.size + 1, 1, none⟩ = some (.int .i64 pa) ∧ w'.cell? ⟨w.heap.size + 1, 2, none⟩ = some (.int .i64 re) ∧ w'.cell? ⟨w.heap.size + 1, 3, none⟩ = some (.bool ge) ∧ w'.cell? ⟨w.heap.size + 1, 4, none⟩ = some (.slice (some ⟨b, off, none⟩) cx.length c1) ∧ w'.cell? ⟨w.heap.size + 1, 5, none⟩ = some (.slice ka kx.length kc) ∧ w'.cell? ⟨w.heap.size + 1, 6, none⟩ = some (.slice pa' px.length pc) ∧ w'.cell? ⟨w.heap.size + 1, 7, none⟩ = some (.slice ha hx.length hc) ∧ w'.cell? ⟨gi, 0, none⟩ = some (.int .i64 op) ∧ w'.cell? ⟨gi, 1, none⟩ = some (.int .i64 ia) ∧ w'.cell? ⟨gi, 2, none⟩ = some (.int .i64 ib) ∧ w'.cell? ⟨gi, 3, none⟩ = some (.int .i64 ic)) (first | go_keep | exact ⟨hk5 _ _ pp, hk5 _ _ q0, hk5 _ _ q1, hk5 _ _ q2, hk5 _ _ q3, hk5 _ _ q4, hk5 _ _ q5, hk5 _ _ q6, hk5 _ _ q7, hk5 _ _ i0, hk5 _ _ i1, hk5 _ _ i2, hk5 _ _ i3⟩) ((go_at_call 36; refine (cm2 _ rfl).mono ?_; rintro e w5 ⟨rfl, hb5, hk5⟩))
              have HB7 : Hid (Below w1.heap.size w1 w5) := HB6.out.trans (hb5.mono HB6.out.size)
              clear pp q0 q1 q2 q3 q4 q5 q6 q7 i0 i1 i2 i3
              clear hb5 hk5 cm2
              cases M2 with
              | false =>
                have HV2 : Hid (D = false) := by
                  show _ = _
                  rw [HQ.out, HV.out, HFI.out]
                  rfl
                go_wp2_with fail
                go_ret
                rw [HV2.out]
                exact ⟨rfl, HD.out _ HB7.out⟩
              | true =>
                have HP : Hid (F1At F fs.length w1 w5 (k + 1)) := ⟨by rw [HC.out.1]; exact c, by rw [HC.out.1, HV.out, HFI.out]; rfl, HB7.out⟩
                go_wp2_with fail
                refine ⟨⟨k + 1, HP.out, by go_num⟩, ?_⟩
                simp [intOf]
                omega
    · have HA : Hid (D = (!goesB (lastOp F) && hx.all (hndB cx.length))) := by
        show _ = _
        have hv := HS.out.val
        rw [HC.out.1, List.drop_of_length_le c] at hv
        rw [HQ.out, hv]
        rfl
      have HB0 : Hid (Below w1.heap.size w1 wr) := HS.out.bel
      have hdk : decide (k < cx.length) = false := decide_eq_false (by omega)
      clear HS HOP HWB
      go_wp2_with fail
      clear m4
      go_loopw [11] (fun i wr => ∃ k : Nat, F2At F w1 wr k ∧ i = .int .i64 k) (fun i wr => hx.length - (intOf i).toNat)
      case atStart => exact ⟨0, ⟨Nat.zero_le _, rfl, HB0.out⟩, rfl⟩
      case round =>
        clear HB0
        obtain ⟨q, hr, rfl⟩ := hrel
        have HS : Hid (F2At F w1 wr q) := hr
        have qle : q ≤ hx.length := by have := hr.le; rw [HC.out.2.2.1] at this; exact this
        clear hr
        have m7 := (HF.out wr HS.out.bel).2.2 7 _ rfl
        rcases Nat.lt_or_ge q hx.length with c' | c'
        · have hex : ∃ y, F.hnds.xs[q]? = some y := by rw [HC.out.2.2.1]; exact ⟨_, List.getElem?_eq_getElem c'⟩
          obtain ⟨y, hy⟩ := hex
          have HV : Hid (hx.all (hndB cx.length) = (hndB cx.length y && (hx.drop (q + 1)).all (hndB cx.length))) := by
            show _ = _
            have hv := HS.out.val
            rw [HC.out.2.2.1, HC.out.1] at hv
            rw [HC.out.2.2.1] at hy
            rw [hv, List.drop_eq_getElem_cons c', List.all_cons]
            rw [List.getElem?_eq_getElem c'] at hy
            rw [Option.some.inj hy]
          have hcc := (HF.out wr HS.out.bel).1.hnds.cells (by intro e; rw [e] at hy; simp at hy)
          obtain ⟨b, off, had, hcc⟩ := hcc
          rw [HC.out.2.2.2.1] at had
          subst had
          have g0 := hcc q y hy 0 _ rfl
          have g1 := hcc q y hy 1 _ rfl
          have g2 := hcc q y hy 2 _ rfl
          rw [Nat.add_zero] at g0
          clear hcc hy
          obtain ⟨fr, to, tg⟩ := y
          simp only at g0 g1 g2
          have HN : Hid (Below w1.heap.size w1 (wr.alloc (.cells #[.int .i64 fr, .int .i64 to, .int .i64 tg] 49))) := below_new HS.out.bel HS.out.bel.size _
          have m4 := (HF.out _ HN.out).2.2 4 _ rfl
          have HE : Hid (hndB cx.length ⟨fr, to, tg⟩ = (decide (0 ≤ fr) && decide (fr < to) && decide (to ≤ (cx.length : Int)) && (decide (0 ≤ tg) && decide (tg < (cx.length : Int))))) := rfl
          by_cases t0 : fr < 0
          · have HV2 : Hid (D = false) := by
              show _ = _
              rw [HA.out, HV.out, HE.out, decide_eq_false (show ¬ (0 ≤ fr) by omega)]
              simp
            go_wp2_with fail
            go_ret
            rw [HV2.out]
            exact ⟨rfl, HD.out _ HN.out⟩
          by_cases t1 : to ≤ fr
          · have HV2 : Hid (D = false) := by
              show _ = _
              rw [HA.out, HV.out, HE.out, decide_eq_false (show ¬ (fr < to) by omega)]
              simp
            go_wp2_with fail
            go_ret
            rw [HV2.out]
            exact ⟨rfl, HD.out _ HN.out⟩
          by_cases t2 : (cx.length : Int) < to
          · have HV2 : Hid (D = false) := by
              show _ = _
              rw [HA.out, HV.out, HE.out, decide_eq_false (show ¬ (to ≤ (cx.length : Int)) by omega)]
              simp
            go_wp2_with fail
            go_ret
            rw [HV2.out]
            exact ⟨rfl, HD.out _ HN.out⟩
          by_cases t3 : tg < 0
          · have HV2 : Hid (D = false) := by
              show _ = _
              rw [HA.out, HV.out, HE.out, decide_eq_false (show ¬ (0 ≤ tg) by omega)]
              simp
            go_wp2_with fail
            go_ret
            rw [HV2.out]
            exact ⟨rfl, HD.out _ HN.out⟩
          by_cases t4 : (cx.length : Int) ≤ tg
          · have HV2 : Hid (D = false) := by
              show _ = _
              rw [HA.out, HV.out, HE.out, decide_eq_false (show ¬ (tg < (cx.length : Int)) by omega)]
              simp
            go_wp2_with fail
            go_ret
            rw [HV2.out]
            exact ⟨rfl, HD.out _ HN.out⟩
          have HP : Hid (F2At F w1 (wr.alloc (.cells #[.int .i64 fr, .int .i64 to, .int .i64 tg] 49)) (q + 1)) := by
            refine ⟨by rw [HC.out.2.2.1]; exact c', ?_, HN.out⟩
            rw [HC.out.2.2.1, HC.out.1, HV.out, HE.out, decide_eq_true (show 0 ≤ fr by omega), decide_eq_true (show fr < to by omega), decide_eq_true (show to ≤ (cx.length : Int) by omega), decide_eq_true (show 0 ≤ tg by omega), decide_eq_true (show tg < (cx.length : Int) by omega)]
            rfl
          go_wp2_with fail
          refine ⟨⟨q + 1, HP.out, by go_num⟩, ?_⟩
          simp [intOf]
          omega
        · have HV : Hid (hx.all (hndB cx.length) = true) := by
            show _ = _
            have hv := HS.out.val
            rw [HC.out.2.2.1, HC.out.1, List.drop_of_length_le c'] at hv
            rw [hv]
            rfl
          obtain ⟨y, hy, hl⟩ := HLA.out
          have HV2 : Hid (D = !goesB y.op) := by
            show _ = _
            rw [HA.out, HV.out, hl, Bool.and_true]
          have m4 := (HF.out wr HS.out.bel).2.2 4 _ rfl
          have hcc := (HF.out wr HS.out.bel).1.code.cells (by intro e; rw [HC.out.1] at e; rw [e] at hpos; simp at hpos)
          obtain ⟨b, off, had, hcc⟩ := hcc
          rw [HC.out.2.1] at had
          subst had
          have g0 := hcc _ y (by rw [HC.out.1]; exact hy) 0 _ rfl
          rw [Nat.add_zero] at g0
          have ke := ends_any y.op wr
          have hdq : decide (q < hx.length) = false := decide_eq_false (by omega)
          have ecx : ((cx.length : Int) - 1) = ((cx.length - 1 : Nat) : Int) := by omega
          clear hcc hy hl
          obtain ⟨op, ia, ib, ic⟩ := y
          simp only at *
          generalize goesB op = G at *
          go_wp2_with fail
          refine ke.mono ?_
          rintro e w' ⟨rfl, rfl⟩
          clear ke g0 m4 m7
          go_wp2_with fail
          go_ret
          rw [HV2.out]
          exact ⟨rfl, HD.out _ HS.out.bel⟩

theorem function_any (s : Sli Fn) (f : Fn) (w : World) (hf : f.ok w) :
    Calls Tryd.prog 25 #[.agg #[s.val], fnV f] w fun e w' => e = .returned (.bool (functionB s.xs.length f)) ∧ Below w.heap.size w w' := by
  cases h : sizedB f with
  | true =>
    have e : functionB s.xs.length f = (f.code.xs.all (rinsB f s.xs.length) && flowsB f) := by unfold functionB; rw [h, Bool.true_and]
    rw [e]
    exact function_in s f w hf h
  | false =>
    have e : functionB s.xs.length f = false := by unfold functionB; rw [h]; rfl
    rw [e]
    exact function_out s f w h

end Go.Proofs.YtkoamenfbnpdbaaDoor.Cd
