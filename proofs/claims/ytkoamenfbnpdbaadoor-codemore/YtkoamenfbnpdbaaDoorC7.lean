/- The document's Next. -/
import Derived.Test.YtkoamenfbnpdbaaDoorC6
namespace Go.Proofs.YtkoamenfbnpdbaaDoor.Cd
open Go.RowKit
set_option linter.unusedVariables false

theorem putF_len (n : Int) : ∀ (d : Bool) (l : List Int), (putF n d l).length ≤ l.length + (if d then 0 else 1)
  | true, [] => by simp [putF]
  | false, [] => by simp [putF]
  | d, x :: l => by
    rw [putF]
    have h := putF_len n (d || decide (n ≤ x)) l
    have h2 : (if x = n then [] else [x]).length ≤ 1 := by split <;> simp
    cases d with
    | true =>
      simp at h ⊢
      omega
    | false =>
      by_cases c : n ≤ x
      · simp [c] at h ⊢
        omega
      · simp [c] at h ⊢
        omega

/-- put, on a row of the call's own -/
theorem put_own (B : Nat) (w : World) (v : Value) (zs : List Int) (n : Int) (ho : OwnI B w v zs) (hB : B ≤ w.heap.size) (hlen : (zs.length + 1) * 8 ≤ 140737488355328) :
    Calls Tryd.prog 31 #[v, .int .i64 n] w fun e w' => ∃ v', e = .returned v' ∧ OwnI B w' v' (putF n false zs) ∧ Below w.heap.size w w' := by
  obtain ⟨ad, cap, rfl, _, _, hz⟩ := ho.ints
  refine (put_any ad cap zs n w hz hlen).mono ?_
  rintro e w' ⟨v', rfl, h1, h2⟩
  exact ⟨v', rfl, h1.low hB, h2⟩

theorem insB_cell (a b c d : Int) (w : World) (j : Nat) (u : Value) (h : ([.int .i64 a, .int .i64 b, .int .i64 c, .int .i64 d] : List Value)[j]? = some u) : (w.alloc (.cells #[.int .i64 a, .int .i64 b, .int .i64 c, .int .i64 d] 43)).cell? ⟨w.heap.size, j, none⟩ = some u := by
  rw [cell_of_row _ w.heap.size j _ 43 (0, 0) (by show (w.heap.push _)[w.heap.size]? = _; rw [Array.getElem?_push_size])]
  simpa using h

theorem rnext_out (f : Fn) (x : Int) (w : World) (h : x < 0 ∨ (f.code.xs.length : Int) ≤ x) :
    Calls Tryd.prog 16 #[fnV f, .int .i64 x] w fun e w' => ∃ v, e = .returned v ∧ OwnI w.heap.size w' v (nextI f x) ∧ Below w.heap.size w w' := by
  rw [nextI_out f x h]
  obtain ⟨nm, pa, re, ge, ⟨ca, cc, cx⟩, ⟨ka, kc, kx⟩, ⟨pa', pc, px⟩, ⟨ha, hc, hx⟩⟩ := f
  have HB : Hid (Below w.heap.size w (w.alloc (fnB ⟨nm, pa, re, ge, ⟨ca, cc, cx⟩, ⟨ka, kc, kx⟩, ⟨pa', pc, px⟩, ⟨ha, hc, hx⟩⟩))) := (Below.refl _ _).alloc (Nat.le_refl _) _
  unfold fnB Sli.val at HB
  unfold fnV Sli.val
  simp only at h HB ⊢
  rcases h with h | h
  · go_enter Tryd.func16, Tryd.ntmps16
    go_wp2
    go_ret
    exact ⟨_, rfl, OwnI.nil _ _, HB.out⟩
  · by_cases h0 : x < 0
    · go_enter Tryd.func16, Tryd.ntmps16
      go_wp2
      go_ret
      exact ⟨_, rfl, OwnI.nil _ _, HB.out⟩
    · go_enter Tryd.func16, Tryd.ntmps16
      go_wp2
      go_ret
      exact ⟨_, rfl, OwnI.nil _ _, HB.out⟩

set_option maxRecDepth 100000 in
set_option maxHeartbeats 4000000 in
theorem rnext_in (f : Fn) (k : Nat) (y : Ins) (w : World) (hf : f.ok w) (hy : f.code.xs[k]? = some y) :
    Calls Tryd.prog 16 #[fnV f, .int .i64 k] w fun e w' => ∃ v, e = .returned v ∧ OwnI w.heap.size w' v (nextI f k) ∧ Below w.heap.size w w' := by
  rw [nextI_in f k y hy, risen_put]
  have kl : k < f.code.xs.length := by
    rcases Nat.lt_or_ge k f.code.xs.length with c | c
    · exact c
    · rw [List.getElem?_eq_none c] at hy; cases hy
  have hml : f.code.xs.length ≤ maxLen := Nat.le_trans hf.code.len hf.code.cap
  have hmh : f.hnds.xs.length ≤ maxLen := Nat.le_trans hf.hnds.len hf.hnds.cap
  unfold maxLen at hml hmh
  have B0 : Below w.heap.size w (w.alloc (fnB f)) := (Below.refl _ _).alloc (Nat.le_refl _) _
  have hf1 := hf.kept (cells_below B0)
  obtain ⟨b, off, had, hcell⟩ := hf.code.cells (by intro e; rw [e] at hy; simp at hy)
  have HF : Hid (∀ w', Below (w.alloc (fnB f)).heap.size (w.alloc (fnB f)) w' → w'.cell? ⟨w.heap.size, 4, none⟩ = some f.code.val ∧ w'.cell? ⟨w.heap.size, 7, none⟩ = some f.hnds.val ∧ f.hnds.ok hndC 3 w' ∧ ∀ j u, (insC y)[j]? = some u → w'.cell? ⟨b, off + k * 4 + j, none⟩ = some u) := by
    intro w' h
    have h' := cells_below h
    refine ⟨h' _ _ (fnB_cell f w 4 _ rfl), h' _ _ (fnB_cell f w 7 _ rfl), hf1.hnds.kept h', ?_⟩
    intro j u hj
    refine h' _ _ (cells_below B0 _ _ ?_)
    exact hcell k y hy j u hj
  have HD : Hid (∀ w', Below (w.alloc (fnB f)).heap.size (w.alloc (fnB f)) w' → Below w.heap.size w w') := fun w' h => B0.trans (h.mono B0.size)
  have HL : Hid (∀ w' v zs, OwnI (w.alloc (fnB f)).heap.size w' v zs → OwnI w.heap.size w' v zs) := fun w' v zs h => h.low B0.size
  have HR : Hid (Below (w.alloc (fnB f)).heap.size (w.alloc (fnB f)) (w.alloc (fnB f))) := Below.refl _ _
  have ce := ends_any y.op
  clear hf hf1 hcell hy B0
  obtain ⟨op, ia, ib, ic⟩ := y
  unfold fnB at *
  unfold fnV
  unfold Sli.val at *
  obtain ⟨nm, pa, re, ge, ⟨ca, c1, cx⟩, ⟨ka, kc, kx⟩, ⟨pa', pc, px⟩, ⟨ha, hc, hx⟩⟩ := f
  simp only at *
  subst had

  by_cases h57 : op = 57
  · subst h57
    have hJ : jumpI ⟨57, ia, ib, ic⟩ = (ia, true) := by unfold jumpI; simp
    have hG : goesB 57 = false := rfl
    rw [hG] at ce
    have HN : Hid (nextL cx.length hx ⟨57, ia, ib, ic⟩ k = [ia] ++ (if (catchI k hx).2 then [(catchI k hx).1] else [])) := by
      show _ = _
      unfold nextL
      rw [hJ, hG]
      rfl
    generalize nextL cx.length hx ⟨57, ia, ib, ic⟩ k = NL at *
    clear hJ hG
    obtain ⟨m4, m7, mh, mc⟩ := HF.out _ HR.out
    have q0 := mc 0 _ rfl
    have q1 := mc 1 _ rfl
    have q2 := mc 2 _ rfl
    have q3 := mc 3 _ rfl
    rw [Nat.add_zero] at q0
    clear mc mh
    go_enter Tryd.func16, Tryd.ntmps16
    go_wp2_with fail
    refine (ce _).mono ?_
    rintro e w' ⟨rfl, rfl⟩
    clear m4 m7 q0 q1 q2 q3
    have HZ : Hid ((w.alloc (.cells #[.string nm, .int .i64 pa, .int .i64 re, .bool ge, .slice (some ⟨b, off, none⟩) cx.length c1, .slice ka kx.length kc, .slice pa' px.length pc, .slice ha hx.length hc] 36)).heap.size = w.heap.size + 1) := by show (w.heap.push _).size = _; simp
    generalize w.alloc (.cells #[.string nm, .int .i64 pa, .int .i64 re, .bool ge, .slice (some ⟨b, off, none⟩) cx.length c1, .slice ka kx.length kc, .slice pa' px.length pc, .slice ha hx.length hc] 36) = w1 at *
    have HO0 := own_new (OwnI.nil w1.heap.size w1) (.cells #[.int .i64 57, .int .i64 ia, .int .i64 ib, .int .i64 ic] 43)
    have HB0 : Hid (Below w1.heap.size w1 (w1.alloc (.cells #[.int .i64 57, .int .i64 ia, .int .i64 ib, .int .i64 ic] 43))) := below_new HR.out HR.out.size _
    have HW : Hid (∀ w', Below (w1.alloc (.cells #[.int .i64 57, .int .i64 ia, .int .i64 ib, .int .i64 ic] 43)).heap.size (w1.alloc (.cells #[.int .i64 57, .int .i64 ia, .int .i64 ib, .int .i64 ic] 43)) w' → w'.cell? ⟨w1.heap.size, 0, none⟩ = some (.int .i64 57) ∧ w'.cell? ⟨w1.heap.size, 1, none⟩ = some (.int .i64 ia) ∧ w'.cell? ⟨w1.heap.size, 2, none⟩ = some (.int .i64 ib)) := by
      intro w' h
      have h' := cells_below h
      exact ⟨h' _ _ (insB_cell _ _ _ _ w1 0 _ rfl), h' _ _ (insB_cell _ _ _ _ w1 1 _ rfl), h' _ _ (insB_cell _ _ _ _ w1 2 _ rfl)⟩
    have HS : Hid (Below (w1.alloc (.cells #[.int .i64 57, .int .i64 ia, .int .i64 ib, .int .i64 ic] 43)).heap.size (w1.alloc (.cells #[.int .i64 57, .int .i64 ia, .int .i64 ib, .int .i64 ic] 43)) (w1.alloc (.cells #[.int .i64 57, .int .i64 ia, .int .i64 ib, .int .i64 ic] 43))) := Below.refl _ _
    generalize w1.alloc (.cells #[.int .i64 57, .int .i64 ia, .int .i64 ib, .int .i64 ic] 43) = w2 at *
    obtain ⟨m4, m7, mh, mc⟩ := HF.out w2 HB0.out
    obtain ⟨i0, i1, i2⟩ := HW.out w2 HS.out
    rw [HZ.out] at i0 i1 i2
    clear mh mc
    have kp := put_own w1.heap.size w2 (.slice none 0 0) ([]) ia HO0 HB0.out.size (by  simp at * <;> omega)
    go_wp2_with fail
    refine kp.mono ?_
    rintro e w3 ⟨v3, rfl, HO3, hb3⟩
    have HB3 : Hid (Below w1.heap.size w1 w3) := HB0.out.trans (hb3.mono HB0.out.size)
    have HS3 : Hid (Below w2.heap.size w2 w3) := HS.out.trans (hb3.mono HS.out.size)
    clear kp hb3 HO0 m4 m7 i0 i1 i2
    obtain ⟨m4, m7, mh, mc⟩ := HF.out w3 HB3.out
    obtain ⟨i0, i1, i2⟩ := HW.out w3 HS3.out
    rw [HZ.out] at i0 i1 i2
    clear mh mc
    have mh := (HF.out w3 HB3.out).2.2.1
    have HH : Hid (Sli.ok hndC 3 w3 ⟨ha, hc, hx⟩) := mh
    have HO : Hid (OwnI w1.heap.size w3 v3 (putF ia false [])) := HO3
    clear mh HO3
    have mw := m7
    go_wp2_with fail
    go_loopw [8] (fun i wr => ∃ q : Nat, (q ≤ hx.length ∧ catchI k hx = catchI k (hx.drop q)) ∧ w3 = wr ∧ i = .int .i64 q) (fun i wr => hx.length - (intOf i).toNat)
    case atStart => exact ⟨0, ⟨Nat.zero_le _, by simp⟩, rfl, rfl⟩
    case round =>
      obtain ⟨q, ⟨ql, hv⟩, rfl, rfl⟩ := hrel
      have HV : Hid (catchI k hx = catchI k (hx.drop q)) := hv
      clear hv
      rcases Nat.lt_or_ge q hx.length with c | c
      · have hex : ∃ y, hx[q]? = some y := ⟨_, List.getElem?_eq_getElem c⟩
        obtain ⟨y, hy⟩ := hex
        have hd : hx.drop q = y :: hx.drop (q + 1) := by
          rw [List.drop_eq_getElem_cons c]
          rw [List.getElem?_eq_getElem c] at hy
          rw [Option.some.inj hy]
        obtain ⟨gb, go, hae, hcc⟩ := HH.out.cells (by intro e; simp at e; subst e; simp at c)
        simp only at hae
        have g0 := hcc q y hy 0 _ rfl
        have g1 := hcc q y hy 1 _ rfl
        have g2 := hcc q y hy 2 _ rfl
        rw [Nat.add_zero] at g0
        rw [hae] at m7
        obtain ⟨fr, to, tg⟩ := y
        simp only at g0 g1 g2
        clear hcc hae hy mw
        by_cases t1 : fr ≤ (k : Int)
        · by_cases t2 : (k : Int) < to
          · have HV2 : Hid (catchI k hx = (tg, true)) := by
              show _ = _
              rw [HV.out, hd, catchI, if_pos ⟨t1, t2⟩]
            have kp := put_own w1.heap.size w3 v3 (putF ia false []) tg HO.out HB3.out.size (by have := putF_len ia false []; simp at * <;> omega)
            clear hd
            go_wp2_with fail
            refine kp.mono ?_
            rintro e w9 ⟨v9, rfl, h7, hb9⟩
            have H7 : Hid (OwnI w1.heap.size w9 v9 (putF tg false (putF ia false [])) ∧ Below w1.heap.size w1 w9) := ⟨h7, HB3.out.trans (hb9.mono HB3.out.size)⟩
            clear h7 hb9 kp
            go_wp2_with fail
            go_ret
            rw [HN.out, HV2.out]
            exact ⟨_, rfl, HL.out _ _ _ H7.out.1, HD.out _ H7.out.2⟩
          · have HV2 : Hid (catchI k hx = catchI k (hx.drop (q + 1))) := by
              show _ = _
              rw [HV.out, hd, catchI, if_neg (fun h => t2 h.2)]
            clear hd
            go_wp2_with fail
            refine ⟨⟨q + 1, ⟨c, HV2.out⟩, by first | rfl | trivial, by go_num⟩, ?_⟩
            simp [intOf]
            omega
        · have HV2 : Hid (catchI k hx = catchI k (hx.drop (q + 1))) := by
            show _ = _
            rw [HV.out, hd, catchI, if_neg (fun h => t1 h.1)]
          clear hd
          go_wp2_with fail
          refine ⟨⟨q + 1, ⟨c, HV2.out⟩, by first | rfl | trivial, by go_num⟩, ?_⟩
          simp [intOf]
          omega
      · have HV2 : Hid (catchI k hx = (0, false)) := by
          show _ = _
          rw [HV.out, List.drop_of_length_le c]
          rfl
        go_wp2_with fail
        go_ret
        rw [HN.out, HV2.out]
        exact ⟨_, rfl, HL.out _ _ _ HO.out, HD.out _ HB3.out⟩
  by_cases h58 : op = 58
  · subst h58
    have hJ : jumpI ⟨58, ia, ib, ic⟩ = (ib, true) := by unfold jumpI; simp
    have hG : goesB 58 = true := rfl
    rw [hG] at ce
    by_cases kn : k + 1 < cx.length
    · have hK := decide_eq_true kn
      have HN : Hid (nextL cx.length hx ⟨58, ia, ib, ic⟩ k = [(k : Int) + 1, ib] ++ (if (catchI k hx).2 then [(catchI k hx).1] else [])) := by
        show _ = _
        unfold nextL
        rw [hJ, hG, hK]
        rfl
      generalize nextL cx.length hx ⟨58, ia, ib, ic⟩ k = NL at *
      clear hJ hG hK
      obtain ⟨m4, m7, mh, mc⟩ := HF.out _ HR.out
      have q0 := mc 0 _ rfl
      have q1 := mc 1 _ rfl
      have q2 := mc 2 _ rfl
      have q3 := mc 3 _ rfl
      rw [Nat.add_zero] at q0
      clear mc mh
      go_enter Tryd.func16, Tryd.ntmps16
      go_wp2_with fail
      refine (ce _).mono ?_
      rintro e w' ⟨rfl, rfl⟩
      clear m4 m7 q0 q1 q2 q3
      have HZ : Hid ((w.alloc (.cells #[.string nm, .int .i64 pa, .int .i64 re, .bool ge, .slice (some ⟨b, off, none⟩) cx.length c1, .slice ka kx.length kc, .slice pa' px.length pc, .slice ha hx.length hc] 36)).heap.size = w.heap.size + 1) := by show (w.heap.push _).size = _; simp
      generalize w.alloc (.cells #[.string nm, .int .i64 pa, .int .i64 re, .bool ge, .slice (some ⟨b, off, none⟩) cx.length c1, .slice ka kx.length kc, .slice pa' px.length pc, .slice ha hx.length hc] 36) = w1 at *
      have HO0 := own_new (OwnI.nil w1.heap.size w1) (.cells #[.int .i64 58, .int .i64 ia, .int .i64 ib, .int .i64 ic] 43)
      have HB0 : Hid (Below w1.heap.size w1 (w1.alloc (.cells #[.int .i64 58, .int .i64 ia, .int .i64 ib, .int .i64 ic] 43))) := below_new HR.out HR.out.size _
      have HW : Hid (∀ w', Below (w1.alloc (.cells #[.int .i64 58, .int .i64 ia, .int .i64 ib, .int .i64 ic] 43)).heap.size (w1.alloc (.cells #[.int .i64 58, .int .i64 ia, .int .i64 ib, .int .i64 ic] 43)) w' → w'.cell? ⟨w1.heap.size, 0, none⟩ = some (.int .i64 58) ∧ w'.cell? ⟨w1.heap.size, 1, none⟩ = some (.int .i64 ia) ∧ w'.cell? ⟨w1.heap.size, 2, none⟩ = some (.int .i64 ib)) := by
        intro w' h
        have h' := cells_below h
        exact ⟨h' _ _ (insB_cell _ _ _ _ w1 0 _ rfl), h' _ _ (insB_cell _ _ _ _ w1 1 _ rfl), h' _ _ (insB_cell _ _ _ _ w1 2 _ rfl)⟩
      have HS : Hid (Below (w1.alloc (.cells #[.int .i64 58, .int .i64 ia, .int .i64 ib, .int .i64 ic] 43)).heap.size (w1.alloc (.cells #[.int .i64 58, .int .i64 ia, .int .i64 ib, .int .i64 ic] 43)) (w1.alloc (.cells #[.int .i64 58, .int .i64 ia, .int .i64 ib, .int .i64 ic] 43))) := Below.refl _ _
      generalize w1.alloc (.cells #[.int .i64 58, .int .i64 ia, .int .i64 ib, .int .i64 ic] 43) = w2 at *
      obtain ⟨m4, m7, mh, mc⟩ := HF.out w2 HB0.out
      obtain ⟨i0, i1, i2⟩ := HW.out w2 HS.out
      rw [HZ.out] at i0 i1 i2
      clear mh mc
      have kp := put_own w1.heap.size w2 (.slice none 0 0) ([]) ((k : Int) + 1) HO0 HB0.out.size (by  simp at * <;> omega)
      go_wp2_with fail
      refine kp.mono ?_
      rintro e w3 ⟨v3, rfl, HO3, hb3⟩
      have HB3 : Hid (Below w1.heap.size w1 w3) := HB0.out.trans (hb3.mono HB0.out.size)
      have HS3 : Hid (Below w2.heap.size w2 w3) := HS.out.trans (hb3.mono HS.out.size)
      clear kp hb3 HO0 m4 m7 i0 i1 i2
      obtain ⟨m4, m7, mh, mc⟩ := HF.out w3 HB3.out
      obtain ⟨i0, i1, i2⟩ := HW.out w3 HS3.out
      rw [HZ.out] at i0 i1 i2
      clear mh mc
      have kp := put_own w1.heap.size w3 v3 (putF ((k : Int) + 1) false []) ib HO3 HB3.out.size (by have := putF_len ((k : Int) + 1) false []; simp at * <;> omega)
      go_wp2_with fail
      refine kp.mono ?_
      rintro e w4 ⟨v4, rfl, HO4, hb4⟩
      have HB4 : Hid (Below w1.heap.size w1 w4) := HB3.out.trans (hb4.mono HB3.out.size)
      have HS4 : Hid (Below w2.heap.size w2 w4) := HS3.out.trans (hb4.mono HS3.out.size)
      clear kp hb4 HO3 m4 m7 i0 i1 i2
      obtain ⟨m4, m7, mh, mc⟩ := HF.out w4 HB4.out
      obtain ⟨i0, i1, i2⟩ := HW.out w4 HS4.out
      rw [HZ.out] at i0 i1 i2
      clear mh mc
      have mh := (HF.out w4 HB4.out).2.2.1
      have HH : Hid (Sli.ok hndC 3 w4 ⟨ha, hc, hx⟩) := mh
      have HO : Hid (OwnI w1.heap.size w4 v4 (putF ib false (putF ((k : Int) + 1) false []))) := HO4
      clear mh HO4
      have mw := m7
      go_wp2_with fail
      go_loopw [8] (fun i wr => ∃ q : Nat, (q ≤ hx.length ∧ catchI k hx = catchI k (hx.drop q)) ∧ w4 = wr ∧ i = .int .i64 q) (fun i wr => hx.length - (intOf i).toNat)
      case atStart => exact ⟨0, ⟨Nat.zero_le _, by simp⟩, rfl, rfl⟩
      case round =>
        obtain ⟨q, ⟨ql, hv⟩, rfl, rfl⟩ := hrel
        have HV : Hid (catchI k hx = catchI k (hx.drop q)) := hv
        clear hv
        rcases Nat.lt_or_ge q hx.length with c | c
        · have hex : ∃ y, hx[q]? = some y := ⟨_, List.getElem?_eq_getElem c⟩
          obtain ⟨y, hy⟩ := hex
          have hd : hx.drop q = y :: hx.drop (q + 1) := by
            rw [List.drop_eq_getElem_cons c]
            rw [List.getElem?_eq_getElem c] at hy
            rw [Option.some.inj hy]
          obtain ⟨gb, go, hae, hcc⟩ := HH.out.cells (by intro e; simp at e; subst e; simp at c)
          simp only at hae
          have g0 := hcc q y hy 0 _ rfl
          have g1 := hcc q y hy 1 _ rfl
          have g2 := hcc q y hy 2 _ rfl
          rw [Nat.add_zero] at g0
          rw [hae] at m7
          obtain ⟨fr, to, tg⟩ := y
          simp only at g0 g1 g2
          clear hcc hae hy mw
          by_cases t1 : fr ≤ (k : Int)
          · by_cases t2 : (k : Int) < to
            · have HV2 : Hid (catchI k hx = (tg, true)) := by
                show _ = _
                rw [HV.out, hd, catchI, if_pos ⟨t1, t2⟩]
              have kp := put_own w1.heap.size w4 v4 (putF ib false (putF ((k : Int) + 1) false [])) tg HO.out HB4.out.size (by have := putF_len ((k : Int) + 1) false []; have := putF_len ib false (putF ((k : Int) + 1) false []); simp at * <;> omega)
              clear hd
              go_wp2_with fail
              refine kp.mono ?_
              rintro e w9 ⟨v9, rfl, h7, hb9⟩
              have H7 : Hid (OwnI w1.heap.size w9 v9 (putF tg false (putF ib false (putF ((k : Int) + 1) false []))) ∧ Below w1.heap.size w1 w9) := ⟨h7, HB4.out.trans (hb9.mono HB4.out.size)⟩
              clear h7 hb9 kp
              go_wp2_with fail
              go_ret
              rw [HN.out, HV2.out]
              exact ⟨_, rfl, HL.out _ _ _ H7.out.1, HD.out _ H7.out.2⟩
            · have HV2 : Hid (catchI k hx = catchI k (hx.drop (q + 1))) := by
                show _ = _
                rw [HV.out, hd, catchI, if_neg (fun h => t2 h.2)]
              clear hd
              go_wp2_with fail
              refine ⟨⟨q + 1, ⟨c, HV2.out⟩, by first | rfl | trivial, by go_num⟩, ?_⟩
              simp [intOf]
              omega
          · have HV2 : Hid (catchI k hx = catchI k (hx.drop (q + 1))) := by
              show _ = _
              rw [HV.out, hd, catchI, if_neg (fun h => t1 h.1)]
            clear hd
            go_wp2_with fail
            refine ⟨⟨q + 1, ⟨c, HV2.out⟩, by first | rfl | trivial, by go_num⟩, ?_⟩
            simp [intOf]
            omega
        · have HV2 : Hid (catchI k hx = (0, false)) := by
            show _ = _
            rw [HV.out, List.drop_of_length_le c]
            rfl
          go_wp2_with fail
          go_ret
          rw [HN.out, HV2.out]
          exact ⟨_, rfl, HL.out _ _ _ HO.out, HD.out _ HB4.out⟩
    · have hK := decide_eq_false kn
      have HN : Hid (nextL cx.length hx ⟨58, ia, ib, ic⟩ k = [ib] ++ (if (catchI k hx).2 then [(catchI k hx).1] else [])) := by
        show _ = _
        unfold nextL
        rw [hJ, hG, hK]
        rfl
      generalize nextL cx.length hx ⟨58, ia, ib, ic⟩ k = NL at *
      clear hJ hG hK
      obtain ⟨m4, m7, mh, mc⟩ := HF.out _ HR.out
      have q0 := mc 0 _ rfl
      have q1 := mc 1 _ rfl
      have q2 := mc 2 _ rfl
      have q3 := mc 3 _ rfl
      rw [Nat.add_zero] at q0
      clear mc mh
      go_enter Tryd.func16, Tryd.ntmps16
      go_wp2_with fail
      refine (ce _).mono ?_
      rintro e w' ⟨rfl, rfl⟩
      clear m4 m7 q0 q1 q2 q3
      have HZ : Hid ((w.alloc (.cells #[.string nm, .int .i64 pa, .int .i64 re, .bool ge, .slice (some ⟨b, off, none⟩) cx.length c1, .slice ka kx.length kc, .slice pa' px.length pc, .slice ha hx.length hc] 36)).heap.size = w.heap.size + 1) := by show (w.heap.push _).size = _; simp
      generalize w.alloc (.cells #[.string nm, .int .i64 pa, .int .i64 re, .bool ge, .slice (some ⟨b, off, none⟩) cx.length c1, .slice ka kx.length kc, .slice pa' px.length pc, .slice ha hx.length hc] 36) = w1 at *
      have HO0 := own_new (OwnI.nil w1.heap.size w1) (.cells #[.int .i64 58, .int .i64 ia, .int .i64 ib, .int .i64 ic] 43)
      have HB0 : Hid (Below w1.heap.size w1 (w1.alloc (.cells #[.int .i64 58, .int .i64 ia, .int .i64 ib, .int .i64 ic] 43))) := below_new HR.out HR.out.size _
      have HW : Hid (∀ w', Below (w1.alloc (.cells #[.int .i64 58, .int .i64 ia, .int .i64 ib, .int .i64 ic] 43)).heap.size (w1.alloc (.cells #[.int .i64 58, .int .i64 ia, .int .i64 ib, .int .i64 ic] 43)) w' → w'.cell? ⟨w1.heap.size, 0, none⟩ = some (.int .i64 58) ∧ w'.cell? ⟨w1.heap.size, 1, none⟩ = some (.int .i64 ia) ∧ w'.cell? ⟨w1.heap.size, 2, none⟩ = some (.int .i64 ib)) := by
        intro w' h
        have h' := cells_below h
        exact ⟨h' _ _ (insB_cell _ _ _ _ w1 0 _ rfl), h' _ _ (insB_cell _ _ _ _ w1 1 _ rfl), h' _ _ (insB_cell _ _ _ _ w1 2 _ rfl)⟩
      have HS : Hid (Below (w1.alloc (.cells #[.int .i64 58, .int .i64 ia, .int .i64 ib, .int .i64 ic] 43)).heap.size (w1.alloc (.cells #[.int .i64 58, .int .i64 ia, .int .i64 ib, .int .i64 ic] 43)) (w1.alloc (.cells #[.int .i64 58, .int .i64 ia, .int .i64 ib, .int .i64 ic] 43))) := Below.refl _ _
      generalize w1.alloc (.cells #[.int .i64 58, .int .i64 ia, .int .i64 ib, .int .i64 ic] 43) = w2 at *
      obtain ⟨m4, m7, mh, mc⟩ := HF.out w2 HB0.out
      obtain ⟨i0, i1, i2⟩ := HW.out w2 HS.out
      rw [HZ.out] at i0 i1 i2
      clear mh mc
      have kp := put_own w1.heap.size w2 (.slice none 0 0) ([]) ib HO0 HB0.out.size (by  simp at * <;> omega)
      go_wp2_with fail
      refine kp.mono ?_
      rintro e w3 ⟨v3, rfl, HO3, hb3⟩
      have HB3 : Hid (Below w1.heap.size w1 w3) := HB0.out.trans (hb3.mono HB0.out.size)
      have HS3 : Hid (Below w2.heap.size w2 w3) := HS.out.trans (hb3.mono HS.out.size)
      clear kp hb3 HO0 m4 m7 i0 i1 i2
      obtain ⟨m4, m7, mh, mc⟩ := HF.out w3 HB3.out
      obtain ⟨i0, i1, i2⟩ := HW.out w3 HS3.out
      rw [HZ.out] at i0 i1 i2
      clear mh mc
      have mh := (HF.out w3 HB3.out).2.2.1
      have HH : Hid (Sli.ok hndC 3 w3 ⟨ha, hc, hx⟩) := mh
      have HO : Hid (OwnI w1.heap.size w3 v3 (putF ib false [])) := HO3
      clear mh HO3
      have mw := m7
      go_wp2_with fail
      go_loopw [8] (fun i wr => ∃ q : Nat, (q ≤ hx.length ∧ catchI k hx = catchI k (hx.drop q)) ∧ w3 = wr ∧ i = .int .i64 q) (fun i wr => hx.length - (intOf i).toNat)
      case atStart => exact ⟨0, ⟨Nat.zero_le _, by simp⟩, rfl, rfl⟩
      case round =>
        obtain ⟨q, ⟨ql, hv⟩, rfl, rfl⟩ := hrel
        have HV : Hid (catchI k hx = catchI k (hx.drop q)) := hv
        clear hv
        rcases Nat.lt_or_ge q hx.length with c | c
        · have hex : ∃ y, hx[q]? = some y := ⟨_, List.getElem?_eq_getElem c⟩
          obtain ⟨y, hy⟩ := hex
          have hd : hx.drop q = y :: hx.drop (q + 1) := by
            rw [List.drop_eq_getElem_cons c]
            rw [List.getElem?_eq_getElem c] at hy
            rw [Option.some.inj hy]
          obtain ⟨gb, go, hae, hcc⟩ := HH.out.cells (by intro e; simp at e; subst e; simp at c)
          simp only at hae
          have g0 := hcc q y hy 0 _ rfl
          have g1 := hcc q y hy 1 _ rfl
          have g2 := hcc q y hy 2 _ rfl
          rw [Nat.add_zero] at g0
          rw [hae] at m7
          obtain ⟨fr, to, tg⟩ := y
          simp only at g0 g1 g2
          clear hcc hae hy mw
          by_cases t1 : fr ≤ (k : Int)
          · by_cases t2 : (k : Int) < to
            · have HV2 : Hid (catchI k hx = (tg, true)) := by
                show _ = _
                rw [HV.out, hd, catchI, if_pos ⟨t1, t2⟩]
              have kp := put_own w1.heap.size w3 v3 (putF ib false []) tg HO.out HB3.out.size (by have := putF_len ib false []; simp at * <;> omega)
              clear hd
              go_wp2_with fail
              refine kp.mono ?_
              rintro e w9 ⟨v9, rfl, h7, hb9⟩
              have H7 : Hid (OwnI w1.heap.size w9 v9 (putF tg false (putF ib false [])) ∧ Below w1.heap.size w1 w9) := ⟨h7, HB3.out.trans (hb9.mono HB3.out.size)⟩
              clear h7 hb9 kp
              go_wp2_with fail
              go_ret
              rw [HN.out, HV2.out]
              exact ⟨_, rfl, HL.out _ _ _ H7.out.1, HD.out _ H7.out.2⟩
            · have HV2 : Hid (catchI k hx = catchI k (hx.drop (q + 1))) := by
                show _ = _
                rw [HV.out, hd, catchI, if_neg (fun h => t2 h.2)]
              clear hd
              go_wp2_with fail
              refine ⟨⟨q + 1, ⟨c, HV2.out⟩, by first | rfl | trivial, by go_num⟩, ?_⟩
              simp [intOf]
              omega
          · have HV2 : Hid (catchI k hx = catchI k (hx.drop (q + 1))) := by
              show _ = _
              rw [HV.out, hd, catchI, if_neg (fun h => t1 h.1)]
            clear hd
            go_wp2_with fail
            refine ⟨⟨q + 1, ⟨c, HV2.out⟩, by first | rfl | trivial, by go_num⟩, ?_⟩
            simp [intOf]
            omega
        · have HV2 : Hid (catchI k hx = (0, false)) := by
            show _ = _
            rw [HV.out, List.drop_of_length_le c]
            rfl
          go_wp2_with fail
          go_ret
          rw [HN.out, HV2.out]
          exact ⟨_, rfl, HL.out _ _ _ HO.out, HD.out _ HB3.out⟩
  by_cases h59 : op = 59
  · subst h59
    have hJ : jumpI ⟨59, ia, ib, ic⟩ = (ib, true) := by unfold jumpI; simp
    have hG : goesB 59 = true := rfl
    rw [hG] at ce
    by_cases kn : k + 1 < cx.length
    · have hK := decide_eq_true kn
      have HN : Hid (nextL cx.length hx ⟨59, ia, ib, ic⟩ k = [(k : Int) + 1, ib] ++ (if (catchI k hx).2 then [(catchI k hx).1] else [])) := by
        show _ = _
        unfold nextL
        rw [hJ, hG, hK]
        rfl
      generalize nextL cx.length hx ⟨59, ia, ib, ic⟩ k = NL at *
      clear hJ hG hK
      obtain ⟨m4, m7, mh, mc⟩ := HF.out _ HR.out
      have q0 := mc 0 _ rfl
      have q1 := mc 1 _ rfl
      have q2 := mc 2 _ rfl
      have q3 := mc 3 _ rfl
      rw [Nat.add_zero] at q0
      clear mc mh
      go_enter Tryd.func16, Tryd.ntmps16
      go_wp2_with fail
      refine (ce _).mono ?_
      rintro e w' ⟨rfl, rfl⟩
      clear m4 m7 q0 q1 q2 q3
      have HZ : Hid ((w.alloc (.cells #[.string nm, .int .i64 pa, .int .i64 re, .bool ge, .slice (some ⟨b, off, none⟩) cx.length c1, .slice ka kx.length kc, .slice pa' px.length pc, .slice ha hx.length hc] 36)).heap.size = w.heap.size + 1) := by show (w.heap.push _).size = _; simp
      generalize w.alloc (.cells #[.string nm, .int .i64 pa, .int .i64 re, .bool ge, .slice (some ⟨b, off, none⟩) cx.length c1, .slice ka kx.length kc, .slice pa' px.length pc, .slice ha hx.length hc] 36) = w1 at *
      have HO0 := own_new (OwnI.nil w1.heap.size w1) (.cells #[.int .i64 59, .int .i64 ia, .int .i64 ib, .int .i64 ic] 43)
      have HB0 : Hid (Below w1.heap.size w1 (w1.alloc (.cells #[.int .i64 59, .int .i64 ia, .int .i64 ib, .int .i64 ic] 43))) := below_new HR.out HR.out.size _
      have HW : Hid (∀ w', Below (w1.alloc (.cells #[.int .i64 59, .int .i64 ia, .int .i64 ib, .int .i64 ic] 43)).heap.size (w1.alloc (.cells #[.int .i64 59, .int .i64 ia, .int .i64 ib, .int .i64 ic] 43)) w' → w'.cell? ⟨w1.heap.size, 0, none⟩ = some (.int .i64 59) ∧ w'.cell? ⟨w1.heap.size, 1, none⟩ = some (.int .i64 ia) ∧ w'.cell? ⟨w1.heap.size, 2, none⟩ = some (.int .i64 ib)) := by
        intro w' h
        have h' := cells_below h
        exact ⟨h' _ _ (insB_cell _ _ _ _ w1 0 _ rfl), h' _ _ (insB_cell _ _ _ _ w1 1 _ rfl), h' _ _ (insB_cell _ _ _ _ w1 2 _ rfl)⟩
      have HS : Hid (Below (w1.alloc (.cells #[.int .i64 59, .int .i64 ia, .int .i64 ib, .int .i64 ic] 43)).heap.size (w1.alloc (.cells #[.int .i64 59, .int .i64 ia, .int .i64 ib, .int .i64 ic] 43)) (w1.alloc (.cells #[.int .i64 59, .int .i64 ia, .int .i64 ib, .int .i64 ic] 43))) := Below.refl _ _
      generalize w1.alloc (.cells #[.int .i64 59, .int .i64 ia, .int .i64 ib, .int .i64 ic] 43) = w2 at *
      obtain ⟨m4, m7, mh, mc⟩ := HF.out w2 HB0.out
      obtain ⟨i0, i1, i2⟩ := HW.out w2 HS.out
      rw [HZ.out] at i0 i1 i2
      clear mh mc
      have kp := put_own w1.heap.size w2 (.slice none 0 0) ([]) ((k : Int) + 1) HO0 HB0.out.size (by  simp at * <;> omega)
      go_wp2_with fail
      refine kp.mono ?_
      rintro e w3 ⟨v3, rfl, HO3, hb3⟩
      have HB3 : Hid (Below w1.heap.size w1 w3) := HB0.out.trans (hb3.mono HB0.out.size)
      have HS3 : Hid (Below w2.heap.size w2 w3) := HS.out.trans (hb3.mono HS.out.size)
      clear kp hb3 HO0 m4 m7 i0 i1 i2
      obtain ⟨m4, m7, mh, mc⟩ := HF.out w3 HB3.out
      obtain ⟨i0, i1, i2⟩ := HW.out w3 HS3.out
      rw [HZ.out] at i0 i1 i2
      clear mh mc
      have kp := put_own w1.heap.size w3 v3 (putF ((k : Int) + 1) false []) ib HO3 HB3.out.size (by have := putF_len ((k : Int) + 1) false []; simp at * <;> omega)
      go_wp2_with fail
      refine kp.mono ?_
      rintro e w4 ⟨v4, rfl, HO4, hb4⟩
      have HB4 : Hid (Below w1.heap.size w1 w4) := HB3.out.trans (hb4.mono HB3.out.size)
      have HS4 : Hid (Below w2.heap.size w2 w4) := HS3.out.trans (hb4.mono HS3.out.size)
      clear kp hb4 HO3 m4 m7 i0 i1 i2
      obtain ⟨m4, m7, mh, mc⟩ := HF.out w4 HB4.out
      obtain ⟨i0, i1, i2⟩ := HW.out w4 HS4.out
      rw [HZ.out] at i0 i1 i2
      clear mh mc
      have mh := (HF.out w4 HB4.out).2.2.1
      have HH : Hid (Sli.ok hndC 3 w4 ⟨ha, hc, hx⟩) := mh
      have HO : Hid (OwnI w1.heap.size w4 v4 (putF ib false (putF ((k : Int) + 1) false []))) := HO4
      clear mh HO4
      have mw := m7
      go_wp2_with fail
      go_loopw [8] (fun i wr => ∃ q : Nat, (q ≤ hx.length ∧ catchI k hx = catchI k (hx.drop q)) ∧ w4 = wr ∧ i = .int .i64 q) (fun i wr => hx.length - (intOf i).toNat)
      case atStart => exact ⟨0, ⟨Nat.zero_le _, by simp⟩, rfl, rfl⟩
      case round =>
        obtain ⟨q, ⟨ql, hv⟩, rfl, rfl⟩ := hrel
        have HV : Hid (catchI k hx = catchI k (hx.drop q)) := hv
        clear hv
        rcases Nat.lt_or_ge q hx.length with c | c
        · have hex : ∃ y, hx[q]? = some y := ⟨_, List.getElem?_eq_getElem c⟩
          obtain ⟨y, hy⟩ := hex
          have hd : hx.drop q = y :: hx.drop (q + 1) := by
            rw [List.drop_eq_getElem_cons c]
            rw [List.getElem?_eq_getElem c] at hy
            rw [Option.some.inj hy]
          obtain ⟨gb, go, hae, hcc⟩ := HH.out.cells (by intro e; simp at e; subst e; simp at c)
          simp only at hae
          have g0 := hcc q y hy 0 _ rfl
          have g1 := hcc q y hy 1 _ rfl
          have g2 := hcc q y hy 2 _ rfl
          rw [Nat.add_zero] at g0
          rw [hae] at m7
          obtain ⟨fr, to, tg⟩ := y
          simp only at g0 g1 g2
          clear hcc hae hy mw
          by_cases t1 : fr ≤ (k : Int)
          · by_cases t2 : (k : Int) < to
            · have HV2 : Hid (catchI k hx = (tg, true)) := by
                show _ = _
                rw [HV.out, hd, catchI, if_pos ⟨t1, t2⟩]
              have kp := put_own w1.heap.size w4 v4 (putF ib false (putF ((k : Int) + 1) false [])) tg HO.out HB4.out.size (by have := putF_len ((k : Int) + 1) false []; have := putF_len ib false (putF ((k : Int) + 1) false []); simp at * <;> omega)
              clear hd
              go_wp2_with fail
              refine kp.mono ?_
              rintro e w9 ⟨v9, rfl, h7, hb9⟩
              have H7 : Hid (OwnI w1.heap.size w9 v9 (putF tg false (putF ib false (putF ((k : Int) + 1) false []))) ∧ Below w1.heap.size w1 w9) := ⟨h7, HB4.out.trans (hb9.mono HB4.out.size)⟩
              clear h7 hb9 kp
              go_wp2_with fail
              go_ret
              rw [HN.out, HV2.out]
              exact ⟨_, rfl, HL.out _ _ _ H7.out.1, HD.out _ H7.out.2⟩
            · have HV2 : Hid (catchI k hx = catchI k (hx.drop (q + 1))) := by
                show _ = _
                rw [HV.out, hd, catchI, if_neg (fun h => t2 h.2)]
              clear hd
              go_wp2_with fail
              refine ⟨⟨q + 1, ⟨c, HV2.out⟩, by first | rfl | trivial, by go_num⟩, ?_⟩
              simp [intOf]
              omega
          · have HV2 : Hid (catchI k hx = catchI k (hx.drop (q + 1))) := by
              show _ = _
              rw [HV.out, hd, catchI, if_neg (fun h => t1 h.1)]
            clear hd
            go_wp2_with fail
            refine ⟨⟨q + 1, ⟨c, HV2.out⟩, by first | rfl | trivial, by go_num⟩, ?_⟩
            simp [intOf]
            omega
        · have HV2 : Hid (catchI k hx = (0, false)) := by
            show _ = _
            rw [HV.out, List.drop_of_length_le c]
            rfl
          go_wp2_with fail
          go_ret
          rw [HN.out, HV2.out]
          exact ⟨_, rfl, HL.out _ _ _ HO.out, HD.out _ HB4.out⟩
    · have hK := decide_eq_false kn
      have HN : Hid (nextL cx.length hx ⟨59, ia, ib, ic⟩ k = [ib] ++ (if (catchI k hx).2 then [(catchI k hx).1] else [])) := by
        show _ = _
        unfold nextL
        rw [hJ, hG, hK]
        rfl
      generalize nextL cx.length hx ⟨59, ia, ib, ic⟩ k = NL at *
      clear hJ hG hK
      obtain ⟨m4, m7, mh, mc⟩ := HF.out _ HR.out
      have q0 := mc 0 _ rfl
      have q1 := mc 1 _ rfl
      have q2 := mc 2 _ rfl
      have q3 := mc 3 _ rfl
      rw [Nat.add_zero] at q0
      clear mc mh
      go_enter Tryd.func16, Tryd.ntmps16
      go_wp2_with fail
      refine (ce _).mono ?_
      rintro e w' ⟨rfl, rfl⟩
      clear m4 m7 q0 q1 q2 q3
      have HZ : Hid ((w.alloc (.cells #[.string nm, .int .i64 pa, .int .i64 re, .bool ge, .slice (some ⟨b, off, none⟩) cx.length c1, .slice ka kx.length kc, .slice pa' px.length pc, .slice ha hx.length hc] 36)).heap.size = w.heap.size + 1) := by show (w.heap.push _).size = _; simp
      generalize w.alloc (.cells #[.string nm, .int .i64 pa, .int .i64 re, .bool ge, .slice (some ⟨b, off, none⟩) cx.length c1, .slice ka kx.length kc, .slice pa' px.length pc, .slice ha hx.length hc] 36) = w1 at *
      have HO0 := own_new (OwnI.nil w1.heap.size w1) (.cells #[.int .i64 59, .int .i64 ia, .int .i64 ib, .int .i64 ic] 43)
      have HB0 : Hid (Below w1.heap.size w1 (w1.alloc (.cells #[.int .i64 59, .int .i64 ia, .int .i64 ib, .int .i64 ic] 43))) := below_new HR.out HR.out.size _
      have HW : Hid (∀ w', Below (w1.alloc (.cells #[.int .i64 59, .int .i64 ia, .int .i64 ib, .int .i64 ic] 43)).heap.size (w1.alloc (.cells #[.int .i64 59, .int .i64 ia, .int .i64 ib, .int .i64 ic] 43)) w' → w'.cell? ⟨w1.heap.size, 0, none⟩ = some (.int .i64 59) ∧ w'.cell? ⟨w1.heap.size, 1, none⟩ = some (.int .i64 ia) ∧ w'.cell? ⟨w1.heap.size, 2, none⟩ = some (.int .i64 ib)) := by
        intro w' h
        have h' := cells_below h
        exact ⟨h' _ _ (insB_cell _ _ _ _ w1 0 _ rfl), h' _ _ (insB_cell _ _ _ _ w1 1 _ rfl), h' _ _ (insB_cell _ _ _ _ w1 2 _ rfl)⟩
      have HS : Hid (Below (w1.alloc (.cells #[.int .i64 59, .int .i64 ia, .int .i64 ib, .int .i64 ic] 43)).heap.size (w1.alloc (.cells #[.int .i64 59, .int .i64 ia, .int .i64 ib, .int .i64 ic] 43)) (w1.alloc (.cells #[.int .i64 59, .int .i64 ia, .int .i64 ib, .int .i64 ic] 43))) := Below.refl _ _
      generalize w1.alloc (.cells #[.int .i64 59, .int .i64 ia, .int .i64 ib, .int .i64 ic] 43) = w2 at *
      obtain ⟨m4, m7, mh, mc⟩ := HF.out w2 HB0.out
      obtain ⟨i0, i1, i2⟩ := HW.out w2 HS.out
      rw [HZ.out] at i0 i1 i2
      clear mh mc
      have kp := put_own w1.heap.size w2 (.slice none 0 0) ([]) ib HO0 HB0.out.size (by  simp at * <;> omega)
      go_wp2_with fail
      refine kp.mono ?_
      rintro e w3 ⟨v3, rfl, HO3, hb3⟩
      have HB3 : Hid (Below w1.heap.size w1 w3) := HB0.out.trans (hb3.mono HB0.out.size)
      have HS3 : Hid (Below w2.heap.size w2 w3) := HS.out.trans (hb3.mono HS.out.size)
      clear kp hb3 HO0 m4 m7 i0 i1 i2
      obtain ⟨m4, m7, mh, mc⟩ := HF.out w3 HB3.out
      obtain ⟨i0, i1, i2⟩ := HW.out w3 HS3.out
      rw [HZ.out] at i0 i1 i2
      clear mh mc
      have mh := (HF.out w3 HB3.out).2.2.1
      have HH : Hid (Sli.ok hndC 3 w3 ⟨ha, hc, hx⟩) := mh
      have HO : Hid (OwnI w1.heap.size w3 v3 (putF ib false [])) := HO3
      clear mh HO3
      have mw := m7
      go_wp2_with fail
      go_loopw [8] (fun i wr => ∃ q : Nat, (q ≤ hx.length ∧ catchI k hx = catchI k (hx.drop q)) ∧ w3 = wr ∧ i = .int .i64 q) (fun i wr => hx.length - (intOf i).toNat)
      case atStart => exact ⟨0, ⟨Nat.zero_le _, by simp⟩, rfl, rfl⟩
      case round =>
        obtain ⟨q, ⟨ql, hv⟩, rfl, rfl⟩ := hrel
        have HV : Hid (catchI k hx = catchI k (hx.drop q)) := hv
        clear hv
        rcases Nat.lt_or_ge q hx.length with c | c
        · have hex : ∃ y, hx[q]? = some y := ⟨_, List.getElem?_eq_getElem c⟩
          obtain ⟨y, hy⟩ := hex
          have hd : hx.drop q = y :: hx.drop (q + 1) := by
            rw [List.drop_eq_getElem_cons c]
            rw [List.getElem?_eq_getElem c] at hy
            rw [Option.some.inj hy]
          obtain ⟨gb, go, hae, hcc⟩ := HH.out.cells (by intro e; simp at e; subst e; simp at c)
          simp only at hae
          have g0 := hcc q y hy 0 _ rfl
          have g1 := hcc q y hy 1 _ rfl
          have g2 := hcc q y hy 2 _ rfl
          rw [Nat.add_zero] at g0
          rw [hae] at m7
          obtain ⟨fr, to, tg⟩ := y
          simp only at g0 g1 g2
          clear hcc hae hy mw
          by_cases t1 : fr ≤ (k : Int)
          · by_cases t2 : (k : Int) < to
            · have HV2 : Hid (catchI k hx = (tg, true)) := by
                show _ = _
                rw [HV.out, hd, catchI, if_pos ⟨t1, t2⟩]
              have kp := put_own w1.heap.size w3 v3 (putF ib false []) tg HO.out HB3.out.size (by have := putF_len ib false []; simp at * <;> omega)
              clear hd
              go_wp2_with fail
              refine kp.mono ?_
              rintro e w9 ⟨v9, rfl, h7, hb9⟩
              have H7 : Hid (OwnI w1.heap.size w9 v9 (putF tg false (putF ib false [])) ∧ Below w1.heap.size w1 w9) := ⟨h7, HB3.out.trans (hb9.mono HB3.out.size)⟩
              clear h7 hb9 kp
              go_wp2_with fail
              go_ret
              rw [HN.out, HV2.out]
              exact ⟨_, rfl, HL.out _ _ _ H7.out.1, HD.out _ H7.out.2⟩
            · have HV2 : Hid (catchI k hx = catchI k (hx.drop (q + 1))) := by
                show _ = _
                rw [HV.out, hd, catchI, if_neg (fun h => t2 h.2)]
              clear hd
              go_wp2_with fail
              refine ⟨⟨q + 1, ⟨c, HV2.out⟩, by first | rfl | trivial, by go_num⟩, ?_⟩
              simp [intOf]
              omega
          · have HV2 : Hid (catchI k hx = catchI k (hx.drop (q + 1))) := by
              show _ = _
              rw [HV.out, hd, catchI, if_neg (fun h => t1 h.1)]
            clear hd
            go_wp2_with fail
            refine ⟨⟨q + 1, ⟨c, HV2.out⟩, by first | rfl | trivial, by go_num⟩, ?_⟩
            simp [intOf]
            omega
        · have HV2 : Hid (catchI k hx = (0, false)) := by
            show _ = _
            rw [HV.out, List.drop_of_length_le c]
            rfl
          go_wp2_with fail
          go_ret
          rw [HN.out, HV2.out]
          exact ⟨_, rfl, HL.out _ _ _ HO.out, HD.out _ HB3.out⟩
  have hJ : jumpI ⟨op, ia, ib, ic⟩ = (0, false) := by unfold jumpI; simp [h57, h58, h59]
  have e57 : (op == 57) = false := by simpa using h57
  have e58 : (op == 58) = false := by simpa using h58
  have e59 : (op == 59) = false := by simpa using h59
  cases hG : goesB op with
  | false =>
    rw [hG] at ce
    have HN : Hid (nextL cx.length hx ⟨op, ia, ib, ic⟩ k = [] ++ (if (catchI k hx).2 then [(catchI k hx).1] else [])) := by
      show _ = _
      unfold nextL
      rw [hJ, hG]
      rfl
    generalize nextL cx.length hx ⟨op, ia, ib, ic⟩ k = NL at *
    clear hJ hG
    obtain ⟨m4, m7, mh, mc⟩ := HF.out _ HR.out
    have q0 := mc 0 _ rfl
    have q1 := mc 1 _ rfl
    have q2 := mc 2 _ rfl
    have q3 := mc 3 _ rfl
    rw [Nat.add_zero] at q0
    clear mc mh
    go_enter Tryd.func16, Tryd.ntmps16
    go_wp2_with fail
    refine (ce _).mono ?_
    rintro e w' ⟨rfl, rfl⟩
    clear m4 m7 q0 q1 q2 q3
    have HZ : Hid ((w.alloc (.cells #[.string nm, .int .i64 pa, .int .i64 re, .bool ge, .slice (some ⟨b, off, none⟩) cx.length c1, .slice ka kx.length kc, .slice pa' px.length pc, .slice ha hx.length hc] 36)).heap.size = w.heap.size + 1) := by show (w.heap.push _).size = _; simp
    generalize w.alloc (.cells #[.string nm, .int .i64 pa, .int .i64 re, .bool ge, .slice (some ⟨b, off, none⟩) cx.length c1, .slice ka kx.length kc, .slice pa' px.length pc, .slice ha hx.length hc] 36) = w1 at *
    have HO0 := own_new (OwnI.nil w1.heap.size w1) (.cells #[.int .i64 op, .int .i64 ia, .int .i64 ib, .int .i64 ic] 43)
    have HB0 : Hid (Below w1.heap.size w1 (w1.alloc (.cells #[.int .i64 op, .int .i64 ia, .int .i64 ib, .int .i64 ic] 43))) := below_new HR.out HR.out.size _
    have HW : Hid (∀ w', Below (w1.alloc (.cells #[.int .i64 op, .int .i64 ia, .int .i64 ib, .int .i64 ic] 43)).heap.size (w1.alloc (.cells #[.int .i64 op, .int .i64 ia, .int .i64 ib, .int .i64 ic] 43)) w' → w'.cell? ⟨w1.heap.size, 0, none⟩ = some (.int .i64 op) ∧ w'.cell? ⟨w1.heap.size, 1, none⟩ = some (.int .i64 ia) ∧ w'.cell? ⟨w1.heap.size, 2, none⟩ = some (.int .i64 ib)) := by
      intro w' h
      have h' := cells_below h
      exact ⟨h' _ _ (insB_cell _ _ _ _ w1 0 _ rfl), h' _ _ (insB_cell _ _ _ _ w1 1 _ rfl), h' _ _ (insB_cell _ _ _ _ w1 2 _ rfl)⟩
    have HS : Hid (Below (w1.alloc (.cells #[.int .i64 op, .int .i64 ia, .int .i64 ib, .int .i64 ic] 43)).heap.size (w1.alloc (.cells #[.int .i64 op, .int .i64 ia, .int .i64 ib, .int .i64 ic] 43)) (w1.alloc (.cells #[.int .i64 op, .int .i64 ia, .int .i64 ib, .int .i64 ic] 43))) := Below.refl _ _
    generalize w1.alloc (.cells #[.int .i64 op, .int .i64 ia, .int .i64 ib, .int .i64 ic] 43) = w2 at *
    obtain ⟨m4, m7, mh, mc⟩ := HF.out w2 HB0.out
    obtain ⟨i0, i1, i2⟩ := HW.out w2 HS.out
    rw [HZ.out] at i0 i1 i2
    clear mh mc
    have mh := (HF.out w2 HB0.out).2.2.1
    have HH : Hid (Sli.ok hndC 3 w2 ⟨ha, hc, hx⟩) := mh
    have HO : Hid (OwnI w1.heap.size w2 (.slice none 0 0) []) := HO0
    clear mh HO0
    have mw := m7
    go_wp2_with fail
    go_loopw [8] (fun i wr => ∃ q : Nat, (q ≤ hx.length ∧ catchI k hx = catchI k (hx.drop q)) ∧ w2 = wr ∧ i = .int .i64 q) (fun i wr => hx.length - (intOf i).toNat)
    case atStart => exact ⟨0, ⟨Nat.zero_le _, by simp⟩, rfl, rfl⟩
    case round =>
      obtain ⟨q, ⟨ql, hv⟩, rfl, rfl⟩ := hrel
      have HV : Hid (catchI k hx = catchI k (hx.drop q)) := hv
      clear hv
      rcases Nat.lt_or_ge q hx.length with c | c
      · have hex : ∃ y, hx[q]? = some y := ⟨_, List.getElem?_eq_getElem c⟩
        obtain ⟨y, hy⟩ := hex
        have hd : hx.drop q = y :: hx.drop (q + 1) := by
          rw [List.drop_eq_getElem_cons c]
          rw [List.getElem?_eq_getElem c] at hy
          rw [Option.some.inj hy]
        obtain ⟨gb, go, hae, hcc⟩ := HH.out.cells (by intro e; simp at e; subst e; simp at c)
        simp only at hae
        have g0 := hcc q y hy 0 _ rfl
        have g1 := hcc q y hy 1 _ rfl
        have g2 := hcc q y hy 2 _ rfl
        rw [Nat.add_zero] at g0
        rw [hae] at m7
        obtain ⟨fr, to, tg⟩ := y
        simp only at g0 g1 g2
        clear hcc hae hy mw
        by_cases t1 : fr ≤ (k : Int)
        · by_cases t2 : (k : Int) < to
          · have HV2 : Hid (catchI k hx = (tg, true)) := by
              show _ = _
              rw [HV.out, hd, catchI, if_pos ⟨t1, t2⟩]
            have kp := put_own w1.heap.size w2 (.slice none 0 0) [] tg HO.out HB0.out.size (by  simp at * <;> omega)
            clear hd
            go_wp2_with fail
            refine kp.mono ?_
            rintro e w9 ⟨v9, rfl, h7, hb9⟩
            have H7 : Hid (OwnI w1.heap.size w9 v9 (putF tg false []) ∧ Below w1.heap.size w1 w9) := ⟨h7, HB0.out.trans (hb9.mono HB0.out.size)⟩
            clear h7 hb9 kp
            go_wp2_with fail
            go_ret
            rw [HN.out, HV2.out]
            exact ⟨_, rfl, HL.out _ _ _ H7.out.1, HD.out _ H7.out.2⟩
          · have HV2 : Hid (catchI k hx = catchI k (hx.drop (q + 1))) := by
              show _ = _
              rw [HV.out, hd, catchI, if_neg (fun h => t2 h.2)]
            clear hd
            go_wp2_with fail
            refine ⟨⟨q + 1, ⟨c, HV2.out⟩, by first | rfl | trivial, by go_num⟩, ?_⟩
            simp [intOf]
            omega
        · have HV2 : Hid (catchI k hx = catchI k (hx.drop (q + 1))) := by
            show _ = _
            rw [HV.out, hd, catchI, if_neg (fun h => t1 h.1)]
          clear hd
          go_wp2_with fail
          refine ⟨⟨q + 1, ⟨c, HV2.out⟩, by first | rfl | trivial, by go_num⟩, ?_⟩
          simp [intOf]
          omega
      · have HV2 : Hid (catchI k hx = (0, false)) := by
          show _ = _
          rw [HV.out, List.drop_of_length_le c]
          rfl
        go_wp2_with fail
        go_ret
        rw [HN.out, HV2.out]
        exact ⟨_, rfl, HL.out _ _ _ HO.out, HD.out _ HB0.out⟩
  | true =>
    rw [hG] at ce
    by_cases kn : k + 1 < cx.length
    · have hK := decide_eq_true kn
      have HN : Hid (nextL cx.length hx ⟨op, ia, ib, ic⟩ k = [(k : Int) + 1] ++ (if (catchI k hx).2 then [(catchI k hx).1] else [])) := by
        show _ = _
        unfold nextL
        rw [hJ, hG, hK]
        rfl
      generalize nextL cx.length hx ⟨op, ia, ib, ic⟩ k = NL at *
      clear hJ hG hK
      obtain ⟨m4, m7, mh, mc⟩ := HF.out _ HR.out
      have q0 := mc 0 _ rfl
      have q1 := mc 1 _ rfl
      have q2 := mc 2 _ rfl
      have q3 := mc 3 _ rfl
      rw [Nat.add_zero] at q0
      clear mc mh
      go_enter Tryd.func16, Tryd.ntmps16
      go_wp2_with fail
      refine (ce _).mono ?_
      rintro e w' ⟨rfl, rfl⟩
      clear m4 m7 q0 q1 q2 q3
      have HZ : Hid ((w.alloc (.cells #[.string nm, .int .i64 pa, .int .i64 re, .bool ge, .slice (some ⟨b, off, none⟩) cx.length c1, .slice ka kx.length kc, .slice pa' px.length pc, .slice ha hx.length hc] 36)).heap.size = w.heap.size + 1) := by show (w.heap.push _).size = _; simp
      generalize w.alloc (.cells #[.string nm, .int .i64 pa, .int .i64 re, .bool ge, .slice (some ⟨b, off, none⟩) cx.length c1, .slice ka kx.length kc, .slice pa' px.length pc, .slice ha hx.length hc] 36) = w1 at *
      have HO0 := own_new (OwnI.nil w1.heap.size w1) (.cells #[.int .i64 op, .int .i64 ia, .int .i64 ib, .int .i64 ic] 43)
      have HB0 : Hid (Below w1.heap.size w1 (w1.alloc (.cells #[.int .i64 op, .int .i64 ia, .int .i64 ib, .int .i64 ic] 43))) := below_new HR.out HR.out.size _
      have HW : Hid (∀ w', Below (w1.alloc (.cells #[.int .i64 op, .int .i64 ia, .int .i64 ib, .int .i64 ic] 43)).heap.size (w1.alloc (.cells #[.int .i64 op, .int .i64 ia, .int .i64 ib, .int .i64 ic] 43)) w' → w'.cell? ⟨w1.heap.size, 0, none⟩ = some (.int .i64 op) ∧ w'.cell? ⟨w1.heap.size, 1, none⟩ = some (.int .i64 ia) ∧ w'.cell? ⟨w1.heap.size, 2, none⟩ = some (.int .i64 ib)) := by
        intro w' h
        have h' := cells_below h
        exact ⟨h' _ _ (insB_cell _ _ _ _ w1 0 _ rfl), h' _ _ (insB_cell _ _ _ _ w1 1 _ rfl), h' _ _ (insB_cell _ _ _ _ w1 2 _ rfl)⟩
      have HS : Hid (Below (w1.alloc (.cells #[.int .i64 op, .int .i64 ia, .int .i64 ib, .int .i64 ic] 43)).heap.size (w1.alloc (.cells #[.int .i64 op, .int .i64 ia, .int .i64 ib, .int .i64 ic] 43)) (w1.alloc (.cells #[.int .i64 op, .int .i64 ia, .int .i64 ib, .int .i64 ic] 43))) := Below.refl _ _
      generalize w1.alloc (.cells #[.int .i64 op, .int .i64 ia, .int .i64 ib, .int .i64 ic] 43) = w2 at *
      obtain ⟨m4, m7, mh, mc⟩ := HF.out w2 HB0.out
      obtain ⟨i0, i1, i2⟩ := HW.out w2 HS.out
      rw [HZ.out] at i0 i1 i2
      clear mh mc
      have kp := put_own w1.heap.size w2 (.slice none 0 0) ([]) ((k : Int) + 1) HO0 HB0.out.size (by  simp at * <;> omega)
      go_wp2_with fail
      refine kp.mono ?_
      rintro e w3 ⟨v3, rfl, HO3, hb3⟩
      have HB3 : Hid (Below w1.heap.size w1 w3) := HB0.out.trans (hb3.mono HB0.out.size)
      have HS3 : Hid (Below w2.heap.size w2 w3) := HS.out.trans (hb3.mono HS.out.size)
      clear kp hb3 HO0 m4 m7 i0 i1 i2
      obtain ⟨m4, m7, mh, mc⟩ := HF.out w3 HB3.out
      obtain ⟨i0, i1, i2⟩ := HW.out w3 HS3.out
      rw [HZ.out] at i0 i1 i2
      clear mh mc
      have mh := (HF.out w3 HB3.out).2.2.1
      have HH : Hid (Sli.ok hndC 3 w3 ⟨ha, hc, hx⟩) := mh
      have HO : Hid (OwnI w1.heap.size w3 v3 (putF ((k : Int) + 1) false [])) := HO3
      clear mh HO3
      have mw := m7
      go_wp2_with fail
      go_loopw [8] (fun i wr => ∃ q : Nat, (q ≤ hx.length ∧ catchI k hx = catchI k (hx.drop q)) ∧ w3 = wr ∧ i = .int .i64 q) (fun i wr => hx.length - (intOf i).toNat)
      case atStart => exact ⟨0, ⟨Nat.zero_le _, by simp⟩, rfl, rfl⟩
      case round =>
        obtain ⟨q, ⟨ql, hv⟩, rfl, rfl⟩ := hrel
        have HV : Hid (catchI k hx = catchI k (hx.drop q)) := hv
        clear hv
        rcases Nat.lt_or_ge q hx.length with c | c
        · have hex : ∃ y, hx[q]? = some y := ⟨_, List.getElem?_eq_getElem c⟩
          obtain ⟨y, hy⟩ := hex
          have hd : hx.drop q = y :: hx.drop (q + 1) := by
            rw [List.drop_eq_getElem_cons c]
            rw [List.getElem?_eq_getElem c] at hy
            rw [Option.some.inj hy]
          obtain ⟨gb, go, hae, hcc⟩ := HH.out.cells (by intro e; simp at e; subst e; simp at c)
          simp only at hae
          have g0 := hcc q y hy 0 _ rfl
          have g1 := hcc q y hy 1 _ rfl
          have g2 := hcc q y hy 2 _ rfl
          rw [Nat.add_zero] at g0
          rw [hae] at m7
          obtain ⟨fr, to, tg⟩ := y
          simp only at g0 g1 g2
          clear hcc hae hy mw
          by_cases t1 : fr ≤ (k : Int)
          · by_cases t2 : (k : Int) < to
            · have HV2 : Hid (catchI k hx = (tg, true)) := by
                show _ = _
                rw [HV.out, hd, catchI, if_pos ⟨t1, t2⟩]
              have kp := put_own w1.heap.size w3 v3 (putF ((k : Int) + 1) false []) tg HO.out HB3.out.size (by have := putF_len ((k : Int) + 1) false []; simp at * <;> omega)
              clear hd
              go_wp2_with fail
              refine kp.mono ?_
              rintro e w9 ⟨v9, rfl, h7, hb9⟩
              have H7 : Hid (OwnI w1.heap.size w9 v9 (putF tg false (putF ((k : Int) + 1) false [])) ∧ Below w1.heap.size w1 w9) := ⟨h7, HB3.out.trans (hb9.mono HB3.out.size)⟩
              clear h7 hb9 kp
              go_wp2_with fail
              go_ret
              rw [HN.out, HV2.out]
              exact ⟨_, rfl, HL.out _ _ _ H7.out.1, HD.out _ H7.out.2⟩
            · have HV2 : Hid (catchI k hx = catchI k (hx.drop (q + 1))) := by
                show _ = _
                rw [HV.out, hd, catchI, if_neg (fun h => t2 h.2)]
              clear hd
              go_wp2_with fail
              refine ⟨⟨q + 1, ⟨c, HV2.out⟩, by first | rfl | trivial, by go_num⟩, ?_⟩
              simp [intOf]
              omega
          · have HV2 : Hid (catchI k hx = catchI k (hx.drop (q + 1))) := by
              show _ = _
              rw [HV.out, hd, catchI, if_neg (fun h => t1 h.1)]
            clear hd
            go_wp2_with fail
            refine ⟨⟨q + 1, ⟨c, HV2.out⟩, by first | rfl | trivial, by go_num⟩, ?_⟩
            simp [intOf]
            omega
        · have HV2 : Hid (catchI k hx = (0, false)) := by
            show _ = _
            rw [HV.out, List.drop_of_length_le c]
            rfl
          go_wp2_with fail
          go_ret
          rw [HN.out, HV2.out]
          exact ⟨_, rfl, HL.out _ _ _ HO.out, HD.out _ HB3.out⟩
    · have hK := decide_eq_false kn
      have HN : Hid (nextL cx.length hx ⟨op, ia, ib, ic⟩ k = [] ++ (if (catchI k hx).2 then [(catchI k hx).1] else [])) := by
        show _ = _
        unfold nextL
        rw [hJ, hG, hK]
        rfl
      generalize nextL cx.length hx ⟨op, ia, ib, ic⟩ k = NL at *
      clear hJ hG hK
      obtain ⟨m4, m7, mh, mc⟩ := HF.out _ HR.out
      have q0 := mc 0 _ rfl
      have q1 := mc 1 _ rfl
      have q2 := mc 2 _ rfl
      have q3 := mc 3 _ rfl
      rw [Nat.add_zero] at q0
      clear mc mh
      go_enter Tryd.func16, Tryd.ntmps16
      go_wp2_with fail
      refine (ce _).mono ?_
      rintro e w' ⟨rfl, rfl⟩
      clear m4 m7 q0 q1 q2 q3
      have HZ : Hid ((w.alloc (.cells #[.string nm, .int .i64 pa, .int .i64 re, .bool ge, .slice (some ⟨b, off, none⟩) cx.length c1, .slice ka kx.length kc, .slice pa' px.length pc, .slice ha hx.length hc] 36)).heap.size = w.heap.size + 1) := by show (w.heap.push _).size = _; simp
      generalize w.alloc (.cells #[.string nm, .int .i64 pa, .int .i64 re, .bool ge, .slice (some ⟨b, off, none⟩) cx.length c1, .slice ka kx.length kc, .slice pa' px.length pc, .slice ha hx.length hc] 36) = w1 at *
      have HO0 := own_new (OwnI.nil w1.heap.size w1) (.cells #[.int .i64 op, .int .i64 ia, .int .i64 ib, .int .i64 ic] 43)
      have HB0 : Hid (Below w1.heap.size w1 (w1.alloc (.cells #[.int .i64 op, .int .i64 ia, .int .i64 ib, .int .i64 ic] 43))) := below_new HR.out HR.out.size _
      have HW : Hid (∀ w', Below (w1.alloc (.cells #[.int .i64 op, .int .i64 ia, .int .i64 ib, .int .i64 ic] 43)).heap.size (w1.alloc (.cells #[.int .i64 op, .int .i64 ia, .int .i64 ib, .int .i64 ic] 43)) w' → w'.cell? ⟨w1.heap.size, 0, none⟩ = some (.int .i64 op) ∧ w'.cell? ⟨w1.heap.size, 1, none⟩ = some (.int .i64 ia) ∧ w'.cell? ⟨w1.heap.size, 2, none⟩ = some (.int .i64 ib)) := by
        intro w' h
        have h' := cells_below h
        exact ⟨h' _ _ (insB_cell _ _ _ _ w1 0 _ rfl), h' _ _ (insB_cell _ _ _ _ w1 1 _ rfl), h' _ _ (insB_cell _ _ _ _ w1 2 _ rfl)⟩
      have HS : Hid (Below (w1.alloc (.cells #[.int .i64 op, .int .i64 ia, .int .i64 ib, .int .i64 ic] 43)).heap.size (w1.alloc (.cells #[.int .i64 op, .int .i64 ia, .int .i64 ib, .int .i64 ic] 43)) (w1.alloc (.cells #[.int .i64 op, .int .i64 ia, .int .i64 ib, .int .i64 ic] 43))) := Below.refl _ _
      generalize w1.alloc (.cells #[.int .i64 op, .int .i64 ia, .int .i64 ib, .int .i64 ic] 43) = w2 at *
      obtain ⟨m4, m7, mh, mc⟩ := HF.out w2 HB0.out
      obtain ⟨i0, i1, i2⟩ := HW.out w2 HS.out
      rw [HZ.out] at i0 i1 i2
      clear mh mc
      have mh := (HF.out w2 HB0.out).2.2.1
      have HH : Hid (Sli.ok hndC 3 w2 ⟨ha, hc, hx⟩) := mh
      have HO : Hid (OwnI w1.heap.size w2 (.slice none 0 0) []) := HO0
      clear mh HO0
      have mw := m7
      go_wp2_with fail
      go_loopw [8] (fun i wr => ∃ q : Nat, (q ≤ hx.length ∧ catchI k hx = catchI k (hx.drop q)) ∧ w2 = wr ∧ i = .int .i64 q) (fun i wr => hx.length - (intOf i).toNat)
      case atStart => exact ⟨0, ⟨Nat.zero_le _, by simp⟩, rfl, rfl⟩
      case round =>
        obtain ⟨q, ⟨ql, hv⟩, rfl, rfl⟩ := hrel
        have HV : Hid (catchI k hx = catchI k (hx.drop q)) := hv
        clear hv
        rcases Nat.lt_or_ge q hx.length with c | c
        · have hex : ∃ y, hx[q]? = some y := ⟨_, List.getElem?_eq_getElem c⟩
          obtain ⟨y, hy⟩ := hex
          have hd : hx.drop q = y :: hx.drop (q + 1) := by
            rw [List.drop_eq_getElem_cons c]
            rw [List.getElem?_eq_getElem c] at hy
            rw [Option.some.inj hy]
          obtain ⟨gb, go, hae, hcc⟩ := HH.out.cells (by intro e; simp at e; subst e; simp at c)
          simp only at hae
          have g0 := hcc q y hy 0 _ rfl
          have g1 := hcc q y hy 1 _ rfl
          have g2 := hcc q y hy 2 _ rfl
          rw [Nat.add_zero] at g0
          rw [hae] at m7
          obtain ⟨fr, to, tg⟩ := y
          simp only at g0 g1 g2
          clear hcc hae hy mw
          by_cases t1 : fr ≤ (k : Int)
          · by_cases t2 : (k : Int) < to
            · have HV2 : Hid (catchI k hx = (tg, true)) := by
                show _ = _
                rw [HV.out, hd, catchI, if_pos ⟨t1, t2⟩]
              have kp := put_own w1.heap.size w2 (.slice none 0 0) [] tg HO.out HB0.out.size (by  simp at * <;> omega)
              clear hd
              go_wp2_with fail
              refine kp.mono ?_
              rintro e w9 ⟨v9, rfl, h7, hb9⟩
              have H7 : Hid (OwnI w1.heap.size w9 v9 (putF tg false []) ∧ Below w1.heap.size w1 w9) := ⟨h7, HB0.out.trans (hb9.mono HB0.out.size)⟩
              clear h7 hb9 kp
              go_wp2_with fail
              go_ret
              rw [HN.out, HV2.out]
              exact ⟨_, rfl, HL.out _ _ _ H7.out.1, HD.out _ H7.out.2⟩
            · have HV2 : Hid (catchI k hx = catchI k (hx.drop (q + 1))) := by
                show _ = _
                rw [HV.out, hd, catchI, if_neg (fun h => t2 h.2)]
              clear hd
              go_wp2_with fail
              refine ⟨⟨q + 1, ⟨c, HV2.out⟩, by first | rfl | trivial, by go_num⟩, ?_⟩
              simp [intOf]
              omega
          · have HV2 : Hid (catchI k hx = catchI k (hx.drop (q + 1))) := by
              show _ = _
              rw [HV.out, hd, catchI, if_neg (fun h => t1 h.1)]
            clear hd
            go_wp2_with fail
            refine ⟨⟨q + 1, ⟨c, HV2.out⟩, by first | rfl | trivial, by go_num⟩, ?_⟩
            simp [intOf]
            omega
        · have HV2 : Hid (catchI k hx = (0, false)) := by
            show _ = _
            rw [HV.out, List.drop_of_length_le c]
            rfl
          go_wp2_with fail
          go_ret
          rw [HN.out, HV2.out]
          exact ⟨_, rfl, HL.out _ _ _ HO.out, HD.out _ HB0.out⟩

theorem rnext_any (f : Fn) (x : Int) (w : World) (hf : f.ok w) :
    Calls Tryd.prog 16 #[fnV f, .int .i64 x] w fun e w' => ∃ v, e = .returned v ∧ OwnI w.heap.size w' v (nextI f x) ∧ Below w.heap.size w w' := by
  by_cases h0 : x < 0
  · exact rnext_out f x w (.inl h0)
  by_cases h1 : (f.code.xs.length : Int) ≤ x
  · exact rnext_out f x w (.inr h1)
  obtain ⟨k, rfl⟩ : ∃ k : Nat, x = (k : Int) := ⟨x.toNat, by omega⟩
  exact rnext_in f k _ w hf (List.getElem?_eq_getElem (by omega))

end Go.Proofs.YtkoamenfbnpdbaaDoor.Cd
