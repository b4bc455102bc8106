/- The document's kind. -/
import Derived.Test.YtjkemkggcnholaaGQ
import Derived.Test.YtjkemkggcnholaaGO1
import Derived.Test.YtjkemkggcnholaaGO2
import Derived.Test.YtjkemkggcnholaaGN
import Derived.Test.YtjkemkggcnholaaGJ0
namespace Go.Proofs.Ytjkemkggcnholaa.Fu
open Go.RowKit
set_option linter.unusedVariables false

set_option maxRecDepth 100000 in
set_option maxHeartbeats 4000000 in
theorem kind_two (f : Fn) (p room : Nat) (w : World) (hf : f.ok w) (h2 : 2 ≤ room) (h3 : room ≤ 3) (hp : p + room ≤ f.code.xs.length) (hz : (f.code.xs.length : Int) ≤ 17592186044416) :
    Calls Try.prog 18 #[fnV f, .int .i64 (p : Nat), .int .i64 (room : Nat)] w fun e w' => e = .returned (.tuple #[.int .i64 (firstI ((f.code.xs.drop p).take room)).1, .int .i64 ((firstI ((f.code.xs.drop p).take room)).2 : Int)]) ∧ Below w.heap.size w w' := by
  have B0 : Below w.heap.size w (w.alloc (fnB f)) := (Below.refl _ _).alloc (Nat.le_refl _) _
  have hexa : ∃ a, f.code.xs[p]? = some a := ⟨_, List.getElem?_eq_getElem (by omega)⟩
  have hexb : ∃ a, f.code.xs[p + 1]? = some a := ⟨_, List.getElem?_eq_getElem (by omega)⟩
  obtain ⟨a, ha0⟩ := hexa
  obtain ⟨b, hb0⟩ := hexb
  obtain ⟨zs, hzs, hL⟩ : ∃ zs : List Ins, ((room = 2 ∧ zs = []) ∨ (room = 3 ∧ ∃ z, f.code.xs[p + 2]? = some z ∧ zs = [z])) ∧ (f.code.xs.drop p).take room = a :: b :: zs := by
    have e1 : f.code.xs.drop p = a :: f.code.xs.drop (p + 1) := by
      rw [List.drop_eq_getElem_cons (by omega)]
      rw [List.getElem?_eq_getElem (by omega)] at ha0
      rw [Option.some.inj ha0]
    have e2 : f.code.xs.drop (p + 1) = b :: f.code.xs.drop (p + 2) := by
      rw [List.drop_eq_getElem_cons (by omega)]
      rw [List.getElem?_eq_getElem (by omega)] at hb0
      rw [Option.some.inj hb0]
    rcases (show room = 2 ∨ room = 3 by omega) with rfl | rfl
    · exact ⟨[], Or.inl ⟨rfl, rfl⟩, by rw [e1, e2]; rfl⟩
    · have hexc : ∃ a, f.code.xs[p + 2]? = some a := ⟨_, List.getElem?_eq_getElem (by omega)⟩
      obtain ⟨z, hc0⟩ := hexc
      have e3 : f.code.xs.drop (p + 2) = z :: f.code.xs.drop (p + 3) := by
        rw [List.drop_eq_getElem_cons (by omega)]
        have hc1 := hc0
        rw [List.getElem?_eq_getElem (by omega)] at hc1
        rw [Option.some.inj hc1]
      exact ⟨[z], Or.inr ⟨rfl, z, hc0, rfl⟩, by rw [e1, e2, e3]; rfl⟩
  rw [hL]
  have hcode := fun w' (h : Below (w.alloc (fnB f)).heap.size (w.alloc (fnB f)) w') => ((hf.kept (cells_below B0)).kept (cells_below h)).code
  have hm4 := fun w' (h : Below (w.alloc (fnB f)).heap.size (w.alloc (fnB f)) w') => fn_cells f w w' h 4 _ rfl
  have HC : Hid (∀ w', Below (w.alloc (fnB f)).heap.size (w.alloc (fnB f)) w' → f.code.ok insC 4 w') := hcode
  have HM : Hid (∀ w', Below (w.alloc (fnB f)).heap.size (w.alloc (fnB f)) w' → w'.cell? ⟨w.heap.size, 4, none⟩ = some f.code.val) := hm4
  have HB0 : Hid (∀ w', Below (w.alloc (fnB f)).heap.size (w.alloc (fnB f)) w' → Below w.heap.size w w') := fun w' h => B0.trans (h.mono B0.size)
  have hcap : f.code.xs.length ≤ f.code.cap := hf.code.len
  clear hf B0 hL hcode hm4
  obtain ⟨nm, pa, re, ge, ⟨ca, c1, cx⟩, ⟨ka, kc, kx⟩, ⟨pa', pc, px⟩, ⟨ha, hc, hx⟩⟩ := f
  unfold fnB at *
  unfold fnV at *
  unfold Sli.val at *
  simp only at *
  obtain ⟨cb, co, hca, _⟩ := (HC.out _ (Below.refl _ _)).cells (by intro e; simp only at e; rw [e] at ha0; simp at ha0)
  simp only at hca
  subst hca
  have hp1 : (p : Int) + 1 < cx.length := by omega
  have t : ¬ (room : Int) < 2 := by omega
  have HZS : Hid ((room = 2 ∧ zs = []) ∨ (room = 3 ∧ ∃ z, cx[p + 2]? = some z ∧ zs = [z])) := hzs
  have HA0 : Hid (cx[p]? = some a ∧ cx[p + 1]? = some b) := ⟨ha0, hb0⟩
  have HPR : Hid (p + room ≤ cx.length ∧ 2 ≤ room ∧ room ≤ 3) := ⟨hp, h2, h3⟩
  clear hzs ha0 hb0 hp h2 h3
  go_enter Try.func18, Try.ntmps18
  go_upto_region 1 with fail
  generalize w.alloc (.cells #[.string nm, .int .i64 pa, .int .i64 re, .bool ge, .slice (some ⟨cb, co, none⟩) cx.length c1, .slice ka kx.length kc, .slice pa' px.length pc, .slice ha hx.length hc] 27) = w1 at *
  have m4 := HM.out w1 (Below.refl _ _)
  obtain ⟨a0, a1, a2, a3⟩ := ins_cells (HC.out w1 (Below.refl _ _)) rfl HA0.out.1
  obtain ⟨ao, aa, ab, ac⟩ := a
  simp only at a0 a1 a2 a3
  go_upto_region 4 with fail
  have b2 := below_new (Below.refl w1.heap.size w1) (Nat.le_refl _) (.cells #[.int .i64 ao, .int .i64 aa, .int .i64 ab, .int .i64 ac] 41)
  have A0 := insB_cell ao aa ab ac w1 0 _ rfl
  have A1 := insB_cell ao aa ab ac w1 1 _ rfl
  generalize w1.alloc (.cells #[.int .i64 ao, .int .i64 aa, .int .i64 ab, .int .i64 ac] 41) = w2 at *
  clear m4 a0 a1 a2 a3
  have m4 := HM.out w2 b2
  obtain ⟨y0, y1, y2, y3⟩ := ins_cells (HC.out w2 b2) rfl HA0.out.2
  obtain ⟨bo, ba, bb, bc⟩ := b
  simp only at y0 y1 y2 y3
  go_upto_region 5 with fail
  have b3 := below_new (Below.refl w2.heap.size w2) (Nat.le_refl _) (.cells #[.int .i64 bo, .int .i64 ba, .int .i64 bb, .int .i64 bc] 41)
  have Y0 := insB_cell bo ba bb bc w2 0 _ rfl
  have Y1 := insB_cell bo ba bb bc w2 1 _ rfl
  have Y2 := insB_cell bo ba bb bc w2 2 _ rfl
  generalize w2.alloc (.cells #[.int .i64 bo, .int .i64 ba, .int .i64 bb, .int .i64 bc] 41) = w3 at *
  clear m4 y0 y1 y2 y3
  have X0 := cells_below b3 _ _ A0
  have X1 := cells_below b3 _ _ A1
  have b13 := b2.trans (b3.mono b2.size)
  have m4 := HM.out w3 b13
  have h3rd : Third w3 p room cb co cx.length zs := by
    rcases HZS.out with h | ⟨h, z, hz1, hz2⟩
    · exact Or.inl h
    · obtain ⟨z0, z1, z2, z3⟩ := ins_cells (HC.out w3 b13) rfl hz1
      have := HPR.out
      exact Or.inr ⟨h, z, p + 2, hz2, by rw [IntKind.wrap_i64]; omega, by omega, z0, z2, z3⟩
  have HB3 : Hid (∀ w', Below w3.heap.size w3 w' → Below w.heap.size w w') := fun w' h => HB0.out w' (b13.trans (h.mono b13.size))
  clear b2 b3 b13 A0 A1 HC HM HB0 HZS HA0 HPR
  generalize hxa : w1.heap.size = xa at *
  generalize hxb : w2.heap.size = xb at *
  generalize hfb : w.heap.size = fb at *
  refine Code.wp_mono ?_ (kreg5 w3 p room fb xa xb cb co cx.length c1 ⟨ao, aa, ab, ac⟩ ⟨bo, ba, bb, bc⟩ zs hz m4 X0 X1 Y0 Y1 h3rd _ _ _ _ _ _ _ _ _ _ _ _ _ _ _ _ _ _)
  intro ex ax w5 hp5
  obtain ⟨rfl, v0, v1, v2, v3, v4, v5, v6, v7, v8, v9, v10, v11, v12, v13, v14, v15, v16, v17, v18, v19, v20, v21, v22, v23, v24, v25, v26, v27, v28, v29, v30, v31, v32, v33, v34, v35, v36, v37, v38, v39, v40, v41, v42, v43, v44, v45, v46, v47, v48, v49, v50, v51, v52, v53, v54, rfl, hb5⟩ := P5_out hp5
  have x0 := cells_below hb5 _ _ X0
  have x1 := cells_below hb5 _ _ X1
  have y0 := cells_below hb5 _ _ Y0
  have y1 := cells_below hb5 _ _ Y1
  have y2 := cells_below hb5 _ _ Y2
  have HB5 : Hid (Below fb w w5) := by have := HB3.out w5 hb5; exact this
  clear hp5 hb5 X0 X1 Y0 Y1 Y2 HB3 h3rd m4
  have k7 := kreg7 w5 xa xb ⟨ao, aa, ab, ac⟩ ⟨bo, ba, bb, bc⟩ zs x0 x1 y0 y1 y2
  have k9 := kreg9 w5 xa xb ⟨ao, aa, ab, ac⟩ ⟨bo, ba, bb, bc⟩ zs x0 x1 y0 y1 y2
  have k11 := kreg11 w5 xa xb ⟨ao, aa, ab, ac⟩ ⟨bo, ba, bb, bc⟩ zs x0 x1 y0 y1 y2
  have HF : Hid (firstI (⟨ao, aa, ab, ac⟩ :: ⟨bo, ba, bb, bc⟩ :: zs) = if arithB (⟨ao, aa, ab, ac⟩ :: ⟨bo, ba, bb, bc⟩ :: zs) then (1, 3) else if testB (⟨ao, aa, ab, ac⟩ :: ⟨bo, ba, bb, bc⟩ :: zs) then (2, 2) else if freeB (⟨ao, aa, ab, ac⟩ :: ⟨bo, ba, bb, bc⟩ :: zs) then (3, 2) else if movesB (⟨ao, aa, ab, ac⟩ :: ⟨bo, ba, bb, bc⟩ :: zs) then (4, 2) else (0, 1)) := rfl
  generalize arithB (⟨ao, aa, ab, ac⟩ :: ⟨bo, ba, bb, bc⟩ :: zs) = R1 at *
  generalize testB (⟨ao, aa, ab, ac⟩ :: ⟨bo, ba, bb, bc⟩ :: zs) = R2 at *
  generalize freeB (⟨ao, aa, ab, ac⟩ :: ⟨bo, ba, bb, bc⟩ :: zs) = R3 at *
  generalize movesB (⟨ao, aa, ab, ac⟩ :: ⟨bo, ba, bb, bc⟩ :: zs) = R4 at *
  have K7 := (show Hid _ from k7)
  have K9 := (show Hid _ from k9)
  have K11 := (show Hid _ from k11)
  clear k7 k9 k11 x0 x1 y0 y1 y2
  cases R1 with
  | true =>
    have HF2 : Hid (firstI (⟨ao, aa, ab, ac⟩ :: ⟨bo, ba, bb, bc⟩ :: zs) = (1, 3)) := HF.out
    go_wp2_with fail
    go_ret2
    rw [HF2.out]
    exact ⟨rfl, HB5.out⟩
  | false =>
  go_upto_region 7 with fail
  refine Code.wp_mono ?_ (K7.out _ _ _ _ _ _ _ _ _ _ _ _ _ _ _ _ _ _ _ _ _ _ _ _ _ _ _ _ _ _ _ _ _ _ _ _ _ _ _ _ _ _ _ _ _ _ _ _ _ _ _ _ _ _ _ _ _ _ _ _ _ _ _ _ _ _ _ _ _ _ _ _ _ _ _ _ _)
  intro ex ax w6 hp6
  obtain ⟨rfl, q0, q1, q2, q3, q4, q5, q6, q7, q8, q9, q10, q11, q12, q13, q14, q15, q16, q17, q18, q19, q20, q21, q22, q23, rfl, rfl⟩ := P7_out hp6
  clear hp6
  cases R2 with
  | true =>
    have HF2 : Hid (firstI (⟨ao, aa, ab, ac⟩ :: ⟨bo, ba, bb, bc⟩ :: zs) = (2, 2)) := HF.out
    go_wp2_with fail
    go_ret2
    rw [HF2.out]
    exact ⟨rfl, HB5.out⟩
  | false =>
  go_upto_region 9 with fail
  refine Code.wp_mono ?_ (K9.out _ _ _ _ _ _ _ _ _ _ _ _ _ _ _ _ _ _ _ _ _ _ _ _ _ _ _ _ _ _ _ _ _ _ _ _ _ _ _ _ _ _ _ _ _ _ _ _ _ _ _ _ _ _ _ _ _ _ _ _ _ _ _ _ _ _ _ _ _ _ _ _ _ _ _ _ _ _ _ _ _ _ _ _ _ _ _ _ _ _ _ _ _ _ _ _ _ _ _ _ _ _)
  intro ex ax w6 hp6
  obtain ⟨rfl, r0, r1, r2, r3, r4, r5, r6, r7, r8, r9, r10, r11, r12, r13, rfl, rfl⟩ := P9_out hp6
  clear hp6
  cases R3 with
  | true =>
    have HF2 : Hid (firstI (⟨ao, aa, ab, ac⟩ :: ⟨bo, ba, bb, bc⟩ :: zs) = (3, 2)) := HF.out
    go_wp2_with fail
    go_ret2
    rw [HF2.out]
    exact ⟨rfl, HB5.out⟩
  | false =>
  go_upto_region 11 with fail
  refine Code.wp_mono ?_ (K11.out _ _ _ _ _ _ _ _ _ _ _ _ _ _ _ _ _ _ _ _ _ _ _ _ _ _ _ _ _ _ _ _ _ _ _ _ _ _ _ _ _ _ _ _ _ _ _ _ _ _ _ _ _ _ _ _ _ _ _ _ _ _ _ _ _ _ _ _ _ _ _ _ _ _ _ _ _ _ _ _ _ _ _ _ _ _ _ _ _ _ _ _ _ _ _ _ _ _ _ _ _ _ _ _ _ _ _ _ _ _ _ _ _ _ _ _ _)
  intro ex ax w6 hp6
  obtain ⟨rfl, s0, s1, s2, s3, s4, s5, s6, rfl, rfl⟩ := P11_out hp6
  clear hp6
  cases R4 with
  | true =>
    have HF2 : Hid (firstI (⟨ao, aa, ab, ac⟩ :: ⟨bo, ba, bb, bc⟩ :: zs) = (4, 2)) := HF.out
    go_wp2_with fail
    go_ret2
    rw [HF2.out]
    exact ⟨rfl, HB5.out⟩
  | false =>
    have HF2 : Hid (firstI (⟨ao, aa, ab, ac⟩ :: ⟨bo, ba, bb, bc⟩ :: zs) = (0, 1)) := HF.out
    go_wp2_with fail
    go_ret2
    rw [HF2.out]
    exact ⟨rfl, HB5.out⟩

theorem kind_ok (f : Fn) (hz : (f.code.xs.length : Int) ≤ 17592186044416) : KindOk f := by
  intro p w hf hp room h1 h3 hr
  rcases Nat.lt_or_ge room 2 with c | c
  · have : room = 1 := by omega
    subst this
    have e : firstI ((f.code.xs.drop p).take 1) = (0, 1) := by
      rcases hd : f.code.xs.drop p with _ | ⟨x, r⟩ <;> rfl
    rw [e]
    exact kind_one f p 1 w (by omega)
  · exact kind_two f p room w hf c h3 hr hz

end Go.Proofs.Ytjkemkggcnholaa.Fu
