/- WC, WD -/
import Derived.Test.YtkpdpdllbnihgaaGreatB42
import Derived.Deep.QuietTactic
/- Objects that have one shape: plain; what Shape and Find tell. -/
namespace Go.Proofs.YtkpdpdllbnihgaaGreat.Hp
open Go.RowKit
set_option linter.unusedVariables false

def shF (H : He) (i : Nat) : Int × Bool := ((H.obs[i]?).map (fun o => (o.shape, o.shaped))).getD (0, false)

section
variable {w0 w W : World} {X : Nat → Prop} {hb : Nat} {H : He} {S : List So} {vo vt : SV} {ts : List ByteArray} {n : Nat} {i m j : Nat} {x y : So} {k : ByteArray} {d : De}

theorem oshape_e (h : TwoE w0 w X hb H S vo vt ts) (hO : Ord H S ts n) (hi : S[i]? = some x) :
    Calls Tryz.prog 10 #[.pointer (some ⟨hb, 0, none⟩), .int .u64 (objW (i : Int))] w fun e w' => e = .returned (.tuple #[.int .i64 (shF H i).1, .bool (shF H i).2]) ∧ Below w.heap.size w w' := by
  obtain ⟨o0, o1, ob, e1, e2, _⟩ := hO.get h.wf hi
  obtain ⟨tgH, tgS, M, qs, h⟩ := h
  have k := shape_at h.hp _ o0 o1 e1 e2
  have e : shF H i = (ob.shape, ob.shaped) := by unfold shF; rw [e2]; rfl
  rw [e]
  exact k
theorem ofind_e (h : TwoE w0 w X hb H S vo vt ts) (a : Int) (k : ByteArray) (f : Int) (hf : Sp.findR H.L a k = some (j, f)) :
    Calls Tryz.prog 11 #[.pointer (some ⟨hb, 0, none⟩), .int .i64 a, .string k] w fun e w' => e = .returned (.tuple #[.int .i64 (j : Int), .int .i64 f, .bool true]) ∧ Below w.heap.size w w' := by
  obtain ⟨tgH, tgS, M, qs, h⟩ := h
  have k := findS_at h.hp a k
  rw [hf] at k
  exact k

theorem shape_at' (hO : Ord H S ts n) (hs : ShOk H) (hw : H.wf) (hi : S[i]? = some x) (hd : (shF H i).2 = true) : ∃ ob s, H.obs[i]? = some ob ∧ RelB ob x ∧ ob.neat ∧ Sp.shOf H.L (shF H i).1 = some s ∧ s.pr = rootN x.kind x.proto ∧ s.ks = x.nm ∧ s.fs = x.ds.map De.fl := by
  obtain ⟨_, _, ob, e1, e2, e3, e4, e5⟩ := hO.get hw hi
  have e : shF H i = (ob.shape, ob.shaped) := by unfold shF; rw [e2]; rfl
  rw [e] at hd ⊢
  obtain ⟨s, s1, s2, s3, s4⟩ := hs.ob ob (List.mem_of_getElem? e2) hd
  refine ⟨ob, s, e2, e3, e4, s1, ?_, ?_, ?_⟩
  · rw [s2, e3.kd, e3.pr]
  · rw [s3, e3.nm]
  · rw [s4, e3.ds, List.map_map]
    rfl
theorem shape_find (hO : Ord H S ts n) (hs : ShOk H) (hw : H.wf) (hi : S[i]? = some x) (hd : (shF H i).2 = true) (hk : x.nm[j]? = some k) (hj : x.ds[j]? = some d) : Sp.findR H.L (shF H i).1 k = some (j, d.fl) := by
  obtain ⟨ob, s, e2, e3, e4, s1, s2, s3, s4⟩ := shape_at' hO hs hw hi hd
  obtain ⟨p, hp, hpk, _⟩ := e3.pr' hk hj
  have hx : Sp.idx s.ks k = some j := by
    rw [s3, e3.nm, plc_idx, ← hpk]
    exact plc_self e4 hp
  unfold Sp.findR
  rw [s1]
  simp only [Option.bind_some]
  rw [hx]
  simp only [Option.bind_some]
  rw [s4, List.getElem?_map, hj]
  rfl
theorem rootN_inj {H : He} {k k' p p' : Int} (h : rootN k p = rootN k' p') (hk : 0 ≤ k ∧ k ≤ 6) (hk' : 0 ≤ k' ∧ k' ≤ 6) (ho : H.obs.length ≤ 65536) (hp : mayB H p = true) (hp' : mayB H p' = true) : k = k' ∧ p = p' := by
  have key : ∀ q, mayB H q = true → q = 18445336698825998337 ∨ ∃ i : Nat, q = 18445055223849287680 + (i : Int) ∧ i < 65536 := fun q hq => by
    unfold mayB at hq
    rw [Bool.or_eq_true] at hq
    rcases hq with e | e
    · exact Or.inl (by simpa [nulW] using e)
    · obtain ⟨i, hi⟩ := Option.isSome_iff_exists.1 e
      obtain ⟨_, _, a, b⟩ := obI_some hi
      exact Or.inr ⟨i, b, by omega⟩
  unfold rootN at h
  rcases key p hp with rfl | ⟨a, rfl, ha⟩ <;> rcases key p' hp' with rfl | ⟨b, rfl, hb⟩ <;> omega
theorem shape_same (hO : Ord H S ts n) (hs : ShOk H) (hw : H.wf) (hi : S[i]? = some x) (hm : S[m]? = some y) (hd : (shF H i).2 = true) (hd' : (shF H m).2 = true) (he : (shF H i).1 = (shF H m).1) : x.kind = y.kind ∧ x.proto = y.proto ∧ x.nm = y.nm ∧ x.ds.map De.fl = y.ds.map De.fl := by
  obtain ⟨ob, s, e2, e3, e4, s1, s2, s3, s4⟩ := shape_at' hO hs hw hi hd
  obtain ⟨ob', s', f2, f3, f4, t1, t2, t3, t4⟩ := shape_at' hO hs hw hm hd'
  rw [he, t1] at s1
  obtain rfl := Option.some.inj s1
  have m1 := List.mem_of_getElem? e2
  have m2 := List.mem_of_getElem? f2
  have hp := hO.inv.pr ob m1
  have hp' := hO.inv.pr ob' m2
  have hk := (hw.ob ob m1).kd
  have hk' := (hw.ob ob' m2).kd
  rw [e3.pr] at hp
  rw [f3.pr] at hp'
  rw [e3.kd] at hk
  rw [f3.kd] at hk'
  obtain ⟨q1, q2⟩ := rootN_inj (s2.symm.trans t2) hk hk' hw.ol hp hp'
  exact ⟨q1, q2, s3.symm.trans t3, s4.symm.trans t4⟩
theorem fl_same {a b : List De} (h : a.map De.fl = b.map De.fl) {d e : De} (ha : a[j]? = some d) (hb : b[j]? = some e) : d.fl = e.fl := by
  have h1 : (a.map De.fl)[j]? = some d.fl := by rw [List.getElem?_map, ha]; rfl
  have h2 : (b.map De.fl)[j]? = some e.fl := by rw [List.getElem?_map, hb]; rfl
  rw [h, h2] at h1
  exact (Option.some.inj h1).symm
end

end Go.Proofs.YtkpdpdllbnihgaaGreat.Hp
/- HeapShapes: the walk. -/
namespace Go.Proofs.YtkpdpdllbnihgaaGreat.Hp
open Go.RowKit
set_option linter.unusedVariables false

theorem bool_two (b : Bool) : b = true ∨ b = false := by cases b <;> simp

set_option maxRecDepth 100000 in
set_option maxHeartbeats 8000000 in
theorem shapes_walk (w : World) (m : Int) (sc : Sli OpL) (hsc : sc.ok opC 9 w) (hwf : ∀ o ∈ sc.xs, o.wf ∧ o.w.ok wC 1 w) (hsz : 11 * sc.xs.length ≤ 1048576) :
    Calls Tryz.prog 4 #[.int .i64 m, sc.val] w fun e w' => e = .returned (.bool true) ∧ Below w.heap.size w w' := by
  obtain ⟨ca, cc, cx⟩ := sc
  unfold Sli.val
  simp only at *
  have kn := new_any w m
  have KA : Hid (∀ w : World, Calls Tryz.prog 7 #[] w fun e w' => e = .returned (.bool true) ∧ Below w.heap.size w w') := alive_any
  have HC : Hid (∀ W, Below w.heap.size w W → Sli.ok opC 9 W ⟨ca, cc, cx⟩) := fun W hW => hsc.kept (cells_below hW)
  have HWF : Hid ((∀ o ∈ cx, o.wf ∧ o.w.ok wC 1 w) ∧ 11 * cx.length ≤ 1048576) := ⟨hwf, hsz⟩
  have hcl : (cx.length : Int) ≤ 1048576 := by omega
  clear hsc hwf hsz
  go_enter Tryz.func4, Tryz.ntmps4
  go_wp2_with fail
  refine kn.mono ?_
  rintro e w1 ⟨hb, O, rfl, hT, hb1⟩
  have HS : Hid (LawAt w (w1.alloc (.cells #[.slice none 0 0, .slice none 0 0] 28)) hb w1.heap.size (He.new m) [] .nil .nil [] 0) := LawAt.start hT hb1
  clear kn hT hb1
  go_upto_region 3 with fail
  generalize w1.alloc (.cells #[.slice none 0 0, .slice none 0 0] 28) = w2 at *
  generalize w1.heap.size = bs at *
  have kal := KA.out w2
  go_wp2_with fail
  refine kal.mono ?_
  rintro e w3 ⟨rfl, hb3⟩
  have HI : Hid (LawAt w w3 hb bs (He.new m) [] .nil .nil [] 0) := HS.out.below hb3
  clear kal hb3 HS
  go_wp2_with fail
  go_loopw [35] (fun iv wr => ∃ (i : Nat) (H : He) (S : List So) (vo vt : SV) (ts : List ByteArray), (i ≤ cx.length ∧ Hid (LawAt w wr hb bs H S vo vt ts i)) ∧ iv = .int .i64 i) (fun iv wr => cx.length - (intOf iv).toNat)
  case atStart => exact ⟨0, _, _, _, _, _, ⟨Nat.zero_le _, HI⟩, rfl⟩
  case round =>
    clear HI
    obtain ⟨i, H, S, ⟨oa, ol, oc⟩, ⟨ta, tl, tc⟩, ts, ⟨ple, HL⟩, rfl⟩ := hrel
    rcases Nat.lt_or_ge i cx.length with c | c
    · have hex : ∃ o, cx[i]? = some o := ⟨_, List.getElem?_eq_getElem c⟩
      obtain ⟨o, ho⟩ := hex
      obtain ⟨b, off, e1, hc⟩ := (HC.out wr HL.out.two.bel).cells (by intro e; have e : cx = [] := e; rw [e] at c; simp at c)
      simp only at e1
      subst e1
      have d0 := hc i o ho 0 _ rfl
      have d1 := hc i o ho 1 _ rfl
      have d2 := hc i o ho 2 _ rfl
      have d3 := hc i o ho 3 _ rfl
      have d4 := hc i o ho 4 _ rfl
      have d5 := hc i o ho 5 _ rfl
      have d6 := hc i o ho 6 _ rfl
      have d7 := hc i o ho 7 _ rfl
      have d8 := hc i o ho 8 _ rfl
      rw [Nat.add_zero] at d0
      have hmem := HWF.out.1 o (List.mem_of_getElem? ho)
      have cil : (i : Int) < cx.length := by omega
      obtain ⟨kd, oo, op, kk, ⟨va, se, fl⟩, on, ⟨wa, wc, wl⟩⟩ := o
      unfold Sli.val at d8
      simp only at d0 d1 d2 d3 d4 d5 d6 d7 d8
      obtain ⟨wq, hwq⟩ : ∃ wq, wq = wr.alloc (.cells #[.int .i64 kd, .int .u64 oo, .int .u64 op, .string kk, .int .u64 va, .int .u64 se, .int .i64 fl, .int .i64 on, .slice wa wl.length wc] 38) := ⟨_, rfl⟩
      have hbq : Below wr.heap.size wr wq := by rw [hwq]; exact (Below.refl _ _).alloc (Nat.le_refl _) _
      have hxq : wq.heap[wr.heap.size]? = some (.cells #[.int .i64 kd, .int .u64 oo, .int .u64 op, .string kk, .int .u64 va, .int .u64 se, .int .i64 fl, .int .i64 on, .slice wa wl.length wc] 38 (0, 0)) := by rw [hwq]; exact at_new _ _
      have hlq := HL.out.below hbq
      have ks := hlq.step (by have := HWF.out.2; omega) _ hmem.1 hmem.2
      obtain ⟨r0, r1⟩ := hlq.box.ce
      rw [show (SV.mk oa ol oc).val = .slice oa ol oc from rfl] at r0
      rw [show (SV.mk ta tl tc).val = .slice ta tl tc from rfl] at r1
      unfold stV OpL.val OpL.cells at ks
      rw [show (SV.mk oa ol oc).val = .slice oa ol oc from rfl, show (SV.mk ta tl tc).val = .slice ta tl tc from rfl] at ks
      unfold Sli.val at ks
      simp only at ks
      have hcq : ∀ j, wq.cell? ⟨wr.heap.size, j, none⟩ = _ := fun j => cell_of_row wq wr.heap.size j _ _ (0, 0) hxq
      have g0 := hcq 0
      have g1 := hcq 1
      have g2 := hcq 2
      have g3 := hcq 3
      have g4 := hcq 4
      have g5 := hcq 5
      have g6 := hcq 6
      have g7 := hcq 7
      have g8 := hcq 8
      clear hc ho hmem hbq hxq hlq hcq HL
      go_upto_region 8 with fail
      rw [← hwq]
      clear hwq d0 d1 d2 d3 d4 d5 d6 d7 d8
      generalize wr.heap.size = bq at *
      simp only [List.getElem?_toArray, List.getElem?_cons_zero, List.getElem?_cons_succ] at g0 g1 g2 g3 g4 g5 g6 g7 g8
      go_wp2_with fail
      refine ks.mono ?_
      rintro e w5 ⟨⟨za, zl, zc⟩, ⟨ua, ul, uc⟩, rfl, bx5, hl5⟩
      have HX := (show Hid _ from hl5)
      obtain ⟨m0, m1⟩ := bx5.ce
      obtain ⟨n0, n1⟩ := bx5.fz
      rw [show (SV.mk oa ol oc).val = .slice oa ol oc from rfl] at m0
      rw [show (SV.mk ta tl tc).val = .slice ta tl tc from rfl] at m1
      rw [show (SV.mk za zl zc).val = .slice za zl zc from rfl, show (SV.mk ua ul uc).val = .slice ua ul uc from rfl] at HX ⊢
      clear hl5 bx5 ks g0 g1 g2 g3 g4 g5 g6 g7 g8 r0 r1
      go_wp2_with fail
      refine ⟨⟨i + 1, _, _, ⟨za, zl, zc⟩, ⟨ua, ul, uc⟩, _, ⟨c, HX⟩, by go_num⟩, ?_⟩
      simp [intOf]
      omega
    · have hil : ¬ (i : Int) < cx.length := by omega
      have HQ : Hid (LawAt w wr hb bs H S ⟨oa, ol, oc⟩ ⟨ta, tl, tc⟩ ts i) := HL
      obtain ⟨r0, r1⟩ := HQ.out.box.ce
      rw [show (SV.mk oa ol oc).val = .slice oa ol oc from rfl] at r0
      rw [show (SV.mk ta tl tc).val = .slice ta tl tc from rfl] at r1
      have hol : ol = S.length ∧ S.length ≤ 65536 := by
        obtain ⟨tgH, tgS, M, qs, h⟩ := HQ.out.two
        obtain ⟨ad, cap, hv, _, _⟩ := h.st.vol
        injection hv with a b c
        exact ⟨b, h.st.big⟩
      obtain ⟨rfl, hS⟩ := hol
      have hsl : (S.length : Int) ≤ 65536 := by omega
      clear HL ple c hS HWF HC KA
      obtain ⟨wE, hwE⟩ : ∃ wE, wE = wr := ⟨_, rfl⟩
      rw [← hwE] at HQ r0 r1
      have HT : Hid (∀ W, Below wE.heap.size wE W → LawAt w W hb bs H S ⟨oa, S.length, oc⟩ ⟨ta, tl, tc⟩ ts i ∧ (W.cell? ⟨bs, 0, none⟩ = some (.slice oa S.length oc) ∧ W.cell? ⟨bs, 1, none⟩ = some (.slice ta tl tc))) := fun W q => ⟨HQ.out.below q, cells_below q _ _ r0, cells_below q _ _ r1⟩
      have HV : Hid (∀ i x, S[i]? = some x → ∃ g cap, Value.slice oa S.length oc = .slice (some ⟨g, 0, none⟩) S.length cap) := fun i x hi => by
        obtain ⟨g, cap, _, _, _, _, _, _, _, _, hv, _⟩ := HQ.out.two.row hi
        exact ⟨g, cap, hv⟩
      have HE0 : Hid (Below wE.heap.size wE wr) := by rw [hwE]; exact Below.refl _ _
      obtain ⟨r0, r1⟩ := (HT.out wr HE0.out).2
      clear hwE
      go_wp2_with fail
      go_loopw [50] (fun p W => ∃ j : Nat, j ≤ S.length ∧ Hid (Below wE.heap.size wE W) ∧ p = .int .i64 (j : Int)) (fun p W => ((S.length : Int) - intOf p).toNat)
      case atStart => exact ⟨0, Nat.zero_le _, HE0, rfl⟩
      case round =>
        clear HE0 r0 r1
        obtain ⟨j, hj, HB, rfl⟩ := hrel
        by_cases cj : j < S.length
        · obtain ⟨x, hx⟩ : ∃ x, S[j]? = some x := ⟨_, List.getElem?_eq_getElem cj⟩
          obtain ⟨r0, r1⟩ := (HT.out _ HB.out).2
          have cji : (j : Int) < (S.length : Int) := by omega
          have hwr : IntKind.u64.wrap (j : Int) = (j : Int) := by rw [IntKind.wrap_u64]; omega
          have hwo : IntKind.u64.wrap (18445055223849287680 + (j : Int)) = objW (j : Int) := by rw [IntKind.wrap_u64]; unfold objW; omega
          have ksh := oshape_e (HT.out _ HB.out).1.two HQ.out.ord hx
          have HX : Hid (S[j]? = some x ∧ j < S.length) := ⟨hx, cj⟩
          rcases bool_two (shF H j).2 with hsd | hsd
          · rw [hsd] at ksh
            have HSD : Hid ((shF H j).2 = true) := hsd
            generalize hsn : (shF H j).1 = sn at *
            have HSN : Hid ((shF H j).1 = sn) := hsn
            clear hx hj cj hsd hsn
            go_wp2_with fail
            refine ksh.mono ?_
            rintro e w6 ⟨rfl, hb6⟩
            have HB6 : Hid (Below wE.heap.size wE w6) := bel_sm HB.out hb6
            clear ksh hb6 HB r0 r1
            obtain ⟨hl6, r0, r1⟩ := HT.out _ HB6.out
            obtain ⟨g, cap, a1, c1, a2, c2, a3, c3, a4, c4, hv, _, hsm, ⟨d0, d1, d2, d3, d4, d5, d6⟩, k1, k2, _⟩ := hl6.two.row HX.out.1
            have hv : Value.slice oa S.length oc = .slice (some ⟨g, 0, none⟩) S.length cap := hv
            rw [hv] at r0
            have HV2 : Hid (Value.slice oa S.length oc = .slice (some ⟨g, 0, none⟩) S.length cap) := hv
            have hlim : (x.nm.length : Int) ≤ 9223372036854775807 := by
              have u1 := k1.len
              have u2 := k1.cap
              simp only at u1 u2
              unfold maxLen at u2
              omega
            have HR : Hid (∀ W, Below w6.heap.size w6 W → (W.cell? ⟨g, j * 7 + 3, none⟩ = some (.slice a1 x.nm.length c1) ∧ W.cell? ⟨g, j * 7 + 4, none⟩ = some (.slice a2 x.nm.length c2)) ∧ Sli.ok strC 1 W ⟨a1, c1, x.nm⟩ ∧ Sli.ok deC 3 W ⟨a2, c2, x.ds⟩ ∧ Below wE.heap.size wE W) := fun W q => ⟨⟨cells_below q _ _ d3, cells_below q _ _ d4⟩, k1.kept (cells_below q), k2.kept (cells_below q), bel_sm HB6.out q⟩
            have HX2 : Hid (x.ds.length = x.nm.length) := hsm
            have HD7 : Hid (∀ W, Below w6.heap.size w6 W → W.cell? ⟨g, j * 7, none⟩ = some (.int .i64 x.kind) ∧ W.cell? ⟨g, j * 7 + 1, none⟩ = some (.int .u64 x.proto) ∧ W.cell? ⟨g, j * 7 + 2, none⟩ = some (.bool x.shut) ∧ W.cell? ⟨g, j * 7 + 3, none⟩ = some (.slice a1 x.nm.length c1) ∧ W.cell? ⟨g, j * 7 + 4, none⟩ = some (.slice a2 x.nm.length c2) ∧ W.cell? ⟨g, j * 7 + 5, none⟩ = some (.slice a3 x.el.length c3) ∧ W.cell? ⟨g, j * 7 + 6, none⟩ = some (.slice a4 x.inn.length c4)) := fun W q => ⟨cells_below q _ _ d0, cells_below q _ _ d1, cells_below q _ _ d2, cells_below q _ _ d3, cells_below q _ _ d4, cells_below q _ _ d5, cells_below q _ _ d6⟩
            clear hl6 hv hsm k1 k2
            go_wp2_with fail
            go_loopw [71] (fun p W => ∃ q : Nat, q ≤ x.nm.length ∧ Hid (Below w6.heap.size w6 W) ∧ p = .int .i64 (q : Int)) (fun p W => ((x.nm.length : Int) - intOf p).toNat)
            case atStart => exact ⟨0, Nat.zero_le _, Below.refl _ _, rfl⟩
            case round =>
              clear r0 r1 d0 d1 d2 d3 d4 d5 d6
              obtain ⟨q, hq, HBq, rfl⟩ := hrel
              obtain ⟨⟨e3, e4⟩, k1, k2, hbq⟩ := HR.out _ HBq.out
              obtain ⟨hlq, r0, r1⟩ := HT.out _ hbq
              rw [HV2.out] at r0
              by_cases cq : q < x.nm.length
              · obtain ⟨k, hk⟩ : ∃ k, x.nm[q]? = some k := ⟨_, List.getElem?_eq_getElem cq⟩
                obtain ⟨d, hd⟩ : ∃ d, x.ds[q]? = some d := ⟨_, List.getElem?_eq_getElem (by rw [HX2.out]; exact cq)⟩
                obtain ⟨nb, nf, e1, hn1⟩ := k1.cells (by intro e; have e : x.nm = [] := e; rw [e] at cq; simp at cq)
                simp only at e1
                subst e1
                obtain ⟨db, df, e1, hd1⟩ := k2.cells (by intro e; have e : x.ds = [] := e; rw [e] at hd; simp at hd)
                simp only at e1
                subst e1
                have q0 := hn1 q k hk 0 _ rfl
                have f2 := hd1 q d hd 2 _ rfl
                simp only [Nat.mul_one, Nat.add_zero] at q0
                have kfd := ofind_e hlq.two sn k d.fl (by rw [← HSN.out]; exact shape_find hlq.ord hlq.sh hlq.two.wf HX.out.1 HSD.out hk hd)
                have HC : Hid (∀ W, Below wr.heap.size wr W → (W.cell? ⟨bs, 0, none⟩ = some (.slice (some ⟨g, 0, none⟩) S.length cap) ∧ W.cell? ⟨bs, 1, none⟩ = some (.slice ta tl tc)) ∧ W.cell? ⟨g, j * 7 + 4, none⟩ = some (.slice (some ⟨db, df, none⟩) x.nm.length c2) ∧ W.cell? ⟨db, df + q * 3 + 2, none⟩ = some (.int .i64 d.fl) ∧ Below w6.heap.size w6 W) := fun W z => ⟨⟨cells_below z _ _ r0, cells_below z _ _ r1⟩, cells_below z _ _ e4, cells_below z _ _ f2, bel_sm HBq.out z⟩
                have cqi : (q : Int) < (x.nm.length : Int) := by omega
                generalize d.fl = fl at *
                clear hq hk hd hn1 hd1 k1 k2 hbq hlq e3 e4 f2 r0 r1 HBq
                go_wp2_with fail
                refine kfd.mono ?_
                rintro e w7 ⟨rfl, hb7⟩
                obtain ⟨⟨r0, r1⟩, e4, f2, hbe⟩ := HC.out _ hb7
                have HE := (show Hid _ from hbe)
                clear kfd hb7 hbe HC
                go_wp2_with fail
                refine ⟨⟨q + 1, by omega, HE, by go_num⟩, ?_⟩
                simp [intOf]
                omega
              · have hqn : ¬ (q : Int) < x.nm.length := by omega
                clear k1 k2 hlq e3 e4 r0 r1 hbq hq
                go_wp2_with fail
                go_loopw [107] (fun p W => ∃ m : Nat, m ≤ j ∧ Hid (Below w6.heap.size w6 W) ∧ p = .int .i64 (m : Int)) (fun p W => ((j : Int) - intOf p).toNat)
                case atStart => exact ⟨0, Nat.zero_le _, HBq, rfl⟩
                case round =>
                  clear HBq
                  obtain ⟨m2, hm, HBm, rfl⟩ := hrel
                  obtain ⟨_, k1, k2, hbm⟩ := HR.out _ HBm.out
                  obtain ⟨hlm, r0, r1⟩ := HT.out _ hbm
                  rw [HV2.out] at r0
                  by_cases cm : m2 < j
                  · obtain ⟨y, hy⟩ : ∃ y, S[m2]? = some y := ⟨_, List.getElem?_eq_getElem (by have := HX.out.2; omega)⟩
                    have cmi : (m2 : Int) < (j : Int) := by omega
                    have hwr2 : IntKind.u64.wrap (m2 : Int) = (m2 : Int) := by rw [IntKind.wrap_u64]; omega
                    have hwo2 : IntKind.u64.wrap (18445055223849287680 + (m2 : Int)) = objW (m2 : Int) := by rw [IntKind.wrap_u64]; unfold objW; have := HX.out.2; omega
                    have ksm := oshape_e hlm.two HQ.out.ord hy
                    have HM : Hid (m2 < j) := cm
                    by_cases hse : (shF H m2).2 = true ∧ sn = (shF H m2).1
                    · obtain ⟨hs2, hs3⟩ := hse
                      obtain ⟨s1, s2, s3, s4⟩ := shape_same HQ.out.ord HQ.out.sh HQ.out.two.wf HX.out.1 hy HSD.out hs2 (by rw [HSN.out]; exact hs3)
                      rw [hs2, ← hs3] at ksm
                      have HS4 : Hid (x.ds.map De.fl = y.ds.map De.fl ∧ x.kind = y.kind ∧ x.proto = y.proto ∧ x.nm = y.nm) := ⟨s4, s1, s2, s3⟩
                      have HY : Hid (S[m2]? = some y) := hy
                      clear hs2 hs3 s1 s2 s3 s4 hy k1 k2 hlm hbm cm hm
                      go_wp2_with fail
                      refine ksm.mono ?_
                      rintro e w7 ⟨rfl, hb7⟩
                      have HB7 : Hid (Below w6.heap.size w6 w7) := bel_sm HBm.out hb7
                      clear ksm hb7 r0 r1 HBm
                      obtain ⟨_, k1, k2, hb7⟩ := HR.out _ HB7.out
                      obtain ⟨hl7, r0, r1⟩ := HT.out _ hb7
                      rw [HV2.out] at r0
                      obtain ⟨g', cap', b1, e1, b2, e2, b3, e3, b4, e4, hv, _, hsm', ⟨f0, f1, f2, f3, f4, f5, f6⟩, k3, k4, _⟩ := hl7.two.row HY.out
                      have hv : Value.slice oa S.length oc = .slice (some ⟨g', 0, none⟩) S.length cap' := hv
                      rw [HV2.out] at hv
                      injection hv with u1 u2 u3
                      injection u1 with u1
                      injection u1 with u1
                      subst u1
                      clear u2
                      subst u3
                      have hml : (m2 : Int) < (S.length : Int) := by have := HX.out.2; have := HM.out; omega
                      have hjl : (j : Int) < (S.length : Int) := by have := HX.out.2; omega
                      obtain ⟨d0, d1, d2, d3, d4, d5, d6⟩ := HD7.out _ HB7.out
                      obtain ⟨w8, hw8⟩ : ∃ w8, w8 = w7.alloc (.cells #[.int .i64 x.kind, .int .u64 x.proto, .bool x.shut, .slice a1 x.nm.length c1, .slice a2 x.nm.length c2, .slice a3 x.el.length c3, .slice a4 x.inn.length c4] 45) := ⟨_, rfl⟩
                      have hb8 : Below w7.heap.size w7 w8 := by rw [hw8]; exact (Below.refl _ _).alloc (Nat.le_refl _) _
                      have hp8 : w8.heap[w7.heap.size]? = some (.cells #[.int .i64 x.kind, .int .u64 x.proto, .bool x.shut, .slice a1 x.nm.length c1, .slice a2 x.nm.length c2, .slice a3 x.el.length c3, .slice a4 x.inn.length c4] 45 (0, 0)) := by rw [hw8]; exact at_new _ _
                      obtain ⟨w9, hw9⟩ : ∃ w9, w9 = w8.alloc (.cells #[.int .i64 y.kind, .int .u64 y.proto, .bool y.shut, .slice b1 y.nm.length e1, .slice b2 y.nm.length e2, .slice b3 y.el.length e3, .slice b4 y.inn.length e4] 45) := ⟨_, rfl⟩
                      have hb9 : Below w8.heap.size w8 w9 := by rw [hw9]; exact (Below.refl _ _).alloc (Nat.le_refl _) _
                      have hq9 : w9.heap[w8.heap.size]? = some (.cells #[.int .i64 y.kind, .int .u64 y.proto, .bool y.shut, .slice b1 y.nm.length e1, .slice b2 y.nm.length e2, .slice b3 y.el.length e3, .slice b4 y.inn.length e4] 45 (0, 0)) := by rw [hw9]; exact at_new _ _
                      have hp9 := (hb9.block _ (Array.getElem?_eq_some_iff.1 hp8).1).trans hp8
                      have HB9 : Hid (Below w6.heap.size w6 w9) := bel_sm (bel_sm HB7.out hb8) hb9
                      have hcp : ∀ j, w9.cell? ⟨w7.heap.size, j, none⟩ = _ := fun j => cell_of_row w9 _ j _ _ (0, 0) hp9
                      have hcq : ∀ j, w9.cell? ⟨w8.heap.size, j, none⟩ = _ := fun j => cell_of_row w9 _ j _ _ (0, 0) hq9
                      have P := And.intro (hcp 0) (And.intro (hcp 1) (And.intro (hcp 3) (And.intro (hcp 4) (And.intro (hcq 0) (And.intro (hcq 1) (And.intro (hcq 3) (hcq 4)))))))
                      simp only [List.getElem?_toArray, List.getElem?_cons_zero, List.getElem?_cons_succ] at P
                      have HP := (show Hid _ from P)
                      have HK3 : Hid ((∀ W, Below w9.heap.size w9 W → Sli.ok strC 1 W ⟨b1, e1, y.nm⟩ ∧ Sli.ok deC 3 W ⟨b2, e2, y.ds⟩) ∧ y.ds.length = y.nm.length) := ⟨fun W q => ⟨k3.kept (cells_below (bel_sm (bel_sm hb8 hb9) q)), k4.kept (cells_below (bel_sm (bel_sm hb8 hb9) q))⟩, hsm'⟩
                      clear hl7 hb7 k1 k2 k3 k4 hsm' hcp hcq hp8 hp9 hq9 P
                      go_upto_region 29 with fail
                      rw [← hw8]
                      have f0 := cells_below hb8 _ _ f0
                      have f1 := cells_below hb8 _ _ f1
                      have f2 := cells_below hb8 _ _ f2
                      have f3 := cells_below hb8 _ _ f3
                      have f4 := cells_below hb8 _ _ f4
                      have f5 := cells_below hb8 _ _ f5
                      have f6 := cells_below hb8 _ _ f6
                      have r0 := cells_below hb8 _ _ r0
                      have r1 := cells_below hb8 _ _ r1
                      clear d0 d1 d2 d3 d4 d5 d6 hw8 hb8
                      generalize w7.heap.size = bp at *
                      go_upto_region 30 with fail
                      rw [← hw9]
                      clear hw9 hb9 f0 f1 f2 f3 f4 f5 f6 r0 r1
                      generalize w8.heap.size = bq at *
                      obtain ⟨p0, p1, p3, p4, q0, q1, q3, q4⟩ := HP.out
                      rw [← HS4.out.2.1] at q0
                      rw [← HS4.out.2.2.1] at q1
                      rw [← HS4.out.2.2.2] at q3 q4
                      have HPW : Hid (∀ W, Below w9.heap.size w9 W → W.cell? ⟨bp, 3, none⟩ = some (.slice a1 x.nm.length c1) ∧ W.cell? ⟨bp, 4, none⟩ = some (.slice a2 x.nm.length c2) ∧ W.cell? ⟨bq, 3, none⟩ = some (.slice b1 x.nm.length e1) ∧ W.cell? ⟨bq, 4, none⟩ = some (.slice b2 x.nm.length e2)) := fun W z => ⟨cells_below z _ _ p3, cells_below z _ _ p4, cells_below z _ _ q3, cells_below z _ _ q4⟩
                      clear HP HB7
                      go_wp2_with fail
                      go_loopw [159] (fun p W => ∃ q : Nat, q ≤ x.nm.length ∧ Hid (Below w9.heap.size w9 W) ∧ p = .int .i64 (q : Int)) (fun p W => ((x.nm.length : Int) - intOf p).toNat)
                      case atStart => exact ⟨0, Nat.zero_le _, Below.refl _ _, rfl⟩
                      case round =>
                        clear p0 p1 p3 p4 q0 q1 q3 q4
                        obtain ⟨q, hq, HBz, rfl⟩ := hrel
                        obtain ⟨p3, p4, q3, q4⟩ := HPW.out _ HBz.out
                        by_cases cq : q < x.nm.length
                        · obtain ⟨_, k1, k2, _⟩ := HR.out _ (bel_sm HB9.out HBz.out)
                          obtain ⟨k3, k4⟩ := HK3.out.1 _ HBz.out
                          have hyn := HS4.out.2.2.2
                          obtain ⟨k, hk⟩ : ∃ k, x.nm[q]? = some k := ⟨_, List.getElem?_eq_getElem cq⟩
                          obtain ⟨d, hd⟩ : ∃ d, x.ds[q]? = some d := ⟨_, List.getElem?_eq_getElem (by rw [HX2.out]; exact cq)⟩
                          have hk' : y.nm[q]? = some k := by rw [← hyn]; exact hk
                          obtain ⟨d', hd'⟩ : ∃ d, y.ds[q]? = some d := ⟨_, List.getElem?_eq_getElem (by rw [HK3.out.2, ← hyn]; exact cq)⟩
                          have hfl := fl_same HS4.out.1 hd hd'
                          obtain ⟨na, nf, u1, hn1⟩ := k1.cells (by intro e; have e : x.nm = [] := e; rw [e] at cq; simp at cq)
                          obtain ⟨nb, ng, u2, hn2⟩ := k3.cells (by intro e; have e : y.nm = [] := e; rw [e] at hk'; simp at hk')
                          obtain ⟨da, df, u3, hd1⟩ := k2.cells (by intro e; have e : x.ds = [] := e; rw [e] at hd; simp at hd)
                          obtain ⟨db, dg, u4, hd2⟩ := k4.cells (by intro e; have e : y.ds = [] := e; rw [e] at hd'; simp at hd')
                          simp only at u1 u2 u3 u4
                          have v1 := hn1 q k hk 0 _ rfl
                          have v2 := hn2 q k hk' 0 _ rfl
                          have v3 := hd1 q d hd 2 _ rfl
                          have v4 := hd2 q d' hd' 2 _ rfl
                          simp only [Nat.mul_one, Nat.add_zero] at v1 v2
                          rw [← hfl] at v4
                          rw [u1] at p3
                          rw [u3] at p4
                          rw [u2] at q3
                          rw [u4] at q4
                          have cqi : (q : Int) < (x.nm.length : Int) := by omega
                          have HE : Hid (∀ nq, Below w9.heap.size w9 (wr.drewN nq)) := fun nq => Go.below_drewN HBz.out nq
                          generalize d.fl = fl at *
                          clear hq hyn hk hk' hd hd' hfl k1 k2 k3 k4 hn1 hn2 hd1 hd2 u1 u2 u3 u4 HBz
                          go_upto_region 35 with fail
                          go_quiet (fail)
                          have HE2 := (show Hid _ from HE.out nq)
                          clear p3 p4 q3 q4 v1 v2 v3 v4 HE
                          generalize wr.drewN nq = wz at *
                          go_wp2_with fail
                          refine ⟨⟨q + 1, by omega, HE2, by go_num⟩, ?_⟩
                          simp [intOf]
                          omega
                        · have hqn2 : ¬ (q : Int) < x.nm.length := by omega
                          clear p3 p4 q3 q4 hq
                          have HE := (show Hid _ from bel_sm HB9.out HBz.out)
                          clear HBz
                          go_wp2_with fail
                          refine ⟨⟨m2 + 1, by have := HM.out; omega, HE, by go_num⟩, ?_⟩
                          have := HM.out
                          simp [intOf]
                          omega
                    · rcases bool_two (shF H m2).2 with hs2 | hs2
                      · have hne : (sn == (shF H m2).1) = false := by rw [beq_eq_false_iff_ne]; exact fun e => hse ⟨hs2, e⟩
                        rw [hs2] at ksm
                        generalize (shF H m2).1 = sm at *
                        clear hse hs2 hy k1 k2 hlm hbm cm hm
                        go_wp2_with fail
                        refine ksm.mono ?_
                        rintro e w7 ⟨rfl, hb7⟩
                        have HE := (show Hid _ from bel_sm HBm.out hb7)
                        clear ksm hb7 r0 r1 HBm
                        go_wp2_with fail
                        refine ⟨⟨m2 + 1, HM.out, HE, by go_num⟩, ?_⟩
                        have := HM.out
                        simp [intOf]
                        omega
                      · rw [hs2] at ksm
                        clear hse hs2 hy k1 k2 hlm hbm cm hm
                        go_wp2_with fail
                        refine ksm.mono ?_
                        rintro e w7 ⟨rfl, hb7⟩
                        have HE := (show Hid _ from bel_sm HBm.out hb7)
                        clear ksm hb7 r0 r1 HBm
                        go_wp2_with fail
                        refine ⟨⟨m2 + 1, HM.out, HE, by go_num⟩, ?_⟩
                        have := HM.out
                        simp [intOf]
                        omega
                  · have hmn : ¬ (m2 : Int) < (j : Int) := by omega
                    clear k1 k2 hlm hbm hm cm
                    go_wp2_with fail
                    have HE : Hid (Below wE.heap.size wE _) := (HR.out _ HBm.out).2.2.2
                    refine ⟨⟨j + 1, HX.out.2, HE, by go_num⟩, ?_⟩
                    have := HX.out.2
                    simp [intOf]
                    omega
          · clear hj cj hx
            rw [hsd] at ksh
            clear hsd
            go_wp2_with fail
            refine ksh.mono ?_
            rintro e w6 ⟨rfl, hb6⟩
            have HB6 : Hid (Below wE.heap.size wE w6) := bel_sm HB.out hb6
            clear ksh hb6 HB r0 r1
            go_wp2_with fail
            refine ⟨⟨j + 1, HX.out.2, HB6, by go_num⟩, ?_⟩
            have := HX.out.2
            simp [intOf]
            omega
        · have hjn : ¬ (j : Int) < S.length := by omega
          obtain ⟨hl, r0, r1⟩ := HT.out _ HB.out
          have HE := (show Hid _ from hl.two.bel)
          clear hl
          go_wp2_with fail
          go_ret
          exact ⟨rfl, HE.out⟩
end Go.Proofs.YtkpdpdllbnihgaaGreat.Hp
