/- UT, UU -/
import Derived.Test.YtkpdpdllbnihgaaGreatB39
set_option linter.unusedVariables false
set_option linter.unusedSimpArgs false
set_option maxRecDepth 100000
set_option maxHeartbeats 40000000
/- law.step: SetElem, Guard. -/
namespace Go.Proofs.YtkpdpdllbnihgaaGreat.Hp
open Go.RowKit
section
variable {w0 w W W' : World} {X : Nat → Prop} {hb : Nat} {H H' : He} {S S' : List So} {vo vo' vt vt' : SV} {ts ts' : List ByteArray} {n : Nat}
set_option maxRecDepth 100000 in
set_option maxHeartbeats 2000000 in
theorem step_4 (h : TwoE w0 w X hb H S vo vt ts) (hO : Ord H S ts n) (hn : n ≤ 1000000) (o : OpL) (hk : o.kd = 4) (ho : o.wf) (hw : ∀ W, Below w0.heap.size w0 W → o.w.ok wC 1 W) :
    Calls Tryz.prog 8 #[.pointer (some ⟨hb, 0, none⟩), stV vo vt, o.val] w fun e w' => ∃ vo' vt', e = .returned (.tuple #[stV vo' vt', .bool true]) ∧ TwoK w0 w w' X hb (stepH H o) (stepS S o) vo' vt' (stepT ts o) := by
  obtain ⟨kd, oo, op, kk, ⟨va, se, fl⟩, on, ⟨wa, wc, wl⟩⟩ := o
  obtain rfl : kd = 4 := hk
  have HO : Hid (Ord H S ts n) := hO
  have hwf := h.wf
  have eH : stepH H ⟨4, oo, op, kk, ⟨va, se, fl⟩, on, ⟨wa, wc, wl⟩⟩ = (elemF H oo on (OpL.fst ⟨4, oo, op, kk, ⟨va, se, fl⟩, on, ⟨wa, wc, wl⟩⟩)).1 := by rfl
  have eS : stepS S ⟨4, oo, op, kk, ⟨va, se, fl⟩, on, ⟨wa, wc, wl⟩⟩ = (elemG S oo on (OpL.fst ⟨4, oo, op, kk, ⟨va, se, fl⟩, on, ⟨wa, wc, wl⟩⟩)).1 := by rfl
  have eT : stepT ts ⟨4, oo, op, kk, ⟨va, se, fl⟩, on, ⟨wa, wc, wl⟩⟩ = ts := by rfl
  rw [eH, eS, eT]
  have eF : OpL.fst ⟨4, oo, op, kk, ⟨va, se, fl⟩, on, ⟨wa, wc, wl⟩⟩ = (wl[0]?).getD undW := rfl
  rw [eF]
  have kf := fun W (q : Below w0.heap.size w0 W) => first_any W ⟨wa, wc, wl⟩ (hw W q)
  generalize (wl[0]?).getD undW = fv at *
  have kp := fun W (h : TwoE w0 W (Xb w X) hb H S vo vt ts) => setElem_e h oo ho.o0 ho.o1 on fv
  have kq := fun H1 W (h : TwoE w0 W (Xb w X) hb H1 S vo vt ts) => rsetElem_e h (HO.out.wfs hwf).2.1 oo ho.o0 ho.o1 on fv
  have eq := (HO.out.rel.elem oo on fv).2
  generalize (elemF H oo on fv).2 = rb at *
  generalize (elemG S oo on fv).2 = rb2 at *
  subst eq
  obtain ⟨oa, ol, oc⟩ := vo
  obtain ⟨ta, tl, tc⟩ := vt
  have hst : On w0 w (((w.alloc (.cells #[.slice oa ol oc, .slice ta tl tc] 28)).alloc (.cells #[.int .i64 4, .int .u64 oo, .int .u64 op, .string kk, .int .u64 va, .int .u64 se, .int .i64 fl, .int .i64 on, .slice wa wl.length wc] 38)).alloc (.cells #[.slice none 0 0, .slice none 0 0] 28)) X hb H S ⟨oa, ol, oc⟩ ⟨ta, tl, tc⟩ ts ⟨oa, ol, oc⟩ ⟨ta, tl, tc⟩ #[.int .i64 4, .int .u64 oo, .int .u64 op, .string kk, .int .u64 va, .int .u64 se, .int .i64 fl, .int .i64 on, .slice wa wl.length wc] .nil .nil := On.start h _
  obtain ⟨wb, hwb⟩ : ∃ wb, wb = (((w.alloc (.cells #[.slice oa ol oc, .slice ta tl tc] 28)).alloc (.cells #[.int .i64 4, .int .u64 oo, .int .u64 op, .string kk, .int .u64 va, .int .u64 se, .int .i64 fl, .int .i64 on, .slice wa wl.length wc] 38)).alloc (.cells #[.slice none 0 0, .slice none 0 0] 28)) := ⟨_, rfl⟩
  rw [← hwb] at hst
  have HS := (show Hid _ from hst)
  have hsd := hst.same ((Below.refl _ _).drew)
  have HSD := (show Hid _ from hsd)
  have kp := kp wb.drew hsd.two
  have kf1 := kf wb.drew hsd.two.bel
  generalize (elemF H oo on fv).1 = H2 at *
  generalize (elemG S oo on fv).1 = S2 at *
  have HC : Hid (∀ W H1 S1, On w0 w W X hb H1 S1 ⟨oa, ol, oc⟩ ⟨ta, tl, tc⟩ ts ⟨oa, ol, oc⟩ ⟨ta, tl, tc⟩ #[.int .i64 4, .int .u64 oo, .int .u64 op, .string kk, .int .u64 va, .int .u64 se, .int .i64 fl, .int .i64 on, .slice wa wl.length wc] .nil .nil → (W.cell? ⟨w.heap.size + 1, 1, none⟩ = some (.int .u64 oo) ∧ W.cell? ⟨w.heap.size + 1, 7, none⟩ = some (.int .i64 on) ∧ W.cell? ⟨w.heap.size + 1, 8, none⟩ = some (.slice wa wl.length wc)) ∧ (W.cell? ⟨w.heap.size, 0, none⟩ = some (.slice oa ol oc) ∧ W.cell? ⟨w.heap.size, 1, none⟩ = some (.slice ta tl tc))) := fun W H1 S1 q => ⟨⟨q.oc 1 rfl, q.oc 7 rfl, q.oc 8 rfl⟩, q.s.ce⟩
  have ce0 : wb.cell? ⟨w.heap.size, 0, none⟩ = some (.slice oa ol oc) := hst.s.ce.1
  have ce1 : wb.cell? ⟨w.heap.size, 1, none⟩ = some (.slice ta tl tc) := hst.s.ce.2
  have cf0 := hst.s.fz.1
  have cf1 := hst.s.fz.2
  have cr0 : wb.cell? ⟨w.heap.size + 1 + 1, 0, none⟩ = some (.slice none 0 0) := hst.r.ce.1
  have cr1 : wb.cell? ⟨w.heap.size + 1 + 1, 1, none⟩ = some (.slice none 0 0) := hst.r.ce.2
  have cg0 := hst.r.fz.1
  have cg1 := hst.r.fz.2
  have q0 := hst.oc 0 rfl
  have q1 := hst.oc 1 rfl
  have q7 := hst.oc 7 rfl
  have q8 := hst.oc 8 rfl
  unfold Sli.val at kf kf1
  simp only at kf kf1
  unfold stV OpL.val OpL.cells Sli.val
  unfold stV at kq
  simp only at kp kq ⊢
  rw [show (SV.mk oa ol oc).val = .slice oa ol oc from rfl, show (SV.mk ta tl tc).val = .slice ta tl tc from rfl] at kq ⊢
  clear h hO hst hsd hwf eH eS eT eF hw ho
  go_enter Tryz.func8, Tryz.ntmps8
  go_upto_region 1 with fail
  rw [← hwb]
  clear hwb
  go_upto_region 18 with fail
  go_region_held_law (fun W => W.cell? ⟨w.heap.size + 1, 1, none⟩ = some (.int .u64 oo) ∧ W.cell? ⟨w.heap.size + 1, 7, none⟩ = some (.int .i64 on) ∧ W.cell? ⟨w.heap.size + 1, 8, none⟩ = some (.slice wa wl.length wc))
    (first | exact (HC.out _ _ _ HSD.out).1 | exact (HC.out _ _ _ (HSD.out.call HK2.out)).1)
    (first
      | (go_at_call 32
         refine kf1.mono ?_
         rintro e wp ⟨rfl, rfl⟩)
      | (go_at_call 31
         refine kp.mono ?_
         rintro e w2 ⟨rfl, hk2⟩
         have HK2 := (show Hid _ from hk2)
         clear hk2))
  all_goals
    have h2 := HSD.out.call HK2.out
    have HS2 := (show Hid _ from h2)
    have h2d := h2.same ((Below.refl _ _).drew)
    have HSE := (show Hid _ from h2d)
    have kq := kq H2 w2.drew h2d.two
    have kf2 := kf w2.drew h2d.two.bel
    clear kp kf kf1 ce0 ce1 cf0 cf1 cr0 cr1 cg0 cg1 q0 q1 q7 q8
    have ce0 : w2.cell? ⟨w.heap.size, 0, none⟩ = some (.slice oa ol oc) := h2.s.ce.1
    have ce1 : w2.cell? ⟨w.heap.size, 1, none⟩ = some (.slice ta tl tc) := h2.s.ce.2
    have cf0 := h2.s.fz.1
    have cf1 := h2.s.fz.2
    have cr0 : w2.cell? ⟨w.heap.size + 1 + 1, 0, none⟩ = some (.slice none 0 0) := h2.r.ce.1
    have cr1 : w2.cell? ⟨w.heap.size + 1 + 1, 1, none⟩ = some (.slice none 0 0) := h2.r.ce.2
    have cg0 := h2.r.fz.1
    have cg1 := h2.r.fz.2
    have q0 := h2.oc 0 rfl
    have q1 := h2.oc 1 rfl
    have q7 := h2.oc 7 rfl
    have q8 := h2.oc 8 rfl
    clear HS HK2 h2 h2d HSD
    go_upto_region 19 with fail
    go_region_held_law (fun W => W.cell? ⟨w.heap.size + 1, 1, none⟩ = some (.int .u64 oo) ∧ W.cell? ⟨w.heap.size + 1, 7, none⟩ = some (.int .i64 on) ∧ W.cell? ⟨w.heap.size + 1, 8, none⟩ = some (.slice wa wl.length wc) ∧ W.cell? ⟨w.heap.size, 0, none⟩ = some (.slice oa ol oc) ∧ W.cell? ⟨w.heap.size, 1, none⟩ = some (.slice ta tl tc))
      (first | exact ⟨(HC.out _ _ _ HSE.out).1.1, (HC.out _ _ _ HSE.out).1.2.1, (HC.out _ _ _ HSE.out).1.2.2, (HC.out _ _ _ HSE.out).2⟩ | exact ⟨(HC.out _ _ _ (HSE.out.call HK3.out)).1.1, (HC.out _ _ _ (HSE.out.call HK3.out)).1.2.1, (HC.out _ _ _ (HSE.out.call HK3.out)).1.2.2, (HC.out _ _ _ (HSE.out.call HK3.out)).2⟩ | exact ⟨(HC.out _ _ _ ((HSE.out.call HK3.out).set1 ⟨oa, ol, oc⟩ ⟨ta, tl, tc⟩)).1.1, (HC.out _ _ _ ((HSE.out.call HK3.out).set1 ⟨oa, ol, oc⟩ ⟨ta, tl, tc⟩)).1.2.1, (HC.out _ _ _ ((HSE.out.call HK3.out).set1 ⟨oa, ol, oc⟩ ⟨ta, tl, tc⟩)).1.2.2, (HC.out _ _ _ ((HSE.out.call HK3.out).set1 ⟨oa, ol, oc⟩ ⟨ta, tl, tc⟩)).2⟩)
      (first
        | (go_at_call 32
           refine kf2.mono ?_
           rintro e wp ⟨rfl, rfl⟩)
        | (go_at_call 33
           refine kq.mono ?_
           rintro e w3 ⟨rfl, hk3⟩
           have HK3 := (show Hid _ from hk3)
           have cx0 : w3.cell? ⟨w.heap.size, 0, none⟩ = some (.slice oa ol oc) := (HSE.out.call hk3).s.ce.1
           have cx1 : w3.cell? ⟨w.heap.size, 1, none⟩ = some (.slice ta tl tc) := (HSE.out.call hk3).s.ce.2
           have cy0 := (HSE.out.call hk3).s.fz.1
           have cy1 := (HSE.out.call hk3).s.fz.2
           clear hk3))
    all_goals
      have h3 := HSE.out.call HK3.out
      have h5 := (h3.set1 ⟨oa, ol, oc⟩ ⟨ta, tl, tc⟩).set2 ⟨oa, ol, oc⟩ ⟨ta, tl, tc⟩
      have HF := (show Hid _ from And.intro h5.r h5.fin)
      clear kq kf2 ce0 ce1 cf0 cf1 cr0 cr1 cg0 cg1 cx0 cx1 cy0 cy1 q0 q1 q7 q8
      have ce0 : w3.cell? ⟨w.heap.size, 0, none⟩ = some (.slice oa ol oc) := h3.s.ce.1
      have ce1 : w3.cell? ⟨w.heap.size, 1, none⟩ = some (.slice ta tl tc) := h3.s.ce.2
      have cf0 := h3.s.fz.1
      have cf1 := h3.s.fz.2
      have cr0 : w3.cell? ⟨w.heap.size + 1 + 1, 0, none⟩ = some (.slice none 0 0) := h3.r.ce.1
      have cr1 : w3.cell? ⟨w.heap.size + 1 + 1, 1, none⟩ = some (.slice none 0 0) := h3.r.ce.2
      have cg0 := h3.r.fz.1
      have cg1 := h3.r.fz.2
      clear HS2 HK3 h3 h5 HSE HC
      rw [show (SV.mk oa ol oc).val = .slice oa ol oc from rfl, show (SV.mk ta tl tc).val = .slice ta tl tc from rfl] at HF
      go_wp2_with fail
      refine bodyPost_ret (res2 rfl _ _ (w.heap.size + 1 + 1) 28 _ (0, 0) _ rfl HF.out.1 Tryz.underlying28 rfl (by kernel_rfl)) rfl ?_
      exact ⟨⟨oa, ol, oc⟩, ⟨ta, tl, tc⟩, rfl, HF.out.2⟩
end
end Go.Proofs.YtkpdpdllbnihgaaGreat.Hp
/- law.step: Guard. -/
namespace Go.Proofs.YtkpdpdllbnihgaaGreat.Hp
open Go.RowKit
section
variable {w0 w W W' : World} {X : Nat → Prop} {hb : Nat} {H H' : He} {S S' : List So} {vo vo' vt vt' : SV} {ts ts' : List ByteArray} {n : Nat}
theorem valid_e (h : TwoE w0 w X hb H S vo vt ts) (n : Int) :
    Calls Tryz.prog 14 #[.pointer (some ⟨hb, 0, none⟩), .int .i64 n] w fun e w' => e = .returned (.bool (Ce.validD H.C n)) ∧ w' = w := by
  obtain ⟨tgH, tgS, M, qs, h⟩ := h
  exact valid_heap h.hp n
set_option maxRecDepth 100000 in
set_option maxHeartbeats 2000000 in
theorem step_9n (h : TwoE w0 w X hb H S vo vt ts) (hO : Ord H S ts n) (hn : n ≤ 1000000) (o : OpL) (hk : o.kd = 9 ∧ obI H o.p = none) (ho : o.wf) (hw : ∀ W, Below w0.heap.size w0 W → o.w.ok wC 1 W) :
    Calls Tryz.prog 8 #[.pointer (some ⟨hb, 0, none⟩), stV vo vt, o.val] w fun e w' => ∃ vo' vt', e = .returned (.tuple #[stV vo' vt', .bool true]) ∧ TwoK w0 w w' X hb (stepH H o) (stepS S o) vo' vt' (stepT ts o) := by
  obtain ⟨kd, oo, op, kk, ⟨va, se, fl⟩, on, ⟨wa, wc, wl⟩⟩ := o
  obtain ⟨hk, hz⟩ := hk
  obtain rfl : kd = 9 := hk
  have hz : obI H op = none := hz
  have HO : Hid (Ord H S ts n) := hO
  have hwf := h.wf
  have eH : stepH H ⟨9, oo, op, kk, ⟨va, se, fl⟩, on, ⟨wa, wc, wl⟩⟩ = (guardH H op).1 := by rfl
  have eS : stepS S ⟨9, oo, op, kk, ⟨va, se, fl⟩, on, ⟨wa, wc, wl⟩⟩ = S := by rfl
  have eT : stepT ts ⟨9, oo, op, kk, ⟨va, se, fl⟩, on, ⟨wa, wc, wl⟩⟩ = ts := by rfl
  rw [eH, eS, eT]
  have hG := guard_says H op
  have kp := fun W (h : TwoE w0 W (Xb w X) hb H S vo vt ts) => guard_e h HO.out.inv.acy op ho.p0 ho.p1 (by have := HO.out.cl; unfold Ce.top; omega)
  have kq := fun H1 W (h : TwoE w0 W (Xb w X) hb H1 S vo vt ts) => rat_e h op ho.p0 ho.p1
  have hg1 : (guardH H op).2 = -1 := hG.1.2 hz
  have hat : atI S op = -1 := by
    rcases hO.rel.io op with ⟨e1, e2⟩ | ⟨i, ob, x, e1, e2, _⟩
    · unfold atI; rw [e2]
    · rw [e1] at hz; cases hz
  rw [hg1] at kp
  rw [hat] at kq
  obtain ⟨oa, ol, oc⟩ := vo
  obtain ⟨ta, tl, tc⟩ := vt
  have hst : On w0 w (((w.alloc (.cells #[.slice oa ol oc, .slice ta tl tc] 28)).alloc (.cells #[.int .i64 9, .int .u64 oo, .int .u64 op, .string kk, .int .u64 va, .int .u64 se, .int .i64 fl, .int .i64 on, .slice wa wl.length wc] 38)).alloc (.cells #[.slice none 0 0, .slice none 0 0] 28)) X hb H S ⟨oa, ol, oc⟩ ⟨ta, tl, tc⟩ ts ⟨oa, ol, oc⟩ ⟨ta, tl, tc⟩ #[.int .i64 9, .int .u64 oo, .int .u64 op, .string kk, .int .u64 va, .int .u64 se, .int .i64 fl, .int .i64 on, .slice wa wl.length wc] .nil .nil := On.start h _
  obtain ⟨wb, hwb⟩ : ∃ wb, wb = (((w.alloc (.cells #[.slice oa ol oc, .slice ta tl tc] 28)).alloc (.cells #[.int .i64 9, .int .u64 oo, .int .u64 op, .string kk, .int .u64 va, .int .u64 se, .int .i64 fl, .int .i64 on, .slice wa wl.length wc] 38)).alloc (.cells #[.slice none 0 0, .slice none 0 0] 28)) := ⟨_, rfl⟩
  rw [← hwb] at hst
  have HS := (show Hid _ from hst)
  have kp := kp wb hst.two
  clear hG
  generalize (guardH H op).1 = H2 at *
  have ce0 : wb.cell? ⟨w.heap.size, 0, none⟩ = some (.slice oa ol oc) := hst.s.ce.1
  have ce1 : wb.cell? ⟨w.heap.size, 1, none⟩ = some (.slice ta tl tc) := hst.s.ce.2
  have cf0 := hst.s.fz.1
  have cf1 := hst.s.fz.2
  have cr0 : wb.cell? ⟨w.heap.size + 1 + 1, 0, none⟩ = some (.slice none 0 0) := hst.r.ce.1
  have cr1 : wb.cell? ⟨w.heap.size + 1 + 1, 1, none⟩ = some (.slice none 0 0) := hst.r.ce.2
  have cg0 := hst.r.fz.1
  have cg1 := hst.r.fz.2
  have q0 := hst.oc 0 rfl
  have q2 := hst.oc 2 rfl
  unfold stV OpL.val OpL.cells Sli.val
  unfold stV at kq
  simp only at kp kq ⊢
  rw [show (SV.mk oa ol oc).val = .slice oa ol oc from rfl, show (SV.mk ta tl tc).val = .slice ta tl tc from rfl] at kq ⊢
  clear h hO hst hwf eH eS eT hw ho hz
  go_enter Tryz.func8, Tryz.ntmps8
  go_upto_region 1 with fail
  rw [← hwb]
  clear hwb
  go_wp2_with fail
  refine kp.mono ?_
  rintro e w2 ⟨rfl, hk2⟩
  have h2 := HS.out.call hk2
  have h2d := h2.same ((Below.refl _ _).drew)
  have HSD := (show Hid _ from h2d)
  have kq := kq H2 w2.drew h2d.two
  clear kp ce0 ce1 cf0 cf1 cr0 cr1 cg0 cg1 q0 q2
  have ce0 : w2.cell? ⟨w.heap.size, 0, none⟩ = some (.slice oa ol oc) := h2.s.ce.1
  have ce1 : w2.cell? ⟨w.heap.size, 1, none⟩ = some (.slice ta tl tc) := h2.s.ce.2
  have cf0 := h2.s.fz.1
  have cf1 := h2.s.fz.2
  have cr0 : w2.cell? ⟨w.heap.size + 1 + 1, 0, none⟩ = some (.slice none 0 0) := h2.r.ce.1
  have cr1 : w2.cell? ⟨w.heap.size + 1 + 1, 1, none⟩ = some (.slice none 0 0) := h2.r.ce.2
  have cg0 := h2.r.fz.1
  have cg1 := h2.r.fz.2
  have q2 := h2.oc 2 rfl
  clear HS hk2 h2 h2d
  have HC : Hid (∀ W vR tR, On w0 w W X hb H2 S ⟨oa, ol, oc⟩ ⟨ta, tl, tc⟩ ts ⟨oa, ol, oc⟩ ⟨ta, tl, tc⟩ #[.int .i64 9, .int .u64 oo, .int .u64 op, .string kk, .int .u64 va, .int .u64 se, .int .i64 fl, .int .i64 on, .slice wa wl.length wc] vR tR → W.cell? ⟨w.heap.size + 1, 2, none⟩ = some (.int .u64 op) ∧ W.cell? ⟨w.heap.size, 0, none⟩ = some (.slice oa ol oc) ∧ W.cell? ⟨w.heap.size, 1, none⟩ = some (.slice ta tl tc)) := fun W vR tR q => ⟨q.oc 2 rfl, q.s.ce.1, q.s.ce.2⟩
  go_upto_region 35 with fail
  first
  | (go_region_held_law (fun W => W.cell? ⟨w.heap.size + 1, 2, none⟩ = some (.int .u64 op) ∧ W.cell? ⟨w.heap.size, 0, none⟩ = some (.slice oa ol oc) ∧ W.cell? ⟨w.heap.size, 1, none⟩ = some (.slice ta tl tc))
      (first | exact HC.out _ _ _ HSD.out | exact HC.out _ _ _ HS3.out | exact HC.out _ _ _ (HS3.out.set2 ⟨oa, ol, oc⟩ ⟨ta, tl, tc⟩))
      (first
        | (go_at_call 13
           refine kq.mono ?_
           rintro e w3 ⟨rfl, hk3⟩
           have HS3 := (show Hid _ from HSD.out.call hk3)
           have cx0 : w3.cell? ⟨w.heap.size + 1 + 1, 0, none⟩ = some (.slice none 0 0) := HS3.out.r.ce.1
           have cx1 : w3.cell? ⟨w.heap.size + 1 + 1, 1, none⟩ = some (.slice none 0 0) := HS3.out.r.ce.2
           have cy0 := HS3.out.r.fz.1
           have cy1 := HS3.out.r.fz.2
           clear hk3)))
  | fail
  all_goals
    have h5 := HS3.out.set2 ⟨oa, ol, oc⟩ ⟨ta, tl, tc⟩
    have HF := (show Hid _ from And.intro h5.r h5.fin)
    clear h5 HS3 HSD HC
    rw [show (SV.mk oa ol oc).val = .slice oa ol oc from rfl, show (SV.mk ta tl tc).val = .slice ta tl tc from rfl] at HF
    go_wp2_with fail
    refine bodyPost_ret (res2 rfl _ _ (w.heap.size + 1 + 1) 28 _ (0, 0) _ rfl HF.out.1 Tryz.underlying28 rfl (by kernel_rfl)) rfl ?_
    exact ⟨⟨oa, ol, oc⟩, ⟨ta, tl, tc⟩, rfl, HF.out.2⟩
set_option maxRecDepth 100000 in
set_option maxHeartbeats 2000000 in
theorem step_9h (h : TwoE w0 w X hb H S vo vt ts) (hO : Ord H S ts n) (hn : n ≤ 1000000) (o : OpL) (hk : o.kd = 9 ∧ ¬ obI H o.p = none) (ho : o.wf) (hw : ∀ W, Below w0.heap.size w0 W → o.w.ok wC 1 W) :
    Calls Tryz.prog 8 #[.pointer (some ⟨hb, 0, none⟩), stV vo vt, o.val] w fun e w' => ∃ vo' vt', e = .returned (.tuple #[stV vo' vt', .bool true]) ∧ TwoK w0 w w' X hb (stepH H o) (stepS S o) vo' vt' (stepT ts o) := by
  obtain ⟨kd, oo, op, kk, ⟨va, se, fl⟩, on, ⟨wa, wc, wl⟩⟩ := o
  obtain ⟨hk, hz⟩ := hk
  obtain rfl : kd = 9 := hk
  have hz : ¬ obI H op = none := hz
  have HO : Hid (Ord H S ts n) := hO
  have hwf := h.wf
  have eH : stepH H ⟨9, oo, op, kk, ⟨va, se, fl⟩, on, ⟨wa, wc, wl⟩⟩ = (guardH H op).1 := by rfl
  have eS : stepS S ⟨9, oo, op, kk, ⟨va, se, fl⟩, on, ⟨wa, wc, wl⟩⟩ = S := by rfl
  have eT : stepT ts ⟨9, oo, op, kk, ⟨va, se, fl⟩, on, ⟨wa, wc, wl⟩⟩ = ts := by rfl
  rw [eH, eS, eT]
  have hG := guard_says H op
  have kp := fun W (h : TwoE w0 W (Xb w X) hb H S vo vt ts) => guard_e h HO.out.inv.acy op ho.p0 ho.p1 (by have := HO.out.cl; unfold Ce.top; omega)
  have kq := fun H1 W (h : TwoE w0 W (Xb w X) hb H1 S vo vt ts) => rat_e h op ho.p0 ho.p1
  have hne : ¬ (guardH H op).2 = -1 := fun e => hz (hG.1.1 e)
  have hval := hG.2 hne
  have kv := fun W (h : TwoE w0 W (Xb w X) hb (guardH H op).1 S vo vt ts) => valid_e h (guardH H op).2
  rw [hval] at kv
  have hpos : ((guardH H op).2 == -1) = false := by rw [beq_eq_false_iff_ne]; exact hne
  have hat : decide (atI S op < 0) = false := by
    rcases hO.rel.io op with ⟨e1, e2⟩ | ⟨i, ob, x, e1, e2, _⟩
    · exact absurd e1 hz
    · unfold atI; rw [e2]; exact decide_eq_false (by simp)
  generalize (guardH H op).2 = GN at *
  generalize atI S op = AT at *
  obtain ⟨oa, ol, oc⟩ := vo
  obtain ⟨ta, tl, tc⟩ := vt
  have hst : On w0 w (((w.alloc (.cells #[.slice oa ol oc, .slice ta tl tc] 28)).alloc (.cells #[.int .i64 9, .int .u64 oo, .int .u64 op, .string kk, .int .u64 va, .int .u64 se, .int .i64 fl, .int .i64 on, .slice wa wl.length wc] 38)).alloc (.cells #[.slice none 0 0, .slice none 0 0] 28)) X hb H S ⟨oa, ol, oc⟩ ⟨ta, tl, tc⟩ ts ⟨oa, ol, oc⟩ ⟨ta, tl, tc⟩ #[.int .i64 9, .int .u64 oo, .int .u64 op, .string kk, .int .u64 va, .int .u64 se, .int .i64 fl, .int .i64 on, .slice wa wl.length wc] .nil .nil := On.start h _
  obtain ⟨wb, hwb⟩ : ∃ wb, wb = (((w.alloc (.cells #[.slice oa ol oc, .slice ta tl tc] 28)).alloc (.cells #[.int .i64 9, .int .u64 oo, .int .u64 op, .string kk, .int .u64 va, .int .u64 se, .int .i64 fl, .int .i64 on, .slice wa wl.length wc] 38)).alloc (.cells #[.slice none 0 0, .slice none 0 0] 28)) := ⟨_, rfl⟩
  rw [← hwb] at hst
  have HS := (show Hid _ from hst)
  have kp := kp wb hst.two
  clear hG
  generalize (guardH H op).1 = H2 at *
  have ce0 : wb.cell? ⟨w.heap.size, 0, none⟩ = some (.slice oa ol oc) := hst.s.ce.1
  have ce1 : wb.cell? ⟨w.heap.size, 1, none⟩ = some (.slice ta tl tc) := hst.s.ce.2
  have cf0 := hst.s.fz.1
  have cf1 := hst.s.fz.2
  have cr0 : wb.cell? ⟨w.heap.size + 1 + 1, 0, none⟩ = some (.slice none 0 0) := hst.r.ce.1
  have cr1 : wb.cell? ⟨w.heap.size + 1 + 1, 1, none⟩ = some (.slice none 0 0) := hst.r.ce.2
  have cg0 := hst.r.fz.1
  have cg1 := hst.r.fz.2
  have q0 := hst.oc 0 rfl
  have q2 := hst.oc 2 rfl
  unfold stV OpL.val OpL.cells Sli.val
  unfold stV at kq
  simp only at kp kq ⊢
  rw [show (SV.mk oa ol oc).val = .slice oa ol oc from rfl, show (SV.mk ta tl tc).val = .slice ta tl tc from rfl] at kq ⊢
  clear h hO hst hwf eH eS eT hw ho hz
  go_enter Tryz.func8, Tryz.ntmps8
  go_upto_region 1 with fail
  rw [← hwb]
  clear hwb
  go_wp2_with fail
  refine kp.mono ?_
  rintro e w2 ⟨rfl, hk2⟩
  have h2 := HS.out.call hk2
  have h2d := h2.same ((Below.refl _ _).drew)
  have HSD := (show Hid _ from h2d)
  have kq := kq H2 w2.drew h2d.two
  clear kp ce0 ce1 cf0 cf1 cr0 cr1 cg0 cg1 q0 q2
  have ce0 : w2.cell? ⟨w.heap.size, 0, none⟩ = some (.slice oa ol oc) := h2.s.ce.1
  have ce1 : w2.cell? ⟨w.heap.size, 1, none⟩ = some (.slice ta tl tc) := h2.s.ce.2
  have cf0 := h2.s.fz.1
  have cf1 := h2.s.fz.2
  have cr0 : w2.cell? ⟨w.heap.size + 1 + 1, 0, none⟩ = some (.slice none 0 0) := h2.r.ce.1
  have cr1 : w2.cell? ⟨w.heap.size + 1 + 1, 1, none⟩ = some (.slice none 0 0) := h2.r.ce.2
  have cg0 := h2.r.fz.1
  have cg1 := h2.r.fz.2
  have q2 := h2.oc 2 rfl
  clear HS hk2 h2 h2d
  have HC : Hid (∀ W vR tR, On w0 w W X hb H2 S ⟨oa, ol, oc⟩ ⟨ta, tl, tc⟩ ts ⟨oa, ol, oc⟩ ⟨ta, tl, tc⟩ #[.int .i64 9, .int .u64 oo, .int .u64 op, .string kk, .int .u64 va, .int .u64 se, .int .i64 fl, .int .i64 on, .slice wa wl.length wc] vR tR → W.cell? ⟨w.heap.size + 1, 2, none⟩ = some (.int .u64 op) ∧ W.cell? ⟨w.heap.size, 0, none⟩ = some (.slice oa ol oc) ∧ W.cell? ⟨w.heap.size, 1, none⟩ = some (.slice ta tl tc)) := fun W vR tR q => ⟨q.oc 2 rfl, q.s.ce.1, q.s.ce.2⟩
  go_upto_region 35 with fail
  go_region_held_law (fun W => W.cell? ⟨w.heap.size + 1, 2, none⟩ = some (.int .u64 op) ∧ W.cell? ⟨w.heap.size, 0, none⟩ = some (.slice oa ol oc) ∧ W.cell? ⟨w.heap.size, 1, none⟩ = some (.slice ta tl tc))
    (first | exact HC.out _ _ _ HSD.out | exact HC.out _ _ _ HS3.out | exact HC.out _ _ _ (HS3.out.set2 ⟨oa, ol, oc⟩ ⟨ta, tl, tc⟩))
    (first
      | (go_at_call 13
         refine kq.mono ?_
         rintro e w3 ⟨rfl, hk3⟩
         have HS3 := (show Hid _ from HSD.out.call hk3)
         have cx0 : w3.cell? ⟨w.heap.size + 1 + 1, 0, none⟩ = some (.slice none 0 0) := HS3.out.r.ce.1
         have cx1 : w3.cell? ⟨w.heap.size + 1 + 1, 1, none⟩ = some (.slice none 0 0) := HS3.out.r.ce.2
         have cy0 := HS3.out.r.fz.1
         have cy1 := HS3.out.r.fz.2
         clear hk3)
      | (go_at_call 14
         first
           | (refine (kv _ HS3.out.two).mono ?_
              rintro e w4 ⟨rfl, rfl⟩)
           | (refine (kv _ HSD.out.two).mono ?_
              rintro e w4 ⟨rfl, rfl⟩)))
  all_goals
    have h5 := HS3.out.set2 ⟨oa, ol, oc⟩ ⟨ta, tl, tc⟩
    have HF := (show Hid _ from And.intro h5.r h5.fin)
    clear h5 HS3 HSD HC
    rw [show (SV.mk oa ol oc).val = .slice oa ol oc from rfl, show (SV.mk ta tl tc).val = .slice ta tl tc from rfl] at HF
    go_wp2_with fail
    refine bodyPost_ret (res2 rfl _ _ (w.heap.size + 1 + 1) 28 _ (0, 0) _ rfl HF.out.1 Tryz.underlying28 rfl (by kernel_rfl)) rfl ?_
    exact ⟨⟨oa, ol, oc⟩, ⟨ta, tl, tc⟩, rfl, HF.out.2⟩
end
end Go.Proofs.YtkpdpdllbnihgaaGreat.Hp
