/- UQ -/
import Derived.Test.YtkpdpdllbnihgaaGreatB39
set_option linter.unusedVariables false
set_option linter.unusedSimpArgs false
set_option maxRecDepth 100000
set_option maxHeartbeats 40000000
/- law.step: Put, Make, Text, no call. -/
namespace Go.Proofs.YtkpdpdllbnihgaaGreat.Hp
open Go.RowKit
section
variable {w0 w W W' : World} {X : Nat → Prop} {hb : Nat} {H H' : He} {S S' : List So} {vo vo' vt vt' : SV} {ts ts' : List ByteArray} {n : Nat}
set_option maxRecDepth 100000 in
set_option maxHeartbeats 2000000 in
theorem step_1 (h : TwoE w0 w X hb H S vo vt ts) (hO : Ord H S ts n) (hn : n ≤ 1000000) (o : OpL) (hk : o.kd = 1) (ho : o.wf) (hw : ∀ W, Below w0.heap.size w0 W → o.w.ok wC 1 W) :
    Calls Tryz.prog 8 #[.pointer (some ⟨hb, 0, none⟩), stV vo vt, o.val] w fun e w' => ∃ vo' vt', e = .returned (.tuple #[stV vo' vt', .bool true]) ∧ TwoK w0 w w' X hb (stepH H o) (stepS S o) vo' vt' (stepT ts o) := by
  obtain ⟨kd, oo, op, kk, ⟨va, se, fl⟩, on, ⟨wa, wc, wl⟩⟩ := o
  obtain rfl : kd = 1 := hk
  have HO : Hid (Ord H S ts n) := hO
  have eH : stepH H ⟨1, oo, op, kk, ⟨va, se, fl⟩, on, ⟨wa, wc, wl⟩⟩ = putF H oo kk ⟨va, se, fl⟩ := by rfl
  have eS : stepS S ⟨1, oo, op, kk, ⟨va, se, fl⟩, on, ⟨wa, wc, wl⟩⟩ = putG S oo kk ⟨va, se, fl⟩ := by rfl
  have eT : stepT ts ⟨1, oo, op, kk, ⟨va, se, fl⟩, on, ⟨wa, wc, wl⟩⟩ = ts := by rfl
  rw [eH, eS, eT]
  have kp := fun W (h : TwoE w0 W (Xb w X) hb H S vo vt ts) => put_e h HO.out.inv (by omega) oo ho.o0 ho.o1 kk ho.kl ⟨va, se, fl⟩
  have kq := fun H1 W (h : TwoE w0 W (Xb w X) hb H1 S vo vt ts) => rput_e h (HO.out.nm hn) oo ho.o0 ho.o1 kk ⟨va, se, fl⟩
  obtain ⟨oa, ol, oc⟩ := vo
  obtain ⟨ta, tl, tc⟩ := vt
  have hst : On w0 w (((w.alloc (.cells #[.slice oa ol oc, .slice ta tl tc] 28)).alloc (.cells #[.int .i64 1, .int .u64 oo, .int .u64 op, .string kk, .int .u64 va, .int .u64 se, .int .i64 fl, .int .i64 on, .slice wa wl.length wc] 38)).alloc (.cells #[.slice none 0 0, .slice none 0 0] 28)) X hb H S ⟨oa, ol, oc⟩ ⟨ta, tl, tc⟩ ts ⟨oa, ol, oc⟩ ⟨ta, tl, tc⟩ #[.int .i64 1, .int .u64 oo, .int .u64 op, .string kk, .int .u64 va, .int .u64 se, .int .i64 fl, .int .i64 on, .slice wa wl.length wc] .nil .nil := On.start h _
  obtain ⟨wb, hwb⟩ : ∃ wb, wb = (((w.alloc (.cells #[.slice oa ol oc, .slice ta tl tc] 28)).alloc (.cells #[.int .i64 1, .int .u64 oo, .int .u64 op, .string kk, .int .u64 va, .int .u64 se, .int .i64 fl, .int .i64 on, .slice wa wl.length wc] 38)).alloc (.cells #[.slice none 0 0, .slice none 0 0] 28)) := ⟨_, rfl⟩
  rw [← hwb] at hst
  have HS := (show Hid _ from hst)
  have kp := kp wb hst.two
  generalize putF H oo kk ⟨va, se, fl⟩ = H2 at *
  generalize putG S oo kk ⟨va, se, fl⟩ = S2 at *
  have ce0 : wb.cell? ⟨w.heap.size, 0, none⟩ = some (.slice oa ol oc) := hst.s.ce.1
  have ce1 : wb.cell? ⟨w.heap.size, 1, none⟩ = some (.slice ta tl tc) := hst.s.ce.2
  have cf0 := hst.s.fz.1
  have cf1 := hst.s.fz.2
  have cr0 : wb.cell? ⟨w.heap.size + 1 + 1, 0, none⟩ = some (.slice none 0 0) := hst.r.ce.1
  have cr1 : wb.cell? ⟨w.heap.size + 1 + 1, 1, none⟩ = some (.slice none 0 0) := hst.r.ce.2
  have cg0 := hst.r.fz.1
  have cg1 := hst.r.fz.2
  have q0 := hst.oc 0 rfl
  have q1 := hst.oc 1 rfl
  have q3 := hst.oc 3 rfl
  have q4 := hst.oc 4 rfl
  have q5 := hst.oc 5 rfl
  have q6 := hst.oc 6 rfl
  unfold deV at kp kq
  unfold stV OpL.val OpL.cells Sli.val
  unfold stV at kq
  simp only at kp kq ⊢
  rw [show (SV.mk oa ol oc).val = .slice oa ol oc from rfl, show (SV.mk ta tl tc).val = .slice ta tl tc from rfl] at kq ⊢
  clear h hO hst eH eS eT hw ho
  go_enter Tryz.func8, Tryz.ntmps8
  go_upto_region 1 with fail
  rw [← hwb]
  clear hwb
  go_wp2_with fail
  refine kp.mono ?_
  rintro e w2 ⟨rfl, hk2⟩
  clear kp ce0 ce1 cf0 cf1 cr0 cr1 cg0 cg1 q0 q1 q3 q4 q5 q6
  have h2 := HS.out.call hk2
  have HS2 := (show Hid _ from h2)
  have kq := kq H2 w2 h2.two
  have ce0 : w2.cell? ⟨w.heap.size, 0, none⟩ = some (.slice oa ol oc) := h2.s.ce.1
  have ce1 : w2.cell? ⟨w.heap.size, 1, none⟩ = some (.slice ta tl tc) := h2.s.ce.2
  have cf0 := h2.s.fz.1
  have cf1 := h2.s.fz.2
  have cr0 : w2.cell? ⟨w.heap.size + 1 + 1, 0, none⟩ = some (.slice none 0 0) := h2.r.ce.1
  have cr1 : w2.cell? ⟨w.heap.size + 1 + 1, 1, none⟩ = some (.slice none 0 0) := h2.r.ce.2
  have cg0 := h2.r.fz.1
  have cg1 := h2.r.fz.2
  have q0 := h2.oc 0 rfl
  have q1 := h2.oc 1 rfl
  have q3 := h2.oc 3 rfl
  have q4 := h2.oc 4 rfl
  have q5 := h2.oc 5 rfl
  have q6 := h2.oc 6 rfl
  clear HS hk2 h2
  go_wp2_with fail
  refine kq.mono ?_
  rintro e w3 ⟨rfl, hk3⟩
  clear kq ce0 ce1 cf0 cf1 cr0 cr1 cg0 cg1 q0 q1 q3 q4 q5 q6
  have h3 := HS2.out.call hk3
  have h5 := h3.set2 ⟨oa, ol, oc⟩ ⟨ta, tl, tc⟩
  have HF := (show Hid _ from And.intro h5.r h5.fin)
  have ce0 : w3.cell? ⟨w.heap.size, 0, none⟩ = some (.slice oa ol oc) := h3.s.ce.1
  have ce1 : w3.cell? ⟨w.heap.size, 1, none⟩ = some (.slice ta tl tc) := h3.s.ce.2
  have cf0 := h3.s.fz.1
  have cf1 := h3.s.fz.2
  have cr0 : w3.cell? ⟨w.heap.size + 1 + 1, 0, none⟩ = some (.slice none 0 0) := h3.r.ce.1
  have cr1 : w3.cell? ⟨w.heap.size + 1 + 1, 1, none⟩ = some (.slice none 0 0) := h3.r.ce.2
  have cg0 := h3.r.fz.1
  have cg1 := h3.r.fz.2
  clear HS2 hk3 h3 h5
  rw [show (SV.mk oa ol oc).val = .slice oa ol oc from rfl, show (SV.mk ta tl tc).val = .slice ta tl tc from rfl] at HF
  go_wp2_with fail
  refine bodyPost_ret (res2 rfl _ _ (w.heap.size + 1 + 1) 28 _ (0, 0) _ rfl HF.out.1 Tryz.underlying28 rfl (by kernel_rfl)) rfl ?_
  exact ⟨⟨oa, ol, oc⟩, ⟨ta, tl, tc⟩, rfl, HF.out.2⟩
set_option maxRecDepth 100000 in
set_option maxHeartbeats 2000000 in
theorem step_0 (h : TwoE w0 w X hb H S vo vt ts) (hO : Ord H S ts n) (hn : n ≤ 1000000) (o : OpL) (hk : o.kd = 0) (ho : o.wf) (hw : ∀ W, Below w0.heap.size w0 W → o.w.ok wC 1 W) :
    Calls Tryz.prog 8 #[.pointer (some ⟨hb, 0, none⟩), stV vo vt, o.val] w fun e w' => ∃ vo' vt', e = .returned (.tuple #[stV vo' vt', .bool true]) ∧ TwoK w0 w w' X hb (stepH H o) (stepS S o) vo' vt' (stepT ts o) := by
  obtain ⟨kd, oo, op, kk, ⟨va, se, fl⟩, on, ⟨wa, wc, wl⟩⟩ := o
  obtain rfl : kd = 0 := hk
  have HO : Hid (Ord H S ts n) := hO
  have hwf := h.wf
  have eH : stepH H ⟨0, oo, op, kk, ⟨va, se, fl⟩, on, ⟨wa, wc, wl⟩⟩ = makeF H on op := by rfl
  have eS : stepS S ⟨0, oo, op, kk, ⟨va, se, fl⟩, on, ⟨wa, wc, wl⟩⟩ = makeG S on op := by rfl
  have eT : stepT ts ⟨0, oo, op, kk, ⟨va, se, fl⟩, on, ⟨wa, wc, wl⟩⟩ = ts := by rfl
  rw [eH, eS, eT]
  have kp := fun W (h : TwoE w0 W (Xb w X) hb H S vo vt ts) => make_e h on op ho.p0 ho.p1
  rw [hO.rel.no on op, hO.rel.len] at kp
  have kq := fun H1 W (h : TwoE w0 W (Xb w X) hb H1 S vo vt ts) => rmake_e h on op ho.p0 ho.p1
  generalize (if noS S on op = true then undW else objW (S.length : Int)) = AN at *
  generalize (!noS S on op) = AB at *
  obtain ⟨oa, ol, oc⟩ := vo
  obtain ⟨ta, tl, tc⟩ := vt
  have hst : On w0 w (((w.alloc (.cells #[.slice oa ol oc, .slice ta tl tc] 28)).alloc (.cells #[.int .i64 0, .int .u64 oo, .int .u64 op, .string kk, .int .u64 va, .int .u64 se, .int .i64 fl, .int .i64 on, .slice wa wl.length wc] 38)).alloc (.cells #[.slice none 0 0, .slice none 0 0] 28)) X hb H S ⟨oa, ol, oc⟩ ⟨ta, tl, tc⟩ ts ⟨oa, ol, oc⟩ ⟨ta, tl, tc⟩ #[.int .i64 0, .int .u64 oo, .int .u64 op, .string kk, .int .u64 va, .int .u64 se, .int .i64 fl, .int .i64 on, .slice wa wl.length wc] .nil .nil := On.start h _
  obtain ⟨wb, hwb⟩ : ∃ wb, wb = (((w.alloc (.cells #[.slice oa ol oc, .slice ta tl tc] 28)).alloc (.cells #[.int .i64 0, .int .u64 oo, .int .u64 op, .string kk, .int .u64 va, .int .u64 se, .int .i64 fl, .int .i64 on, .slice wa wl.length wc] 38)).alloc (.cells #[.slice none 0 0, .slice none 0 0] 28)) := ⟨_, rfl⟩
  rw [← hwb] at hst
  have HS := (show Hid _ from hst)
  have kp := kp wb hst.two
  generalize makeF H on op = H2 at *
  generalize makeG S on op = S2 at *
  have ce0 : wb.cell? ⟨w.heap.size, 0, none⟩ = some (.slice oa ol oc) := hst.s.ce.1
  have ce1 : wb.cell? ⟨w.heap.size, 1, none⟩ = some (.slice ta tl tc) := hst.s.ce.2
  have cf0 := hst.s.fz.1
  have cf1 := hst.s.fz.2
  have cr0 : wb.cell? ⟨w.heap.size + 1 + 1, 0, none⟩ = some (.slice none 0 0) := hst.r.ce.1
  have cr1 : wb.cell? ⟨w.heap.size + 1 + 1, 1, none⟩ = some (.slice none 0 0) := hst.r.ce.2
  have cg0 := hst.r.fz.1
  have cg1 := hst.r.fz.2
  have q0 := hst.oc 0 rfl
  have q2 := hst.oc 2 rfl
  have q7 := hst.oc 7 rfl
  unfold stV OpL.val OpL.cells Sli.val
  unfold stV at kq
  simp only at kp kq ⊢
  rw [show (SV.mk oa ol oc).val = .slice oa ol oc from rfl, show (SV.mk ta tl tc).val = .slice ta tl tc from rfl] at kq ⊢
  clear h hO hst hwf eH eS eT hw ho
  go_enter Tryz.func8, Tryz.ntmps8
  go_upto_region 1 with fail
  rw [← hwb]
  clear hwb
  go_wp2_with fail
  refine kp.mono ?_
  rintro e w2 ⟨rfl, hk2⟩
  clear kp ce0 ce1 cf0 cf1 cr0 cr1 cg0 cg1 q0 q2 q7
  have h2 := HS.out.call hk2
  have HS2 := (show Hid _ from h2)
  have kq := kq H2 w2 h2.two
  have ce0 : w2.cell? ⟨w.heap.size, 0, none⟩ = some (.slice oa ol oc) := h2.s.ce.1
  have ce1 : w2.cell? ⟨w.heap.size, 1, none⟩ = some (.slice ta tl tc) := h2.s.ce.2
  have cf0 := h2.s.fz.1
  have cf1 := h2.s.fz.2
  have cr0 : w2.cell? ⟨w.heap.size + 1 + 1, 0, none⟩ = some (.slice none 0 0) := h2.r.ce.1
  have cr1 : w2.cell? ⟨w.heap.size + 1 + 1, 1, none⟩ = some (.slice none 0 0) := h2.r.ce.2
  have cg0 := h2.r.fz.1
  have cg1 := h2.r.fz.2
  have q0 := h2.oc 0 rfl
  have q2 := h2.oc 2 rfl
  have q7 := h2.oc 7 rfl
  clear HS hk2 h2
  go_wp2_with fail
  refine kq.mono ?_
  rintro e w3 ⟨⟨ga, gl, gc⟩, rfl, hk3⟩
  clear kq ce0 ce1 cf0 cf1 cr0 cr1 cg0 cg1 q0 q2 q7
  rw [show (SV.mk ga gl gc).val = .slice ga gl gc from rfl]
  have h3 := HS2.out.call hk3
  have h4 := h3.same (W' := w3.alloc (.cells #[.slice ga gl gc, .slice ta tl tc] 28)) ((Below.refl _ _).alloc (Nat.le_refl _) _)
  have bx : BxS (w3.alloc (.cells #[.slice ga gl gc, .slice ta tl tc] 28)) w3.heap.size ⟨ga, gl, gc⟩ ⟨ta, tl, tc⟩ := at_new _ _
  have HX := (show Hid _ from And.intro h4 bx)
  clear HS2 hk3 h3 h4 bx
  go_upto_region 7 with fail
  generalize w3.alloc (.cells #[.slice ga gl gc, .slice ta tl tc] 28) = w4 at *
  generalize w3.heap.size = b3 at *
  obtain ⟨h4, bx⟩ := HX.out
  have cx0 : w4.cell? ⟨b3, 0, none⟩ = some (.slice ga gl gc) := bx.ce.1
  have cx1 : w4.cell? ⟨b3, 1, none⟩ = some (.slice ta tl tc) := bx.ce.2
  have h5 := h4.set2 ⟨ga, gl, gc⟩ ⟨ta, tl, tc⟩
  have HF := (show Hid _ from And.intro h5.r h5.fin)
  have ce0 : w4.cell? ⟨w.heap.size, 0, none⟩ = some (.slice oa ol oc) := h4.s.ce.1
  have ce1 : w4.cell? ⟨w.heap.size, 1, none⟩ = some (.slice ta tl tc) := h4.s.ce.2
  have cf0 := h4.s.fz.1
  have cf1 := h4.s.fz.2
  have cr0 : w4.cell? ⟨w.heap.size + 1 + 1, 0, none⟩ = some (.slice none 0 0) := h4.r.ce.1
  have cr1 : w4.cell? ⟨w.heap.size + 1 + 1, 1, none⟩ = some (.slice none 0 0) := h4.r.ce.2
  have cg0 := h4.r.fz.1
  have cg1 := h4.r.fz.2
  clear HX h4 bx h5 ce0 ce1 cf0 cf1
  rw [show (SV.mk ga gl gc).val = .slice ga gl gc from rfl, show (SV.mk ta tl tc).val = .slice ta tl tc from rfl] at HF
  go_wp2_with fail
  refine bodyPost_ret (res2 rfl _ _ (w.heap.size + 1 + 1) 28 _ (0, 0) _ rfl HF.out.1 Tryz.underlying28 rfl (by kernel_rfl)) rfl ?_
  exact ⟨⟨ga, gl, gc⟩, ⟨ta, tl, tc⟩, rfl, HF.out.2⟩
set_option maxRecDepth 100000 in
set_option maxHeartbeats 2000000 in
theorem step_8 (h : TwoE w0 w X hb H S vo vt ts) (hO : Ord H S ts n) (hn : n ≤ 1000000) (o : OpL) (hk : o.kd = 8) (ho : o.wf) (hw : ∀ W, Below w0.heap.size w0 W → o.w.ok wC 1 W) :
    Calls Tryz.prog 8 #[.pointer (some ⟨hb, 0, none⟩), stV vo vt, o.val] w fun e w' => ∃ vo' vt', e = .returned (.tuple #[stV vo' vt', .bool true]) ∧ TwoK w0 w w' X hb (stepH H o) (stepS S o) vo' vt' (stepT ts o) := by
  obtain ⟨kd, oo, op, kk, ⟨va, se, fl⟩, on, ⟨wa, wc, wl⟩⟩ := o
  obtain rfl : kd = 8 := hk
  have HO : Hid (Ord H S ts n) := hO
  have hwf := h.wf
  have eH : stepH H ⟨8, oo, op, kk, ⟨va, se, fl⟩, on, ⟨wa, wc, wl⟩⟩ = (textF H kk).1 := by rfl
  have eS : stepS S ⟨8, oo, op, kk, ⟨va, se, fl⟩, on, ⟨wa, wc, wl⟩⟩ = S := by rfl
  have eT : stepT ts ⟨8, oo, op, kk, ⟨va, se, fl⟩, on, ⟨wa, wc, wl⟩⟩ = (textG ts kk).1 := by rfl
  rw [eH, eS, eT]
  have kp := fun W (h : TwoE w0 W (Xb w X) hb H S vo vt ts) => text_e h kk
  rw [(hO.rel.text hwf.ts kk).2] at kp
  have kq := fun H1 W (h : TwoE w0 W (Xb w X) hb H1 S vo vt ts) => rtext_e h kk (HO.out.wfs hwf).2.2
  generalize (textG ts kk).2.1 = AN at *
  generalize (textG ts kk).2.2 = AB at *
  obtain ⟨oa, ol, oc⟩ := vo
  obtain ⟨ta, tl, tc⟩ := vt
  have hst : On w0 w (((w.alloc (.cells #[.slice oa ol oc, .slice ta tl tc] 28)).alloc (.cells #[.int .i64 8, .int .u64 oo, .int .u64 op, .string kk, .int .u64 va, .int .u64 se, .int .i64 fl, .int .i64 on, .slice wa wl.length wc] 38)).alloc (.cells #[.slice none 0 0, .slice none 0 0] 28)) X hb H S ⟨oa, ol, oc⟩ ⟨ta, tl, tc⟩ ts ⟨oa, ol, oc⟩ ⟨ta, tl, tc⟩ #[.int .i64 8, .int .u64 oo, .int .u64 op, .string kk, .int .u64 va, .int .u64 se, .int .i64 fl, .int .i64 on, .slice wa wl.length wc] .nil .nil := On.start h _
  obtain ⟨wb, hwb⟩ : ∃ wb, wb = (((w.alloc (.cells #[.slice oa ol oc, .slice ta tl tc] 28)).alloc (.cells #[.int .i64 8, .int .u64 oo, .int .u64 op, .string kk, .int .u64 va, .int .u64 se, .int .i64 fl, .int .i64 on, .slice wa wl.length wc] 38)).alloc (.cells #[.slice none 0 0, .slice none 0 0] 28)) := ⟨_, rfl⟩
  rw [← hwb] at hst
  have HS := (show Hid _ from hst)
  have kp := kp wb hst.two
  generalize (textF H kk).1 = H2 at *
  generalize (textG ts kk).1 = ts2 at *
  have ce0 : wb.cell? ⟨w.heap.size, 0, none⟩ = some (.slice oa ol oc) := hst.s.ce.1
  have ce1 : wb.cell? ⟨w.heap.size, 1, none⟩ = some (.slice ta tl tc) := hst.s.ce.2
  have cf0 := hst.s.fz.1
  have cf1 := hst.s.fz.2
  have cr0 : wb.cell? ⟨w.heap.size + 1 + 1, 0, none⟩ = some (.slice none 0 0) := hst.r.ce.1
  have cr1 : wb.cell? ⟨w.heap.size + 1 + 1, 1, none⟩ = some (.slice none 0 0) := hst.r.ce.2
  have cg0 := hst.r.fz.1
  have cg1 := hst.r.fz.2
  have q0 := hst.oc 0 rfl
  have q3 := hst.oc 3 rfl
  unfold stV OpL.val OpL.cells Sli.val
  unfold stV at kq
  simp only at kp kq ⊢
  rw [show (SV.mk oa ol oc).val = .slice oa ol oc from rfl, show (SV.mk ta tl tc).val = .slice ta tl tc from rfl] at kq ⊢
  clear h hO hst hwf eH eS eT hw ho
  go_enter Tryz.func8, Tryz.ntmps8
  go_upto_region 1 with fail
  rw [← hwb]
  clear hwb
  go_wp2_with fail
  refine kp.mono ?_
  rintro e w2 ⟨rfl, hk2⟩
  clear kp ce0 ce1 cf0 cf1 cr0 cr1 cg0 cg1 q0 q3
  have h2 := HS.out.call hk2
  have HS2 := (show Hid _ from h2)
  have kq := kq H2 w2 h2.two
  have ce0 : w2.cell? ⟨w.heap.size, 0, none⟩ = some (.slice oa ol oc) := h2.s.ce.1
  have ce1 : w2.cell? ⟨w.heap.size, 1, none⟩ = some (.slice ta tl tc) := h2.s.ce.2
  have cf0 := h2.s.fz.1
  have cf1 := h2.s.fz.2
  have cr0 : w2.cell? ⟨w.heap.size + 1 + 1, 0, none⟩ = some (.slice none 0 0) := h2.r.ce.1
  have cr1 : w2.cell? ⟨w.heap.size + 1 + 1, 1, none⟩ = some (.slice none 0 0) := h2.r.ce.2
  have cg0 := h2.r.fz.1
  have cg1 := h2.r.fz.2
  have q0 := h2.oc 0 rfl
  have q3 := h2.oc 3 rfl
  clear HS hk2 h2
  go_wp2_with fail
  refine kq.mono ?_
  rintro e w3 ⟨⟨ga, gl, gc⟩, rfl, hk3⟩
  clear kq ce0 ce1 cf0 cf1 cr0 cr1 cg0 cg1 q0 q3
  rw [show (SV.mk ga gl gc).val = .slice ga gl gc from rfl]
  have h3 := HS2.out.call hk3
  have h4 := h3.same (W' := w3.alloc (.cells #[.slice oa ol oc, .slice ga gl gc] 28)) ((Below.refl _ _).alloc (Nat.le_refl _) _)
  have bx : BxS (w3.alloc (.cells #[.slice oa ol oc, .slice ga gl gc] 28)) w3.heap.size ⟨oa, ol, oc⟩ ⟨ga, gl, gc⟩ := at_new _ _
  have HX := (show Hid _ from And.intro h4 bx)
  clear HS2 hk3 h3 h4 bx
  go_upto_region 32 with fail
  generalize w3.alloc (.cells #[.slice oa ol oc, .slice ga gl gc] 28) = w4 at *
  generalize w3.heap.size = b3 at *
  obtain ⟨h4, bx⟩ := HX.out
  have cx0 : w4.cell? ⟨b3, 0, none⟩ = some (.slice oa ol oc) := bx.ce.1
  have cx1 : w4.cell? ⟨b3, 1, none⟩ = some (.slice ga gl gc) := bx.ce.2
  have h5 := h4.set2 ⟨oa, ol, oc⟩ ⟨ga, gl, gc⟩
  have HF := (show Hid _ from And.intro h5.r h5.fin)
  have ce0 : w4.cell? ⟨w.heap.size, 0, none⟩ = some (.slice oa ol oc) := h4.s.ce.1
  have ce1 : w4.cell? ⟨w.heap.size, 1, none⟩ = some (.slice ta tl tc) := h4.s.ce.2
  have cf0 := h4.s.fz.1
  have cf1 := h4.s.fz.2
  have cr0 : w4.cell? ⟨w.heap.size + 1 + 1, 0, none⟩ = some (.slice none 0 0) := h4.r.ce.1
  have cr1 : w4.cell? ⟨w.heap.size + 1 + 1, 1, none⟩ = some (.slice none 0 0) := h4.r.ce.2
  have cg0 := h4.r.fz.1
  have cg1 := h4.r.fz.2
  clear HX h4 bx h5 ce0 ce1 cf0 cf1
  rw [show (SV.mk ga gl gc).val = .slice ga gl gc from rfl, show (SV.mk oa ol oc).val = .slice oa ol oc from rfl] at HF
  go_wp2_with fail
  refine bodyPost_ret (res2 rfl _ _ (w.heap.size + 1 + 1) 28 _ (0, 0) _ rfl HF.out.1 Tryz.underlying28 rfl (by kernel_rfl)) rfl ?_
  exact ⟨⟨oa, ol, oc⟩, ⟨ga, gl, gc⟩, rfl, HF.out.2⟩
set_option maxRecDepth 100000 in
set_option maxHeartbeats 2000000 in
theorem step_none (h : TwoE w0 w X hb H S vo vt ts) (hO : Ord H S ts n) (hn : n ≤ 1000000) (o : OpL) (hk : ∀ j : Int, 0 ≤ j → j ≤ 10 → ¬ o.kd = j) (ho : o.wf) (hw : ∀ W, Below w0.heap.size w0 W → o.w.ok wC 1 W) :
    Calls Tryz.prog 8 #[.pointer (some ⟨hb, 0, none⟩), stV vo vt, o.val] w fun e w' => ∃ vo' vt', e = .returned (.tuple #[stV vo' vt', .bool true]) ∧ TwoK w0 w w' X hb (stepH H o) (stepS S o) vo' vt' (stepT ts o) := by
  obtain ⟨kd, oo, op, kk, ⟨va, se, fl⟩, on, ⟨wa, wc, wl⟩⟩ := o
  have hk : ∀ j : Int, 0 ≤ j → j ≤ 10 → ¬ kd = j := hk
  have z0 : (kd == 0) = false := by rw [beq_eq_false_iff_ne]; exact hk 0 (by omega) (by omega)
  have z1 : (kd == 1) = false := by rw [beq_eq_false_iff_ne]; exact hk 1 (by omega) (by omega)
  have z2 : (kd == 2) = false := by rw [beq_eq_false_iff_ne]; exact hk 2 (by omega) (by omega)
  have z3 : (kd == 3) = false := by rw [beq_eq_false_iff_ne]; exact hk 3 (by omega) (by omega)
  have z4 : (kd == 4) = false := by rw [beq_eq_false_iff_ne]; exact hk 4 (by omega) (by omega)
  have z5 : (kd == 5) = false := by rw [beq_eq_false_iff_ne]; exact hk 5 (by omega) (by omega)
  have z6 : (kd == 6) = false := by rw [beq_eq_false_iff_ne]; exact hk 6 (by omega) (by omega)
  have z7 : (kd == 7) = false := by rw [beq_eq_false_iff_ne]; exact hk 7 (by omega) (by omega)
  have z8 : (kd == 8) = false := by rw [beq_eq_false_iff_ne]; exact hk 8 (by omega) (by omega)
  have z9 : (kd == 9) = false := by rw [beq_eq_false_iff_ne]; exact hk 9 (by omega) (by omega)
  have z10 : (kd == 10) = false := by rw [beq_eq_false_iff_ne]; exact hk 10 (by omega) (by omega)
  have eH : stepH H ⟨kd, oo, op, kk, ⟨va, se, fl⟩, on, ⟨wa, wc, wl⟩⟩ = H := by unfold stepH; simp only; rw [if_neg (hk 0 (by omega) (by omega)), if_neg (hk 1 (by omega) (by omega)), if_neg (hk 2 (by omega) (by omega)), if_neg (hk 3 (by omega) (by omega)), if_neg (hk 4 (by omega) (by omega)), if_neg (hk 5 (by omega) (by omega)), if_neg (hk 6 (by omega) (by omega)), if_neg (hk 7 (by omega) (by omega)), if_neg (hk 8 (by omega) (by omega)), if_neg (hk 9 (by omega) (by omega)), if_neg (hk 10 (by omega) (by omega))]
  have eS : stepS S ⟨kd, oo, op, kk, ⟨va, se, fl⟩, on, ⟨wa, wc, wl⟩⟩ = S := by unfold stepS; simp only; rw [if_neg (hk 0 (by omega) (by omega)), if_neg (hk 1 (by omega) (by omega)), if_neg (hk 2 (by omega) (by omega)), if_neg (hk 3 (by omega) (by omega)), if_neg (hk 4 (by omega) (by omega)), if_neg (hk 5 (by omega) (by omega)), if_neg (hk 6 (by omega) (by omega)), if_neg (hk 7 (by omega) (by omega)), if_neg (hk 8 (by omega) (by omega)), if_neg (hk 9 (by omega) (by omega)), if_neg (hk 10 (by omega) (by omega))]
  have eT : stepT ts ⟨kd, oo, op, kk, ⟨va, se, fl⟩, on, ⟨wa, wc, wl⟩⟩ = ts := by unfold stepT; simp only; rw [if_neg (hk 8 (by omega) (by omega))]
  rw [eH, eS, eT]
  obtain ⟨oa, ol, oc⟩ := vo
  obtain ⟨ta, tl, tc⟩ := vt
  have hst : On w0 w (((w.alloc (.cells #[.slice oa ol oc, .slice ta tl tc] 28)).alloc (.cells #[.int .i64 kd, .int .u64 oo, .int .u64 op, .string kk, .int .u64 va, .int .u64 se, .int .i64 fl, .int .i64 on, .slice wa wl.length wc] 38)).alloc (.cells #[.slice none 0 0, .slice none 0 0] 28)) X hb H S ⟨oa, ol, oc⟩ ⟨ta, tl, tc⟩ ts ⟨oa, ol, oc⟩ ⟨ta, tl, tc⟩ #[.int .i64 kd, .int .u64 oo, .int .u64 op, .string kk, .int .u64 va, .int .u64 se, .int .i64 fl, .int .i64 on, .slice wa wl.length wc] .nil .nil := On.start h _
  obtain ⟨wb, hwb⟩ : ∃ wb, wb = (((w.alloc (.cells #[.slice oa ol oc, .slice ta tl tc] 28)).alloc (.cells #[.int .i64 kd, .int .u64 oo, .int .u64 op, .string kk, .int .u64 va, .int .u64 se, .int .i64 fl, .int .i64 on, .slice wa wl.length wc] 38)).alloc (.cells #[.slice none 0 0, .slice none 0 0] 28)) := ⟨_, rfl⟩
  rw [← hwb] at hst
  have HS := (show Hid _ from hst)
  have ce0 : wb.cell? ⟨w.heap.size, 0, none⟩ = some (.slice oa ol oc) := hst.s.ce.1
  have ce1 : wb.cell? ⟨w.heap.size, 1, none⟩ = some (.slice ta tl tc) := hst.s.ce.2
  have cf0 := hst.s.fz.1
  have cf1 := hst.s.fz.2
  have cr0 : wb.cell? ⟨w.heap.size + 1 + 1, 0, none⟩ = some (.slice none 0 0) := hst.r.ce.1
  have cr1 : wb.cell? ⟨w.heap.size + 1 + 1, 1, none⟩ = some (.slice none 0 0) := hst.r.ce.2
  have cg0 := hst.r.fz.1
  have cg1 := hst.r.fz.2
  have q0 := hst.oc 0 rfl
  have h5 := hst.set2 ⟨oa, ol, oc⟩ ⟨ta, tl, tc⟩
  have HF := (show Hid _ from And.intro h5.r h5.fin)
  unfold stV OpL.val OpL.cells Sli.val
  simp only
  rw [show (SV.mk oa ol oc).val = .slice oa ol oc from rfl, show (SV.mk ta tl tc).val = .slice ta tl tc from rfl] at HF ⊢
  clear h hO hst eH eS eT hw ho hk h5
  go_enter Tryz.func8, Tryz.ntmps8
  go_upto_region 1 with fail
  rw [← hwb]
  clear hwb
  go_upto_region 8 with fail
  go_wp2_with fail
  refine bodyPost_ret (res2 rfl _ _ (w.heap.size + 1 + 1) 28 _ (0, 0) _ rfl HF.out.1 Tryz.underlying28 rfl (by kernel_rfl)) rfl ?_
  exact ⟨⟨oa, ol, oc⟩, ⟨ta, tl, tc⟩, rfl, HF.out.2⟩
end
end Go.Proofs.YtkpdpdllbnihgaaGreat.Hp
