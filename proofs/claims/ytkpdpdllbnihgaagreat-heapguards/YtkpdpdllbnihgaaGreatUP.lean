/- UP -/
import Derived.Test.YtkpdpdllbnihgaaGreatB39
set_option linter.unusedVariables false
set_option linter.unusedSimpArgs false
set_option maxRecDepth 100000
set_option maxHeartbeats 40000000
/- law.step: Drop, SetProto, SetLen, Close, SetInner. -/
namespace Go.Proofs.YtkpdpdllbnihgaaGreat.Hp
open Go.RowKit
section
variable {w0 w W W' : World} {X : Nat → Prop} {hb : Nat} {H H' : He} {S S' : List So} {vo vo' vt vt' : SV} {ts ts' : List ByteArray} {n : Nat}
set_option maxRecDepth 100000 in
set_option maxHeartbeats 2000000 in
theorem step_2 (h : TwoE w0 w X hb H S vo vt ts) (hO : Ord H S ts n) (hn : n ≤ 1000000) (o : OpL) (hk : o.kd = 2) (ho : o.wf) (hw : ∀ W, Below w0.heap.size w0 W → o.w.ok wC 1 W) :
    Calls Tryz.prog 8 #[.pointer (some ⟨hb, 0, none⟩), stV vo vt, o.val] w fun e w' => ∃ vo' vt', e = .returned (.tuple #[stV vo' vt', .bool true]) ∧ TwoK w0 w w' X hb (stepH H o) (stepS S o) vo' vt' (stepT ts o) := by
  obtain ⟨kd, oo, op, kk, ⟨va, se, fl⟩, on, ⟨wa, wc, wl⟩⟩ := o
  obtain rfl : kd = 2 := hk
  have HO : Hid (Ord H S ts n) := hO
  have hwf := h.wf
  have eH : stepH H ⟨2, oo, op, kk, ⟨va, se, fl⟩, on, ⟨wa, wc, wl⟩⟩ = (dropF H oo kk).1 := by rfl
  have eS : stepS S ⟨2, oo, op, kk, ⟨va, se, fl⟩, on, ⟨wa, wc, wl⟩⟩ = (dropG S oo kk).1 := by rfl
  have eT : stepT ts ⟨2, oo, op, kk, ⟨va, se, fl⟩, on, ⟨wa, wc, wl⟩⟩ = ts := by rfl
  rw [eH, eS, eT]
  have kp := fun W (h : TwoE w0 W (Xb w X) hb H S vo vt ts) => drop_e h HO.out.inv.neat oo ho.o0 ho.o1 kk ho.kl
  have kq := fun H1 W (h : TwoE w0 W (Xb w X) hb H1 S vo vt ts) => rdrop_e h (HO.out.nm hn) oo ho.o0 ho.o1 kk
  have eq := (HO.out.rel.drop oo kk).2
  generalize (dropF H oo kk).2 = rb at *
  generalize (dropG S oo kk).2 = rb2 at *
  subst eq
  obtain ⟨oa, ol, oc⟩ := vo
  obtain ⟨ta, tl, tc⟩ := vt
  have hst : On w0 w (((w.alloc (.cells #[.slice oa ol oc, .slice ta tl tc] 28)).alloc (.cells #[.int .i64 2, .int .u64 oo, .int .u64 op, .string kk, .int .u64 va, .int .u64 se, .int .i64 fl, .int .i64 on, .slice wa wl.length wc] 38)).alloc (.cells #[.slice none 0 0, .slice none 0 0] 28)) X hb H S ⟨oa, ol, oc⟩ ⟨ta, tl, tc⟩ ts ⟨oa, ol, oc⟩ ⟨ta, tl, tc⟩ #[.int .i64 2, .int .u64 oo, .int .u64 op, .string kk, .int .u64 va, .int .u64 se, .int .i64 fl, .int .i64 on, .slice wa wl.length wc] .nil .nil := On.start h _
  obtain ⟨wb, hwb⟩ : ∃ wb, wb = (((w.alloc (.cells #[.slice oa ol oc, .slice ta tl tc] 28)).alloc (.cells #[.int .i64 2, .int .u64 oo, .int .u64 op, .string kk, .int .u64 va, .int .u64 se, .int .i64 fl, .int .i64 on, .slice wa wl.length wc] 38)).alloc (.cells #[.slice none 0 0, .slice none 0 0] 28)) := ⟨_, rfl⟩
  rw [← hwb] at hst
  have HS := (show Hid _ from hst)
  have kp := kp wb hst.two
  generalize (dropF H oo kk).1 = H2 at *
  generalize (dropG S oo kk).1 = S2 at *
  have ce0 : wb.cell? ⟨w.heap.size, 0, none⟩ = some (.slice oa ol oc) := hst.s.ce.1
  have ce1 : wb.cell? ⟨w.heap.size, 1, none⟩ = some (.slice ta tl tc) := hst.s.ce.2
  have cf0 := hst.s.fz.1
  have cf1 := hst.s.fz.2
  have cr0 : wb.cell? ⟨w.heap.size + 1 + 1, 0, none⟩ = some (.slice none 0 0) := hst.r.ce.1
  have cr1 : wb.cell? ⟨w.heap.size + 1 + 1, 1, none⟩ = some (.slice none 0 0) := hst.r.ce.2
  have cg0 := hst.r.fz.1
  have cg1 := hst.r.fz.2
  have q0 := hst.oc 0 rfl
  have q1 := hst.oc 1 rfl
  have q3 := hst.oc 3 rfl
  unfold stV OpL.val OpL.cells Sli.val
  unfold stV at kq
  simp only at kp kq ⊢
  rw [show (SV.mk oa ol oc).val = .slice oa ol oc from rfl, show (SV.mk ta tl tc).val = .slice ta tl tc from rfl] at kq ⊢
  clear h hO hst hwf eH eS eT hw ho
  go_enter Tryz.func8, Tryz.ntmps8
  go_upto_region 1 with fail
  rw [← hwb]
  clear hwb
  go_wp2_with fail
  refine kp.mono ?_
  rintro e w2 ⟨rfl, hk2⟩
  clear kp ce0 ce1 cf0 cf1 cr0 cr1 cg0 cg1 q0 q1 q3
  have h2 := HS.out.call hk2
  have HS2 := (show Hid _ from h2)
  have kq := kq H2 w2 h2.two
  have ce0 : w2.cell? ⟨w.heap.size, 0, none⟩ = some (.slice oa ol oc) := h2.s.ce.1
  have ce1 : w2.cell? ⟨w.heap.size, 1, none⟩ = some (.slice ta tl tc) := h2.s.ce.2
  have cf0 := h2.s.fz.1
  have cf1 := h2.s.fz.2
  have cr0 : w2.cell? ⟨w.heap.size + 1 + 1, 0, none⟩ = some (.slice none 0 0) := h2.r.ce.1
  have cr1 : w2.cell? ⟨w.heap.size + 1 + 1, 1, none⟩ = some (.slice none 0 0) := h2.r.ce.2
  have cg0 := h2.r.fz.1
  have cg1 := h2.r.fz.2
  have q0 := h2.oc 0 rfl
  have q1 := h2.oc 1 rfl
  have q3 := h2.oc 3 rfl
  clear HS hk2 h2
  go_wp2_with fail
  refine kq.mono ?_
  rintro e w3 ⟨rfl, hk3⟩
  clear kq ce0 ce1 cf0 cf1 cr0 cr1 cg0 cg1 q0 q1 q3
  have h3 := HS2.out.call hk3
  have h5 := (h3.set1 ⟨oa, ol, oc⟩ ⟨ta, tl, tc⟩).set2 ⟨oa, ol, oc⟩ ⟨ta, tl, tc⟩
  have HF := (show Hid _ from And.intro h5.r h5.fin)
  have ce0 : w3.cell? ⟨w.heap.size, 0, none⟩ = some (.slice oa ol oc) := h3.s.ce.1
  have ce1 : w3.cell? ⟨w.heap.size, 1, none⟩ = some (.slice ta tl tc) := h3.s.ce.2
  have cf0 := h3.s.fz.1
  have cf1 := h3.s.fz.2
  have cr0 : w3.cell? ⟨w.heap.size + 1 + 1, 0, none⟩ = some (.slice none 0 0) := h3.r.ce.1
  have cr1 : w3.cell? ⟨w.heap.size + 1 + 1, 1, none⟩ = some (.slice none 0 0) := h3.r.ce.2
  have cg0 := h3.r.fz.1
  have cg1 := h3.r.fz.2
  have q0 := h3.oc 0 rfl
  have q1 := h3.oc 1 rfl
  have q3 := h3.oc 3 rfl
  clear HS2 hk3 h3 h5
  rw [show (SV.mk oa ol oc).val = .slice oa ol oc from rfl, show (SV.mk ta tl tc).val = .slice ta tl tc from rfl] at HF
  go_wp2_with fail
  refine bodyPost_ret (res2 rfl _ _ (w.heap.size + 1 + 1) 28 _ (0, 0) _ rfl HF.out.1 Tryz.underlying28 rfl (by kernel_rfl)) rfl ?_
  exact ⟨⟨oa, ol, oc⟩, ⟨ta, tl, tc⟩, rfl, HF.out.2⟩
set_option maxRecDepth 100000 in
set_option maxHeartbeats 2000000 in
theorem step_3 (h : TwoE w0 w X hb H S vo vt ts) (hO : Ord H S ts n) (hn : n ≤ 1000000) (o : OpL) (hk : o.kd = 3) (ho : o.wf) (hw : ∀ W, Below w0.heap.size w0 W → o.w.ok wC 1 W) :
    Calls Tryz.prog 8 #[.pointer (some ⟨hb, 0, none⟩), stV vo vt, o.val] w fun e w' => ∃ vo' vt', e = .returned (.tuple #[stV vo' vt', .bool true]) ∧ TwoK w0 w w' X hb (stepH H o) (stepS S o) vo' vt' (stepT ts o) := by
  obtain ⟨kd, oo, op, kk, ⟨va, se, fl⟩, on, ⟨wa, wc, wl⟩⟩ := o
  obtain rfl : kd = 3 := hk
  have HO : Hid (Ord H S ts n) := hO
  have hwf := h.wf
  have eH : stepH H ⟨3, oo, op, kk, ⟨va, se, fl⟩, on, ⟨wa, wc, wl⟩⟩ = setPF H oo op := by rfl
  have eS : stepS S ⟨3, oo, op, kk, ⟨va, se, fl⟩, on, ⟨wa, wc, wl⟩⟩ = protoG S oo op := by rfl
  have eT : stepT ts ⟨3, oo, op, kk, ⟨va, se, fl⟩, on, ⟨wa, wc, wl⟩⟩ = ts := by rfl
  rw [eH, eS, eT]
  have kp := fun W (h : TwoE w0 W (Xb w X) hb H S vo vt ts) => setProto_e h HO.out.inv.acy HO.out.inv.abv oo op ho.o0 ho.o1 ho.p0 ho.p1
  have kq := fun H1 W (h : TwoE w0 W (Xb w X) hb H1 S vo vt ts) => rproto_e h (HO.out.wfs hwf).1 oo ho.o0 ho.o1 op ho.p0 ho.p1
  obtain ⟨oa, ol, oc⟩ := vo
  obtain ⟨ta, tl, tc⟩ := vt
  have hst : On w0 w (((w.alloc (.cells #[.slice oa ol oc, .slice ta tl tc] 28)).alloc (.cells #[.int .i64 3, .int .u64 oo, .int .u64 op, .string kk, .int .u64 va, .int .u64 se, .int .i64 fl, .int .i64 on, .slice wa wl.length wc] 38)).alloc (.cells #[.slice none 0 0, .slice none 0 0] 28)) X hb H S ⟨oa, ol, oc⟩ ⟨ta, tl, tc⟩ ts ⟨oa, ol, oc⟩ ⟨ta, tl, tc⟩ #[.int .i64 3, .int .u64 oo, .int .u64 op, .string kk, .int .u64 va, .int .u64 se, .int .i64 fl, .int .i64 on, .slice wa wl.length wc] .nil .nil := On.start h _
  obtain ⟨wb, hwb⟩ : ∃ wb, wb = (((w.alloc (.cells #[.slice oa ol oc, .slice ta tl tc] 28)).alloc (.cells #[.int .i64 3, .int .u64 oo, .int .u64 op, .string kk, .int .u64 va, .int .u64 se, .int .i64 fl, .int .i64 on, .slice wa wl.length wc] 38)).alloc (.cells #[.slice none 0 0, .slice none 0 0] 28)) := ⟨_, rfl⟩
  rw [← hwb] at hst
  have HS := (show Hid _ from hst)
  have kp := kp wb hst.two
  generalize setPF H oo op = H2 at *
  generalize protoG S oo op = S2 at *
  have ce0 : wb.cell? ⟨w.heap.size, 0, none⟩ = some (.slice oa ol oc) := hst.s.ce.1
  have ce1 : wb.cell? ⟨w.heap.size, 1, none⟩ = some (.slice ta tl tc) := hst.s.ce.2
  have cf0 := hst.s.fz.1
  have cf1 := hst.s.fz.2
  have cr0 : wb.cell? ⟨w.heap.size + 1 + 1, 0, none⟩ = some (.slice none 0 0) := hst.r.ce.1
  have cr1 : wb.cell? ⟨w.heap.size + 1 + 1, 1, none⟩ = some (.slice none 0 0) := hst.r.ce.2
  have cg0 := hst.r.fz.1
  have cg1 := hst.r.fz.2
  have q0 := hst.oc 0 rfl
  have q1 := hst.oc 1 rfl
  have q2 := hst.oc 2 rfl
  unfold stV OpL.val OpL.cells Sli.val
  unfold stV at kq
  simp only at kp kq ⊢
  rw [show (SV.mk oa ol oc).val = .slice oa ol oc from rfl, show (SV.mk ta tl tc).val = .slice ta tl tc from rfl] at kq ⊢
  clear h hO hst hwf eH eS eT hw ho
  go_enter Tryz.func8, Tryz.ntmps8
  go_upto_region 1 with fail
  rw [← hwb]
  clear hwb
  go_wp2_with fail
  refine kp.mono ?_
  rintro e w2 ⟨rfl, hk2⟩
  clear kp ce0 ce1 cf0 cf1 cr0 cr1 cg0 cg1 q0 q1 q2
  have h2 := HS.out.call hk2
  have HS2 := (show Hid _ from h2)
  have kq := kq H2 w2 h2.two
  have ce0 : w2.cell? ⟨w.heap.size, 0, none⟩ = some (.slice oa ol oc) := h2.s.ce.1
  have ce1 : w2.cell? ⟨w.heap.size, 1, none⟩ = some (.slice ta tl tc) := h2.s.ce.2
  have cf0 := h2.s.fz.1
  have cf1 := h2.s.fz.2
  have cr0 : w2.cell? ⟨w.heap.size + 1 + 1, 0, none⟩ = some (.slice none 0 0) := h2.r.ce.1
  have cr1 : w2.cell? ⟨w.heap.size + 1 + 1, 1, none⟩ = some (.slice none 0 0) := h2.r.ce.2
  have cg0 := h2.r.fz.1
  have cg1 := h2.r.fz.2
  have q0 := h2.oc 0 rfl
  have q1 := h2.oc 1 rfl
  have q2 := h2.oc 2 rfl
  clear HS hk2 h2
  go_wp2_with fail
  refine kq.mono ?_
  rintro e w3 ⟨rfl, hk3⟩
  clear kq ce0 ce1 cf0 cf1 cr0 cr1 cg0 cg1 q0 q1 q2
  have h3 := HS2.out.call hk3
  have h5 := (h3.set1 ⟨oa, ol, oc⟩ ⟨ta, tl, tc⟩).set2 ⟨oa, ol, oc⟩ ⟨ta, tl, tc⟩
  have HF := (show Hid _ from And.intro h5.r h5.fin)
  have ce0 : w3.cell? ⟨w.heap.size, 0, none⟩ = some (.slice oa ol oc) := h3.s.ce.1
  have ce1 : w3.cell? ⟨w.heap.size, 1, none⟩ = some (.slice ta tl tc) := h3.s.ce.2
  have cf0 := h3.s.fz.1
  have cf1 := h3.s.fz.2
  have cr0 : w3.cell? ⟨w.heap.size + 1 + 1, 0, none⟩ = some (.slice none 0 0) := h3.r.ce.1
  have cr1 : w3.cell? ⟨w.heap.size + 1 + 1, 1, none⟩ = some (.slice none 0 0) := h3.r.ce.2
  have cg0 := h3.r.fz.1
  have cg1 := h3.r.fz.2
  have q0 := h3.oc 0 rfl
  have q1 := h3.oc 1 rfl
  have q2 := h3.oc 2 rfl
  clear HS2 hk3 h3 h5
  rw [show (SV.mk oa ol oc).val = .slice oa ol oc from rfl, show (SV.mk ta tl tc).val = .slice ta tl tc from rfl] at HF
  go_wp2_with fail
  refine bodyPost_ret (res2 rfl _ _ (w.heap.size + 1 + 1) 28 _ (0, 0) _ rfl HF.out.1 Tryz.underlying28 rfl (by kernel_rfl)) rfl ?_
  exact ⟨⟨oa, ol, oc⟩, ⟨ta, tl, tc⟩, rfl, HF.out.2⟩
set_option maxRecDepth 100000 in
set_option maxHeartbeats 2000000 in
theorem step_5 (h : TwoE w0 w X hb H S vo vt ts) (hO : Ord H S ts n) (hn : n ≤ 1000000) (o : OpL) (hk : o.kd = 5) (ho : o.wf) (hw : ∀ W, Below w0.heap.size w0 W → o.w.ok wC 1 W) :
    Calls Tryz.prog 8 #[.pointer (some ⟨hb, 0, none⟩), stV vo vt, o.val] w fun e w' => ∃ vo' vt', e = .returned (.tuple #[stV vo' vt', .bool true]) ∧ TwoK w0 w w' X hb (stepH H o) (stepS S o) vo' vt' (stepT ts o) := by
  obtain ⟨kd, oo, op, kk, ⟨va, se, fl⟩, on, ⟨wa, wc, wl⟩⟩ := o
  obtain rfl : kd = 5 := hk
  have HO : Hid (Ord H S ts n) := hO
  have hwf := h.wf
  have eH : stepH H ⟨5, oo, op, kk, ⟨va, se, fl⟩, on, ⟨wa, wc, wl⟩⟩ = (lenF H oo on).1 := by rfl
  have eS : stepS S ⟨5, oo, op, kk, ⟨va, se, fl⟩, on, ⟨wa, wc, wl⟩⟩ = (lenG S oo on).1 := by rfl
  have eT : stepT ts ⟨5, oo, op, kk, ⟨va, se, fl⟩, on, ⟨wa, wc, wl⟩⟩ = ts := by rfl
  rw [eH, eS, eT]
  have kp := fun W (h : TwoE w0 W (Xb w X) hb H S vo vt ts) => setLen_e h oo ho.o0 ho.o1 on
  have kq := fun H1 W (h : TwoE w0 W (Xb w X) hb H1 S vo vt ts) => rsetLen_e h oo ho.o0 ho.o1 on
  have eq := (HO.out.rel.lens oo on).2
  generalize (lenF H oo on).2 = rb at *
  generalize (lenG S oo on).2 = rb2 at *
  subst eq
  obtain ⟨oa, ol, oc⟩ := vo
  obtain ⟨ta, tl, tc⟩ := vt
  have hst : On w0 w (((w.alloc (.cells #[.slice oa ol oc, .slice ta tl tc] 28)).alloc (.cells #[.int .i64 5, .int .u64 oo, .int .u64 op, .string kk, .int .u64 va, .int .u64 se, .int .i64 fl, .int .i64 on, .slice wa wl.length wc] 38)).alloc (.cells #[.slice none 0 0, .slice none 0 0] 28)) X hb H S ⟨oa, ol, oc⟩ ⟨ta, tl, tc⟩ ts ⟨oa, ol, oc⟩ ⟨ta, tl, tc⟩ #[.int .i64 5, .int .u64 oo, .int .u64 op, .string kk, .int .u64 va, .int .u64 se, .int .i64 fl, .int .i64 on, .slice wa wl.length wc] .nil .nil := On.start h _
  obtain ⟨wb, hwb⟩ : ∃ wb, wb = (((w.alloc (.cells #[.slice oa ol oc, .slice ta tl tc] 28)).alloc (.cells #[.int .i64 5, .int .u64 oo, .int .u64 op, .string kk, .int .u64 va, .int .u64 se, .int .i64 fl, .int .i64 on, .slice wa wl.length wc] 38)).alloc (.cells #[.slice none 0 0, .slice none 0 0] 28)) := ⟨_, rfl⟩
  rw [← hwb] at hst
  have HS := (show Hid _ from hst)
  have kp := kp wb hst.two
  generalize (lenF H oo on).1 = H2 at *
  generalize (lenG S oo on).1 = S2 at *
  have ce0 : wb.cell? ⟨w.heap.size, 0, none⟩ = some (.slice oa ol oc) := hst.s.ce.1
  have ce1 : wb.cell? ⟨w.heap.size, 1, none⟩ = some (.slice ta tl tc) := hst.s.ce.2
  have cf0 := hst.s.fz.1
  have cf1 := hst.s.fz.2
  have cr0 : wb.cell? ⟨w.heap.size + 1 + 1, 0, none⟩ = some (.slice none 0 0) := hst.r.ce.1
  have cr1 : wb.cell? ⟨w.heap.size + 1 + 1, 1, none⟩ = some (.slice none 0 0) := hst.r.ce.2
  have cg0 := hst.r.fz.1
  have cg1 := hst.r.fz.2
  have q0 := hst.oc 0 rfl
  have q1 := hst.oc 1 rfl
  have q7 := hst.oc 7 rfl
  unfold stV OpL.val OpL.cells Sli.val
  unfold stV at kq
  simp only at kp kq ⊢
  rw [show (SV.mk oa ol oc).val = .slice oa ol oc from rfl, show (SV.mk ta tl tc).val = .slice ta tl tc from rfl] at kq ⊢
  clear h hO hst hwf eH eS eT hw ho
  go_enter Tryz.func8, Tryz.ntmps8
  go_upto_region 1 with fail
  rw [← hwb]
  clear hwb
  go_wp2_with fail
  refine kp.mono ?_
  rintro e w2 ⟨rfl, hk2⟩
  clear kp ce0 ce1 cf0 cf1 cr0 cr1 cg0 cg1 q0 q1 q7
  have h2 := HS.out.call hk2
  have HS2 := (show Hid _ from h2)
  have kq := kq H2 w2 h2.two
  have ce0 : w2.cell? ⟨w.heap.size, 0, none⟩ = some (.slice oa ol oc) := h2.s.ce.1
  have ce1 : w2.cell? ⟨w.heap.size, 1, none⟩ = some (.slice ta tl tc) := h2.s.ce.2
  have cf0 := h2.s.fz.1
  have cf1 := h2.s.fz.2
  have cr0 : w2.cell? ⟨w.heap.size + 1 + 1, 0, none⟩ = some (.slice none 0 0) := h2.r.ce.1
  have cr1 : w2.cell? ⟨w.heap.size + 1 + 1, 1, none⟩ = some (.slice none 0 0) := h2.r.ce.2
  have cg0 := h2.r.fz.1
  have cg1 := h2.r.fz.2
  have q0 := h2.oc 0 rfl
  have q1 := h2.oc 1 rfl
  have q7 := h2.oc 7 rfl
  clear HS hk2 h2
  go_wp2_with fail
  refine kq.mono ?_
  rintro e w3 ⟨rfl, hk3⟩
  clear kq ce0 ce1 cf0 cf1 cr0 cr1 cg0 cg1 q0 q1 q7
  have h3 := HS2.out.call hk3
  have h5 := (h3.set1 ⟨oa, ol, oc⟩ ⟨ta, tl, tc⟩).set2 ⟨oa, ol, oc⟩ ⟨ta, tl, tc⟩
  have HF := (show Hid _ from And.intro h5.r h5.fin)
  have ce0 : w3.cell? ⟨w.heap.size, 0, none⟩ = some (.slice oa ol oc) := h3.s.ce.1
  have ce1 : w3.cell? ⟨w.heap.size, 1, none⟩ = some (.slice ta tl tc) := h3.s.ce.2
  have cf0 := h3.s.fz.1
  have cf1 := h3.s.fz.2
  have cr0 : w3.cell? ⟨w.heap.size + 1 + 1, 0, none⟩ = some (.slice none 0 0) := h3.r.ce.1
  have cr1 : w3.cell? ⟨w.heap.size + 1 + 1, 1, none⟩ = some (.slice none 0 0) := h3.r.ce.2
  have cg0 := h3.r.fz.1
  have cg1 := h3.r.fz.2
  have q0 := h3.oc 0 rfl
  have q1 := h3.oc 1 rfl
  have q7 := h3.oc 7 rfl
  clear HS2 hk3 h3 h5
  rw [show (SV.mk oa ol oc).val = .slice oa ol oc from rfl, show (SV.mk ta tl tc).val = .slice ta tl tc from rfl] at HF
  go_wp2_with fail
  refine bodyPost_ret (res2 rfl _ _ (w.heap.size + 1 + 1) 28 _ (0, 0) _ rfl HF.out.1 Tryz.underlying28 rfl (by kernel_rfl)) rfl ?_
  exact ⟨⟨oa, ol, oc⟩, ⟨ta, tl, tc⟩, rfl, HF.out.2⟩
set_option maxRecDepth 100000 in
set_option maxHeartbeats 2000000 in
theorem step_6 (h : TwoE w0 w X hb H S vo vt ts) (hO : Ord H S ts n) (hn : n ≤ 1000000) (o : OpL) (hk : o.kd = 6) (ho : o.wf) (hw : ∀ W, Below w0.heap.size w0 W → o.w.ok wC 1 W) :
    Calls Tryz.prog 8 #[.pointer (some ⟨hb, 0, none⟩), stV vo vt, o.val] w fun e w' => ∃ vo' vt', e = .returned (.tuple #[stV vo' vt', .bool true]) ∧ TwoK w0 w w' X hb (stepH H o) (stepS S o) vo' vt' (stepT ts o) := by
  obtain ⟨kd, oo, op, kk, ⟨va, se, fl⟩, on, ⟨wa, wc, wl⟩⟩ := o
  obtain rfl : kd = 6 := hk
  have HO : Hid (Ord H S ts n) := hO
  have hwf := h.wf
  have eH : stepH H ⟨6, oo, op, kk, ⟨va, se, fl⟩, on, ⟨wa, wc, wl⟩⟩ = closeH H oo := by rfl
  have eS : stepS S ⟨6, oo, op, kk, ⟨va, se, fl⟩, on, ⟨wa, wc, wl⟩⟩ = shutG S oo := by rfl
  have eT : stepT ts ⟨6, oo, op, kk, ⟨va, se, fl⟩, on, ⟨wa, wc, wl⟩⟩ = ts := by rfl
  rw [eH, eS, eT]
  have kp := fun W (h : TwoE w0 W (Xb w X) hb H S vo vt ts) => close_e h oo ho.o0 ho.o1
  have kq := fun H1 W (h : TwoE w0 W (Xb w X) hb H1 S vo vt ts) => rshut_e h oo ho.o0 ho.o1
  obtain ⟨oa, ol, oc⟩ := vo
  obtain ⟨ta, tl, tc⟩ := vt
  have hst : On w0 w (((w.alloc (.cells #[.slice oa ol oc, .slice ta tl tc] 28)).alloc (.cells #[.int .i64 6, .int .u64 oo, .int .u64 op, .string kk, .int .u64 va, .int .u64 se, .int .i64 fl, .int .i64 on, .slice wa wl.length wc] 38)).alloc (.cells #[.slice none 0 0, .slice none 0 0] 28)) X hb H S ⟨oa, ol, oc⟩ ⟨ta, tl, tc⟩ ts ⟨oa, ol, oc⟩ ⟨ta, tl, tc⟩ #[.int .i64 6, .int .u64 oo, .int .u64 op, .string kk, .int .u64 va, .int .u64 se, .int .i64 fl, .int .i64 on, .slice wa wl.length wc] .nil .nil := On.start h _
  obtain ⟨wb, hwb⟩ : ∃ wb, wb = (((w.alloc (.cells #[.slice oa ol oc, .slice ta tl tc] 28)).alloc (.cells #[.int .i64 6, .int .u64 oo, .int .u64 op, .string kk, .int .u64 va, .int .u64 se, .int .i64 fl, .int .i64 on, .slice wa wl.length wc] 38)).alloc (.cells #[.slice none 0 0, .slice none 0 0] 28)) := ⟨_, rfl⟩
  rw [← hwb] at hst
  have HS := (show Hid _ from hst)
  have kp := kp wb hst.two
  generalize closeH H oo = H2 at *
  generalize shutG S oo = S2 at *
  have ce0 : wb.cell? ⟨w.heap.size, 0, none⟩ = some (.slice oa ol oc) := hst.s.ce.1
  have ce1 : wb.cell? ⟨w.heap.size, 1, none⟩ = some (.slice ta tl tc) := hst.s.ce.2
  have cf0 := hst.s.fz.1
  have cf1 := hst.s.fz.2
  have cr0 : wb.cell? ⟨w.heap.size + 1 + 1, 0, none⟩ = some (.slice none 0 0) := hst.r.ce.1
  have cr1 : wb.cell? ⟨w.heap.size + 1 + 1, 1, none⟩ = some (.slice none 0 0) := hst.r.ce.2
  have cg0 := hst.r.fz.1
  have cg1 := hst.r.fz.2
  have q0 := hst.oc 0 rfl
  have q1 := hst.oc 1 rfl
  unfold stV OpL.val OpL.cells Sli.val
  unfold stV at kq
  simp only at kp kq ⊢
  rw [show (SV.mk oa ol oc).val = .slice oa ol oc from rfl, show (SV.mk ta tl tc).val = .slice ta tl tc from rfl] at kq ⊢
  clear h hO hst hwf eH eS eT hw ho
  go_enter Tryz.func8, Tryz.ntmps8
  go_upto_region 1 with fail
  rw [← hwb]
  clear hwb
  go_wp2_with fail
  refine kp.mono ?_
  rintro e w2 ⟨rfl, hk2⟩
  clear kp ce0 ce1 cf0 cf1 cr0 cr1 cg0 cg1 q0 q1
  have h2 := HS.out.call hk2
  have HS2 := (show Hid _ from h2)
  have kq := kq H2 w2 h2.two
  have ce0 : w2.cell? ⟨w.heap.size, 0, none⟩ = some (.slice oa ol oc) := h2.s.ce.1
  have ce1 : w2.cell? ⟨w.heap.size, 1, none⟩ = some (.slice ta tl tc) := h2.s.ce.2
  have cf0 := h2.s.fz.1
  have cf1 := h2.s.fz.2
  have cr0 : w2.cell? ⟨w.heap.size + 1 + 1, 0, none⟩ = some (.slice none 0 0) := h2.r.ce.1
  have cr1 : w2.cell? ⟨w.heap.size + 1 + 1, 1, none⟩ = some (.slice none 0 0) := h2.r.ce.2
  have cg0 := h2.r.fz.1
  have cg1 := h2.r.fz.2
  have q0 := h2.oc 0 rfl
  have q1 := h2.oc 1 rfl
  clear HS hk2 h2
  go_wp2_with fail
  refine kq.mono ?_
  rintro e w3 ⟨rfl, hk3⟩
  clear kq ce0 ce1 cf0 cf1 cr0 cr1 cg0 cg1 q0 q1
  have h3 := HS2.out.call hk3
  have h5 := (h3.set1 ⟨oa, ol, oc⟩ ⟨ta, tl, tc⟩).set2 ⟨oa, ol, oc⟩ ⟨ta, tl, tc⟩
  have HF := (show Hid _ from And.intro h5.r h5.fin)
  have ce0 : w3.cell? ⟨w.heap.size, 0, none⟩ = some (.slice oa ol oc) := h3.s.ce.1
  have ce1 : w3.cell? ⟨w.heap.size, 1, none⟩ = some (.slice ta tl tc) := h3.s.ce.2
  have cf0 := h3.s.fz.1
  have cf1 := h3.s.fz.2
  have cr0 : w3.cell? ⟨w.heap.size + 1 + 1, 0, none⟩ = some (.slice none 0 0) := h3.r.ce.1
  have cr1 : w3.cell? ⟨w.heap.size + 1 + 1, 1, none⟩ = some (.slice none 0 0) := h3.r.ce.2
  have cg0 := h3.r.fz.1
  have cg1 := h3.r.fz.2
  have q0 := h3.oc 0 rfl
  have q1 := h3.oc 1 rfl
  clear HS2 hk3 h3 h5
  rw [show (SV.mk oa ol oc).val = .slice oa ol oc from rfl, show (SV.mk ta tl tc).val = .slice ta tl tc from rfl] at HF
  go_wp2_with fail
  refine bodyPost_ret (res2 rfl _ _ (w.heap.size + 1 + 1) 28 _ (0, 0) _ rfl HF.out.1 Tryz.underlying28 rfl (by kernel_rfl)) rfl ?_
  exact ⟨⟨oa, ol, oc⟩, ⟨ta, tl, tc⟩, rfl, HF.out.2⟩
set_option maxRecDepth 100000 in
set_option maxHeartbeats 2000000 in
theorem step_7 (h : TwoE w0 w X hb H S vo vt ts) (hO : Ord H S ts n) (hn : n ≤ 1000000) (o : OpL) (hk : o.kd = 7) (ho : o.wf) (hw : ∀ W, Below w0.heap.size w0 W → o.w.ok wC 1 W) :
    Calls Tryz.prog 8 #[.pointer (some ⟨hb, 0, none⟩), stV vo vt, o.val] w fun e w' => ∃ vo' vt', e = .returned (.tuple #[stV vo' vt', .bool true]) ∧ TwoK w0 w w' X hb (stepH H o) (stepS S o) vo' vt' (stepT ts o) := by
  obtain ⟨kd, oo, op, kk, ⟨va, se, fl⟩, on, ⟨wa, wc, wl⟩⟩ := o
  obtain rfl : kd = 7 := hk
  have HO : Hid (Ord H S ts n) := hO
  have hwf := h.wf
  have eH : stepH H ⟨7, oo, op, kk, ⟨va, se, fl⟩, on, ⟨wa, wc, wl⟩⟩ = innF H oo wl := by rfl
  have eS : stepS S ⟨7, oo, op, kk, ⟨va, se, fl⟩, on, ⟨wa, wc, wl⟩⟩ = innG S oo wl := by rfl
  have eT : stepT ts ⟨7, oo, op, kk, ⟨va, se, fl⟩, on, ⟨wa, wc, wl⟩⟩ = ts := by rfl
  rw [eH, eS, eT]
  have kp := fun W (h : TwoE w0 W (Xb w X) hb H S vo vt ts) => setInner_e h oo ho.o0 ho.o1 ⟨wa, wc, wl⟩ (hw W h.bel) (by have := ho.wl; simp only at this ⊢; omega)
  have kq := fun H1 W (h : TwoE w0 W (Xb w X) hb H1 S vo vt ts) => rinner_e h oo ho.o0 ho.o1 (la := wa) (lc := wc) (xs := wl) (hw W h.bel) ho.wl
  obtain ⟨oa, ol, oc⟩ := vo
  obtain ⟨ta, tl, tc⟩ := vt
  have hst : On w0 w (((w.alloc (.cells #[.slice oa ol oc, .slice ta tl tc] 28)).alloc (.cells #[.int .i64 7, .int .u64 oo, .int .u64 op, .string kk, .int .u64 va, .int .u64 se, .int .i64 fl, .int .i64 on, .slice wa wl.length wc] 38)).alloc (.cells #[.slice none 0 0, .slice none 0 0] 28)) X hb H S ⟨oa, ol, oc⟩ ⟨ta, tl, tc⟩ ts ⟨oa, ol, oc⟩ ⟨ta, tl, tc⟩ #[.int .i64 7, .int .u64 oo, .int .u64 op, .string kk, .int .u64 va, .int .u64 se, .int .i64 fl, .int .i64 on, .slice wa wl.length wc] .nil .nil := On.start h _
  obtain ⟨wb, hwb⟩ : ∃ wb, wb = (((w.alloc (.cells #[.slice oa ol oc, .slice ta tl tc] 28)).alloc (.cells #[.int .i64 7, .int .u64 oo, .int .u64 op, .string kk, .int .u64 va, .int .u64 se, .int .i64 fl, .int .i64 on, .slice wa wl.length wc] 38)).alloc (.cells #[.slice none 0 0, .slice none 0 0] 28)) := ⟨_, rfl⟩
  rw [← hwb] at hst
  have HS := (show Hid _ from hst)
  have kp := kp wb hst.two
  generalize innF H oo wl = H2 at *
  generalize innG S oo wl = S2 at *
  have ce0 : wb.cell? ⟨w.heap.size, 0, none⟩ = some (.slice oa ol oc) := hst.s.ce.1
  have ce1 : wb.cell? ⟨w.heap.size, 1, none⟩ = some (.slice ta tl tc) := hst.s.ce.2
  have cf0 := hst.s.fz.1
  have cf1 := hst.s.fz.2
  have cr0 : wb.cell? ⟨w.heap.size + 1 + 1, 0, none⟩ = some (.slice none 0 0) := hst.r.ce.1
  have cr1 : wb.cell? ⟨w.heap.size + 1 + 1, 1, none⟩ = some (.slice none 0 0) := hst.r.ce.2
  have cg0 := hst.r.fz.1
  have cg1 := hst.r.fz.2
  have q0 := hst.oc 0 rfl
  have q1 := hst.oc 1 rfl
  have q8 := hst.oc 8 rfl
  unfold stV OpL.val OpL.cells Sli.val
  unfold stV at kq
  simp only at kp kq ⊢
  rw [show (SV.mk oa ol oc).val = .slice oa ol oc from rfl, show (SV.mk ta tl tc).val = .slice ta tl tc from rfl] at kq ⊢
  clear h hO hst hwf eH eS eT hw ho
  go_enter Tryz.func8, Tryz.ntmps8
  go_upto_region 1 with fail
  rw [← hwb]
  clear hwb
  go_wp2_with fail
  refine kp.mono ?_
  rintro e w2 ⟨rfl, hk2⟩
  clear kp ce0 ce1 cf0 cf1 cr0 cr1 cg0 cg1 q0 q1 q8
  have h2 := HS.out.call hk2
  have HS2 := (show Hid _ from h2)
  have kq := kq H2 w2 h2.two
  have ce0 : w2.cell? ⟨w.heap.size, 0, none⟩ = some (.slice oa ol oc) := h2.s.ce.1
  have ce1 : w2.cell? ⟨w.heap.size, 1, none⟩ = some (.slice ta tl tc) := h2.s.ce.2
  have cf0 := h2.s.fz.1
  have cf1 := h2.s.fz.2
  have cr0 : w2.cell? ⟨w.heap.size + 1 + 1, 0, none⟩ = some (.slice none 0 0) := h2.r.ce.1
  have cr1 : w2.cell? ⟨w.heap.size + 1 + 1, 1, none⟩ = some (.slice none 0 0) := h2.r.ce.2
  have cg0 := h2.r.fz.1
  have cg1 := h2.r.fz.2
  have q0 := h2.oc 0 rfl
  have q1 := h2.oc 1 rfl
  have q8 := h2.oc 8 rfl
  clear HS hk2 h2
  go_wp2_with fail
  refine kq.mono ?_
  rintro e w3 ⟨rfl, hk3⟩
  clear kq ce0 ce1 cf0 cf1 cr0 cr1 cg0 cg1 q0 q1 q8
  have h3 := HS2.out.call hk3
  have h5 := (h3.set1 ⟨oa, ol, oc⟩ ⟨ta, tl, tc⟩).set2 ⟨oa, ol, oc⟩ ⟨ta, tl, tc⟩
  have HF := (show Hid _ from And.intro h5.r h5.fin)
  have ce0 : w3.cell? ⟨w.heap.size, 0, none⟩ = some (.slice oa ol oc) := h3.s.ce.1
  have ce1 : w3.cell? ⟨w.heap.size, 1, none⟩ = some (.slice ta tl tc) := h3.s.ce.2
  have cf0 := h3.s.fz.1
  have cf1 := h3.s.fz.2
  have cr0 : w3.cell? ⟨w.heap.size + 1 + 1, 0, none⟩ = some (.slice none 0 0) := h3.r.ce.1
  have cr1 : w3.cell? ⟨w.heap.size + 1 + 1, 1, none⟩ = some (.slice none 0 0) := h3.r.ce.2
  have cg0 := h3.r.fz.1
  have cg1 := h3.r.fz.2
  have q0 := h3.oc 0 rfl
  have q1 := h3.oc 1 rfl
  have q8 := h3.oc 8 rfl
  clear HS2 hk3 h3 h5
  rw [show (SV.mk oa ol oc).val = .slice oa ol oc from rfl, show (SV.mk ta tl tc).val = .slice ta tl tc from rfl] at HF
  go_wp2_with fail
  refine bodyPost_ret (res2 rfl _ _ (w.heap.size + 1 + 1) 28 _ (0, 0) _ rfl HF.out.1 Tryz.underlying28 rfl (by kernel_rfl)) rfl ?_
  exact ⟨⟨oa, ol, oc⟩, ⟨ta, tl, tc⟩, rfl, HF.out.2⟩
end
end Go.Proofs.YtkpdpdllbnihgaaGreat.Hp
