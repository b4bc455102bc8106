/- UV -/
import Derived.Test.YtkpdpdllbnihgaaGreatB39
import Derived.Deep.QuietTactic
set_option linter.unusedVariables false
set_option linter.unusedSimpArgs false
set_option maxRecDepth 100000
set_option maxHeartbeats 40000000
/- law.written, and law.step at Write. -/
namespace Go.Proofs.YtkpdpdllbnihgaaGreat.Hp
open Go.RowKit
section
variable {w0 w w2 W W' : World} {X : Nat → Prop} {hb : Nat} {H H' : He} {S S' : List So} {vo vo' vt vt' : SV} {ts ts' : List ByteArray} {n : Nat}
/-- where an object's names lie -/
theorem TwoE.nms (h : TwoE w0 w X hb H S vo vt ts) {i : Nat} {x : So} (hi : S[i]? = some x) : ∃ g cap a c, vo.val = .slice (some ⟨g, 0, none⟩) S.length cap ∧ w.cell? ⟨g, i * 7 + 3, none⟩ = some (.slice a x.nm.length c) := by
  obtain ⟨tgH, tgS, M, qs, h⟩ := h
  obtain ⟨g, cap, q, hv, hq, t1, hgl, hcell, hfz, hl1, hl2, hrow⟩ := h.st.obj hi
  have r0 : RowIn strC 1 9 w0.heap.size w (fun b => tgS b = 2 + 4 * i + 0) q.vn x.nm := h.st.ob i x q 0 hi hq (by omega)
  obtain ⟨e1, _⟩ := r0.open rtStr.len
  have d3 := hcell 3 _ rfl
  refine ⟨g, cap, q.vn.ad, q.vn.cap, by rw [hv]; rfl, ?_⟩
  rw [← e1]
  exact d3
theorem TwoE.prop (h : TwoE w0 w X hb H S vo vt ts) {i : Nat} {x : So} (hi : S[i]? = some x) {m : Nat} {k : ByteArray} {d : De} (hk : x.nm[m]? = some k) (hd : x.ds[m]? = some d) : ∃ g cap ln cn ld cd, vo.val = .slice (some ⟨g, 0, none⟩) S.length cap ∧ w.cell? ⟨g, i * 7 + 3, none⟩ = some (.slice (some ⟨ln, 0, none⟩) x.nm.length cn) ∧ w.cell? ⟨g, i * 7 + 4, none⟩ = some (.slice (some ⟨ld, 0, none⟩) x.nm.length cd) ∧ w.cell? ⟨ln, m, none⟩ = some (.string k) ∧ w.cell? ⟨ld, m * 3, none⟩ = some (.int .u64 d.va) ∧ w.cell? ⟨ld, m * 3 + 1, none⟩ = some (.int .u64 d.se) ∧ w.cell? ⟨ld, m * 3 + 2, none⟩ = some (.int .i64 d.fl) := by
  obtain ⟨tgH, tgS, M, qs, h⟩ := h
  obtain ⟨g, cap, q, hv, hq, t1, hgl, hcell, hfz, hl1, hl2, hrow⟩ := h.st.obj hi
  have r0 : RowIn strC 1 9 w0.heap.size w (fun b => tgS b = 2 + 4 * i + 0) q.vn x.nm := h.st.ob i x q 0 hi hq (by omega)
  have r1 : RowIn deC 3 35 w0.heap.size w (fun b => tgS b = 2 + 4 * i + 1) q.vd x.ds := h.st.ob i x q 1 hi hq (by omega)
  obtain ⟨e1, _, _, f1⟩ := r0.open rtStr.len
  obtain ⟨e2, _, _, f2⟩ := r1.open rtDe.len
  obtain ⟨ln, a1, _, _, _, c1, _⟩ := f1 (by intro e; rw [e] at hk; simp at hk)
  obtain ⟨ld, a2, _, _, _, c2, _⟩ := f2 (by intro e; rw [e] at hd; simp at hd)
  have hs := h.st.same x (List.mem_of_getElem? hi)
  have d3 := hcell 3 _ rfl
  have d4 := hcell 4 _ rfl
  have z0 := c1 m k hk 0 _ rfl
  have z1 := c2 m d hd 0 _ rfl
  rw [Nat.mul_one, Nat.add_zero] at z0
  rw [Nat.add_zero] at z1
  refine ⟨g, cap, ln, q.vn.cap, ld, q.vd.cap, by rw [hv]; rfl, ?_, ?_, z0, z1, c2 m d hd 1 _ rfl, c2 m d hd 2 _ rfl⟩
  · rw [← e1, ← a1]; exact d3
  · rw [← hs, ← e2, ← a2]; exact d4
theorem writeH_no {o m v : Int} (h : slotO H o m = none) : writeH H o m v = H := by
  unfold writeH
  cases obI H o with
  | none => rfl
  | some i =>
    simp only
    cases H.obs[i]? with
    | none => rfl
    | some ob => simp only; rw [h]
set_option maxRecDepth 100000 in
set_option maxHeartbeats 4000000 in
theorem written_A (h : TwoE w0 w X hb H S vo vt ts) (hO : Ord H S ts n) (hn : n ≤ 1000000) (o : OpL) (hk : soO S o.o = none) (ho : o.wf) (hw : ∀ W, Below w0.heap.size w0 W → o.w.ok wC 1 W) :
    Calls Tryz.prog 42 #[.pointer (some ⟨hb, 0, none⟩), stV vo vt, o.val] w fun e w' => e = .returned (.tuple #[stV vo vt, .bool true]) ∧ TwoK w0 w w' X hb (writeH H o.o o.n o.fst) (writeG S o.o o.n o.fst) vo vt ts := by
  obtain ⟨kd, oo, op, kk, ⟨va, se, fl⟩, on, ⟨wa, wc, wl⟩⟩ := o
  have HO : Hid (Ord H S ts n) := hO
  have eF : OpL.fst ⟨kd, oo, op, kk, ⟨va, se, fl⟩, on, ⟨wa, wc, wl⟩⟩ = (wl[0]?).getD undW := rfl
  rw [eF]
  simp only at hk ⊢
  have kf := fun W (q : Below w0.heap.size w0 W) => first_any W ⟨wa, wc, wl⟩ (hw W q)
  generalize (wl[0]?).getD undW = fv at *
  have hat : atI S oo = -1 := by
    unfold atI
    cases hq : obS S oo with
    | none => rfl
    | some i => obtain ⟨x, hi, _⟩ := obS_at hq ho.o0 ho.o1; rw [soO_of hq hi] at hk; cases hk
  have hsl : slotO H oo on = none := by
    rcases hO.rel.slot oo on with ⟨a, _⟩ | ⟨p, x, _, b, _⟩
    · exact a
    · rw [hk] at b; cases b
  have eG : writeG S oo on fv = S := by unfold writeG; rw [hk]
  rw [eG, writeH_no hsl]
  have ka := fun H1 W (h : TwoE w0 W (Xb w X) hb H1 S vo vt ts) => rat_e h oo ho.o0 ho.o1
  have kp := fun W (h : TwoE w0 W (Xb w X) hb H S vo vt ts) => write_e h oo ho.o0 ho.o1 on fv
  rw [hat] at ka
  rw [hsl] at kp
  rw [writeH_no hsl] at kp
  simp only [Option.isSome_none] at kp
  obtain ⟨oa, ol, oc⟩ := vo
  obtain ⟨ta, tl, tc⟩ := vt
  have hst : On w0 w (((w.alloc (.cells #[.slice oa ol oc, .slice ta tl tc] 28)).alloc (.cells #[.int .i64 kd, .int .u64 oo, .int .u64 op, .string kk, .int .u64 va, .int .u64 se, .int .i64 fl, .int .i64 on, .slice wa wl.length wc] 38)).alloc (.cells #[.slice none 0 0, .slice none 0 0] 28)) X hb H S ⟨oa, ol, oc⟩ ⟨ta, tl, tc⟩ ts ⟨oa, ol, oc⟩ ⟨ta, tl, tc⟩ #[.int .i64 kd, .int .u64 oo, .int .u64 op, .string kk, .int .u64 va, .int .u64 se, .int .i64 fl, .int .i64 on, .slice wa wl.length wc] .nil .nil := On.start h _
  obtain ⟨wb, hwb⟩ : ∃ wb, wb = (((w.alloc (.cells #[.slice oa ol oc, .slice ta tl tc] 28)).alloc (.cells #[.int .i64 kd, .int .u64 oo, .int .u64 op, .string kk, .int .u64 va, .int .u64 se, .int .i64 fl, .int .i64 on, .slice wa wl.length wc] 38)).alloc (.cells #[.slice none 0 0, .slice none 0 0] 28)) := ⟨_, rfl⟩
  rw [← hwb] at hst
  have HS := (show Hid _ from hst)
  have ka := ka H wb hst.two
  have ce0 : wb.cell? ⟨w.heap.size, 0, none⟩ = some (.slice oa ol oc) := hst.s.ce.1
  have ce1 : wb.cell? ⟨w.heap.size, 1, none⟩ = some (.slice ta tl tc) := hst.s.ce.2
  have cf0 := hst.s.fz.1
  have cf1 := hst.s.fz.2
  have cr0 : wb.cell? ⟨w.heap.size + 1 + 1, 0, none⟩ = some (.slice none 0 0) := hst.r.ce.1
  have cr1 : wb.cell? ⟨w.heap.size + 1 + 1, 1, none⟩ = some (.slice none 0 0) := hst.r.ce.2
  have cg0 := hst.r.fz.1
  have cg1 := hst.r.fz.2
  have q1 := hst.oc 1 rfl
  have q7 := hst.oc 7 rfl
  have q8 := hst.oc 8 rfl
  have HC : Hid (∀ W H1 S1 vR tR, On w0 w W X hb H1 S1 ⟨oa, ol, oc⟩ ⟨ta, tl, tc⟩ ts ⟨oa, ol, oc⟩ ⟨ta, tl, tc⟩ #[.int .i64 kd, .int .u64 oo, .int .u64 op, .string kk, .int .u64 va, .int .u64 se, .int .i64 fl, .int .i64 on, .slice wa wl.length wc] vR tR → (W.cell? ⟨w.heap.size + 1, 1, none⟩ = some (.int .u64 oo) ∧ W.cell? ⟨w.heap.size + 1, 7, none⟩ = some (.int .i64 on) ∧ W.cell? ⟨w.heap.size + 1, 8, none⟩ = some (.slice wa wl.length wc))) := fun W H1 S1 vR tR q => ⟨q.oc 1 rfl, q.oc 7 rfl, q.oc 8 rfl⟩
  unfold Sli.val at kf
  simp only at kf
  unfold stV OpL.val OpL.cells Sli.val
  unfold stV at ka
  simp only at kp ka ⊢
  rw [show (SV.mk oa ol oc).val = .slice oa ol oc from rfl, show (SV.mk ta tl tc).val = .slice ta tl tc from rfl] at ka ⊢
  clear h hO hst ho hw hk hat hsl eG eF
  go_enter Tryz.func42, Tryz.ntmps42
  go_upto_region 1 with fail
  rw [← hwb]
  clear hwb
  go_wp2_with fail
  refine ka.mono ?_
  rintro e w1 ⟨rfl, hk1⟩
  have h1 := HS.out.call hk1
  have h1d := h1.same ((Below.refl _ _).drew)
  have HSD := (show Hid _ from h1d)
  have kp := kp w1.drew h1d.two
  have kf1 := kf w1.drew h1d.two.bel
  clear ka ce0 ce1 cf0 cf1 cr0 cr1 cg0 cg1 q1 q7 q8
  have ce0 : w1.cell? ⟨w.heap.size, 0, none⟩ = some (.slice oa ol oc) := h1.s.ce.1
  have ce1 : w1.cell? ⟨w.heap.size, 1, none⟩ = some (.slice ta tl tc) := h1.s.ce.2
  have cf0 := h1.s.fz.1
  have cf1 := h1.s.fz.2
  have cr0 : w1.cell? ⟨w.heap.size + 1 + 1, 0, none⟩ = some (.slice none 0 0) := h1.r.ce.1
  have cr1 : w1.cell? ⟨w.heap.size + 1 + 1, 1, none⟩ = some (.slice none 0 0) := h1.r.ce.2
  have cg0 := h1.r.fz.1
  have cg1 := h1.r.fz.2
  have q1 := h1.oc 1 rfl
  have q7 := h1.oc 7 rfl
  have q8 := h1.oc 8 rfl
  clear HS hk1 h1 h1d
  go_upto_region 2 with fail
  go_region_held_law (fun W => W.cell? ⟨w.heap.size + 1, 1, none⟩ = some (.int .u64 oo) ∧ W.cell? ⟨w.heap.size + 1, 7, none⟩ = some (.int .i64 on) ∧ W.cell? ⟨w.heap.size + 1, 8, none⟩ = some (.slice wa wl.length wc))
    (first | exact HC.out _ _ _ _ _ HSD.out | exact HC.out _ _ _ _ _ (HSD.out.call HK2.out))
    (first
      | (go_at_call 32
         refine kf1.mono ?_
         rintro e wp ⟨rfl, rfl⟩)
      | (go_at_call 82
         refine kp.mono ?_
         rintro e w2 ⟨rfl, hk2⟩
         have HK2 := (show Hid _ from hk2)
         clear hk2))
  all_goals
    have h2 := HSD.out.call HK2.out
    have HS2 := (show Hid _ from h2)
    clear kp kf1 ce0 ce1 cf0 cf1 cr0 cr1 cg0 cg1 q1 q7 q8
    have ce0 : w2.cell? ⟨w.heap.size, 0, none⟩ = some (.slice oa ol oc) := h2.s.ce.1
    have ce1 : w2.cell? ⟨w.heap.size, 1, none⟩ = some (.slice ta tl tc) := h2.s.ce.2
    have cf0 := h2.s.fz.1
    have cf1 := h2.s.fz.2
    have cr0 : w2.cell? ⟨w.heap.size + 1 + 1, 0, none⟩ = some (.slice none 0 0) := h2.r.ce.1
    have cr1 : w2.cell? ⟨w.heap.size + 1 + 1, 1, none⟩ = some (.slice none 0 0) := h2.r.ce.2
    have cg0 := h2.r.fz.1
    have cg1 := h2.r.fz.2
    have q1 := h2.oc 1 rfl
    have q7 := h2.oc 7 rfl
    have q8 := h2.oc 8 rfl
    have HQ := (show Hid _ from fun nq => h2.same (Go.below_drewN (Below.refl _ _) nq))
    clear HK2 h2 HSD HS2
    go_upto_region 3 with fail
    go_quiet (fail)
    have h3 := HQ.out nq
    clear ce0 ce1 cf0 cf1 cr0 cr1 cg0 cg1 q1 q7 q8
    have ce0 : (w2.drewN nq).cell? ⟨w.heap.size, 0, none⟩ = some (.slice oa ol oc) := h3.s.ce.1
    have ce1 : (w2.drewN nq).cell? ⟨w.heap.size, 1, none⟩ = some (.slice ta tl tc) := h3.s.ce.2
    have cf0 := h3.s.fz.1
    have cf1 := h3.s.fz.2
    have cr0 : (w2.drewN nq).cell? ⟨w.heap.size + 1 + 1, 0, none⟩ = some (.slice none 0 0) := h3.r.ce.1
    have cr1 : (w2.drewN nq).cell? ⟨w.heap.size + 1 + 1, 1, none⟩ = some (.slice none 0 0) := h3.r.ce.2
    have cg0 := h3.r.fz.1
    have cg1 := h3.r.fz.2
    have q1 := h3.oc 1 rfl
    have q7 := h3.oc 7 rfl
    have q8 := h3.oc 8 rfl
    have h5 := h3.set2 ⟨oa, ol, oc⟩ ⟨ta, tl, tc⟩
    have HF := (show Hid _ from And.intro h5.r h5.fin)
    clear HQ h3 h5
    rw [show (SV.mk oa ol oc).val = .slice oa ol oc from rfl, show (SV.mk ta tl tc).val = .slice ta tl tc from rfl] at HF
    generalize w2.drewN nq = w3 at *
    go_wp2_with fail
    refine bodyPost_ret (res2 rfl _ _ (w.heap.size + 1 + 1) 28 _ (0, 0) _ rfl HF.out.1 Tryz.underlying28 rfl (by kernel_rfl)) rfl ?_
    exact ⟨rfl, HF.out.2⟩
set_option maxRecDepth 100000 in
set_option maxHeartbeats 4000000 in
theorem written_B (h : TwoE w0 w X hb H S vo vt ts) (hO : Ord H S ts n) (hn : n ≤ 1000000) (o : OpL) (hk : (∃ x, soO S o.o = some x) ∧ o.n < 0) (ho : o.wf) (hw : ∀ W, Below w0.heap.size w0 W → o.w.ok wC 1 W) :
    Calls Tryz.prog 42 #[.pointer (some ⟨hb, 0, none⟩), stV vo vt, o.val] w fun e w' => e = .returned (.tuple #[stV vo vt, .bool true]) ∧ TwoK w0 w w' X hb (writeH H o.o o.n o.fst) (writeG S o.o o.n o.fst) vo vt ts := by
  obtain ⟨kd, oo, op, kk, ⟨va, se, fl⟩, on, ⟨wa, wc, wl⟩⟩ := o
  have HO : Hid (Ord H S ts n) := hO
  have eF : OpL.fst ⟨kd, oo, op, kk, ⟨va, se, fl⟩, on, ⟨wa, wc, wl⟩⟩ = (wl[0]?).getD undW := rfl
  rw [eF]
  simp only at hk ⊢
  have kf := fun W (q : Below w0.heap.size w0 W) => first_any W ⟨wa, wc, wl⟩ (hw W q)
  generalize (wl[0]?).getD undW = fv at *
  obtain ⟨⟨x, hx⟩, hN⟩ := hk
  obtain ⟨i, hqi⟩ : ∃ i, obS S oo = some i := by
    cases hq : obS S oo with
    | none => unfold soO at hx; rw [hq] at hx; cases hx
    | some i => exact ⟨i, rfl⟩
  have hi : S[i]? = some x := by unfold soO at hx; rw [hqi] at hx; exact hx
  have hil := (List.getElem?_eq_some_iff.1 hi).1
  have hat : atI S oo = (i : Int) := by unfold atI; rw [hqi]
  have hi0 : decide ((i : Int) < 0) = false := decide_eq_false (by omega)
  have hin : (i : Int) < (S.length : Int) := by omega
  have hNd : decide (on < 0) = true := decide_eq_true hN
  have hsl : slotO H oo on = none := by
    rcases hO.rel.slot oo on with ⟨a, _⟩ | ⟨p, x, _, _, b, _⟩
    · exact a
    · exact absurd hN b
  have eG : writeG S oo on fv = S := by unfold writeG; rw [hx]; simp only; rw [if_pos hN]
  rw [eG, writeH_no hsl]
  have ka := fun H1 W (h : TwoE w0 W (Xb w X) hb H1 S vo vt ts) => rat_e h oo ho.o0 ho.o1
  have kp := fun W (h : TwoE w0 W (Xb w X) hb H S vo vt ts) => write_e h oo ho.o0 ho.o1 on fv
  rw [hat] at ka
  rw [hsl] at kp
  rw [writeH_no hsl] at kp
  simp only [Option.isSome_none] at kp
  obtain ⟨oa, ol, oc⟩ := vo
  obtain ⟨ta, tl, tc⟩ := vt
  have hst : On w0 w (((w.alloc (.cells #[.slice oa ol oc, .slice ta tl tc] 28)).alloc (.cells #[.int .i64 kd, .int .u64 oo, .int .u64 op, .string kk, .int .u64 va, .int .u64 se, .int .i64 fl, .int .i64 on, .slice wa wl.length wc] 38)).alloc (.cells #[.slice none 0 0, .slice none 0 0] 28)) X hb H S ⟨oa, ol, oc⟩ ⟨ta, tl, tc⟩ ts ⟨oa, ol, oc⟩ ⟨ta, tl, tc⟩ #[.int .i64 kd, .int .u64 oo, .int .u64 op, .string kk, .int .u64 va, .int .u64 se, .int .i64 fl, .int .i64 on, .slice wa wl.length wc] .nil .nil := On.start h _
  obtain ⟨wb, hwb⟩ : ∃ wb, wb = (((w.alloc (.cells #[.slice oa ol oc, .slice ta tl tc] 28)).alloc (.cells #[.int .i64 kd, .int .u64 oo, .int .u64 op, .string kk, .int .u64 va, .int .u64 se, .int .i64 fl, .int .i64 on, .slice wa wl.length wc] 38)).alloc (.cells #[.slice none 0 0, .slice none 0 0] 28)) := ⟨_, rfl⟩
  rw [← hwb] at hst
  have HS := (show Hid _ from hst)
  have ka := ka H wb hst.two
  have ce0 : wb.cell? ⟨w.heap.size, 0, none⟩ = some (.slice oa ol oc) := hst.s.ce.1
  have ce1 : wb.cell? ⟨w.heap.size, 1, none⟩ = some (.slice ta tl tc) := hst.s.ce.2
  have cf0 := hst.s.fz.1
  have cf1 := hst.s.fz.2
  have cr0 : wb.cell? ⟨w.heap.size + 1 + 1, 0, none⟩ = some (.slice none 0 0) := hst.r.ce.1
  have cr1 : wb.cell? ⟨w.heap.size + 1 + 1, 1, none⟩ = some (.slice none 0 0) := hst.r.ce.2
  have cg0 := hst.r.fz.1
  have cg1 := hst.r.fz.2
  have q1 := hst.oc 1 rfl
  have q7 := hst.oc 7 rfl
  have q8 := hst.oc 8 rfl
  have HC : Hid (∀ W H1 S1 vR tR, On w0 w W X hb H1 S1 ⟨oa, ol, oc⟩ ⟨ta, tl, tc⟩ ts ⟨oa, ol, oc⟩ ⟨ta, tl, tc⟩ #[.int .i64 kd, .int .u64 oo, .int .u64 op, .string kk, .int .u64 va, .int .u64 se, .int .i64 fl, .int .i64 on, .slice wa wl.length wc] vR tR → (W.cell? ⟨w.heap.size + 1, 1, none⟩ = some (.int .u64 oo) ∧ W.cell? ⟨w.heap.size + 1, 7, none⟩ = some (.int .i64 on) ∧ W.cell? ⟨w.heap.size + 1, 8, none⟩ = some (.slice wa wl.length wc))) := fun W H1 S1 vR tR q => ⟨q.oc 1 rfl, q.oc 7 rfl, q.oc 8 rfl⟩
  unfold Sli.val at kf
  simp only at kf
  unfold stV OpL.val OpL.cells Sli.val
  unfold stV at ka
  simp only at kp ka ⊢
  rw [show (SV.mk oa ol oc).val = .slice oa ol oc from rfl, show (SV.mk ta tl tc).val = .slice ta tl tc from rfl] at ka ⊢
  clear h hO hst ho hw hx hat hsl eG eF hqi hi hil hN hin
  go_enter Tryz.func42, Tryz.ntmps42
  go_upto_region 1 with fail
  rw [← hwb]
  clear hwb
  go_wp2_with fail
  refine ka.mono ?_
  rintro e w1 ⟨rfl, hk1⟩
  have h1 := HS.out.call hk1
  have h1d := h1.same ((Below.refl _ _).drew)
  have HSD := (show Hid _ from h1d)
  have kp := kp w1.drew h1d.two
  have kf1 := kf w1.drew h1d.two.bel
  clear ka ce0 ce1 cf0 cf1 cr0 cr1 cg0 cg1 q1 q7 q8
  have ce0 : w1.cell? ⟨w.heap.size, 0, none⟩ = some (.slice oa ol oc) := h1.s.ce.1
  have ce1 : w1.cell? ⟨w.heap.size, 1, none⟩ = some (.slice ta tl tc) := h1.s.ce.2
  have cf0 := h1.s.fz.1
  have cf1 := h1.s.fz.2
  have cr0 : w1.cell? ⟨w.heap.size + 1 + 1, 0, none⟩ = some (.slice none 0 0) := h1.r.ce.1
  have cr1 : w1.cell? ⟨w.heap.size + 1 + 1, 1, none⟩ = some (.slice none 0 0) := h1.r.ce.2
  have cg0 := h1.r.fz.1
  have cg1 := h1.r.fz.2
  have q1 := h1.oc 1 rfl
  have q7 := h1.oc 7 rfl
  have q8 := h1.oc 8 rfl
  clear HS hk1 h1 h1d
  go_upto_region 2 with fail
  go_region_held_law (fun W => W.cell? ⟨w.heap.size + 1, 1, none⟩ = some (.int .u64 oo) ∧ W.cell? ⟨w.heap.size + 1, 7, none⟩ = some (.int .i64 on) ∧ W.cell? ⟨w.heap.size + 1, 8, none⟩ = some (.slice wa wl.length wc))
    (first | exact HC.out _ _ _ _ _ HSD.out | exact HC.out _ _ _ _ _ (HSD.out.call HK2.out))
    (first
      | (go_at_call 32
         refine kf1.mono ?_
         rintro e wp ⟨rfl, rfl⟩)
      | (go_at_call 82
         refine kp.mono ?_
         rintro e w2 ⟨rfl, hk2⟩
         have HK2 := (show Hid _ from hk2)
         clear hk2))
  all_goals
    have h2 := HSD.out.call HK2.out
    have HS2 := (show Hid _ from h2)
    clear kp kf1 ce0 ce1 cf0 cf1 cr0 cr1 cg0 cg1 q1 q7 q8
    have ce0 : w2.cell? ⟨w.heap.size, 0, none⟩ = some (.slice oa ol oc) := h2.s.ce.1
    have ce1 : w2.cell? ⟨w.heap.size, 1, none⟩ = some (.slice ta tl tc) := h2.s.ce.2
    have cf0 := h2.s.fz.1
    have cf1 := h2.s.fz.2
    have cr0 : w2.cell? ⟨w.heap.size + 1 + 1, 0, none⟩ = some (.slice none 0 0) := h2.r.ce.1
    have cr1 : w2.cell? ⟨w.heap.size + 1 + 1, 1, none⟩ = some (.slice none 0 0) := h2.r.ce.2
    have cg0 := h2.r.fz.1
    have cg1 := h2.r.fz.2
    have q1 := h2.oc 1 rfl
    have q7 := h2.oc 7 rfl
    have q8 := h2.oc 8 rfl
    have HQ := (show Hid _ from fun nq => h2.same (Go.below_drewN (Below.refl _ _) nq))
    clear HK2 h2 HSD HS2
    go_upto_region 3 with fail
    go_quiet (fail)
    have h3 := HQ.out nq
    clear ce0 ce1 cf0 cf1 cr0 cr1 cg0 cg1 q1 q7 q8
    have ce0 : (w2.drewN nq).cell? ⟨w.heap.size, 0, none⟩ = some (.slice oa ol oc) := h3.s.ce.1
    have ce1 : (w2.drewN nq).cell? ⟨w.heap.size, 1, none⟩ = some (.slice ta tl tc) := h3.s.ce.2
    have cf0 := h3.s.fz.1
    have cf1 := h3.s.fz.2
    have cr0 : (w2.drewN nq).cell? ⟨w.heap.size + 1 + 1, 0, none⟩ = some (.slice none 0 0) := h3.r.ce.1
    have cr1 : (w2.drewN nq).cell? ⟨w.heap.size + 1 + 1, 1, none⟩ = some (.slice none 0 0) := h3.r.ce.2
    have cg0 := h3.r.fz.1
    have cg1 := h3.r.fz.2
    have q1 := h3.oc 1 rfl
    have q7 := h3.oc 7 rfl
    have q8 := h3.oc 8 rfl
    have h5 := h3.set2 ⟨oa, ol, oc⟩ ⟨ta, tl, tc⟩
    have HF := (show Hid _ from And.intro h5.r h5.fin)
    clear HQ h3 h5
    rw [show (SV.mk oa ol oc).val = .slice oa ol oc from rfl, show (SV.mk ta tl tc).val = .slice ta tl tc from rfl] at HF
    generalize w2.drewN nq = w3 at *
    go_wp2_with fail
    refine bodyPost_ret (res2 rfl _ _ (w.heap.size + 1 + 1) 28 _ (0, 0) _ rfl HF.out.1 Tryz.underlying28 rfl (by kernel_rfl)) rfl ?_
    exact ⟨rfl, HF.out.2⟩
set_option maxRecDepth 100000 in
set_option maxHeartbeats 4000000 in
theorem written_C (h : TwoE w0 w X hb H S vo vt ts) (hO : Ord H S ts n) (hn : n ≤ 1000000) (o : OpL) (hk : ∃ x, soO S o.o = some x ∧ 0 ≤ o.n ∧ (x.nm.length : Int) ≤ o.n) (ho : o.wf) (hw : ∀ W, Below w0.heap.size w0 W → o.w.ok wC 1 W) :
    Calls Tryz.prog 42 #[.pointer (some ⟨hb, 0, none⟩), stV vo vt, o.val] w fun e w' => e = .returned (.tuple #[stV vo vt, .bool true]) ∧ TwoK w0 w w' X hb (writeH H o.o o.n o.fst) (writeG S o.o o.n o.fst) vo vt ts := by
  obtain ⟨kd, oo, op, kk, ⟨va, se, fl⟩, on, ⟨wa, wc, wl⟩⟩ := o
  have HO : Hid (Ord H S ts n) := hO
  have eF : OpL.fst ⟨kd, oo, op, kk, ⟨va, se, fl⟩, on, ⟨wa, wc, wl⟩⟩ = (wl[0]?).getD undW := rfl
  rw [eF]
  simp only at hk ⊢
  have kf := fun W (q : Below w0.heap.size w0 W) => first_any W ⟨wa, wc, wl⟩ (hw W q)
  generalize (wl[0]?).getD undW = fv at *
  obtain ⟨x, hx, hN, hL⟩ := hk
  obtain ⟨i, hqi⟩ : ∃ i, obS S oo = some i := by
    cases hq : obS S oo with
    | none => unfold soO at hx; rw [hq] at hx; cases hx
    | some i => exact ⟨i, rfl⟩
  have hi : S[i]? = some x := by unfold soO at hx; rw [hqi] at hx; exact hx
  have hil := (List.getElem?_eq_some_iff.1 hi).1
  have hat : atI S oo = (i : Int) := by unfold atI; rw [hqi]
  have hi0 : decide ((i : Int) < 0) = false := decide_eq_false (by omega)
  have hin : (i : Int) < (S.length : Int) := by omega
  have hno : x.nm[on.toNat]? = none := List.getElem?_eq_none (by omega)
  have hN0 : ¬ on < 0 := by omega
  have hNd : decide (on < 0) = false := decide_eq_false hN0
  have hge : decide ((x.nm.length : Int) ≤ on) = true := decide_eq_true hL
  have hsl : slotO H oo on = none := by
    rcases hO.rel.slot oo on with ⟨a, _⟩ | ⟨p, y, _, b, _, d, _⟩
    · exact a
    · rw [hx] at b
      obtain rfl := Option.some.inj b
      rw [hno] at d
      cases d
  have eG : writeG S oo on fv = S := by unfold writeG; rw [hx]; simp only; rw [if_neg hN0, hno]
  rw [eG, writeH_no hsl]
  have ka := fun H1 W (h : TwoE w0 W (Xb w X) hb H1 S vo vt ts) => rat_e h oo ho.o0 ho.o1
  have kp := fun W (h : TwoE w0 W (Xb w X) hb H S vo vt ts) => write_e h oo ho.o0 ho.o1 on fv
  rw [hat] at ka
  rw [hsl] at kp
  rw [writeH_no hsl] at kp
  simp only [Option.isSome_none] at kp
  obtain ⟨oa, ol, oc⟩ := vo
  obtain ⟨ta, tl, tc⟩ := vt
  have hst : On w0 w (((w.alloc (.cells #[.slice oa ol oc, .slice ta tl tc] 28)).alloc (.cells #[.int .i64 kd, .int .u64 oo, .int .u64 op, .string kk, .int .u64 va, .int .u64 se, .int .i64 fl, .int .i64 on, .slice wa wl.length wc] 38)).alloc (.cells #[.slice none 0 0, .slice none 0 0] 28)) X hb H S ⟨oa, ol, oc⟩ ⟨ta, tl, tc⟩ ts ⟨oa, ol, oc⟩ ⟨ta, tl, tc⟩ #[.int .i64 kd, .int .u64 oo, .int .u64 op, .string kk, .int .u64 va, .int .u64 se, .int .i64 fl, .int .i64 on, .slice wa wl.length wc] .nil .nil := On.start h _
  obtain ⟨wb, hwb⟩ : ∃ wb, wb = (((w.alloc (.cells #[.slice oa ol oc, .slice ta tl tc] 28)).alloc (.cells #[.int .i64 kd, .int .u64 oo, .int .u64 op, .string kk, .int .u64 va, .int .u64 se, .int .i64 fl, .int .i64 on, .slice wa wl.length wc] 38)).alloc (.cells #[.slice none 0 0, .slice none 0 0] 28)) := ⟨_, rfl⟩
  rw [← hwb] at hst
  have HS := (show Hid _ from hst)
  have ka := ka H wb hst.two
  have ce0 : wb.cell? ⟨w.heap.size, 0, none⟩ = some (.slice oa ol oc) := hst.s.ce.1
  have ce1 : wb.cell? ⟨w.heap.size, 1, none⟩ = some (.slice ta tl tc) := hst.s.ce.2
  have cf0 := hst.s.fz.1
  have cf1 := hst.s.fz.2
  have cr0 : wb.cell? ⟨w.heap.size + 1 + 1, 0, none⟩ = some (.slice none 0 0) := hst.r.ce.1
  have cr1 : wb.cell? ⟨w.heap.size + 1 + 1, 1, none⟩ = some (.slice none 0 0) := hst.r.ce.2
  have cg0 := hst.r.fz.1
  have cg1 := hst.r.fz.2
  have q1 := hst.oc 1 rfl
  have q7 := hst.oc 7 rfl
  have q8 := hst.oc 8 rfl
  have HC : Hid (∀ W H1 S1 vR tR, On w0 w W X hb H1 S1 ⟨oa, ol, oc⟩ ⟨ta, tl, tc⟩ ts ⟨oa, ol, oc⟩ ⟨ta, tl, tc⟩ #[.int .i64 kd, .int .u64 oo, .int .u64 op, .string kk, .int .u64 va, .int .u64 se, .int .i64 fl, .int .i64 on, .slice wa wl.length wc] vR tR → (W.cell? ⟨w.heap.size + 1, 1, none⟩ = some (.int .u64 oo) ∧ W.cell? ⟨w.heap.size + 1, 7, none⟩ = some (.int .i64 on) ∧ W.cell? ⟨w.heap.size + 1, 8, none⟩ = some (.slice wa wl.length wc))) := fun W H1 S1 vR tR q => ⟨q.oc 1 rfl, q.oc 7 rfl, q.oc 8 rfl⟩
  have HNM := (show Hid _ from fun W (q : TwoE w0 W (Xb w X) hb H S ⟨oa, ol, oc⟩ ⟨ta, tl, tc⟩ ts) => q.nms hi)
  unfold Sli.val at kf
  simp only at kf
  unfold stV OpL.val OpL.cells Sli.val
  unfold stV at ka
  simp only at kp ka ⊢
  rw [show (SV.mk oa ol oc).val = .slice oa ol oc from rfl, show (SV.mk ta tl tc).val = .slice ta tl tc from rfl] at ka ⊢
  generalize x.nm.length = nl at *
  generalize S.length = sl at *
  clear h hO hst ho hw hx hat hsl eG eF hqi hi hil hno hN hL hN0
  go_enter Tryz.func42, Tryz.ntmps42
  go_upto_region 1 with fail
  rw [← hwb]
  clear hwb
  go_wp2_with fail
  refine ka.mono ?_
  rintro e w1 ⟨rfl, hk1⟩
  have h1 := HS.out.call hk1
  have h1d := h1.same ((Below.refl _ _).drew)
  have HSD := (show Hid _ from h1d)
  have kp := kp w1.drew h1d.two
  have kf1 := kf w1.drew h1d.two.bel
  clear ka ce0 ce1 cf0 cf1 cr0 cr1 cg0 cg1 q1 q7 q8
  have ce0 : w1.cell? ⟨w.heap.size, 0, none⟩ = some (.slice oa ol oc) := h1.s.ce.1
  have ce1 : w1.cell? ⟨w.heap.size, 1, none⟩ = some (.slice ta tl tc) := h1.s.ce.2
  have cf0 := h1.s.fz.1
  have cf1 := h1.s.fz.2
  have cr0 : w1.cell? ⟨w.heap.size + 1 + 1, 0, none⟩ = some (.slice none 0 0) := h1.r.ce.1
  have cr1 : w1.cell? ⟨w.heap.size + 1 + 1, 1, none⟩ = some (.slice none 0 0) := h1.r.ce.2
  have cg0 := h1.r.fz.1
  have cg1 := h1.r.fz.2
  have q1 := h1.oc 1 rfl
  have q7 := h1.oc 7 rfl
  have q8 := h1.oc 8 rfl
  clear HS hk1 h1 h1d
  go_upto_region 2 with fail
  go_region_held_law (fun W => W.cell? ⟨w.heap.size + 1, 1, none⟩ = some (.int .u64 oo) ∧ W.cell? ⟨w.heap.size + 1, 7, none⟩ = some (.int .i64 on) ∧ W.cell? ⟨w.heap.size + 1, 8, none⟩ = some (.slice wa wl.length wc))
    (first | exact HC.out _ _ _ _ _ HSD.out | exact HC.out _ _ _ _ _ (HSD.out.call HK2.out))
    (first
      | (go_at_call 32
         refine kf1.mono ?_
         rintro e wp ⟨rfl, rfl⟩)
      | (go_at_call 82
         refine kp.mono ?_
         rintro e w2 ⟨rfl, hk2⟩
         have HK2 := (show Hid _ from hk2)
         clear hk2))
  all_goals
    have h2 := HSD.out.call HK2.out
    have HS2 := (show Hid _ from h2)
    clear kp kf1 ce0 ce1 cf0 cf1 cr0 cr1 cg0 cg1 q1 q7 q8
    have ce0 : w2.cell? ⟨w.heap.size, 0, none⟩ = some (.slice oa ol oc) := h2.s.ce.1
    have ce1 : w2.cell? ⟨w.heap.size, 1, none⟩ = some (.slice ta tl tc) := h2.s.ce.2
    have cf0 := h2.s.fz.1
    have cf1 := h2.s.fz.2
    have cr0 : w2.cell? ⟨w.heap.size + 1 + 1, 0, none⟩ = some (.slice none 0 0) := h2.r.ce.1
    have cr1 : w2.cell? ⟨w.heap.size + 1 + 1, 1, none⟩ = some (.slice none 0 0) := h2.r.ce.2
    have cg0 := h2.r.fz.1
    have cg1 := h2.r.fz.2
    have q1 := h2.oc 1 rfl
    have q7 := h2.oc 7 rfl
    have q8 := h2.oc 8 rfl
    obtain ⟨g, cap, la, lc, hv, hc3⟩ := HNM.out w2 h2.two
    have hv : Value.slice oa ol oc = .slice (some ⟨g, 0, none⟩) sl cap := hv
    rw [hv] at ce0
    clear hv
    have HQ := (show Hid _ from fun nq => h2.same (Go.below_drewN (Below.refl _ _) nq))
    clear HK2 h2 HSD HS2
    go_upto_region 3 with fail
    go_quiet (fail)
    have h3 := HQ.out nq
    clear ce0 ce1 cf0 cf1 cr0 cr1 cg0 cg1 q1 q7 q8 hc3
    have ce0 : (w2.drewN nq).cell? ⟨w.heap.size, 0, none⟩ = some (.slice oa ol oc) := h3.s.ce.1
    have ce1 : (w2.drewN nq).cell? ⟨w.heap.size, 1, none⟩ = some (.slice ta tl tc) := h3.s.ce.2
    have cf0 := h3.s.fz.1
    have cf1 := h3.s.fz.2
    have cr0 : (w2.drewN nq).cell? ⟨w.heap.size + 1 + 1, 0, none⟩ = some (.slice none 0 0) := h3.r.ce.1
    have cr1 : (w2.drewN nq).cell? ⟨w.heap.size + 1 + 1, 1, none⟩ = some (.slice none 0 0) := h3.r.ce.2
    have cg0 := h3.r.fz.1
    have cg1 := h3.r.fz.2
    have q1 := h3.oc 1 rfl
    have q7 := h3.oc 7 rfl
    have q8 := h3.oc 8 rfl
    have h5 := h3.set2 ⟨oa, ol, oc⟩ ⟨ta, tl, tc⟩
    have HF := (show Hid _ from And.intro h5.r h5.fin)
    clear HQ h3 h5
    rw [show (SV.mk oa ol oc).val = .slice oa ol oc from rfl, show (SV.mk ta tl tc).val = .slice ta tl tc from rfl] at HF
    generalize w2.drewN nq = w3 at *
    go_wp2_with fail
    refine bodyPost_ret (res2 rfl _ _ (w.heap.size + 1 + 1) 28 _ (0, 0) _ rfl HF.out.1 Tryz.underlying28 rfl (by kernel_rfl)) rfl ?_
    exact ⟨rfl, HF.out.2⟩
set_option maxRecDepth 100000 in
set_option maxHeartbeats 4000000 in
theorem written_D (h : TwoE w0 w X hb H S vo vt ts) (hO : Ord H S ts n) (hn : n ≤ 1000000) (o : OpL) (hk : ∃ x p, soO S o.o = some x ∧ 0 ≤ o.n ∧ slotO H o.o o.n = some p ∧ x.nm[o.n.toNat]? = some p.key ∧ x.ds[o.n.toNat]? = some p.de) (ho : o.wf) (hw : ∀ W, Below w0.heap.size w0 W → o.w.ok wC 1 W) :
    Calls Tryz.prog 42 #[.pointer (some ⟨hb, 0, none⟩), stV vo vt, o.val] w fun e w' => e = .returned (.tuple #[stV vo vt, .bool true]) ∧ TwoK w0 w w' X hb (writeH H o.o o.n o.fst) (writeG S o.o o.n o.fst) vo vt ts := by
  obtain ⟨kd, oo, op, kk, ⟨va, se, fl⟩, on, ⟨wa, wc, wl⟩⟩ := o
  have HO : Hid (Ord H S ts n) := hO
  have eF : OpL.fst ⟨kd, oo, op, kk, ⟨va, se, fl⟩, on, ⟨wa, wc, wl⟩⟩ = (wl[0]?).getD undW := rfl
  rw [eF]
  simp only at hk ⊢
  have kf := fun W (q : Below w0.heap.size w0 W) => first_any W ⟨wa, wc, wl⟩ (hw W q)
  generalize (wl[0]?).getD undW = fv at *
  obtain ⟨x, p, hx, hN, hsl, hkey, hde⟩ := hk
  obtain ⟨i, hqi⟩ : ∃ i, obS S oo = some i := by
    cases hq : obS S oo with
    | none => unfold soO at hx; rw [hq] at hx; cases hx
    | some i => exact ⟨i, rfl⟩
  have hi : S[i]? = some x := by unfold soO at hx; rw [hqi] at hx; exact hx
  have hil := (List.getElem?_eq_some_iff.1 hi).1
  have hat : atI S oo = (i : Int) := by unfold atI; rw [hqi]
  have hi0 : decide ((i : Int) < 0) = false := decide_eq_false (by omega)
  have hin : (i : Int) < (S.length : Int) := by omega
  obtain ⟨m, rfl⟩ : ∃ m : Nat, on = (m : Int) := ⟨on.toNat, by omega⟩
  rw [Int.toNat_natCast] at hkey hde
  have hN0 : ¬ (m : Int) < 0 := by omega
  have hNd : decide ((m : Int) < 0) = false := decide_eq_false hN0
  have hml : (m : Int) < (x.nm.length : Int) := by have := (List.getElem?_eq_some_iff.1 hkey).1; omega
  have hge : decide ((x.nm.length : Int) ≤ (m : Int)) = false := decide_eq_false (by omega)
  have eG : writeG S oo (m : Int) fv = putG S oo p.key ⟨fv, p.de.se, p.de.fl⟩ := by unfold writeG; rw [hx]; simp only; rw [if_neg hN0, Int.toNat_natCast, hkey, hde]
  rw [eG]
  have ka := fun H1 W (h : TwoE w0 W (Xb w X) hb H1 S vo vt ts) => rat_e h oo ho.o0 ho.o1
  have kp := fun W (h : TwoE w0 W (Xb w X) hb H S vo vt ts) => write_e h oo ho.o0 ho.o1 (m : Int) fv
  rw [hat] at ka
  rw [hsl] at kp
  simp only [Option.isSome_some] at kp
  have kq := fun H1 W (h : TwoE w0 W (Xb w X) hb H1 S vo vt ts) => rput_e h (HO.out.nm hn) oo ho.o0 ho.o1 p.key ⟨fv, p.de.se, p.de.fl⟩
  generalize writeH H oo (m : Int) fv = H2 at *
  generalize putG S oo p.key ⟨fv, p.de.se, p.de.fl⟩ = S2 at *
  obtain ⟨oa, ol, oc⟩ := vo
  obtain ⟨ta, tl, tc⟩ := vt
  have hst : On w0 w (((w.alloc (.cells #[.slice oa ol oc, .slice ta tl tc] 28)).alloc (.cells #[.int .i64 kd, .int .u64 oo, .int .u64 op, .string kk, .int .u64 va, .int .u64 se, .int .i64 fl, .int .i64 (m : Int), .slice wa wl.length wc] 38)).alloc (.cells #[.slice none 0 0, .slice none 0 0] 28)) X hb H S ⟨oa, ol, oc⟩ ⟨ta, tl, tc⟩ ts ⟨oa, ol, oc⟩ ⟨ta, tl, tc⟩ #[.int .i64 kd, .int .u64 oo, .int .u64 op, .string kk, .int .u64 va, .int .u64 se, .int .i64 fl, .int .i64 (m : Int), .slice wa wl.length wc] .nil .nil := On.start h _
  obtain ⟨wb, hwb⟩ : ∃ wb, wb = (((w.alloc (.cells #[.slice oa ol oc, .slice ta tl tc] 28)).alloc (.cells #[.int .i64 kd, .int .u64 oo, .int .u64 op, .string kk, .int .u64 va, .int .u64 se, .int .i64 fl, .int .i64 (m : Int), .slice wa wl.length wc] 38)).alloc (.cells #[.slice none 0 0, .slice none 0 0] 28)) := ⟨_, rfl⟩
  rw [← hwb] at hst
  have HS := (show Hid _ from hst)
  have ka := ka H wb hst.two
  have ce0 : wb.cell? ⟨w.heap.size, 0, none⟩ = some (.slice oa ol oc) := hst.s.ce.1
  have ce1 : wb.cell? ⟨w.heap.size, 1, none⟩ = some (.slice ta tl tc) := hst.s.ce.2
  have cf0 := hst.s.fz.1
  have cf1 := hst.s.fz.2
  have cr0 : wb.cell? ⟨w.heap.size + 1 + 1, 0, none⟩ = some (.slice none 0 0) := hst.r.ce.1
  have cr1 : wb.cell? ⟨w.heap.size + 1 + 1, 1, none⟩ = some (.slice none 0 0) := hst.r.ce.2
  have cg0 := hst.r.fz.1
  have cg1 := hst.r.fz.2
  have q1 := hst.oc 1 rfl
  have q7 := hst.oc 7 rfl
  have q8 := hst.oc 8 rfl
  have HC : Hid (∀ W H1 S1 vR tR, On w0 w W X hb H1 S1 ⟨oa, ol, oc⟩ ⟨ta, tl, tc⟩ ts ⟨oa, ol, oc⟩ ⟨ta, tl, tc⟩ #[.int .i64 kd, .int .u64 oo, .int .u64 op, .string kk, .int .u64 va, .int .u64 se, .int .i64 fl, .int .i64 (m : Int), .slice wa wl.length wc] vR tR → (W.cell? ⟨w.heap.size + 1, 1, none⟩ = some (.int .u64 oo) ∧ W.cell? ⟨w.heap.size + 1, 7, none⟩ = some (.int .i64 (m : Int)) ∧ W.cell? ⟨w.heap.size + 1, 8, none⟩ = some (.slice wa wl.length wc))) := fun W H1 S1 vR tR q => ⟨q.oc 1 rfl, q.oc 7 rfl, q.oc 8 rfl⟩
  have HNM := (show Hid _ from fun W (q : TwoE w0 W (Xb w X) hb H2 S ⟨oa, ol, oc⟩ ⟨ta, tl, tc⟩ ts) => q.prop hi hkey hde)
  unfold Sli.val at kf
  simp only at kf
  unfold stV OpL.val OpL.cells Sli.val
  unfold stV at ka kq
  simp only at kp ka ⊢
  rw [show (SV.mk oa ol oc).val = .slice oa ol oc from rfl, show (SV.mk ta tl tc).val = .slice ta tl tc from rfl] at ka kq ⊢
  generalize x.nm.length = nl at *
  obtain ⟨pk, pc, ⟨pva, pse, pfl⟩⟩ := p
  simp only at *
  unfold deV at kq
  generalize S.length = sl at *
  clear h hO hst ho hw hx hat hsl hqi hi hil hkey hde hN hN0 eF eG
  go_enter Tryz.func42, Tryz.ntmps42
  go_upto_region 1 with fail
  rw [← hwb]
  clear hwb
  go_wp2_with fail
  refine ka.mono ?_
  rintro e w1 ⟨rfl, hk1⟩
  have h1 := HS.out.call hk1
  have h1d := h1.same ((Below.refl _ _).drew)
  have HSD := (show Hid _ from h1d)
  have kp := kp w1.drew h1d.two
  have kf1 := kf w1.drew h1d.two.bel
  clear ka ce0 ce1 cf0 cf1 cr0 cr1 cg0 cg1 q1 q7 q8
  have ce0 : w1.cell? ⟨w.heap.size, 0, none⟩ = some (.slice oa ol oc) := h1.s.ce.1
  have ce1 : w1.cell? ⟨w.heap.size, 1, none⟩ = some (.slice ta tl tc) := h1.s.ce.2
  have cf0 := h1.s.fz.1
  have cf1 := h1.s.fz.2
  have cr0 : w1.cell? ⟨w.heap.size + 1 + 1, 0, none⟩ = some (.slice none 0 0) := h1.r.ce.1
  have cr1 : w1.cell? ⟨w.heap.size + 1 + 1, 1, none⟩ = some (.slice none 0 0) := h1.r.ce.2
  have cg0 := h1.r.fz.1
  have cg1 := h1.r.fz.2
  have q1 := h1.oc 1 rfl
  have q7 := h1.oc 7 rfl
  have q8 := h1.oc 8 rfl
  clear HS hk1 h1 h1d
  go_upto_region 2 with fail
  go_region_held_law (fun W => W.cell? ⟨w.heap.size + 1, 1, none⟩ = some (.int .u64 oo) ∧ W.cell? ⟨w.heap.size + 1, 7, none⟩ = some (.int .i64 (m : Int)) ∧ W.cell? ⟨w.heap.size + 1, 8, none⟩ = some (.slice wa wl.length wc))
    (first | exact HC.out _ _ _ _ _ HSD.out | exact HC.out _ _ _ _ _ (HSD.out.call HK2.out))
    (first
      | (go_at_call 32
         refine kf1.mono ?_
         rintro e wp ⟨rfl, rfl⟩)
      | (go_at_call 82
         refine kp.mono ?_
         rintro e w2 ⟨rfl, hk2⟩
         have HK2 := (show Hid _ from hk2)
         clear hk2))
  all_goals
    have h2 := HSD.out.call HK2.out
    have HS2 := (show Hid _ from h2)
    clear kp kf1 ce0 ce1 cf0 cf1 cr0 cr1 cg0 cg1 q1 q7 q8
    have ce0 : w2.cell? ⟨w.heap.size, 0, none⟩ = some (.slice oa ol oc) := h2.s.ce.1
    have ce1 : w2.cell? ⟨w.heap.size, 1, none⟩ = some (.slice ta tl tc) := h2.s.ce.2
    have cf0 := h2.s.fz.1
    have cf1 := h2.s.fz.2
    have cr0 : w2.cell? ⟨w.heap.size + 1 + 1, 0, none⟩ = some (.slice none 0 0) := h2.r.ce.1
    have cr1 : w2.cell? ⟨w.heap.size + 1 + 1, 1, none⟩ = some (.slice none 0 0) := h2.r.ce.2
    have cg0 := h2.r.fz.1
    have cg1 := h2.r.fz.2
    have q1 := h2.oc 1 rfl
    have q7 := h2.oc 7 rfl
    have q8 := h2.oc 8 rfl
    obtain ⟨g, cap, ln, cn, ld, cd, hv, hc3, hc4, hm0, hd0, hd1, hd2⟩ := HNM.out w2 h2.two
    have hv : Value.slice oa ol oc = .slice (some ⟨g, 0, none⟩) sl cap := hv
    rw [hv] at ce0
    clear hv
    have HQ := (show Hid _ from fun nq => h2.same (Go.below_drewN (Below.refl _ _) nq))
    clear HK2 h2 HSD HS2
    go_upto_region 3 with fail
    go_quiet (fail)
    have h3 := HQ.out nq
    clear ce0 ce1 cf0 cf1 cr0 cr1 cg0 cg1 q1 q7 q8
    clear HQ hc3 hc4 hm0 hd0 hd1 hd2
    generalize w2.drewN nq = w3 at *
    have ce0 : w3.cell? ⟨w.heap.size, 0, none⟩ = some (.slice oa ol oc) := h3.s.ce.1
    have ce1 : w3.cell? ⟨w.heap.size, 1, none⟩ = some (.slice ta tl tc) := h3.s.ce.2
    have cf0 := h3.s.fz.1
    have cf1 := h3.s.fz.2
    have cr0 : w3.cell? ⟨w.heap.size + 1 + 1, 0, none⟩ = some (.slice none 0 0) := h3.r.ce.1
    have cr1 : w3.cell? ⟨w.heap.size + 1 + 1, 1, none⟩ = some (.slice none 0 0) := h3.r.ce.2
    have cg0 := h3.r.fz.1
    have cg1 := h3.r.fz.2
    have q1 := h3.oc 1 rfl
    have q7 := h3.oc 7 rfl
    have q8 := h3.oc 8 rfl
    obtain ⟨g, cap, ln, cn, ld, cd, hv, hc3, hc4, hm0, hd0, hd1, hd2⟩ := HNM.out w3 h3.two
    have hv : Value.slice oa ol oc = .slice (some ⟨g, 0, none⟩) sl cap := hv
    rw [hv] at ce0
    clear hv
    go_wp2_with fail
    have HQ := (show Hid _ from fun nq => h3.same (Go.below_drewN (Below.refl _ _) nq))
    clear h3
    go_upto_region 5 with fail
    go_quiet (fail)
    have h4 := HQ.out nq
    clear HQ hc3 hc4 hm0 hd0 hd1 hd2 ce0 ce1 cf0 cf1 cr0 cr1 cg0 cg1 q1 q7 q8
    generalize w3.drewN nq = w4 at *
    have ce0 : w4.cell? ⟨w.heap.size, 0, none⟩ = some (.slice oa ol oc) := h4.s.ce.1
    have ce1 : w4.cell? ⟨w.heap.size, 1, none⟩ = some (.slice ta tl tc) := h4.s.ce.2
    have cf0 := h4.s.fz.1
    have cf1 := h4.s.fz.2
    have cr0 : w4.cell? ⟨w.heap.size + 1 + 1, 0, none⟩ = some (.slice none 0 0) := h4.r.ce.1
    have cr1 : w4.cell? ⟨w.heap.size + 1 + 1, 1, none⟩ = some (.slice none 0 0) := h4.r.ce.2
    have cg0 := h4.r.fz.1
    have cg1 := h4.r.fz.2
    have q1 := h4.oc 1 rfl
    have q7 := h4.oc 7 rfl
    have q8 := h4.oc 8 rfl
    obtain ⟨g, cap, ln, cn, ld, cd, hv, hc3, hc4, hm0, hd0, hd1, hd2⟩ := HNM.out w4 h4.two
    have hv : Value.slice oa ol oc = .slice (some ⟨g, 0, none⟩) sl cap := hv
    rw [hv] at ce0
    clear hv
    have h4d := h4.same ((Below.refl _ _).drew)
    have HS4 := (show Hid _ from h4d)
    have HNM4 := (show Hid _ from fun W (q : Below w4.heap.size w4 W) => And.intro (h4.same q) (cells_below q _ _ ce0))
    have e3 := hc3
    have hcd4 : w4.drew.cell? ⟨g, i * 7 + 4, none⟩ = some (.slice (some ⟨ld, 0, none⟩) nl cd) := hc4
    clear h4 h4d hm0 hc3 e3 hcd4
    go_upto_region 6 with fail
    have HB0 : Hid (Below w4.heap.size w4 w4.drew) := (Below.refl _ _).drew
    have HBA : Hid (∀ o : Obj, Below w4.heap.size w4 (w4.drew.alloc o)) := fun o => ((Below.refl _ _).drew).alloc (Nat.le_refl _) _
    have HBS : Hid (∀ (o : Obj) (a b c : Value), Below w4.heap.size w4 ((((w4.drew.alloc o).setCell ⟨w4.heap.size, 0, none⟩ a).setCell ⟨w4.heap.size, 1, none⟩ b).setCell ⟨w4.heap.size, 2, none⟩ c)) := fun o a b c => ((((((Below.refl _ _).drew).alloc (Nat.le_refl _) _).setCell (Nat.le_refl _) _).setCell (Nat.le_refl _) _).setCell (Nat.le_refl _) _)
    have HK : Hid (∀ W, Below w4.heap.size w4 W → W.cell? ⟨w.heap.size, 0, none⟩ = some (.slice (some ⟨g, 0, none⟩) sl cap) ∧ W.cell? ⟨g, i * 7 + 4, none⟩ = some (.slice (some ⟨ld, 0, none⟩) nl cd) ∧ W.cell? ⟨w.heap.size + 1, 7, none⟩ = some (.int .i64 (m : Int)) ∧ W.cell? ⟨ld, m * 3, none⟩ = some (.int .u64 pva) ∧ W.cell? ⟨ld, m * 3 + 1, none⟩ = some (.int .u64 pse) ∧ W.cell? ⟨ld, m * 3 + 2, none⟩ = some (.int .i64 pfl)) := fun W q => ⟨cells_below q _ _ ce0, cells_below q _ _ hc4, cells_below q _ _ q7, cells_below q _ _ hd0, cells_below q _ _ hd1, cells_below q _ _ hd2⟩
    go_region_held_law (fun W => W.cell? ⟨w.heap.size, 0, none⟩ = some (.slice (some ⟨g, 0, none⟩) sl cap) ∧ W.cell? ⟨g, i * 7 + 4, none⟩ = some (.slice (some ⟨ld, 0, none⟩) nl cd) ∧ W.cell? ⟨w.heap.size + 1, 7, none⟩ = some (.int .i64 (m : Int)) ∧ W.cell? ⟨ld, m * 3, none⟩ = some (.int .u64 pva) ∧ W.cell? ⟨ld, m * 3 + 1, none⟩ = some (.int .u64 pse) ∧ W.cell? ⟨ld, m * 3 + 2, none⟩ = some (.int .i64 pfl))
      (first | exact HK.out _ HB0.out | exact HK.out _ (HBA.out _) | exact HK.out _ (HBS.out _ _ _ _))
      (fail)
    obtain ⟨w5, hw5⟩ : ∃ w5, w5 = (w4.alloc (.cells #[.int .u64 pva, .int .u64 pse, .int .i64 pfl] 35)).drew := ⟨_, rfl⟩
    have hb5 : Below w4.heap.size w4 w5 := by rw [hw5]; exact ((Below.refl _ _).alloc (Nat.le_refl _) _).drew
    have bx5 : Bx3 w5 w4.heap.size ⟨pva, pse, pfl⟩ := by rw [hw5]; exact Bx3.box w4 ⟨pva, pse, pfl⟩
    have h5 := (HNM4.out w5 hb5).1
    have h6 := (HNM4.out (w5.setCell ⟨w4.heap.size, 0, none⟩ (.int .u64 fv)) (hb5.setCell (Nat.le_refl _) _)).1
    have bx6 := bx5.pva fv
    have HS6 := (show Hid _ from And.intro h6 bx6)
    rw [← hw5]
    obtain ⟨y0, y1, y2⟩ := bx5.ce
    obtain ⟨z0, z1, z2⟩ := bx5.fz
    have kf5 := kf w5 h5.two.bel
    clear kf hd0 hd1 hd2 hc4 hw5 hb5 bx5 bx6 h6 HB0 HBA HBS HK HNM4 HS4 HNM ce0 ce1 cf0 cf1 cr0 cr1 cg0 cg1 q1 q7 q8
    have ce0 : w5.cell? ⟨w.heap.size, 0, none⟩ = some (.slice oa ol oc) := h5.s.ce.1
    have ce1 : w5.cell? ⟨w.heap.size, 1, none⟩ = some (.slice ta tl tc) := h5.s.ce.2
    have cf0 := h5.s.fz.1
    have cf1 := h5.s.fz.2
    have cr0 : w5.cell? ⟨w.heap.size + 1 + 1, 0, none⟩ = some (.slice none 0 0) := h5.r.ce.1
    have cr1 : w5.cell? ⟨w.heap.size + 1 + 1, 1, none⟩ = some (.slice none 0 0) := h5.r.ce.2
    have cg0 := h5.r.fz.1
    have cg1 := h5.r.fz.2
    have q1 := h5.oc 1 rfl
    have q7 := h5.oc 7 rfl
    have q8 := h5.oc 8 rfl
    clear h5
    generalize w4.heap.size = b3 at *
    simp only at y0 y1 y2
    go_wp2_with fail
    refine kf5.mono ?_
    rintro e wp ⟨rfl, rfl⟩
    clear kf5
    go_upto_region 8 with fail
    clear ce0 ce1 cf0 cf1 cr0 cr1 cg0 cg1 q1 q7 q8 y0 y1 y2 z0 z1 z2
    generalize wp.setCell ⟨b3, 0, none⟩ (.int .u64 fv) = w6 at *
    obtain ⟨h6, bx6⟩ := HS6.out
    obtain ⟨y0, y1, y2⟩ := bx6.ce
    simp only at y0 y1 y2
    have ce0 : w6.cell? ⟨w.heap.size, 0, none⟩ = some (.slice oa ol oc) := h6.s.ce.1
    have ce1 : w6.cell? ⟨w.heap.size, 1, none⟩ = some (.slice ta tl tc) := h6.s.ce.2
    have cf0 := h6.s.fz.1
    have cf1 := h6.s.fz.2
    have cr0 : w6.cell? ⟨w.heap.size + 1 + 1, 0, none⟩ = some (.slice none 0 0) := h6.r.ce.1
    have cr1 : w6.cell? ⟨w.heap.size + 1 + 1, 1, none⟩ = some (.slice none 0 0) := h6.r.ce.2
    have cg0 := h6.r.fz.1
    have cg1 := h6.r.fz.2
    have q1 := h6.oc 1 rfl
    have q7 := h6.oc 7 rfl
    have q8 := h6.oc 8 rfl
    have kq := kq H2 w6 h6.two
    clear h6 bx6
    go_wp2_with fail
    refine kq.mono ?_
    rintro e w7 ⟨rfl, hk7⟩
    have h7 := HS6.out.1.call hk7
    have h8 := h7.set2 ⟨oa, ol, oc⟩ ⟨ta, tl, tc⟩
    have HF := (show Hid _ from And.intro h8.r h8.fin)
    clear ce0 ce1 cf0 cf1 cr0 cr1 cg0 cg1 q1 q7 q8 y0 y1 y2 kq
    have ce0 : w7.cell? ⟨w.heap.size, 0, none⟩ = some (.slice oa ol oc) := h7.s.ce.1
    have ce1 : w7.cell? ⟨w.heap.size, 1, none⟩ = some (.slice ta tl tc) := h7.s.ce.2
    have cf0 := h7.s.fz.1
    have cf1 := h7.s.fz.2
    have cr0 : w7.cell? ⟨w.heap.size + 1 + 1, 0, none⟩ = some (.slice none 0 0) := h7.r.ce.1
    have cr1 : w7.cell? ⟨w.heap.size + 1 + 1, 1, none⟩ = some (.slice none 0 0) := h7.r.ce.2
    have cg0 := h7.r.fz.1
    have cg1 := h7.r.fz.2
    have q1 := h7.oc 1 rfl
    have q7 := h7.oc 7 rfl
    have q8 := h7.oc 8 rfl
    clear h7 h8 hk7 HS6
    rw [show (SV.mk oa ol oc).val = .slice oa ol oc from rfl, show (SV.mk ta tl tc).val = .slice ta tl tc from rfl] at HF
    go_wp2_with fail
    refine bodyPost_ret (res2 rfl _ _ (w.heap.size + 1 + 1) 28 _ (0, 0) _ rfl HF.out.1 Tryz.underlying28 rfl (by kernel_rfl)) rfl ?_
    exact ⟨rfl, HF.out.2⟩
theorem written_any (h : TwoE w0 w X hb H S vo vt ts) (hO : Ord H S ts n) (hn : n ≤ 1000000) (o : OpL) (ho : o.wf) (hw : ∀ W, Below w0.heap.size w0 W → o.w.ok wC 1 W) :
    Calls Tryz.prog 42 #[.pointer (some ⟨hb, 0, none⟩), stV vo vt, o.val] w fun e w' => e = .returned (.tuple #[stV vo vt, .bool true]) ∧ TwoK w0 w w' X hb (writeH H o.o o.n o.fst) (writeG S o.o o.n o.fst) vo vt ts := by
  cases hx : soO S o.o with
  | none => exact written_A h hO hn o hx ho hw
  | some x =>
    by_cases hN : o.n < 0
    · exact written_B h hO hn o ⟨⟨x, hx⟩, hN⟩ ho hw
    · rcases hO.rel.slot o.o o.n with ⟨a, b⟩ | ⟨p, y, a, b, _, d, e⟩
      · rw [hx] at b
        simp only [Option.bind_some] at b
        rw [if_neg hN] at b
        have := List.getElem?_eq_none_iff.1 b
        exact written_C h hO hn o ⟨x, hx, by omega, by omega⟩ ho hw
      · rw [hx] at b
        obtain rfl := Option.some.inj b
        exact written_D h hO hn o ⟨x, p, hx, by omega, a, d, e⟩ ho hw
set_option maxRecDepth 100000 in
set_option maxHeartbeats 2000000 in
theorem step_10 (h : TwoE w0 w X hb H S vo vt ts) (hO : Ord H S ts n) (hn : n ≤ 1000000) (o : OpL) (hk : o.kd = 10) (ho : o.wf) (hw : ∀ W, Below w0.heap.size w0 W → o.w.ok wC 1 W) :
    Calls Tryz.prog 8 #[.pointer (some ⟨hb, 0, none⟩), stV vo vt, o.val] w fun e w' => ∃ vo' vt', e = .returned (.tuple #[stV vo' vt', .bool true]) ∧ TwoK w0 w w' X hb (stepH H o) (stepS S o) vo' vt' (stepT ts o) := by
  obtain ⟨kd, oo, op, kk, ⟨va, se, fl⟩, on, ⟨wa, wc, wl⟩⟩ := o
  obtain rfl : kd = 10 := hk
  have eH : stepH H ⟨10, oo, op, kk, ⟨va, se, fl⟩, on, ⟨wa, wc, wl⟩⟩ = writeH H oo on (OpL.fst ⟨10, oo, op, kk, ⟨va, se, fl⟩, on, ⟨wa, wc, wl⟩⟩) := by rfl
  have eS : stepS S ⟨10, oo, op, kk, ⟨va, se, fl⟩, on, ⟨wa, wc, wl⟩⟩ = writeG S oo on (OpL.fst ⟨10, oo, op, kk, ⟨va, se, fl⟩, on, ⟨wa, wc, wl⟩⟩) := by rfl
  have eT : stepT ts ⟨10, oo, op, kk, ⟨va, se, fl⟩, on, ⟨wa, wc, wl⟩⟩ = ts := by rfl
  rw [eH, eS, eT]
  obtain ⟨oa, ol, oc⟩ := vo
  obtain ⟨ta, tl, tc⟩ := vt
  have hst : On w0 w (((w.alloc (.cells #[.slice oa ol oc, .slice ta tl tc] 28)).alloc (.cells #[.int .i64 10, .int .u64 oo, .int .u64 op, .string kk, .int .u64 va, .int .u64 se, .int .i64 fl, .int .i64 on, .slice wa wl.length wc] 38)).alloc (.cells #[.slice none 0 0, .slice none 0 0] 28)) X hb H S ⟨oa, ol, oc⟩ ⟨ta, tl, tc⟩ ts ⟨oa, ol, oc⟩ ⟨ta, tl, tc⟩ #[.int .i64 10, .int .u64 oo, .int .u64 op, .string kk, .int .u64 va, .int .u64 se, .int .i64 fl, .int .i64 on, .slice wa wl.length wc] .nil .nil := On.start h _
  obtain ⟨wb, hwb⟩ : ∃ wb, wb = (((w.alloc (.cells #[.slice oa ol oc, .slice ta tl tc] 28)).alloc (.cells #[.int .i64 10, .int .u64 oo, .int .u64 op, .string kk, .int .u64 va, .int .u64 se, .int .i64 fl, .int .i64 on, .slice wa wl.length wc] 38)).alloc (.cells #[.slice none 0 0, .slice none 0 0] 28)) := ⟨_, rfl⟩
  rw [← hwb] at hst
  have HS := (show Hid _ from hst)
  have kw := written_any hst.two hO hn ⟨10, oo, op, kk, ⟨va, se, fl⟩, on, ⟨wa, wc, wl⟩⟩ ho hw
  simp only at kw ⊢
  generalize writeH H oo on (OpL.fst ⟨10, oo, op, kk, ⟨va, se, fl⟩, on, ⟨wa, wc, wl⟩⟩) = H2 at *
  generalize writeG S oo on (OpL.fst ⟨10, oo, op, kk, ⟨va, se, fl⟩, on, ⟨wa, wc, wl⟩⟩) = S2 at *
  have ce0 : wb.cell? ⟨w.heap.size, 0, none⟩ = some (.slice oa ol oc) := hst.s.ce.1
  have ce1 : wb.cell? ⟨w.heap.size, 1, none⟩ = some (.slice ta tl tc) := hst.s.ce.2
  have cf0 := hst.s.fz.1
  have cf1 := hst.s.fz.2
  have cr0 : wb.cell? ⟨w.heap.size + 1 + 1, 0, none⟩ = some (.slice none 0 0) := hst.r.ce.1
  have cr1 : wb.cell? ⟨w.heap.size + 1 + 1, 1, none⟩ = some (.slice none 0 0) := hst.r.ce.2
  have cg0 := hst.r.fz.1
  have cg1 := hst.r.fz.2
  have q0 := hst.oc 0 rfl
  have q1 := hst.oc 1 rfl
  have q2 := hst.oc 2 rfl
  have q3 := hst.oc 3 rfl
  have q4 := hst.oc 4 rfl
  have q5 := hst.oc 5 rfl
  have q6 := hst.oc 6 rfl
  have q7 := hst.oc 7 rfl
  have q8 := hst.oc 8 rfl
  unfold stV OpL.val OpL.cells Sli.val at kw ⊢
  simp only at kw ⊢
  rw [show (SV.mk oa ol oc).val = .slice oa ol oc from rfl, show (SV.mk ta tl tc).val = .slice ta tl tc from rfl] at kw ⊢
  clear h hO hst eH eS eT hw ho
  go_enter Tryz.func8, Tryz.ntmps8
  go_upto_region 1 with fail
  rw [← hwb]
  clear hwb
  go_wp2_with fail
  refine kw.mono ?_
  rintro e w3 ⟨rfl, hk3⟩
  clear kw ce0 ce1 cf0 cf1 cr0 cr1 cg0 cg1 q0 q1 q2 q3 q4 q5 q6 q7 q8
  have h3 := HS.out.call hk3
  have h5 := h3.set2 ⟨oa, ol, oc⟩ ⟨ta, tl, tc⟩
  have HF := (show Hid _ from And.intro h5.r h5.fin)
  have ce0 : w3.cell? ⟨w.heap.size, 0, none⟩ = some (.slice oa ol oc) := h3.s.ce.1
  have ce1 : w3.cell? ⟨w.heap.size, 1, none⟩ = some (.slice ta tl tc) := h3.s.ce.2
  have cf0 := h3.s.fz.1
  have cf1 := h3.s.fz.2
  have cr0 : w3.cell? ⟨w.heap.size + 1 + 1, 0, none⟩ = some (.slice none 0 0) := h3.r.ce.1
  have cr1 : w3.cell? ⟨w.heap.size + 1 + 1, 1, none⟩ = some (.slice none 0 0) := h3.r.ce.2
  have cg0 := h3.r.fz.1
  have cg1 := h3.r.fz.2
  clear HS hk3 h3 h5
  rw [show (SV.mk oa ol oc).val = .slice oa ol oc from rfl, show (SV.mk ta tl tc).val = .slice ta tl tc from rfl] at HF
  go_wp2_with fail
  refine bodyPost_ret (res2 rfl _ _ (w.heap.size + 1 + 1) 28 _ (0, 0) _ rfl HF.out.1 Tryz.underlying28 rfl (by kernel_rfl)) rfl ?_
  exact ⟨⟨oa, ol, oc⟩, ⟨ta, tl, tc⟩, rfl, HF.out.2⟩
end
end Go.Proofs.YtkpdpdllbnihgaaGreat.Hp
