/- HQ, IB, IC, IP, IQ -/
import Derived.Test.YtkpdpdllbnihgaaGreatB21
import Derived.Test.YtkpdpdllbnihgaaGreatB8
import Derived.Laws.CopyOwn
import Derived.OwnWalk
import Derived.Test.YtkpdpdllbnihgaaGreatB11
import Derived.Deep.RegionLaw
import Derived.Laws.IdiomCopy
import Derived.Deep.Upon
import Derived.Lib.SliceRun
set_option linter.unusedVariables false
set_option linter.unusedSimpArgs false
set_option maxRecDepth 100000
set_option maxHeartbeats 40000000
/- alive. -/
namespace Go.Proofs.YtkpdpdllbnihgaaGreat.Hp
open Go.RowKit
def keyA : ByteArray := { data := #[97] }
def obA : Ob := ⟨0, nulW, false, false, [], 0, [], [], 0, true, -1, false, []⟩
def HA1 : He := ⟨[], [obA], 5, [⟨rootN 0 nulW, [], [], []⟩], [], 0⟩
def deA : De := ⟨intW 7, 0, 7⟩
def obB : Ob := ⟨0, nulW, false, false, [⟨keyA, 0, deA⟩], 1, [], [], 1, true, -1, false, []⟩
def HA2 : He := ⟨[], [obB], 5, [⟨rootN 0 nulW, [], [], []⟩, ⟨rootN 0 nulW, [keyA], [7], [(false, keyA, 7)]⟩], [], 0⟩
theorem mk1 : makeH (He.new 5) 0 nulW = HA1 := by
  have h1 : obI (He.new 5) nulW = none := by
    unfold obI
    rw [if_neg (by intro q; have := q.1; rw [isT_nul] at this; cases this)]
  have h2 : raiseH (He.new 5) nulW = He.new 5 := by unfold raiseH; rw [h1]
  unfold makeH
  rw [h2]
  rfl
theorem put1 : layH (touchH HA1 obA.cell) 0 obA keyA (keptD deA) = HA2 := by
  have h1 : touchH HA1 obA.cell = HA1 := rfl
  have h2 : keptD deA = deA := rfl
  rw [h1, h2]
  rfl
theorem ob1 : obI HA1 (objW 0) = some 0 := obI_of (H := HA1) (i := 0) (by decide) (by decide)
theorem ob2 : obI HA2 (objW 0) = some 0 := obI_of (H := HA2) (i := 0) (by decide) (by decide)
theorem may1 : mayB (He.new 5) nulW = true := by unfold mayB; simp
theorem pl2 : plc obB.ps keyA = some 0 := by
  refine plc_at (p := ⟨keyA, 0, deA⟩) rfl rfl (fun j q hj => by omega)
theorem fd2 : Sp.findR HA2.L 1 keyA = some (0, 7) := by
  unfold Sp.findR Sp.shOf Sp.idx
  rfl
theorem find_of {B hb : Nat} {H : He} {M : HV} {tg : Nat → Nat} {i : Nat} {ob : Ob} (hi : H.obs[i]? = some ob) (hm : ob.hm = false) (k : ByteArray) : ∀ W g cap, HeapAt W B hb tg H M → M.vo = ⟨some ⟨g, 0, none⟩, H.obs.length, cap⟩ → FindSays W g i k (plc ob.ps k) := fun W g cap hW hv => by
  obtain ⟨_, _, ov, _, hov, _⟩ := hW.obj hi
  exact find_at hW hi hov hv hm k
set_option maxRecDepth 100000 in
set_option maxHeartbeats 2000000 in
theorem alive_any (w : World) : Calls Tryz.prog 7 #[] w fun e w' => e = .returned (.bool true) ∧ Below w.heap.size w w' := by
  have kn := new_any w 5
  have ki := fun w => refInt_any 7 w
  have HOW : Hid (0 ≤ objW 0 ∧ objW 0 < 18446744073709551616) := by show _ ∧ _; decide
  have HO1 : Hid (obI HA1 (objW 0) = some 0 ∧ obI HA2 (objW 0) = some 0) := ⟨ob1, ob2⟩
  have HOL : Hid (objW ((He.new 5).obs.length : Int) = objW 0) := rfl
  have HDA : Hid (deV deA = .agg #[.int .u64 (intW 7), .int .u64 0, .int .i64 7]) := rfl
  generalize objW 0 = ow at *
  generalize hiw : intW 7 = iw at *
  clear hiw
  go_enter Tryz.func7, Tryz.ntmps7
  go_wp2_with fail
  refine kn.mono ?_
  rintro e w1 ⟨hb, O, rfl, ⟨tg, M, h, hO⟩, hB⟩
  have HB1 : Hid (Below w.heap.size w w1) := hB
  have HT1 : Hid (∀ b, tg b ≠ 0 → w.heap.size ≤ b) := fun b q => (h.lt b q).1
  have km := make_hit h 0 nulW (by omega) (by omega) (by decide) (by decide) may1 (by decide)
  rw [mk1, HOL.out] at km
  unfold nulW at km
  clear kn h hO hB
  go_wp2_with fail
  refine km.mono ?_
  rintro e w2 ⟨rfl, M2, tg2, h2, c2, n2⟩
  have HB2 : Hid (Below w.heap.size w w2 ∧ ∀ b, tg2 b ≠ 0 → w.heap.size ≤ b) := ⟨c2.below HB1.out HB1.out.size HT1.out, fun b q => by rcases n2 b q with c | c; exact HT1.out b c; exact Nat.le_trans HB1.out.size c⟩
  have kp := put_new h2 ow HOW.out.1 HOW.out.2 HO1.out.1 (ob := obA) rfl rfl rfl keyA (by unfold maxLen; decide) deA (by decide) (by decide) rfl
  rw [put1, HDA.out] at kp
  unfold keyA at kp
  clear km c2 n2 h2 HB1 HT1
  go_wp2_with fail
  refine (ki _).mono ?_
  rintro e w2' ⟨rfl, rfl⟩
  go_wp2_with fail
  refine kp.mono ?_
  rintro e w3 ⟨rfl, M3, tg3, h3, c3, n3⟩
  have HB3 : Hid (Below w.heap.size w w3 ∧ ∀ b, tg3 b ≠ 0 → w.heap.size ≤ b) := ⟨c3.below HB2.out.1 HB2.out.1.size HB2.out.2, fun b q => by rcases n3 b q with c | c; exact HB2.out.2 b c; exact Nat.le_trans HB2.out.1.size c⟩
  have kg := get_at h3 ow HOW.out.1 HOW.out.2 HO1.out.2 (ob := obB) (n := 0) (k := keyA) (p := ⟨keyA, 0, deA⟩) rfl pl2 rfl (find_of rfl rfl keyA)
  rw [show deV (Pr.mk keyA 0 deA).de = deV deA from rfl, HDA.out] at kg
  unfold keyA at kg
  have H3 : Hid (HeapAt w3 w.heap.size hb tg3 HA2 M3) := h3
  clear kp c3 n3 h3 HB2
  go_wp2_with fail
  refine kg.mono ?_
  rintro e w4 ⟨rfl, hb4⟩
  have HB4 : Hid (Below w3.heap.size w3 w4) := hb4
  clear kg hb4
  go_upto_region 7 with fail
  obtain ⟨w5, hw5⟩ : ∃ w5, w5 = w4.alloc (.cells #[.int .u64 iw, .int .u64 0, .int .i64 7] 35) := ⟨_, rfl⟩
  rw [← hw5]
  have hb5 : Below w4.heap.size w4 w5 := by rw [hw5]; exact (Below.refl _ _).alloc (Nat.le_refl _) _
  have b0 : w5.cell? ⟨w4.heap.size, 0, none⟩ = some (.int .u64 iw) := by rw [hw5]; exact box_new w4 _ _ 0 _ rfl
  have H5 : Hid (HeapAt w5 w.heap.size hb tg3 HA2 M3) := (H3.out.below HB4.out).below hb5
  have HB5 : Hid (Below w.heap.size w w5) := by
    have z1 := HB4.out.size
    have z2 := HB3.out.1.size
    refine ⟨?_, ?_, ?_, ?_, fun k hk => ?_⟩
    · rw [hb5.os, HB4.out.os, HB3.out.1.os]
    · rw [hb5.tape, HB4.out.tape, HB3.out.1.tape]
    · rw [hb5.output, HB4.out.output, HB3.out.1.output]
    · have := hb5.size; omega
    · rw [hb5.block k (by omega), HB4.out.block k (by omega), HB3.out.1.block k hk]
  generalize w4.heap.size = db at *
  have ks := shape_at H5.out ow HOW.out.1 HOW.out.2 HO1.out.2 (ob := obB) rfl
  unfold obB at ks
  simp only at ks
  clear hw5 hb5 HB4 HB3 H3
  go_wp2_with fail
  refine ks.mono ?_
  rintro e w6 ⟨rfl, hb6⟩
  have HB6 : Hid (Below w5.heap.size w5 w6) := hb6
  have H6 : Hid (HeapAt w6 w.heap.size hb tg3 HA2 M3) := H5.out.below hb6
  have b0 := cells_below hb6 _ _ b0
  have kf := findS_at H6.out 1 keyA
  rw [fd2] at kf
  unfold keyA Sp.slotI Sp.flagI at kf
  simp only [Option.isSome_some] at kf
  clear ks hb6
  go_wp2_with fail
  refine kf.mono ?_
  rintro e w7 ⟨rfl, hb7⟩
  have HB7 : Hid (Below w6.heap.size w6 w7) := hb7
  have b0 := cells_below hb7 _ _ b0
  have ko := objects_at (H6.out.below hb7)
  have HB8 : Hid (Below w.heap.size w w7) := by
    have z1 := HB6.out.size
    have z2 := HB5.out.size
    have z3 := hb7.size
    refine ⟨?_, ?_, ?_, by omega, fun k hk => ?_⟩
    · rw [hb7.os, HB6.out.os, HB5.out.os]
    · rw [hb7.tape, HB6.out.tape, HB5.out.tape]
    · rw [hb7.output, HB6.out.output, HB5.out.output]
    · rw [hb7.block k (by omega), HB6.out.block k (by omega), HB5.out.block k hk]
  have ko3 : ∀ n, Calls Tryz.prog 24 #[.pointer (some ⟨hb, 0, none⟩)] (w7.drewN n) fun e w' => e = .returned (.int .i64 1) ∧ w' = w7.drewN n := fun n => objects_at ((H6.out.below hb7).below (below_drewN (Below.refl _ _) n))
  have ki3 : ∀ n, Calls Tryz.prog 22 #[.int .i32 7] (w7.drewN n) fun e w' => e = .returned (.int .u64 iw) ∧ w' = w7.drewN n := fun n => ki _
  clear kf hb7 ko H5 H6 HB5 HB6 HB7
  go_wp2_with fail
  go_quiet (first | (go_at_call 22; refine Calls.quiet_of_same (ki3 _)) | (go_at_call 24; refine Calls.quiet_of_same (ko3 _)))
  go_wp2_with fail
  go_ret
  exact ⟨rfl, below_drewN HB8.out _⟩
end Go.Proofs.YtkpdpdllbnihgaaGreat.Hp
/- copied. -/
namespace Go.Proofs.YtkpdpdllbnihgaaGreat.Hp
open Go.RowKit
theorem infoW : (Tryz.prog.info? 33).map (fun i => (i.zero, i.size, i.bytes)) = some (some (.int .u64 0), 1, 8) := by kernel_rfl
theorem wC_flat (xs : List Int) : (xs.flatMap wC).length = xs.length := by rw [flat_len rtW.len, Nat.mul_one]
set_option maxRecDepth 100000 in
set_option maxHeartbeats 1000000 in
theorem copied_any (w : World) (m : Sli Int) (hm : m.ok wC 1 w) (hl : m.xs.length ≤ 17592186044416) :
    Calls Tryz.prog 80 #[m.val] w fun e w' => ∃ s : SV, e = .returned s.val ∧ OwnR wC 1 33 w.heap.size w' s.val m.xs ∧ Below w.heap.size w w' := by
  obtain ⟨ad, cap, xs⟩ := m
  have hcells := hm.cells
  simp only at hcells hl
  obtain ⟨i0, hi, hz0, hz1, hz2⟩ := info_parts infoW
  obtain ⟨CS, hCS⟩ : ∃ CS, CS = xs.flatMap wC := ⟨_, rfl⟩
  have hcl : CS.length = xs.length := by rw [hCS]; exact wC_flat xs
  have HONE : Hid (∀ v ∈ CS, v.oneCell' = true) := fun v hv => by
    rw [hCS] at hv
    obtain ⟨g, g1, g2⟩ := List.mem_flatMap.1 hv
    exact rtW.one g v g2
  have HSRC : Hid (∀ W, Below w.heap.size w W → 0 < CS.length → ∃ a, ad = some a ∧ ∀ j v, CS[j]? = some v → W.cell? (a.add j) = some v) := fun W hW hp => by
    obtain ⟨b, off, e1, hc⟩ := hcells (by intro e; rw [hcl, e] at hp; simp at hp)
    refine ⟨⟨b, off, none⟩, e1, fun j v hj => ?_⟩
    rw [hCS] at hj
    exact cells_below hW _ _ (news_of (w := w) rtW.len hc j v hj)
  have HOWN : Hid (∀ (W : World) (cur : List Value), cur.length = xs.length → W.heap[w.heap.size]? = some (.cells (splice cur 0 CS).toArray 33 (0, 0)) → OwnR wC 1 33 w.heap.size W (.slice (some ⟨w.heap.size, 0, none⟩) xs.length xs.length) xs) := fun W cur hcur hW => by
    have hsp : splice cur 0 CS = CS := by
      unfold splice
      rw [List.take_zero, List.nil_append, Nat.zero_add, List.drop_of_length_le (by omega), List.append_nil]
    rw [hsp] at hW
    refine ⟨by rw [wC_flat, Nat.mul_one], Or.inr ⟨w.heap.size, xs.length, CS.toArray, rfl, Nat.le_refl _, hW, Nat.le_refl _, by unfold maxLen; omega, by simp [hcl], ?_⟩⟩
    show CS.toArray.toList.take (xs.length * 1) = xs.flatMap wC
    rw [Nat.mul_one, List.take_of_length_le (by simp; omega), ← hCS]
  have hlim : (xs.length : Int) ≤ 9223372036854775807 := by omega
  have HL : Hid (xs.length ≤ 17592186044416) := hl
  have HSZ : Hid ((Tryz.prog.info? 33).map (·.size) = some 1) := by show _ = _; kernel_rfl
  have hmin : Nat.min xs.length xs.length = xs.length := Nat.min_self _
  have HCL : Hid (CS.length = xs.length) := hcl
  unfold Sli.val
  simp only
  generalize hn : xs.length = n at *
  clear hm hcells hCS hcl hl hn
  go_enter Tryz.func80, Tryz.ntmps80
  go_wp2_with (at_make; refine wpList_make_full _ rfl _ _ 36 rfl w.heap.size 33 i0 (.int .u64 0) 1 Tryz.underlying36 hi hz0 hz1 _ _ _ _ n rfl rfl rfl rfl ?m1 ?m2 (Nat.le_refl _) ?_)
  case m1 => rw [hz2]; have := HL.out; omega
  case m2 => have := HL.out; unfold maxLen; omega
  intro w1 hmade hg1
  have hB1 : Below w.heap.size w w1 := below_grown hg1
  rcases hmade.2 with ⟨h5, _⟩ | ⟨g, cp, cur, h5, hb5, hg5, hn5, hc5, hs5, ht5⟩
  · cases h5
  · injection h5 with e1 e2 e3
    injection e1 with e1
    injection e1 with e1
    subst e1 e3
    rw [Nat.mul_one] at hs5
    have HCUR : Hid (w1.heap[w.heap.size]? = some (.cells cur.toList.toArray 33 (0, 0))) := by
      show _ = _
      rw [hg5]
    have HCSZ : Hid (cur.toList.length = n) := by
      show _ = _
      rw [Array.length_toList]
      exact hs5
    have HB1 : Hid (Below w.heap.size w w1) := hB1
    clear hmade hg1 hb5 hg5 hn5 hc5 hs5 ht5 e2 hi hz0 hz1 hz2 hB1
    generalize cur.toList = cl at *
    go_wp2_with (refine wpList_copy_splice rfl _ _ 36 36 rfl 33 Tryz.underlying36 HSZ.out (some ⟨w.heap.size, 0, none⟩) ad n n n cap ?k1 ?k2 w.heap.size 0 cl 33 HCUR.out CS ?k3 ?k4 ?k5 HONE.out w.heap.size w HB1.out (Nat.le_refl _) ?_)
    case k3 => first | exact HCL.out | (rw [hmin]; exact HCL.out)
    case k4 => first | exact fun q => HSRC.out w1 HB1.out q | exact fun q => ⟨rfl, HSRC.out w1 HB1.out q⟩
    case k5 => rw [HCSZ.out, HCL.out]; omega
    intro w2 hw2 hB2
    have HO := (show Hid _ from HOWN.out w2 cl HCSZ.out hw2.out)
    have HB2 := (show Hid _ from hB2)
    clear hw2 hB2 HOWN HSRC HONE HCUR HCSZ
    go_wp2_with fail
    go_ret
    exact ⟨⟨some ⟨w.heap.size, 0, none⟩, n, n⟩, rfl, HO.out, HB2.out⟩
end Go.Proofs.YtkpdpdllbnihgaaGreat.Hp
/- SetInner, Inner; words. -/
namespace Go.Proofs.YtkpdpdllbnihgaaGreat.Hp
open Go.RowKit
section
variable {w w' w1 w5 : World} {B hb : Nat} {O S : Nat → Prop} {H H' : He} {M M' : HV} {tg : Nat → Nat}
/-- an object's inner words are another row -/
theorem HeapAt.inns (h : HeapAt w B hb tg H M) {i g cap : Nat} {ob : Ob} {ov : OV} (hi : H.obs[i]? = some ob) (hv : M.ovs[i]? = some ov) (hvo : M.vo = ⟨some ⟨g, 0, none⟩, H.obs.length, cap⟩) {s : SV} {l : List Int} (q1 : OwnR wC 1 33 w.heap.size w5 s.val l) (q2 : Below w.heap.size w w5) (hl : l.length ≤ 17592186044416) :
    WentM w B hb tg { H with obs := H.obs.set i { ob with inn := l } } { M with ovs := M.ovs.set i { ov with vi := s } } (w5.setCell ⟨g, i * 12 + 8, none⟩ s.val) := by
  have hwf := h.wf.ob ob (List.mem_of_getElem? hi)
  have hB := h.B0
  obtain ⟨p1, p2⟩ := h.put hi hv hvo 3 (by omega) (Chg.of_below q2) { ob with inn := l } { ov with vi := s } (j := 8) (u := s.val) (by omega) rfl (fun O o1 o2 => ⟨q1.low (by omega), fun b q => o2 b (q1.lt b q).1 (q1.lt b q).2⟩) (fun c' W' O' c4 cn q => by
    match c', q with
    | 0, q => exact q
    | 1, q => exact q
    | 2, q => exact q
    | c + 3, q => exact absurd (by omega) cn) ⟨hwf.kd, hwf.pr, hwf.ks, hwf.fl, hwf.nx, hwf.el, hl⟩
  refine ⟨_, p1, p2.mono (fun b q => by show tg b ≠ 0; omega), fun b q => ?_⟩
  by_cases c : b < w.heap.size
  · rw [rtg_old c] at q
    exact Or.inl q
  · exact Or.inr (by omega)
set_option maxRecDepth 100000 in
set_option maxHeartbeats 1000000 in
theorem setInner_at (h : HeapAt w B hb tg H M) (o : Int) (o0 : 0 ≤ o) (o1 : o < 18446744073709551616) {i : Nat} {ob : Ob} (ho : obI H o = some i) (hi : H.obs[i]? = some ob) (m : Sli Int) (hm : m.ok wC 1 w) (hl : m.xs.length ≤ 17592186044416) :
    Calls Tryz.prog 38 #[.pointer (some ⟨hb, 0, none⟩), .int .u64 o, m.val] w fun e w' => e = .returned (.tuple #[]) ∧ ∃ M', WentM w B hb tg { H with obs := H.obs.set i { ob with inn := m.xs } } M' w' := by
  obtain ⟨g, cap, ov, hvo, hov, t4, hne, hgl, hcell, hfz, hl1, hl2, hrow⟩ := h.obj hi
  have ka := at_hit h o o0 o1 i g cap ho hvo
  have kc := copied_any w m hm hl
  have d8 := hcell 8 _ rfl
  have f8 := hfz (i * 12 + 8)
  simp only at d8
  have HA : Hid (∀ w5 (s : SV), OwnR wC 1 33 w.heap.size w5 s.val m.xs → Below w.heap.size w w5 → (w5.cell? ⟨g, i * 12 + 8, none⟩ = some ov.vi.val ∧ w5.frozen? ⟨g, i * 12 + 8, none⟩ = false) ∧ ∃ M', WentM w B hb tg { H with obs := H.obs.set i { ob with inn := m.xs } } M' (w5.setCell ⟨g, i * 12 + 8, none⟩ s.val)) := fun w5 s q1 q2 => ⟨⟨cells_below q2 _ _ d8, by rw [World.frozen?_of_block (w := w) (q2.block g hgl)]; exact f8⟩, _, h.inns hi hov hvo q1 q2 hl⟩
  generalize { H with obs := H.obs.set i { ob with inn := m.xs } } = HN at *
  have HIV : Hid (ov.vi.val = .slice ov.vi.ad ov.vi.len ov.vi.cap) := rfl
  generalize hvv : m.val = mv at *
  have hmv : mv = .slice m.at' m.xs.length m.cap := hvv.symm
  clear hvv
  subst hmv
  clear h hi ho hvo hov t4 hne hgl hcell hfz hl1 hl2 hrow hm hl d8 f8
  go_enter Tryz.func38, Tryz.ntmps38
  go_wp2_with fail
  refine ka.mono ?_
  rintro e w2 ⟨rfl, rfl⟩
  clear ka
  go_wp2_with fail
  refine kc.mono ?_
  rintro e w3 ⟨s, rfl, hq1, hq2⟩
  obtain ⟨⟨z1, z2⟩, z3⟩ := HA.out w3 s hq1 hq2
  have HZ := (show Hid _ from z3)
  rw [HIV.out] at z1
  obtain ⟨sa, sl, sc⟩ := s
  unfold SV.val at HZ ⊢
  simp only at HZ ⊢
  clear kc hq1 hq2 HA z3
  go_wp2_with fail
  go_end0
  exact ⟨rfl, HZ.out⟩
set_option maxRecDepth 100000 in
set_option maxHeartbeats 1000000 in
theorem inner_at (h : HeapAt w B hb tg H M) (o : Int) (o0 : 0 ≤ o) (o1 : o < 18446744073709551616) {i : Nat} {ob : Ob} (ho : obI H o = some i) (hi : H.obs[i]? = some ob) :
    Calls Tryz.prog 50 #[.pointer (some ⟨hb, 0, none⟩), .int .u64 o] w fun e w' => ∃ s : SV, e = .returned s.val ∧ OwnR wC 1 33 w.heap.size w' s.val ob.inn ∧ Below w.heap.size w w' := by
  obtain ⟨g, cap, ov, hvo, hov, t4, hne, hgl, hcell, hfz, hl1, hl2, hrow⟩ := h.obj hi
  have ka := at_hit h o o0 o1 i g cap ho hvo
  have d8 := hcell 8 _ rfl
  simp only at d8
  have hr : RowIn wC 1 33 B w _ ov.vi ob.inn := h.part hi hov 3 (by omega)
  have hwf := h.wf.ob ob (List.mem_of_getElem? hi)
  obtain ⟨m, e1, e2, e3, _⟩ := hr.1.sl rtW.len
  have kc := copied_any w m e3 (by rw [e2]; exact hwf.inn)
  rw [e1] at d8
  rw [e2] at kc
  generalize hvv : m.val = mv at *
  have hmv : mv = .slice m.at' m.xs.length m.cap := hvv.symm
  clear hvv
  subst hmv
  generalize m.xs.length = ml at *
  generalize m.at' = ma at *
  generalize m.cap = mc at *
  clear h hi ho hvo hov t4 hne hgl hcell hfz hl1 hl2 hrow hr hwf e1 e3 e2
  go_enter Tryz.func50, Tryz.ntmps50
  go_wp2_with fail
  refine ka.mono ?_
  rintro e w2 ⟨rfl, rfl⟩
  clear ka
  go_wp2_with fail
  refine kc.mono ?_
  rintro e w3 ⟨s, rfl, hq1, hq2⟩
  have HQ := (show Hid (OwnR wC 1 33 w2.heap.size w3 s.val ob.inn ∧ Below w2.heap.size w2 w3) from ⟨hq1, hq2⟩)
  obtain ⟨sa, sl, sc⟩ := s
  unfold SV.val at HQ ⊢
  simp only at HQ ⊢
  clear kc hq1 hq2
  go_wp2_with fail
  go_ret
  exact ⟨⟨sa, sl, sc⟩, rfl, HQ.out.1, HQ.out.2⟩
end
set_option maxRecDepth 100000 in
set_option maxHeartbeats 1000000 in
theorem words_same (w : World) (a b : Sli Int) (ha : a.ok wC 1 w) (hb : b.ok wC 1 w) (hab : a.xs = b.xs) :
    Calls Tryz.prog 49 #[a.val, b.val] w fun e w' => e = .returned (.bool true) ∧ Below w.heap.size w w' := by
  obtain ⟨aa, ac, l⟩ := a
  obtain ⟨ba, bc, l2⟩ := b
  simp only at hab
  subst hab
  have h1 := ha.cap
  have h0 := ha.len
  simp only at h1 h0
  have hlim : (l.length : Int) ≤ 9223372036854775807 := by unfold maxLen at h1; omega
  have HA : Hid (l ≠ [] → ∃ b off, aa = some ⟨b, off, none⟩ ∧ ∀ (i : Nat) (y : Int), l[i]? = some y → ∀ (j : Nat) (u : Value), (wC y)[j]? = some u → w.cell? ⟨b, off + i * 1 + j, none⟩ = some u) := ha.cells
  have HB : Hid (l ≠ [] → ∃ b off, ba = some ⟨b, off, none⟩ ∧ ∀ (i : Nat) (y : Int), l[i]? = some y → ∀ (j : Nat) (u : Value), (wC y)[j]? = some u → w.cell? ⟨b, off + i * 1 + j, none⟩ = some u) := hb.cells
  have hnn : ((l.length : Int) != (l.length : Int)) = false := by simp
  unfold Sli.val
  simp only
  clear ha hb h1 h0
  go_enter Tryz.func49, Tryz.ntmps49
  go_wp2_with fail
  go_loopw [13] (fun p wr => ∃ (j : Nat) (nd : Nat), j ≤ l.length ∧ p = .int .i64 (j : Int) ∧ Hid (Below w.heap.size w wr)) (fun p wr => ((l.length : Int) - intOf p).toNat)
  case atStart => exact ⟨0, 0, Nat.zero_le _, rfl, Below.refl _ _⟩
  case round =>
    obtain ⟨j, nd, hj, rfl, HBL⟩ := hrel
    by_cases c : j < l.length
    · have hex : ∃ n, l[j]? = some n := ⟨_, List.getElem?_eq_getElem c⟩
      obtain ⟨n, hn⟩ := hex
      obtain ⟨b1, o1, rfl, hc1⟩ := HA.out (by intro e; rw [e] at c; simp at c)
      obtain ⟨b2, o2, rfl, hc2⟩ := HB.out (by intro e; rw [e] at c; simp at c)
      have e1 := hc1 j n hn 0 _ rfl
      have e2 := hc2 j n hn 0 _ rfl
      simp only [Nat.mul_one, Nat.add_zero] at e1 e2
      have d1 := cells_below HBL.out _ _ e1
      have d2 := cells_below HBL.out _ _ e2
      have hjj : (j : Int) < (l.length : Int) := by omega
      have hjd : decide ((j : Int) < (l.length : Int)) = true := decide_eq_true hjj
      have hw1 : IntKind.i64.wrap ((j : Int) + 1) = ((j + 1 : Nat) : Int) := by rw [IntKind.wrap_i64]; omega
      have HJ : Hid (j < l.length) := c
      have hnn2 : (n != n) = false := by simp
      clear hc1 hc2 e1 e2 hn c hj HA HB
      go_wp2_with fail
      go_quiet (fail)
      go_wp2_with fail
      refine ⟨⟨j + 1, 0, by have := HJ.out; omega, rfl, ?_⟩, ?_⟩
      · exact below_drewN HBL.out _
      · have := HJ.out
        simp [intOf]
        omega
    · have hjj : ¬ ((j : Int) < (l.length : Int)) := by omega
      clear HA HB c hj
      go_wp2_with fail
      go_ret
      exact ⟨rfl, HBL.out⟩
end Go.Proofs.YtkpdpdllbnihgaaGreat.Hp
/- slices.Delete of one property: the row behind it. -/
namespace Go.Proofs.YtkpdpdllbnihgaaGreat.Hp
open Go.RowKit
/-- an array with values laid over it -/
def setAll : Array Value → Nat → List Value → Array Value
  | cur, _, [] => cur
  | cur, o, v :: vs => setAll (cur.setIfInBounds o v) (o + 1) vs
theorem setAll_size : ∀ (vs : List Value) (cur : Array Value) (o : Nat), (setAll cur o vs).size = cur.size
  | [], cur, o => rfl
  | v :: vs, cur, o => by
    rw [setAll, setAll_size vs, Array.size_setIfInBounds]
theorem setAll_take : ∀ (vs : List Value) (cur : Array Value) (o : Nat), o + vs.length ≤ cur.size → (setAll cur o vs).toList.take (o + vs.length) = cur.toList.take o ++ vs
  | [], cur, o, h => by simp [setAll]
  | v :: vs, cur, o, h => by
    rw [List.length_cons] at h
    rw [setAll, List.length_cons, show o + (vs.length + 1) = (o + 1) + vs.length by omega, setAll_take vs _ (o + 1) (by rw [Array.size_setIfInBounds]; omega), Array.toList_setIfInBounds]
    have hl : o < cur.toList.length := by rw [Array.length_toList]; omega
    rw [List.take_add_one, List.getElem?_set_self hl, List.take_set_of_le (Nat.le_refl _)]
    simp
theorem setAll_before : ∀ (vs : List Value) (cur : Array Value) (o n : Nat), n ≤ o → (setAll cur o vs).toList.take n = cur.toList.take n
  | [], cur, o, n, h => rfl
  | v :: vs, cur, o, n, h => by
    rw [setAll, setAll_before vs _ (o + 1) n (by omega), Array.toList_setIfInBounds, List.take_set_of_le h]
theorem heap_setCells (b : Nat) (t : TypeId) : ∀ (vs : List Value) (o : Nat) (w : World) (cur : Array Value), w.heap[b]? = some (.cells cur t (0, 0)) → (w.setCells b o vs).heap[b]? = some (.cells (setAll cur o vs) t (0, 0))
  | [], o, w, cur, h => h
  | v :: vs, o, w, cur, h => heap_setCells b t vs (o + 1) _ _ (heap_setCell_same w b o cur t v h)
theorem chg_setCells (b : Nat) : ∀ (vs : List Value) (o : Nat) (w : World), Chg (fun k => k = b) w (w.setCells b o vs)
  | [], o, w => Chg.refl _ _
  | v :: vs, o, w => (Chg.set (S := fun k => k = b) w ⟨b, o, none⟩ v rfl).trans (chg_setCells b vs (o + 1) _) (fun _ _ q => q)
theorem erase_flat {ps : List Pr} {a : Nat} (ha : a < ps.length) : (ps.eraseIdx a).flatMap prC = (ps.take a).flatMap prC ++ (ps.drop (a + 1)).flatMap prC := by
  rw [List.eraseIdx_eq_take_drop_succ, List.flatMap_append]
/-- the row without one of its properties -/
theorem del_row {B : Nat} {w : World} {gl cap a : Nat} {ps : List Pr} (h : OwnR prC 5 123 B w (.slice (some ⟨gl, 0, none⟩) ps.length cap) ps) (ha : a < ps.length) (zs : List Value) (hz : zs.length = 5) :
    OwnR prC 5 123 B ((w.setCells gl (a * 5) ((ps.drop (a + 1)).flatMap prC)).setCells gl ((ps.length - 1) * 5) zs) (.slice (some ⟨gl, 0, none⟩) (ps.length - 1) cap) (ps.eraseIdx a) := by
  rcases h.2 with ⟨h1, _⟩ | ⟨g', cap', cur, h1, hb, hg, hn, hc, hs, ht⟩
  · cases h1
  · cases h1
    have hnl : ((ps.drop (a + 1)).flatMap prC).length = (ps.length - (a + 1)) * 5 := by rw [flat_len rtPr.len, List.length_drop]
    have hfit : a * 5 + ((ps.drop (a + 1)).flatMap prC).length ≤ cur.size := by
      rw [hnl, hs]
      have : a * 5 + (ps.length - (a + 1)) * 5 = (ps.length - 1) * 5 := by rw [← Nat.add_mul]; congr 1; omega
      rw [this]
      exact Nat.mul_le_mul_right _ (by omega)
    have h1 := heap_setCells gl _ ((ps.drop (a + 1)).flatMap prC) (a * 5) w cur hg
    have h2 := heap_setCells gl _ zs ((ps.length - 1) * 5) _ _ h1
    have hel : (ps.eraseIdx a).length = ps.length - 1 := List.length_eraseIdx_of_lt ha
    refine ⟨by rw [flat_len rtPr.len], Or.inr ⟨gl, cap, _, by rw [hel], hb, h2, by rw [hel]; omega, hc, by rw [setAll_size, setAll_size]; exact hs, ?_⟩⟩
    rw [hel, setAll_before _ _ _ _ (Nat.le_refl _)]
    have e : (ps.length - 1) * 5 = a * 5 + ((ps.drop (a + 1)).flatMap prC).length := by
      rw [hnl, ← Nat.add_mul]
      congr 1
      omega
    rw [e, setAll_take _ _ _ hfit, erase_flat ha]
    congr 1
    have h3 : cur.toList.take (a * 5) = (cur.toList.take (ps.length * 5)).take (a * 5) := by
      rw [List.take_take, Nat.min_eq_left (Nat.mul_le_mul_right _ (by omega))]
    rw [h3, ht]
    have h4 : ps.flatMap prC = (ps.take a).flatMap prC ++ (ps.drop a).flatMap prC := by rw [← List.flatMap_append, List.take_append_drop]
    rw [h4, List.take_append_of_le_length (by rw [flat_len rtPr.len, List.length_take]; omega), List.take_of_length_le (by rw [flat_len rtPr.len, List.length_take]; omega)]
end Go.Proofs.YtkpdpdllbnihgaaGreat.Hp
/- slices.Delete of one property: the walk. -/
namespace Go.Proofs.YtkpdpdllbnihgaaGreat.Hp
open Go.RowKit
/-- a property's zero value, in cells -/
def zPr : List Value := [.string ⟨#[]⟩, .int .i64 0, .int .u64 0, .int .u64 0, .int .i64 0]
/-- 'clear' of one property -/
theorem run_clear_pr (w : World) (ty : TypeId) (b o c : Nat) (hc : ∀ j, j < 5 → (w.cell? ⟨b, o + j, none⟩).isSome = true) (hf : ∀ j, j < 5 → w.frozen? ⟨b, o + j, none⟩ = false) :
    (Builtin.clear_ #[100] ty #[.slice (some ⟨b, o, none⟩) 1 c]).run Tryz.prog w = .ok (.tuple #[]) (w.setCells b o zPr) := by
  have hst := run_storeCells_cells (P := Tryz.prog) b o zPr 0 w (fun j hj => by simpa using hc j hj) (fun j hj => by simpa using hf j hj) (by decide)
  simp only [Nat.add_zero] at hst
  have hv : ∀ w, (zeroValue 123).run Tryz.prog w = .ok (.agg #[.string ⟨#[]⟩, .int .i64 0, .int .u64 0, .int .u64 0, .int .i64 0]) w := by
    intro w
    have hz : Tryz.t123.zero = some (.agg #[.string ⟨#[]⟩, .int .i64 0, .int .u64 0, .int .u64 0, .int .i64 0]) := by kernel_rfl
    simp [zeroValue, hz]
  have hzc : (Builtin.zeroCells (Value.agg #[.string ⟨#[]⟩, .int .i64 0, .int .u64 0, .int .u64 0, .int .i64 0]).cells 1).toList = zPr := by kernel_rfl
  simp [Builtin.clear_, run_underlying rtPr.und, hv, hzc, hst]
theorem flat_get {ps : List Pr} {j : Nat} {u : Value} (h : (ps.flatMap prC)[j]? = some u) : ∃ p, ps[j / 5]? = some p ∧ (prC p)[j % 5]? = some u := by
  induction ps generalizing j with
  | nil => simp at h
  | cons p ps ih =>
    rw [List.flatMap_cons] at h
    by_cases hj : j < 5
    · rw [List.getElem?_append_left (by rw [rtPr.len]; exact hj)] at h
      exact ⟨p, by rw [Nat.div_eq_of_lt hj]; rfl, by rw [Nat.mod_eq_of_lt hj]; exact h⟩
    · rw [List.getElem?_append_right (by rw [rtPr.len]; omega), rtPr.len] at h
      obtain ⟨q, h1, h2⟩ := ih h
      refine ⟨q, ?_, ?_⟩
      · rw [show j / 5 = (j - 5) / 5 + 1 by omega, List.getElem?_cons_succ]
        exact h1
      · rw [show j % 5 = (j - 5) % 5 by omega]
        exact h2
set_option maxHeartbeats 4000000 in
set_option maxRecDepth 1000000 in
theorem delete_at {B : Nat} {w : World} {gl cap a : Nat} {ps : List Pr} (h : OwnR prC 5 123 B w (.slice (some ⟨gl, 0, none⟩) ps.length cap) ps) (ha : a < ps.length) :
    Calls Tryz.prog 101 #[.slice (some ⟨gl, 0, none⟩) ps.length cap, .int .i64 a, .int .i64 ((a : Int) + 1)] w fun e w' => e = .returned (.slice (some ⟨gl, 0, none⟩) (ps.length - 1) cap) ∧ w' = (w.drew.setCells gl (a * 5) ((ps.drop (a + 1)).flatMap prC)).setCells gl ((ps.length - 1) * 5) zPr := by
  have hcl : ∀ i y, ps[i]? = some y → ∀ (j : Nat) (u : Value), (prC y)[j]? = some u → w.cell? ⟨gl, i * 5 + j, none⟩ = some u := fun i y hi j u hj => OwnR.at' rtPr.len h hi hj
  have hfz : ∀ n, w.frozen? ⟨gl, n, none⟩ = false := fun n => h.fz n
  have hsome : ∀ n, n < ps.length * 5 → (w.cell? ⟨gl, n, none⟩).isSome = true := by
    intro n hn
    have h1 : n / 5 < ps.length := by omega
    have h2 : n % 5 < 5 := Nat.mod_lt _ (by decide)
    rw [show n = n / 5 * 5 + n % 5 by omega, hcl (n / 5) ps[n / 5] (List.getElem?_eq_getElem h1) (n % 5) ((prC ps[n / 5])[n % 5]'(by rw [rtPr.len]; exact h2)) (List.getElem?_eq_getElem _)]
    rfl
  obtain ⟨i0, hi0, hz0, hz1, hz2⟩ := info_parts (P := Tryz.prog) (t := 123) (z := .agg #[.string ⟨#[]⟩, .int .i64 0, .int .u64 0, .int .u64 0, .int .i64 0]) (s := 5) (b := 48) (by kernel_rfl)
  obtain ⟨hnl, hcap⟩ : ps.length ≤ cap ∧ cap ≤ maxLen := by
    rcases h.2 with ⟨h1, _⟩ | ⟨g', cap', cur, h1, hb, hg, hn, hc, hs, ht⟩
    · cases h1
    · cases h1
      exact ⟨hn, hc⟩
  obtain ⟨news, hnews⟩ : ∃ news, news = (ps.drop (a + 1)).flatMap prC := ⟨_, rfl⟩
  have hlen : news.length = (ps.length - (a + 1)) * 5 := by rw [hnews, flat_len rtPr.len, List.length_drop]
  have hm : (cap : Int) ≤ 9223372036854775807 := by unfold maxLen at hcap; omega
  obtain ⟨A, hA, hsrc⟩ : ∃ A : Addr, (if cap = a + 1 then some (⟨gl, 0, none⟩ : Addr) else some ⟨gl, (a + 1) * 5, none⟩) = some A ∧ Hid (∀ t u, news[t]? = some u → w.drew.cell? (A.add t) = some u) := by
    by_cases hh : cap = a + 1
    · refine ⟨⟨gl, 0, none⟩, by simp [hh], fun t u hu => ?_⟩
      have h0 : news.length = 0 := by rw [hlen, show ps.length - (a + 1) = 0 by omega]
      rw [List.length_eq_zero_iff.1 h0] at hu
      simp at hu
    · refine ⟨⟨gl, (a + 1) * 5, none⟩, by simp [hh], fun t u hu => ?_⟩
      rw [hnews] at hu
      obtain ⟨p, h1, h2⟩ := flat_get hu
      rw [List.getElem?_drop] at h1
      have h3 := hcl _ _ h1 _ _ h2
      rw [Addr.add_lit]
      show w.cell? _ = _
      rw [show (a + 1) * 5 + t = (a + 1 + t / 5) * 5 + t % 5 by omega]
      exact h3
  have s1 : Hid (news.length = (ps.length - (a + 1)) * 5) := hlen
  have s2 : Hid (∀ u ∈ news, u.oneCell' = true) := by
    intro u hu
    rw [hnews] at hu
    obtain ⟨x, _, hx⟩ := List.mem_flatMap.1 hu
    exact rtPr.one x u hx
  have s3 : Hid (∀ t, t < news.length → (w.drew.cell? ⟨gl, 0 + a * 5 + t, none⟩).isSome = true ∧ w.drew.frozen? ⟨gl, 0 + a * 5 + t, none⟩ = false) := by
    intro t ht
    rw [hlen] at ht
    exact ⟨hsome _ (by omega), hfz _⟩
  obtain ⟨W1, hW1⟩ : ∃ W1, W1 = w.drew.setCells gl (0 + a * 5) news := ⟨_, rfl⟩
  have hclr : ∀ ty, (Builtin.clear_ #[100] ty #[.slice (some ⟨gl, (ps.length - 1) * 5, none⟩) 1 (cap - (ps.length - 1))]).run Tryz.prog W1 = .ok (.tuple #[]) (W1.setCells gl ((ps.length - 1) * 5) zPr) := by
    intro ty
    refine run_clear_pr W1 ty gl _ _ (fun j hj => ?_) (fun j hj => ?_)
    · rw [hW1, World.cell?_setCells_out gl _ _ _ _ (fun hb _ => Or.inr (by show 0 + a * 5 + news.length ≤ (ps.length - 1) * 5 + j; rw [hlen]; omega))]
      exact hsome _ (by omega)
    · rw [hW1, World.frozen?_setCells]
      exact hfz _
  have hW : Hid (W1 = w.drew.setCells gl (0 + a * 5) news) := hW1
  have hN : Hid (news = (ps.drop (a + 1)).flatMap prC) := hnews
  have hac : a ≤ cap := by omega
  have hjc : a + 1 ≤ cap := by omega
  have hp0 : (0 : Int) ≤ (a : Int) + 1 := by omega
  have hp1 : (a : Int) + 1 ≤ (ps.length : Int) := by omega
  have hp2 : ((a : Int) + 1).toNat = a + 1 := by omega
  have hne : ¬ ((a : Int) = (a : Int) + 1) := by omega
  clear hW1 hnews hlen hcl hfz hsome h
  generalize ps.length = L at *
  obtain ⟨n, rfl⟩ : ∃ n, L = n + 1 := ⟨L - 1, by omega⟩
  have han : a ≤ n := by omega
  have s1' : Hid (news.length = (n - a) * 5) := (show news.length = (n - a) * 5 by rw [s1.out, Nat.add_sub_add_right])
  have hll : Hid (a + (n - a) = n) := (show a + (n - a) = n by omega)
  simp only [Nat.add_sub_cancel] at hclr ⊢
  have hcn : ¬ cap = n := by omega
  have hcn2 : ¬ cap - n = 0 := by omega
  have hnc : n ≤ cap := by omega
  go_enter Tryz.func101, Tryz.ntmps101
  go_wp2_with fail
  go_region_law (refine step_append_room rfl (.tmp 22) (.tmp 25) 100 rfl 123 i0 5 Tryz.underlying100 hi0 hz1 gl 0 a cap (by simp [Act.eval, Act.put]) A (n - a) (cap - (a + 1)) news (by simp [Act.eval, Act.put]) s1'.out hsrc.out s2.out (by omega) s3.out ?_; rw [← hW.out, hll.out])
  go_wp2
  all_goals go_ret
  all_goals (refine ⟨rfl, ?_⟩)
  all_goals (rw [hW.out, hN.out, Nat.zero_add])
end Go.Proofs.YtkpdpdllbnihgaaGreat.Hp
