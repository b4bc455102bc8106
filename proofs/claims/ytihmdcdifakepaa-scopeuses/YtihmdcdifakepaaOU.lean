/- ScopeUses: the walk. -/
import Derived.Test.YtihmdcdifakepaaOP
import Derived.Deep.OwnRows
namespace Go.Proofs.Ytihmdcdifakepaa.Rv
open Go.RowKit Go.Proofs.Ytihmdcdifakepaa.Sc Go.Proofs.Ytihmdcdifakepaa.Rz
set_option linter.unusedVariables false
set_option linter.unusedSimpArgs false

/-- a variable that holds what was told -/
theorem row_cells {β : Type} {enc : β → List Value} {k : Nat} {e : TypeId} {B : Nat} {w : World} {p : Option Addr} {m q : Nat} {xs : List β} (hk : ∀ y, (enc y).length = k) (h : OwnR enc k e B w (.slice p m q) xs) {i : Nat} {y : β} (hi : xs[i]? = some y) :
    ∃ g, p = some ⟨g, 0, none⟩ ∧ ∀ (W : World), Below w.heap.size w W → ∀ (j : Nat) (u : Value), (enc y)[j]? = some u → W.cell? ⟨g, i * k + j, none⟩ = some u := by
  obtain ⟨ad, cap, e1, l1, l2, hg⟩ := own_slice h
  cases e1
  obtain ⟨g, rfl⟩ := hg (fun e => by rw [e] at hi; simp at hi)
  obtain ⟨_, _, hlt, _, _, r6, _⟩ := h.read hk
  exact ⟨g, rfl, fun W hW j u hu => Sc.cells_below hW _ _ (r6 i y hi j u hu)⟩

theorem row_len {β : Type} {enc : β → List Value} {k : Nat} {e : TypeId} {B : Nat} {w : World} {v : Value} {xs : List β} (h : OwnR enc k e B w v xs) : ∃ p q, v = .slice p xs.length q := by
  obtain ⟨ad, cap, e1, _⟩ := own_slice h
  exact ⟨ad, cap, e1⟩

theorem made_rep (v : Value) (n : Nat) : madeCells #[v] n = (List.replicate n v).toArray := by
  apply Array.ext
  · simp [madeCells]
  · intro i h1 h2
    simp [madeCells, Nat.mod_one]

set_option maxRecDepth 100000 in
set_option maxHeartbeats 8000000 in
theorem uses_walk (n : Nat) (t : Tr n) (w : World) (hok : okT n w t) : Calls Try.prog 5 #[valT n t] w fun e w' => e = .returned (.bool true) ∧ Below w.heap.size w w' := by
  obtain ⟨x, kv, hval⟩ : ∃ x kv, valT n t = .agg #[.int .i64 (x : Nd).kind, .int .i64 x.pl, .string x.name, .int .u64 x.num, .string x.op, kv] := ⟨ndT n t, _, rfl⟩
  obtain ⟨ka, kl, kc, hkv⟩ : ∃ ka kl kc, kv = Value.slice ka kl kc := by
    unfold valT at hval
    simp at hval
    exact ⟨_, _, _, hval.2.2.2.2.2.symm⟩
  subst hkv
  obtain ⟨wb, hwb⟩ : ∃ wb, wb = w.alloc (.cells #[.int .i64 x.kind, .int .i64 x.pl, .string x.name, .int .u64 x.num, .string x.op, .slice ka kl kc] 25) := ⟨_, rfl⟩
  have hbl : Below w.heap.size w wb := by rw [hwb]; exact (Below.refl _ _).alloc (Nat.le_refl _) _
  have hX : NdB w.heap.size x (.slice ka kl kc) wb := by rw [hwb]; exact at_new _ _
  have kc15 := uses_resolve wb n t (okT_kept hok (Sc.cells_below hbl))
  rw [hval] at kc15 ⊢
  have HB : Hid (Below w.heap.size w wb) := hbl
  obtain ⟨a0, a1, a2, a3, a4, a5⟩ := hX.cs
  clear hok hval hX hbl
  go_enter Try.func5, Try.ntmps5
  go_upto_region 1 with fail
  rw [← hwb]
  clear hwb
  go_wp2_with fail
  refine kc15.mono ?_
  rintro e w1 ⟨hb1, sc, vr, us, v0, v1, v2, a, c, rfl, r0, r1, r2, hF, m0, m1, m2, mv, hz⟩
  obtain ⟨p0, q0, rfl⟩ := row_len r0
  obtain ⟨p1, q1, rfl⟩ := row_len r1
  obtain ⟨p2, q2, rfl⟩ := row_len r2
  obtain ⟨w2, hw2⟩ : ∃ w2, w2 = w1.alloc (.cells #[.slice p0 sc.length q0, .slice p1 vr.length q1, .slice p2 us.length q2] 37) := ⟨_, rfl⟩
  have hb2 : Below w1.heap.size w1 w2 := by rw [hw2]; exact (Below.refl _ _).alloc (Nat.le_refl _) _
  have t0 : w2.cell? ⟨w1.heap.size, 0, none⟩ = some (.slice p0 sc.length q0) := by rw [hw2]; exact box_new w1 _ _ 0 _ rfl
  have t1 : w2.cell? ⟨w1.heap.size, 1, none⟩ = some (.slice p1 vr.length q1) := by rw [hw2]; exact box_new w1 _ _ 1 _ rfl
  have t2 : w2.cell? ⟨w1.heap.size, 2, none⟩ = some (.slice p2 us.length q2) := by rw [hw2]; exact box_new w1 _ _ 2 _ rfl
  have HB2 : Hid (Below w.heap.size w w2) := HB.out.trans ((hb1.trans (hb2.mono hb1.size)).mono HB.out.size)
  have R0 : Hid (OwnR scpC 4 42 wb.heap.size w2 (.slice p0 sc.length q0) sc) := r0.below hb2
  have R1 : Hid (OwnR vrC 6 45 wb.heap.size w2 (.slice p1 vr.length q1) vr) := r1.below hb2
  have R2 : Hid (OwnR usC 2 47 wb.heap.size w2 (.slice p2 us.length q2) us) := r2.below hb2
  have HT : Hid (w2.cell? ⟨w1.heap.size, 0, none⟩ = some (.slice p0 sc.length q0) ∧ w2.cell? ⟨w1.heap.size, 1, none⟩ = some (.slice p1 vr.length q1) ∧ w2.cell? ⟨w1.heap.size, 2, none⟩ = some (.slice p2 us.length q2)) := ⟨t0, t1, t2⟩
  have HF : Hid (UsF sc vr us) := hF
  have HM : Hid (sc.length ≤ 2000000 ∧ vr.length ≤ 2000000 ∧ us.length ≤ 2000000 ∧ ∀ x ∈ sc, x.vars ≤ 2000000) := ⟨m0, m1, m2, mv⟩
  clear kc15 a0 a1 a2 a3 a4 a5 hb1 r0 r1 r2 hF m0 m1 m2 mv hb2 HB
  go_upto_region 2 with fail
  rw [← hw2]
  clear hw2
  by_cases c0 : c = 0
  · subst c0
    clear hz
    go_wp2_with fail
    go_loopw [40] (fun i wr => ∃ k : Nat, Hid (k ≤ sc.length ∧ Below w2.heap.size w2 wr) ∧ i = .int .i64 (k : Int)) (fun i wr => sc.length - (intOf i).toNat)
    case atStart => exact ⟨0, ⟨Nat.zero_le _, Below.refl _ _⟩, rfl⟩
    case round =>
      obtain ⟨wo, rfl⟩ : ∃ wo, wo = wr := ⟨_, rfl⟩
      obtain ⟨i, HI, rfl⟩ := hrel
      clear t0 t1 t2
      rcases Nat.lt_or_ge i sc.length with ci | ci
      · obtain ⟨y, hy⟩ : ∃ y, sc[i]? = some y := ⟨_, List.getElem?_eq_getElem ci⟩
        obtain ⟨g0, rfl, hc0⟩ := row_cells (fun y => (rfl : (scpC y).length = 4)) R0.out hy
        have x0 := hc0 wo HI.out.2 0 _ rfl
        have x1 := hc0 wo HI.out.2 1 _ rfl
        have x2 := hc0 wo HI.out.2 2 _ rfl
        have x3 := hc0 wo HI.out.2 3 _ rfl
        rw [Nat.add_zero] at x0
        have hil : (i : Int) < (sc.length : Int) := by omega
        have hw1 : IntKind.i64.wrap ((i : Int) + 1) = ((i + 1 : Nat) : Int) := by have := HM.out.1; rw [IntKind.wrap_i64]; omega
        obtain ⟨hp1, hp2⟩ := HF.out.par i y hy
        have hp3 := HF.out.pms i y hy
        have HPM : Hid ((slotsOf (vr.map pr) i).Perm (List.range y.vars)) := HF.out.slo i y hy
        have hyv : y.vars ≤ 2000000 := HM.out.2.2.2 y (List.mem_of_getElem? hy)
        obtain ⟨bz, hz1, hz2⟩ : ∃ bz, decide (y.parent < 0) = bz ∧ ((i : Int) == 0) = bz := by
          refine ⟨decide (y.parent < 0), rfl, ?_⟩
          by_cases q : i = 0
          · rw [decide_eq_true (hp2.2 q), q]; rfl
          · rw [decide_eq_false (fun k => q (hp2.1 k))]
            rw [beq_eq_false_iff_ne]
            omega
        have hp1' : decide ((i : Int) ≤ y.parent) = false := decide_eq_false (by omega)
        have hp3' : ¬ y.vars < y.params := by omega
        obtain ⟨wx, hwx⟩ : ∃ wx, wx = wo.alloc (.cells #[.int .i64 y.pl, .int .i64 y.parent, .int .i64 (y.params : Int), .int .i64 (y.vars : Int)] 42) := ⟨_, rfl⟩
        have hbx : Below wo.heap.size wo wx := by rw [hwx]; exact (Below.refl _ _).alloc (Nat.le_refl _) _
        have b1 : wx.cell? ⟨wo.heap.size, 1, none⟩ = some (.int .i64 y.parent) := by rw [hwx]; exact box_new wo _ _ 1 _ rfl
        have b2 : wx.cell? ⟨wo.heap.size, 2, none⟩ = some (.int .i64 (y.params : Int)) := by rw [hwx]; exact box_new wo _ _ 2 _ rfl
        have b3 : wx.cell? ⟨wo.heap.size, 3, none⟩ = some (.int .i64 (y.vars : Int)) := by rw [hwx]; exact box_new wo _ _ 3 _ rfl
        have HWX : Hid (Below w2.heap.size w2 wx ∧ wo.heap.size < wx.heap.size ∧ w2.heap.size ≤ wo.heap.size) := ⟨HI.out.2.trans (hbx.mono HI.out.2.size), by rw [hwx, size_new]; omega, HI.out.2.size⟩
        have HB3 : Hid (wx.cell? ⟨wo.heap.size, 3, none⟩ = some (.int .i64 (y.vars : Int))) := b3
        have hmk := run_make_row' (P := Try.prog) 43 4 (.bool false) 1 Try.underlying43 (by kernel_rfl) rfl .i64 .i64 y.vars (by omega) (by omega)
        have HQ : Hid (i < sc.length) := ci
        clear hc0 hy hp1 hp2 hp3 hbx ci HI
        go_upto_region 7 with fail
        rw [← hwx]
        clear hwx x0 x1 x2 x3
        go_upto_region 10 with fail
        obtain ⟨ws, hws⟩ : ∃ ws, ws = wx.alloc (.cells (madeCells #[.bool false] y.vars) 4) := ⟨_, rfl⟩
        rw [← hws]
        have hbs : Below wx.heap.size wx ws := by rw [hws]; exact (Below.refl _ _).alloc (Nat.le_refl _) _
        have hS : SnAt ws wx.heap.size (mkB vr i y.vars 0) ws := by
          refine ⟨Chg.refl _ _, ?_⟩
          rw [mk_zero, hws, at_new, made_rep]
          simp
        have HS : Hid (SnAt ws wx.heap.size (mkB vr i y.vars 0) ws) := hS
        have HWS : Hid (∀ W, Chg (fun b => b = wx.heap.size) ws W → Below w2.heap.size w2 W ∧ W.cell? ⟨wo.heap.size, 3, none⟩ = some (.int .i64 (y.vars : Int))) := fun W hc => by
          have h1 : Below w2.heap.size w2 ws := HWX.out.1.trans (hbs.mono HWX.out.1.size)
          refine ⟨hc.below h1 h1.size (fun k q => by have := HWX.out.2; omega), hc.cell (Sc.cells_below hbs _ _ HB3.out) (by show ¬ wo.heap.size = wx.heap.size; have := HWX.out.2.1; omega)⟩
        have u1 : ws.cell? ⟨w1.heap.size, 1, none⟩ = some (.slice p1 vr.length q1) := Sc.cells_below (HWS.out ws (Chg.refl _ _)).1 _ _ HT.out.2.1
        have HSL : Hid (wx.heap.size < ws.heap.size) := by show _ < _; rw [hws, size_new]; omega
        clear hws hbs hS hmk b1 b2 b3 hz1 hz2 hp1' hp3' HB3
        go_wp2_with fail
        go_loopw [70] (fun i2 wq => ∃ k : Nat, Hid (k ≤ vr.length ∧ SnAt ws wx.heap.size (mkB vr i y.vars k) wq) ∧ i2 = .int .i64 (k : Int)) (fun i2 wq => vr.length - (intOf i2).toNat)
        case atStart => exact ⟨0, ⟨Nat.zero_le _, HS.out⟩, rfl⟩
        case round =>
          clear HS u1
          obtain ⟨k, HI2, rfl⟩ := hrel
          rcases Nat.lt_or_ge k vr.length with ck | ck
          · obtain ⟨v, hv⟩ : ∃ v, vr[k]? = some v := ⟨_, List.getElem?_eq_getElem ck⟩
            obtain ⟨g1, rfl, hc1⟩ := row_cells (fun y => (rfl : (vrC y).length = 6)) R1.out hv
            have x0 := hc1 wr (HWS.out _ HI2.out.2.ch).1 0 _ rfl
            have x1 := hc1 wr (HWS.out _ HI2.out.2.ch).1 1 _ rfl
            have x2 := hc1 wr (HWS.out _ HI2.out.2.ch).1 2 _ rfl
            have x3 := hc1 wr (HWS.out _ HI2.out.2.ch).1 3 _ rfl
            have x4 := hc1 wr (HWS.out _ HI2.out.2.ch).1 4 _ rfl
            have x5 := hc1 wr (HWS.out _ HI2.out.2.ch).1 5 _ rfl
            rw [Nat.add_zero] at x0
            have hkl : (k : Int) < (vr.length : Int) := by omega
            have hw4 : IntKind.i64.wrap ((k : Int) + 1) = ((k + 1 : Nat) : Int) := by have := HM.out.2.1; rw [IntKind.wrap_i64]; omega
            obtain ⟨wv, hwv⟩ : ∃ wv, wv = wr.alloc (.cells #[.string v.name, .int .i64 v.pl, .int .i64 v.kind, .int .i64 (v.fn : Int), .int .i64 (v.slot : Int), .bool v.cap] 45) := ⟨_, rfl⟩
            have hbv : Below wr.heap.size wr wv := by rw [hwv]; exact (Below.refl _ _).alloc (Nat.le_refl _) _
            have c3 : wv.cell? ⟨wr.heap.size, 3, none⟩ = some (.int .i64 (v.fn : Int)) := by rw [hwv]; exact box_new _ _ _ 3 _ rfl
            have c4 : wv.cell? ⟨wr.heap.size, 4, none⟩ = some (.int .i64 (v.slot : Int)) := by rw [hwv]; exact box_new _ _ _ 4 _ rfl
            have HSV : Hid (SnAt ws wx.heap.size (mkB vr i y.vars k) wv) := HI2.out.2.below hbv
            have d3 := (HWS.out wv HSV.out.ch).2
            have HQ2 : Hid (k < vr.length) := ck
            clear hc1 hbv HI2 ck
            go_upto_region 13 with fail
            rw [← hwv]
            clear hwv x0 x1 x2 x3 x4 x5
            by_cases cf : v.fn = i
            · obtain ⟨hs1, hs2, hs3⟩ := mk_step hv cf HPM.out
              obtain ⟨e1, e2⟩ := HSV.out.read hs2
              have HN : Hid (SnAt ws wx.heap.size (mkB vr i y.vars (k + 1)) (wv.setCell ⟨wx.heap.size, v.slot, none⟩ (.bool true))) := by
                show SnAt _ _ _ _
                rw [hs3]
                exact HSV.out.put _ _
              have hcf : ((v.fn : Int) != (i : Int)) = false := by rw [cf]; simp
              have hv1 : ¬ (v.slot : Int) < 0 := by omega
              have hv2 : ¬ y.vars ≤ v.slot := by omega
              have hv3 : (v.slot : Int) < (y.vars : Int) := by omega
              have hv4 : (0 : Int) ≤ (v.slot : Int) := by omega
              clear hs2 hs3 HSV hv cf
              go_wp2_with fail
              refine ⟨⟨k + 1, ⟨HQ2.out, HN.out⟩, by go_num⟩, ?_⟩
              simp [intOf]
              have := HQ2.out
              omega
            · have hcf : ((v.fn : Int) != (i : Int)) = true := by
                rw [bne_iff_ne]
                omega
              have HN : Hid (SnAt ws wx.heap.size (mkB vr i y.vars (k + 1)) wv) := by
                show SnAt _ _ _ _
                rw [mk_skip hv cf]
                exact HSV.out
              clear HSV hv cf
              go_wp2_with fail
              refine ⟨⟨k + 1, ⟨HQ2.out, HN.out⟩, by go_num⟩, ?_⟩
              simp [intOf]
              have := HQ2.out
              omega
          · have hkl : ¬ (k : Int) < (vr.length : Int) := by omega
            have HAL3 : Hid (∀ j, j < y.vars → wr.cell? ⟨wx.heap.size, j, none⟩ = some (.bool true)) := fun j hj => (HI2.out.2.read (mk_end ck HPM.out hj)).1
            have HBE : Hid (Below w2.heap.size w2 wr) := (HWS.out wr HI2.out.2.ch).1
            clear HI2 HPM HWS HWX ck
            obtain ⟨wp, rfl⟩ : ∃ wp, wp = wr := ⟨_, rfl⟩
            go_wp2_with fail
            go_loopw [102] (fun i3 wz => ∃ k3 : Nat, Hid (k3 ≤ y.vars ∧ wz = wp) ∧ i3 = .int .i64 (k3 : Int)) (fun i3 wz => y.vars - (intOf i3).toNat)
            case atStart => exact ⟨0, ⟨Nat.zero_le _, rfl⟩, rfl⟩
            case round =>
              obtain ⟨k3, H3, rfl⟩ := hrel
              obtain rfl : wr = wp := H3.out.2
              rcases Nat.lt_or_ge k3 y.vars with c3 | c3
              · have z1 := HAL3.out k3 c3
                have z2 : (k3 : Int) < (y.vars : Int) := by omega
                have z3 : (0 : Int) ≤ (k3 : Int) := by omega
                have hw5 : IntKind.i64.wrap ((k3 : Int) + 1) = ((k3 + 1 : Nat) : Int) := by rw [IntKind.wrap_i64]; omega
                have HQ3 : Hid (k3 < y.vars) := c3
                clear c3 H3
                go_wp2_with fail
                refine ⟨⟨k3 + 1, ⟨HQ3.out, by first | trivial | rfl⟩, by go_num⟩, ?_⟩
                simp [intOf]
                have := HQ3.out
                omega
              · have z2 : ¬ (k3 : Int) < (y.vars : Int) := by omega
                clear H3
                go_wp2_with fail
                refine ⟨⟨i + 1, ⟨HQ.out, HBE.out⟩, by go_num⟩, ?_⟩
                simp [intOf]
                have := HQ.out
                omega
      · have hil : ¬ (i : Int) < (sc.length : Int) := by omega
        have HBO : Hid (Below w2.heap.size w2 wo) := HI.out.2
        have u2 := Sc.cells_below HI.out.2 _ _ HT.out.2.2
        clear HI ci R0 R1
        go_wp2_with fail
        go_loopw [115] (fun i4 wz => ∃ k4 : Nat, Hid (k4 ≤ us.length ∧ Below w2.heap.size w2 wz) ∧ i4 = .int .i64 (k4 : Int)) (fun i4 wz => us.length - (intOf i4).toNat)
        case atStart => exact ⟨0, ⟨Nat.zero_le _, HBO.out⟩, rfl⟩
        case round =>
          obtain ⟨k, HI2, rfl⟩ := hrel
          rcases Nat.lt_or_ge k us.length with ck | ck
          · obtain ⟨u, hu⟩ : ∃ u, us[k]? = some u := ⟨_, List.getElem?_eq_getElem ck⟩
            obtain ⟨g2, rfl, hc2⟩ := row_cells (fun y => (rfl : (usC y).length = 2)) R2.out hu
            have x0 := hc2 wr HI2.out.2 0 _ rfl
            have x1 := hc2 wr HI2.out.2 1 _ rfl
            rw [Nat.add_zero] at x0
            obtain ⟨hu1, hu2⟩ := HF.out.use u (List.mem_of_getElem? hu)
            have hkl : (k : Int) < (us.length : Int) := by omega
            have hw4 : IntKind.i64.wrap ((k : Int) + 1) = ((k + 1 : Nat) : Int) := by have := HM.out.2.2.1; rw [IntKind.wrap_i64]; omega
            obtain ⟨wv, hwv⟩ : ∃ wv, wv = wr.alloc (.cells #[.int .i64 u.pl, .int .i64 u.var] 47) := ⟨_, rfl⟩
            have hbv : Below wr.heap.size wr wv := by rw [hwv]; exact (Below.refl _ _).alloc (Nat.le_refl _) _
            have c1 : wv.cell? ⟨wr.heap.size, 1, none⟩ = some (.int .i64 u.var) := by rw [hwv]; exact box_new _ _ _ 1 _ rfl
            have HN : Hid (Below w2.heap.size w2 wv) := HI2.out.2.trans (hbv.mono HI2.out.2.size)
            have d1 := Sc.cells_below HN.out _ _ HT.out.2.1
            have hv1 : ¬ u.var < -1 := by omega
            have hv2 : ¬ (vr.length : Int) ≤ u.var := by omega
            have HQ2 : Hid (k < us.length) := ck
            clear hc2 hbv HI2 ck hu hu1 hu2
            go_upto_region 28 with fail
            rw [← hwv]
            clear hwv x0 x1
            go_wp2_with fail
            refine ⟨⟨k + 1, ⟨HQ2.out, HN.out⟩, by go_num⟩, ?_⟩
            simp [intOf]
            have := HQ2.out
            omega
          · have hkl : ¬ (k : Int) < (us.length : Int) := by omega
            have hal := alive_any wr
            have HBZ : Hid (Below w.heap.size w wr) := HB2.out.trans (HI2.out.2.mono HB2.out.size)
            clear HI2 ck
            go_wp2_with fail
            refine hal.mono ?_
            rintro e w9 ⟨rfl, hb9⟩
            have HB9 : Hid (Below w.heap.size w w9) := HBZ.out.trans (hb9.mono HBZ.out.size)
            clear hal hb9
            go_wp2_with fail
            go_ret
            exact ⟨rfl, HB9.out⟩
  · have hcc : (c != (0 : Int)) = true := by simpa using c0
    obtain ⟨rfl, rfl, rfl⟩ := hz c0
    have hal := alive_any w2
    clear hz c0 HF HM R0 R1 R2 HT
    go_wp2_with fail
    refine hal.mono ?_
    rintro e w3 ⟨rfl, hb3⟩
    have s0 := Sc.cells_below hb3 _ _ t0
    have s1 := Sc.cells_below hb3 _ _ t1
    have s2 := Sc.cells_below hb3 _ _ t2
    have HB3 : Hid (Below w.heap.size w w3) := HB2.out.trans (hb3.mono HB2.out.size)
    clear hal hb3 t0 t1 t2
    go_wp2_with fail
    go_ret
    exact ⟨rfl, HB3.out⟩
end Go.Proofs.Ytihmdcdifakepaa.Rv
