/- PropsWish: the law's walk. -/
import Derived.Test.YtahhionlbfhinaaGreatDoorB25
import Derived.Deep.QuietTactic
namespace Go.Proofs.YtahhionlbfhinaaGreatDoor.Hp
open Go.RowKit
set_option linter.unusedVariables false

set_option maxRecDepth 100000 in
set_option maxHeartbeats 4000000 in
theorem pwish_walk (w : World) (hF : FpAt w) (d : De) (there : Bool) (u : Ws) (hu : u.ok) :
    Calls Tryz.prog 4 #[deV d, .bool there, wsV u] w fun e w' => e = .returned (.bool true) ∧ Below w.heap.size w w' := by
  obtain ⟨wb, hwb⟩ : ∃ wb, wb = (w.alloc (.cells #[.int .u64 d.va, .int .u64 d.se, .int .i64 d.fl] 41)).alloc (.cells #[.int .i64 u.has, .int .u64 u.va, .int .u64 u.ge, .int .u64 u.se, .int .i64 u.fl] 35) := ⟨_, rfl⟩
  have hbd : Bx3 wb w.heap.size d := by rw [hwb]; exact at_old _ _ _ _ (at_new _ _)
  have hbu : Bx5 wb (w.heap.size + 1) u := by rw [hwb]; exact at_two w _ _
  have hB : Below w.heap.size w wb := by rw [hwb]; exact B2 w _ _
  have HBX : Hid (∀ W, Below wb.heap.size wb W → Bx3 W w.heap.size d ∧ Bx5 W (w.heap.size + 1) u ∧ FpAt W ∧ Below w.heap.size w W) := fun W q => ⟨hbd.below q, hbu.below q, (hF.below hB).below q, hB.trans (q.mono hB.size)⟩
  have HU : Hid u.ok := hu
  have kn := new_any wb 9
  unfold deV wsV
  clear hF hu hbd hbu hB
  go_enter Tryz.func4, Tryz.ntmps4
  go_upto_region 1 with fail
  rw [← hwb]
  clear hwb
  go_wp2_with fail
  refine kn.mono ?_
  rintro e w1 ⟨hb, O, rfl, ⟨tg, M, h, hO⟩, hB1⟩
  have HB1 : Hid (Below wb.heap.size wb w1) := hB1
  have HH1 : Hid (HeapAt w1 wb.heap.size hb tg (He.new 9) M) := h
  have ka := palive_any w1 (HBX.out w1 hB1).2.2.1
  clear kn h hO hB1
  go_wp2_with fail
  refine ka.mono ?_
  rintro e w2 ⟨rfl, hB2⟩
  have HH2 : Hid (HeapAt w2 wb.heap.size hb tg (He.new 9) M) := HH1.out.below hB2
  have HB2 : Hid (Below wb.heap.size wb w2) := bel_sm HB1.out hB2
  have km := make_hit HH2.out 0 nulW (by omega) (by omega) (by decide) (by decide) (by unfold mayB; simp) (by decide)
  rw [mkP1, show objW ((He.new 9).obs.length : Int) = objW 0 from rfl] at km
  unfold nulW at km
  clear ka hB2 HB1 HH1
  go_wp2_with fail
  refine km.mono ?_
  rintro e w3 ⟨rfl, M3, tg3, h3, c3, n3⟩
  have HB3 : Hid (Below wb.heap.size wb w3) := c3.below HB2.out HB2.out.size (fun b q => (HH2.out.lt b q).1)
  have HH3 : Hid (HeapAt w3 wb.heap.size hb tg3 HP1 M3) := h3
  have kr := rmake_null (StAt.nil w3 wb.heap.size) HB3.out.size .nil 0 (by omega) (by omega) (by decide)
  rw [show objW (([] : List So).length : Int) = objW 0 from rfl, List.nil_append, show stV .nil .nil = .agg #[.slice none 0 0, .slice none 0 0] from rfl] at kr
  unfold stV at kr
  clear km h3 c3 n3 HH2 HB2
  go_wp2_with fail
  refine kr.mono ?_
  rintro e w4 ⟨vo, rfl, hs4⟩
  have HA : Hid (ApE wb (w4.alloc (.cells #[vo.val, SV.nil.val] 28)) hb w4.heap.size HP1 [newS 0 18445336698825998337] vo .nil) := ApE.start0 HH3.out HB3.out hs4 .nil
  obtain ⟨va, vl, vc⟩ := vo
  rw [show SV.nil.val = .slice none 0 0 from rfl, show (SV.mk va vl vc).val = .slice va vl vc from rfl] at HA
  rw [show SV.nil.val = .slice none 0 0 from rfl, show (SV.mk va vl vc).val = .slice va vl vc from rfl]
  generalize hvo : SV.mk va vl vc = vo at *
  have HVV : Hid (vo.val = .slice va vl vc) := by rw [← hvo]; rfl
  clear kr hs4 HH3 HB3 hvo
  generalize hx0 : newS 0 18445336698825998337 = x0 at *
  have HS0 : Hid (Sam HP1 x0 keyK oA0 0) := by rw [← hx0]; exact sam0
  clear hx0
  go_upto_region 6 with fail
  generalize hwq : w4.alloc (.cells #[.slice va vl vc, .slice none 0 0] 28) = w5 at *
  generalize w4.heap.size = bs at *
  clear hwq
  cases there with
  | false =>
    have HS : Hid (Sam HP1 x0 keyK oA0 0) := HS0.out
    clear HS0
    have kd := def_e HA.out (HBX.out w5 HA.out.box.2).2.2.1 HS.out (by omega) u HU.out
    unfold wsV keyK at kd
    obtain ⟨y0, y1, y2, y3, y4⟩ := (HBX.out w5 HA.out.box.2).2.1.ce
    generalize hbo : (rdefS x0 keyK u).1 = bo at *
    have HBO : Hid ((rdefS x0 keyK u).1 = bo) := hbo
    clear hbo
    rw [show (rdefS x0 { data := #[107] } u).1 = bo from HBO.out] at kd
    go_wp2_with fail
    refine kd.mono ?_
    rintro e w8 ⟨rfl, hA8⟩
    have HA8 : Hid (ApE wb w8 hb bs (defP HP1 (objW 0) keyK u).2 [x0] vo .nil) := hA8
    obtain ⟨y0, y1, y2, y3, y4⟩ := (HBX.out w8 HA8.out.box.2).2.1.ce
    obtain ⟨b0, b1⟩ := HA8.out.box.1.ce
    obtain ⟨f0, f1⟩ := HA8.out.box.1.fz
    rw [HVV.out] at b0
    rw [show SV.nil.val = .slice none 0 0 from rfl] at b1
    have kr := rdef_e HA8.out HS.out.xk HS.out.len u
    rw [HBO.out] at kr
    unfold stV wsV keyK at kr
    rw [HVV.out, show SV.nil.val = .slice none 0 0 from rfl] at kr
    clear kd hA8 HA
    go_wp2_with fail
    refine kr.mono ?_
    rintro e w9 ⟨rfl, hA9⟩
    have HA9 : Hid (ApE wb w9 hb bs (defP HP1 (objW 0) keyK u).2 [(rdefS x0 keyK u).2] vo .nil) := hA9
    have HAX : Hid (ApE wb ((w9.setCell ⟨bs, 0, none⟩ (.slice va vl vc)).setCell ⟨bs, 1, none⟩ (.slice none 0 0)) hb bs (defP HP1 (objW 0) keyK u).2 [(rdefS x0 keyK u).2] vo .nil) := by
      have q := HA9.out.set
      rw [HVV.out, show SV.nil.val = .slice none 0 0 from rfl] at q
      exact q
    obtain ⟨b0, b1⟩ := HA9.out.box.1.ce
    obtain ⟨f0, f1⟩ := HA9.out.box.1.fz
    rw [HVV.out] at b0
    rw [show SV.nil.val = .slice none 0 0 from rfl] at b1
    obtain ⟨ob', hs'⟩ := (HS.out.def u).2
    have HS2 : Hid (Sam (defP HP1 (objW 0) keyK u).2 (rdefS x0 keyK u).2 keyK ob' (0 + 1)) := hs'
    generalize hH2 : (defP HP1 (objW 0) keyK u).2 = H2 at *
    generalize hx2 : (rdefS x0 keyK u).2 = x2 at *
    clear kr hA9 HA8 HS y0 y1 y2 y3 y4 hs' hH2 hx2 HBO
    go_upto_region 11 with fail
    generalize hwa : ((w9.setCell ⟨bs, 0, none⟩ (.slice va vl vc)).setCell ⟨bs, 1, none⟩ (.slice none 0 0)) = wa at *
    clear hwa HA9 b0 b1 f0 f1
    have ko := own_e HAX.out HS2.out
    have kq : ∀ W, Below wa.heap.size wa W → Calls Tryz.prog 19 #[stV vo .nil, .int .u64 (objW 0), .string keyK] W fun e w' => e = .returned (.tuple #[deV ((getS x2 keyK).getD zDe), .bool (getS x2 keyK).isSome]) ∧ Below W.heap.size W w' := fun W q => rown_e (HAX.out.below q) HS2.out.xk
    generalize (getS x2 keyK).getD zDe = D at *
    generalize (getS x2 keyK).isSome = bi at *
    obtain ⟨dv, ds, df⟩ := D
    unfold stV deV keyK at kq
    unfold deV keyK at ko
    rw [HVV.out, show SV.nil.val = .slice none 0 0 from rfl] at kq
    simp only at ko kq
    have HQ := (show Hid _ from kq)
    clear kq
    go_wp2_with fail
    refine ko.mono ?_
    rintro e wo ⟨rfl, hBo⟩
    have hal : Below wo.heap.size wo (wo.alloc (.cells #[.int .u64 dv, .int .u64 ds, .int .i64 df] 41)) := (Below.refl _ _).alloc (Nat.le_refl _) _
    have HB1 : Hid (Bx3 (wo.alloc (.cells #[.int .u64 dv, .int .u64 ds, .int .i64 df] 41)) wo.heap.size ⟨dv, ds, df⟩) := Bx3.box wo ⟨dv, ds, df⟩
    have HBA : Hid (Below wa.heap.size wa (wo.alloc (.cells #[.int .u64 dv, .int .u64 ds, .int .i64 df] 41))) := bel_sm hBo hal
    clear ko hal hBo
    go_upto_region 12 with fail
    generalize hwc : wo.alloc (.cells #[.int .u64 dv, .int .u64 ds, .int .i64 df] 41) = wc at *
    generalize wo.heap.size = ba at *
    clear hwc
    obtain ⟨b0, b1⟩ := (HAX.out.below HBA.out).box.1.ce
    rw [HVV.out] at b0
    rw [show SV.nil.val = .slice none 0 0 from rfl] at b1
    have kq := HQ.out wc HBA.out
    clear HQ
    go_wp2_with fail
    refine kq.mono ?_
    rintro e wd ⟨rfl, hBd⟩
    have hal : Below wd.heap.size wd (wd.alloc (.cells #[.int .u64 dv, .int .u64 ds, .int .i64 df] 41)) := (Below.refl _ _).alloc (Nat.le_refl _) _
    have HBE : Hid (Below wa.heap.size wa (wd.alloc (.cells #[.int .u64 dv, .int .u64 ds, .int .i64 df] 41))) := bel_sm (bel_sm HBA.out hBd) hal
    have HB2 : Hid (Bx3 (wd.alloc (.cells #[.int .u64 dv, .int .u64 ds, .int .i64 df] 41)) ba ⟨dv, ds, df⟩) := (HB1.out.below hBd).below hal
    have HB3 : Hid (Bx3 (wd.alloc (.cells #[.int .u64 dv, .int .u64 ds, .int .i64 df] 41)) wd.heap.size ⟨dv, ds, df⟩) := Bx3.box wd ⟨dv, ds, df⟩
    clear kq hal hBd b0 b1 HB1 HBA
    go_upto_region 13 with fail
    generalize hwf : wd.alloc (.cells #[.int .u64 dv, .int .u64 ds, .int .i64 df] 41) = wf at *
    generalize wd.heap.size = bb at *
    clear hwf
    obtain ⟨p0, p1, p2⟩ := HB2.out.ce
    obtain ⟨q0, q1, q2⟩ := HB3.out.ce
    have e1 : (bo == bo) = true := by simp
    have e2 : (bi == bi) = true := by simp
    have e3 : (dv == dv) = true := by simp
    have e4 : (ds == ds) = true := by simp
    have e5 : (df == df) = true := by simp
    have HEND : Hid (Below w.heap.size w wf) := (HBX.out wf (bel_sm HAX.out.box.2 HBE.out)).2.2.2
    clear HBX HAX HBE HB2 HB3 HS2 HVV
    go_wp2_with fail
    go_ret
    exact ⟨rfl, ⟨HEND.out.os, HEND.out.tape, HEND.out.output, HEND.out.size, HEND.out.block⟩⟩
  | true =>
    have kp := put_e HA.out HS0.out (by omega) d
    unfold deV keyK at kp
    obtain ⟨t0, t1, t2⟩ := (HBX.out w5 HA.out.box.2).1.ce
    go_wp2_with fail
    refine kp.mono ?_
    rintro e w6 ⟨rfl, hA6⟩
    have HA6 : Hid (ApE wb w6 hb bs (putH HP1 0 oA0 keyK d) [x0] vo .nil) := hA6
    obtain ⟨t0, t1, t2⟩ := (HBX.out w6 HA6.out.box.2).1.ce
    obtain ⟨b0, b1⟩ := HA6.out.box.1.ce
    rw [HVV.out] at b0
    rw [show SV.nil.val = .slice none 0 0 from rfl] at b1
    have kr := rput_e HA6.out HS0.out.len d
    unfold stV deV keyK at kr
    rw [HVV.out, show SV.nil.val = .slice none 0 0 from rfl] at kr
    clear kp hA6 HA
    go_wp2_with fail
    refine kr.mono ?_
    rintro e w7 ⟨rfl, hA7⟩
    have HA7 : Hid (ApE wb w7 hb bs (putH HP1 0 oA0 keyK d) [putS x0 keyK d] vo .nil) := hA7
    have HA : Hid (ApE wb ((w7.setCell ⟨bs, 0, none⟩ (.slice va vl vc)).setCell ⟨bs, 1, none⟩ (.slice none 0 0)) hb bs (putH HP1 0 oA0 keyK d) [putS x0 keyK d] vo .nil) := by
      have q := HA7.out.set
      rw [HVV.out, show SV.nil.val = .slice none 0 0 from rfl] at q
      exact q
    obtain ⟨b0, b1⟩ := HA7.out.box.1.ce
    obtain ⟨f0, f1⟩ := HA7.out.box.1.fz
    rw [HVV.out] at b0
    rw [show SV.nil.val = .slice none 0 0 from rfl] at b1
    obtain ⟨ob1, hs'⟩ := HS0.out.put d
    have HS : Hid (Sam (putH HP1 0 oA0 keyK d) (putS x0 keyK d) keyK ob1 1) := hs'
    generalize hH1 : putH HP1 0 oA0 keyK d = H1 at *
    generalize hx1 : putS x0 keyK d = x1 at *
    clear kr hA7 HS0 t0 t1 t2 hs' hH1 hx1
    go_upto_region 9 with fail
    generalize hwg : ((w7.setCell ⟨bs, 0, none⟩ (.slice va vl vc)).setCell ⟨bs, 1, none⟩ (.slice none 0 0)) = wg at *
    clear hwg HA7 b0 b1 f0 f1
    have kd := def_e HA.out (HBX.out wg HA.out.box.2).2.2.1 HS.out (by omega) u HU.out
    unfold wsV keyK at kd
    obtain ⟨y0, y1, y2, y3, y4⟩ := (HBX.out wg HA.out.box.2).2.1.ce
    generalize hbo : (rdefS x1 keyK u).1 = bo at *
    have HBO : Hid ((rdefS x1 keyK u).1 = bo) := hbo
    clear hbo
    rw [show (rdefS x1 { data := #[107] } u).1 = bo from HBO.out] at kd
    go_wp2_with fail
    refine kd.mono ?_
    rintro e w8 ⟨rfl, hA8⟩
    have HA8 : Hid (ApE wb w8 hb bs (defP H1 (objW 0) keyK u).2 [x1] vo .nil) := hA8
    obtain ⟨y0, y1, y2, y3, y4⟩ := (HBX.out w8 HA8.out.box.2).2.1.ce
    obtain ⟨b0, b1⟩ := HA8.out.box.1.ce
    obtain ⟨f0, f1⟩ := HA8.out.box.1.fz
    rw [HVV.out] at b0
    rw [show SV.nil.val = .slice none 0 0 from rfl] at b1
    have kr := rdef_e HA8.out HS.out.xk HS.out.len u
    rw [HBO.out] at kr
    unfold stV wsV keyK at kr
    rw [HVV.out, show SV.nil.val = .slice none 0 0 from rfl] at kr
    clear kd hA8 HA
    go_wp2_with fail
    refine kr.mono ?_
    rintro e w9 ⟨rfl, hA9⟩
    have HA9 : Hid (ApE wb w9 hb bs (defP H1 (objW 0) keyK u).2 [(rdefS x1 keyK u).2] vo .nil) := hA9
    have HAX : Hid (ApE wb ((w9.setCell ⟨bs, 0, none⟩ (.slice va vl vc)).setCell ⟨bs, 1, none⟩ (.slice none 0 0)) hb bs (defP H1 (objW 0) keyK u).2 [(rdefS x1 keyK u).2] vo .nil) := by
      have q := HA9.out.set
      rw [HVV.out, show SV.nil.val = .slice none 0 0 from rfl] at q
      exact q
    obtain ⟨b0, b1⟩ := HA9.out.box.1.ce
    obtain ⟨f0, f1⟩ := HA9.out.box.1.fz
    rw [HVV.out] at b0
    rw [show SV.nil.val = .slice none 0 0 from rfl] at b1
    obtain ⟨ob', hs'⟩ := (HS.out.def u).2
    have HS2 : Hid (Sam (defP H1 (objW 0) keyK u).2 (rdefS x1 keyK u).2 keyK ob' (1 + 1)) := hs'
    generalize hH2 : (defP H1 (objW 0) keyK u).2 = H2 at *
    generalize hx2 : (rdefS x1 keyK u).2 = x2 at *
    clear kr hA9 HA8 HS y0 y1 y2 y3 y4 hs' hH2 hx2 HBO
    go_upto_region 11 with fail
    generalize hwa : ((w9.setCell ⟨bs, 0, none⟩ (.slice va vl vc)).setCell ⟨bs, 1, none⟩ (.slice none 0 0)) = wa at *
    clear hwa HA9 b0 b1 f0 f1
    have ko := own_e HAX.out HS2.out
    have kq : ∀ W, Below wa.heap.size wa W → Calls Tryz.prog 19 #[stV vo .nil, .int .u64 (objW 0), .string keyK] W fun e w' => e = .returned (.tuple #[deV ((getS x2 keyK).getD zDe), .bool (getS x2 keyK).isSome]) ∧ Below W.heap.size W w' := fun W q => rown_e (HAX.out.below q) HS2.out.xk
    generalize (getS x2 keyK).getD zDe = D at *
    generalize (getS x2 keyK).isSome = bi at *
    obtain ⟨dv, ds, df⟩ := D
    unfold stV deV keyK at kq
    unfold deV keyK at ko
    rw [HVV.out, show SV.nil.val = .slice none 0 0 from rfl] at kq
    simp only at ko kq
    have HQ := (show Hid _ from kq)
    clear kq
    go_wp2_with fail
    refine ko.mono ?_
    rintro e wo ⟨rfl, hBo⟩
    have hal : Below wo.heap.size wo (wo.alloc (.cells #[.int .u64 dv, .int .u64 ds, .int .i64 df] 41)) := (Below.refl _ _).alloc (Nat.le_refl _) _
    have HB1 : Hid (Bx3 (wo.alloc (.cells #[.int .u64 dv, .int .u64 ds, .int .i64 df] 41)) wo.heap.size ⟨dv, ds, df⟩) := Bx3.box wo ⟨dv, ds, df⟩
    have HBA : Hid (Below wa.heap.size wa (wo.alloc (.cells #[.int .u64 dv, .int .u64 ds, .int .i64 df] 41))) := bel_sm hBo hal
    clear ko hal hBo
    go_upto_region 12 with fail
    generalize hwc : wo.alloc (.cells #[.int .u64 dv, .int .u64 ds, .int .i64 df] 41) = wc at *
    generalize wo.heap.size = ba at *
    clear hwc
    obtain ⟨b0, b1⟩ := (HAX.out.below HBA.out).box.1.ce
    rw [HVV.out] at b0
    rw [show SV.nil.val = .slice none 0 0 from rfl] at b1
    have kq := HQ.out wc HBA.out
    clear HQ
    go_wp2_with fail
    refine kq.mono ?_
    rintro e wd ⟨rfl, hBd⟩
    have hal : Below wd.heap.size wd (wd.alloc (.cells #[.int .u64 dv, .int .u64 ds, .int .i64 df] 41)) := (Below.refl _ _).alloc (Nat.le_refl _) _
    have HBE : Hid (Below wa.heap.size wa (wd.alloc (.cells #[.int .u64 dv, .int .u64 ds, .int .i64 df] 41))) := bel_sm (bel_sm HBA.out hBd) hal
    have HB2 : Hid (Bx3 (wd.alloc (.cells #[.int .u64 dv, .int .u64 ds, .int .i64 df] 41)) ba ⟨dv, ds, df⟩) := (HB1.out.below hBd).below hal
    have HB3 : Hid (Bx3 (wd.alloc (.cells #[.int .u64 dv, .int .u64 ds, .int .i64 df] 41)) wd.heap.size ⟨dv, ds, df⟩) := Bx3.box wd ⟨dv, ds, df⟩
    clear kq hal hBd b0 b1 HB1 HBA
    go_upto_region 13 with fail
    generalize hwf : wd.alloc (.cells #[.int .u64 dv, .int .u64 ds, .int .i64 df] 41) = wf at *
    generalize wd.heap.size = bb at *
    clear hwf
    obtain ⟨p0, p1, p2⟩ := HB2.out.ce
    obtain ⟨q0, q1, q2⟩ := HB3.out.ce
    have e1 : (bo == bo) = true := by simp
    have e2 : (bi == bi) = true := by simp
    have e3 : (dv == dv) = true := by simp
    have e4 : (ds == ds) = true := by simp
    have e5 : (df == df) = true := by simp
    have HEND : Hid (Below w.heap.size w wf) := (HBX.out wf (bel_sm HAX.out.box.2 HBE.out)).2.2.2
    clear HBX HAX HBE HB2 HB3 HS2 HVV
    go_wp2_with fail
    go_ret
    exact ⟨rfl, ⟨HEND.out.os, HEND.out.tape, HEND.out.output, HEND.out.size, HEND.out.block⟩⟩

end Go.Proofs.YtahhionlbfhinaaGreatDoor.Hp
