/- UY, WA, WB -/
import Derived.Test.YtkpdpdllbnihgaaGreatB41
import Derived.Deep.QuietTactic
import Derived.Test.YtkpdpdllbnihgaaGreatB39
import Derived.Test.YtkpdpdllbnihgaaGreatB35
set_option linter.unusedVariables false
set_option linter.unusedSimpArgs false
set_option maxRecDepth 100000
set_option maxHeartbeats 40000000
/- law.stands: the heap tells what the document's store has. -/
namespace Go.Proofs.YtkpdpdllbnihgaaGreat.Hp
open Go.RowKit
section
variable {w0 w W : World} {X : Nat → Prop} {hb : Nat} {H : He} {S : List So} {vo vt : SV} {ts : List ByteArray} {n : Nat} {i : Nat} {x : So}
set_option maxRecDepth 100000 in
set_option maxHeartbeats 8000000 in
theorem told_any (h : TwoE w0 w X hb H S vo vt ts) (hO : Ord H S ts n) (hL : H.L.length ≤ 256) :
    Calls Tryz.prog 9 #[.pointer (some ⟨hb, 0, none⟩), stV vo vt] w fun e w' => e = .returned (.bool true) ∧ Below w.heap.size w w' := by
  obtain ⟨oa, ol, oc⟩ := vo
  obtain ⟨ta, tl, tc⟩ := vt
  obtain ⟨wb, hwb⟩ : ∃ wb, wb = w.alloc (.cells #[.slice oa ol oc, .slice ta tl tc] 28) := ⟨_, rfl⟩
  have hB : Below w.heap.size w wb := by rw [hwb]; exact (Below.refl _ _).alloc (Nat.le_refl _) _
  have hbx : BxS wb w.heap.size ⟨oa, ol, oc⟩ ⟨ta, tl, tc⟩ := by rw [hwb]; exact BxS.new w ⟨oa, ol, oc⟩ ⟨ta, tl, tc⟩
  have h2 := h.below hB
  have HT : Hid (∀ W, Below wb.heap.size wb W → TwoE w0 W X hb H S ⟨oa, ol, oc⟩ ⟨ta, tl, tc⟩ ts ∧ (W.cell? ⟨w.heap.size, 0, none⟩ = some (.slice oa ol oc) ∧ W.cell? ⟨w.heap.size, 1, none⟩ = some (.slice ta tl tc)) ∧ Below w.heap.size w W) := fun W q => ⟨h2.below q, (hbx.below q).ce, hB.trans (q.mono hB.size)⟩
  have HO : Hid (Ord H S ts n) := hO
  have HV : Hid (∀ i x, S[i]? = some x → ∃ g cap, Value.slice oa ol oc = .slice (some ⟨g, 0, none⟩) S.length cap) := fun i x hi => by
    obtain ⟨g, cap, _, _, _, _, _, _, _, _, hv, _⟩ := h.row hi
    exact ⟨g, cap, hv⟩
  have hol : ol = S.length ∧ tl = ts.length ∧ S.length ≤ 65536 ∧ ts.length ≤ 16384 := by
    have h' := h
    obtain ⟨tgH, tgS, M, qs, h⟩ := h
    obtain ⟨ad, cap, hv, _, _⟩ := h.st.vol
    obtain ⟨e1, _⟩ := RowIn.open rtStr.len (O := fun _ => True) ⟨h.tx, fun _ _ => trivial⟩
    injection hv with a b c
    exact ⟨b, e1, h.st.big, (hO.wfs h'.wf).2.2⟩
  obtain ⟨rfl, rfl, hS, hT⟩ := hol
  have HTX : Hid (∀ W, Below wb.heap.size wb W → Sli.ok strC 1 W ⟨ta, tc, ts⟩) := fun W q => by
    obtain ⟨tgH, tgS, M, qs, h3⟩ := h2.below q
    obtain ⟨⟨sa, sc, sx⟩, ev, ex, hks, _⟩ := h3.tx.sl rtStr.len
    simp only at ex
    subst ex
    unfold Sli.val SV.val at ev
    simp only at ev
    injection ev with u1 u2 u3
    rw [u1, u3]
    exact hks
  have hsl : (S.length : Int) ≤ 65536 := by omega
  have htl : (ts.length : Int) ≤ 16384 := by omega
  have kob := fun W (q : Below wb.heap.size wb W) => objects_e (h2.below q) hO
  have ksh := fun W (q : Below wb.heap.size wb W) => shapes_e (h2.below q)
  have ko : ∀ m, Calls Tryz.prog 24 #[.pointer (some ⟨hb, 0, none⟩)] (wb.drewN m) fun e w' => e = .returned (.int .i64 (S.length : Int)) ∧ w' = wb.drewN m := fun m => kob _ (Go.below_drewN (Below.refl _ _) m)
  have ks : ∀ m, Calls Tryz.prog 43 #[.pointer (some ⟨hb, 0, none⟩)] (wb.drewN m) fun e w' => e = .returned (.int .i64 (H.L.length : Int)) ∧ w' = wb.drewN m := fun m => ksh _ (Go.below_drewN (Below.refl _ _) m)
  have hLd : decide ((256 : Int) < (H.L.length : Int)) = false := decide_eq_false (by omega)
  obtain ⟨ce0, ce1⟩ := hbx.ce
  rw [show (SV.mk oa S.length oc).val = .slice oa S.length oc from rfl] at ce0
  rw [show (SV.mk ta ts.length tc).val = .slice ta ts.length tc from rfl] at ce1
  unfold stV
  rw [show (SV.mk oa S.length oc).val = .slice oa S.length oc from rfl, show (SV.mk ta ts.length tc).val = .slice ta ts.length tc from rfl]
  generalize H.L.length = ll at *
  clear h hO hL h2 hB hbx kob ksh hS hT
  go_enter Tryz.func9, Tryz.ntmps9
  go_upto_region 1 with fail
  rw [← hwb]
  clear hwb
  go_quiet (first | (go_at_call 24; refine Calls.quiet_of_same (ko _)) | (go_at_call 43; refine Calls.quiet_of_same (ks _)))
  have HB1 : Hid (Below wb.heap.size wb (wb.drewN nq)) := Go.below_drewN (Below.refl _ _) nq
  obtain ⟨_, ⟨ce0, ce1⟩, _⟩ := HT.out _ HB1.out
  clear ko ks
  generalize wb.drewN nq = w1 at *
  go_wp2_with fail
  go_loopw [38] (fun p wr => ∃ i : Nat, i ≤ S.length ∧ Hid (Below wb.heap.size wb wr) ∧ p = .int .i64 (i : Int)) (fun p wr => ((S.length : Int) - intOf p).toNat)
  case atStart => exact ⟨0, Nat.zero_le _, HB1, rfl⟩
  case round =>
    clear HB1 ce0 ce1
    obtain ⟨i, hi, HBr, rfl⟩ := hrel
    obtain ⟨hTr, ⟨ce0, ce1⟩, _⟩ := HT.out _ HBr.out
    by_cases c : i < S.length
    · obtain ⟨x, hx⟩ : ∃ x, S[i]? = some x := ⟨_, List.getElem?_eq_getElem c⟩
      obtain ⟨g, cap, a1, c1, a2, c2, a3, c3, a4, c4, hv, _, hsm, ⟨d0, d1, d2, d3, d4, d5, d6⟩, k1, k2, k4⟩ := hTr.row hx
      have hv : Value.slice oa S.length oc = .slice (some ⟨g, 0, none⟩) S.length cap := hv
      rw [hv] at ce0
      clear hv
      have hii : (i : Int) < (S.length : Int) := by omega
      obtain ⟨w2, hw2⟩ : ∃ w2, w2 = wr.alloc (.cells #[.int .i64 x.kind, .int .u64 x.proto, .bool x.shut, .slice a1 x.nm.length c1, .slice a2 x.nm.length c2, .slice a3 x.el.length c3, .slice a4 x.inn.length c4] 45) := ⟨_, rfl⟩
      have hb2 : Below wr.heap.size wr w2 := by rw [hw2]; exact (Below.refl _ _).alloc (Nat.le_refl _) _
      have hx2 : w2.heap[wr.heap.size]? = some (.cells #[.int .i64 x.kind, .int .u64 x.proto, .bool x.shut, .slice a1 x.nm.length c1, .slice a2 x.nm.length c2, .slice a3 x.el.length c3, .slice a4 x.inn.length c4] 45 (0, 0)) := by rw [hw2]; exact at_new _ _
      obtain ⟨bo, hbo⟩ : ∃ bo, bo = wr.heap.size := ⟨_, rfl⟩
      rw [← hbo] at hx2
      have HR : Hid (∀ W, Below w2.heap.size w2 W → Below wb.heap.size wb W ∧ (W.cell? ⟨bo, 0, none⟩ = some (.int .i64 x.kind) ∧ W.cell? ⟨bo, 1, none⟩ = some (.int .u64 x.proto) ∧ W.cell? ⟨bo, 2, none⟩ = some (.bool x.shut) ∧ W.cell? ⟨bo, 3, none⟩ = some (.slice a1 x.nm.length c1) ∧ W.cell? ⟨bo, 4, none⟩ = some (.slice a2 x.nm.length c2) ∧ W.cell? ⟨bo, 5, none⟩ = some (.slice a3 x.el.length c3) ∧ W.cell? ⟨bo, 6, none⟩ = some (.slice a4 x.inn.length c4)) ∧ Sli.ok strC 1 W ⟨a1, c1, x.nm⟩ ∧ Sli.ok deC 3 W ⟨a2, c2, x.ds⟩ ∧ Sli.ok wC 1 W ⟨a4, c4, x.inn⟩) := fun W q => by
        have hc : ∀ j, W.cell? ⟨bo, j, none⟩ = _ := fun j => cell_of_row W bo j _ _ (0, 0) ((q.block bo (Array.getElem?_eq_some_iff.1 hx2).1).trans hx2)
        have hbr : Below wr.heap.size wr W := bel_sm hb2 q
        exact ⟨bel_sm HBr.out hbr, ⟨hc 0, hc 1, hc 2, hc 3, hc 4, hc 5, hc 6⟩, k1.kept (cells_below hbr), k2.kept (cells_below hbr), k4.kept (cells_below hbr)⟩
      have hwr : IntKind.u64.wrap (i : Int) = (i : Int) := by rw [IntKind.wrap_u64]; omega
      have hwo : IntKind.u64.wrap (18445055223849287680 + (i : Int)) = objW (i : Int) := by rw [IntKind.wrap_u64]; unfold objW; omega
      have HX : Hid (S[i]? = some x ∧ x.ds.length = x.nm.length) := ⟨hx, hsm⟩
      have KT : Hid (∀ W, Below w2.heap.size w2 W → TwoE w0 W X hb H S ⟨oa, S.length, oc⟩ ⟨ta, ts.length, tc⟩ ts) := fun W q => (HT.out W (HR.out W q).1).1
      have kkd := okind_e (KT.out w2 (Below.refl _ _)) HO.out hx
      have kky := okeys_e (KT.out w2 (Below.refl _ _)) HO.out hx
      have hsh : ((!x.shut) == x.shut) = false := by cases x.shut <;> rfl
      clear hTr HBr hx hsm k1 k2 k4 hb2 hx2
      go_upto_region 8 with fail
      rw [← hw2, ← hbo]
      clear hw2 hbo d0 d1 d2 d3 d4 d5 d6
      go_wp2_with fail
      refine kkd.mono ?_
      rintro e w3 ⟨rfl, rfl⟩
      clear kkd
      go_wp2_with fail
      refine kky.mono ?_
      rintro e w3' ⟨s2, rfl, hown, hb3⟩
      obtain ⟨⟨sa, sc, sx⟩, ev, ex, hks, _⟩ := hown.sl rtStr.len
      simp only at ex
      subst ex
      rw [ev]
      unfold Sli.val
      simp only
      have HB3 : Hid (∀ W, Below w3'.heap.size w3' W → Below w3.heap.size w3 W ∧ Sli.ok strC 1 W ⟨sa, sc, x.nm⟩) := fun W q => ⟨bel_sm hb3 q, hks.kept (cells_below q)⟩
      clear kky hown hb3 hks ev
      have HD : Hid (Below w3'.heap.size w3' w3'.drew) := (Below.refl _ _).drew
      have kpr := oproto_e (KT.out _ (HB3.out _ HD.out).1) HO.out HX.out.1
      have kop := oopen_e (KT.out _ (HB3.out _ HD.out).1) HO.out HX.out.1
      have kln := olen_e (KT.out _ (HB3.out _ HD.out).1) HO.out HX.out.1
      have kin := oinner_e (KT.out _ (HB3.out _ HD.out).1) HO.out HX.out.1
      go_upto_region 10 with fail
      first
      | (go_region_held_law (fun W => W.cell? ⟨bo, 0, none⟩ = some (.int .i64 x.kind) ∧ W.cell? ⟨bo, 1, none⟩ = some (.int .u64 x.proto) ∧ W.cell? ⟨bo, 2, none⟩ = some (.bool x.shut) ∧ W.cell? ⟨bo, 3, none⟩ = some (.slice a1 x.nm.length c1) ∧ W.cell? ⟨bo, 4, none⟩ = some (.slice a2 x.nm.length c2) ∧ W.cell? ⟨bo, 5, none⟩ = some (.slice a3 x.el.length c3) ∧ W.cell? ⟨bo, 6, none⟩ = some (.slice a4 x.inn.length c4))
          (first | exact (HR.out _ (HB3.out _ HD.out).1).2.1 | exact (HR.out _ (HB3.out _ HB4.out).1).2.1 | exact (HR.out _ (HB3.out _ HB5.out).1).2.1)
          (first
            | (go_at_call 46
               refine kpr.mono ?_
               rintro e wp ⟨rfl, rfl⟩)
            | (go_at_call 47
               refine kop.mono ?_
               rintro e wp ⟨rfl, rfl⟩)
            | (go_at_call 48
               refine kln.mono ?_
               rintro e wp ⟨rfl, rfl⟩)
            | (go_at_call 50
               refine kin.mono ?_
               rintro e w4 ⟨s3, rfl, hown, hb4⟩
               have HB4 : Hid (Below w3'.heap.size w3' w4) := bel_sm HD.out hb4
               obtain ⟨⟨ia, ic, ix⟩, ev, ex, hki, _⟩ := hown.sl rtW.len
               simp only at ex
               subst ex
               have kw := words_same w4 ⟨ia, ic, x.inn⟩ ⟨a4, c4, x.inn⟩ hki (HR.out _ (HB3.out _ HB4.out).1).2.2.2.2 rfl
               rw [ev]
               unfold Sli.val at kw ⊢
               simp only at kw ⊢
               clear hown hb4 ev hki)
            | (go_at_call 49
               refine kw.mono ?_
               rintro e w5 ⟨rfl, hb5⟩
               have HB5 : Hid (Below w3'.heap.size w3' w5) := bel_sm HB4.out hb5
               clear hb5)))
      | fail
      all_goals
        clear kpr kop kln kin
        have HB5' : Hid (∀ W, Below w5.heap.size w5 W → Below w3.heap.size w3 W ∧ Sli.ok strC 1 W ⟨sa, sc, x.nm⟩) := fun W q => HB3.out W (bel_sm HB5.out q)
        clear HB3 HD HB5 hsh
        go_wp2_with fail
        go_loopw [110] (fun p wr => ∃ j : Nat, j ≤ x.nm.length ∧ Hid (Below w5.heap.size w5 wr) ∧ p = .int .i64 (j : Int)) (fun p wr => ((x.nm.length : Int) - intOf p).toNat)
        case atStart => exact ⟨0, Nat.zero_le _, Below.refl _ _, rfl⟩
        case round =>
          obtain ⟨j, hj, HBj, rfl⟩ := hrel
          by_cases cj : j < x.nm.length
          · obtain ⟨k, hk⟩ : ∃ k, x.nm[j]? = some k := ⟨_, List.getElem?_eq_getElem cj⟩
            obtain ⟨d, hd⟩ : ∃ d, x.ds[j]? = some d := ⟨_, List.getElem?_eq_getElem (by rw [HX.out.2]; exact cj)⟩
            obtain ⟨hb3j, hks⟩ := HB5'.out _ HBj.out
            obtain ⟨kb, kf, e1, hc⟩ := hks.cells (by intro e; simp only at e; rw [e] at cj; simp at cj)
            simp only at e1
            subst e1
            obtain ⟨hb2j, hbx, k1, k2, k4⟩ := HR.out _ hb3j
            have hlim : (x.nm.length : Int) ≤ 9223372036854775807 := by
              have u1 := k1.len
              have u2 := k1.cap
              simp only at u1 u2
              unfold maxLen at u2
              omega
            obtain ⟨nb, nf, e1, hn1⟩ := k1.cells (by intro e; simp only at e; rw [e] at cj; simp at cj)
            simp only at e1
            subst e1
            obtain ⟨db, df, e1, hd1⟩ := k2.cells (by intro e; simp only at e; rw [e] at hd; simp at hd)
            simp only at e1
            subst e1
            have q0 := hc j k hk 0 _ rfl
            have n0 := hn1 j k hk 0 _ rfl
            have g0 := hd1 j d hd 0 _ rfl
            have g1 := hd1 j d hd 1 _ rfl
            have g2 := hd1 j d hd 2 _ rfl
            simp only [Nat.mul_one, Nat.add_zero] at q0 n0 g0
            obtain ⟨b0, b1, b2, b3, b4, b5, b6⟩ := hbx
            have kg := oget_e (KT.out _ hb3j) HO.out HX.out.1 hk hd
            have HC : Hid (∀ W, Below wr.heap.size wr W → W.cell? ⟨kb, kf + j, none⟩ = some (.string k) ∧ W.cell? ⟨nb, nf + j, none⟩ = some (.string k) ∧ W.cell? ⟨db, df + j * 3, none⟩ = some (.int .u64 d.va) ∧ W.cell? ⟨db, df + j * 3 + 1, none⟩ = some (.int .u64 d.se) ∧ W.cell? ⟨db, df + j * 3 + 2, none⟩ = some (.int .i64 d.fl) ∧ W.cell? ⟨bo, 3, none⟩ = some (.slice (some ⟨nb, nf, none⟩) x.nm.length c1) ∧ W.cell? ⟨bo, 4, none⟩ = some (.slice (some ⟨db, df, none⟩) x.nm.length c2) ∧ Below w5.heap.size w5 W) := fun W q => ⟨cells_below q _ _ q0, cells_below q _ _ n0, cells_below q _ _ g0, cells_below q _ _ g1, cells_below q _ _ g2, cells_below q _ _ b3, cells_below q _ _ b4, bel_sm HBj.out q⟩
            have KS : Hid (∀ W, Below wr.heap.size wr W → Calls Tryz.prog 51 #[.pointer (some ⟨hb, 0, none⟩), .int .u64 (objW (i : Int)), .int .i64 (j : Int)] W fun e w' => e = .returned (.tuple #[deV d, .bool true]) ∧ Below W.heap.size W w') := fun W q => oslot_e (KT.out _ (HB5'.out _ (bel_sm HBj.out q)).1) HO.out HX.out.1 hk hd (by omega)
            have cji : (j : Int) < (x.nm.length : Int) := by omega
            obtain ⟨dv, ds, dfl⟩ := d
            unfold deV at kg KS
            simp only at kg KS HC
            clear hj hk hd hks hc hn1 hd1 k1 k2 k4 n0 g0 g1 g2 b0 b1 b2 b3 b4 b5 b6 hb3j hb2j cj
            generalize x.nm.length = nl at *
            go_wp2_with fail
            refine kg.mono ?_
            rintro e w6 ⟨rfl, hb6⟩
            obtain ⟨w7, hw7⟩ : ∃ w7, w7 = w6.alloc (.cells #[.int .u64 dv, .int .u64 ds, .int .i64 dfl] 35) := ⟨_, rfl⟩
            have hb7 : Below wr.heap.size wr w7 := by rw [hw7]; exact bel_sm hb6 ((Below.refl _ _).alloc (Nat.le_refl _) _)
            have hx7 : Bx3 w7 w6.heap.size ⟨dv, ds, dfl⟩ := by rw [hw7]; exact Bx3.box w6 ⟨dv, ds, dfl⟩
            have HD7 : Hid (Below wr.heap.size wr w7 ∧ Bx3 w7 w6.heap.size ⟨dv, ds, dfl⟩) := ⟨hb7, hx7⟩
            obtain ⟨q0, n0, g0, g1, g2, b3, b4, _⟩ := HC.out w7 hb7
            obtain ⟨y0, y1, y2⟩ := hx7.ce
            simp only at y0 y1 y2
            clear kg hb6 hb7 hx7
            go_upto_region 16 with fail
            rw [← hw7]
            clear hw7
            generalize w6.heap.size = bd at *
            go_quiet (fail)
            have HD8 : Hid (Below wr.heap.size wr (w7.drewN nq) ∧ Bx3 (w7.drewN nq) bd ⟨dv, ds, dfl⟩) := ⟨Go.below_drewN HD7.out.1 nq, HD7.out.2.below (Go.below_drewN (Below.refl _ _) nq)⟩
            have kl := KS.out _ HD8.out.1
            clear HD7 q0 n0 g0 g1 g2 b3 b4 y0 y1 y2 KS
            generalize w7.drewN nq = w8 at *
            go_wp2_with fail
            refine kl.mono ?_
            rintro e w9 ⟨rfl, hb9⟩
            obtain ⟨wA, hwA⟩ : ∃ wA, wA = w9.alloc (.cells #[.int .u64 dv, .int .u64 ds, .int .i64 dfl] 35) := ⟨_, rfl⟩
            have hbA : Below w8.heap.size w8 wA := by rw [hwA]; exact bel_sm hb9 ((Below.refl _ _).alloc (Nat.le_refl _) _)
            have hxA : Bx3 wA w9.heap.size ⟨dv, ds, dfl⟩ := by rw [hwA]; exact Bx3.box w9 ⟨dv, ds, dfl⟩
            obtain ⟨y0, y1, y2⟩ := (HD8.out.2.below hbA).ce
            obtain ⟨z0, z1, z2⟩ := hxA.ce
            simp only at y0 y1 y2 z0 z1 z2
            have HE : Hid (Below w5.heap.size w5 wA) := (HC.out wA (bel_sm HD8.out.1 hbA)).2.2.2.2.2.2.2
            clear kl hb9 hbA hxA HD8 HC
            go_upto_region 19 with fail
            rw [← hwA]
            clear hwA
            generalize w9.heap.size = be at *
            go_wp2_with fail
            refine ⟨⟨j + 1, by omega, HE, by go_num⟩, ?_⟩
            simp [intOf]
            omega
          · have hjn : ¬ (j : Int) < x.nm.length := by omega
            have hje : j = x.nm.length := by omega
            obtain ⟨hb3j, _⟩ := HB5'.out _ HBj.out
            obtain ⟨hbwb, ⟨b0, b1, b2, b3, b4, b5, b6⟩, _⟩ := HR.out _ hb3j
            have hel : x.el.length ≤ 4096 := (HO.out.wfs (KT.out _ hb3j).wf).2.1 x (List.mem_of_getElem? HX.out.1)
            have hell : (x.el.length : Int) ≤ 4096 := by omega
            have HJ : Hid (∀ W, Below wr.heap.size wr W → Below w3.heap.size w3 W ∧ Below wb.heap.size wb W) := fun W q => ⟨(HB5'.out W (bel_sm HBj.out q)).1, (HR.out W (HB5'.out W (bel_sm HBj.out q)).1).1⟩
            have HI : Hid (i < S.length) := c
            clear HBj hb3j hbwb HB5' hj hel
            go_wp2_with fail
            go_loopw [164] (fun p W => ∃ m : Nat, m ≤ x.el.length ∧ Hid (Below wr.heap.size wr W) ∧ p = .int .i64 (m : Int)) (fun p W => ((x.el.length : Int) - intOf p).toNat)
            case atStart => exact ⟨0, Nat.zero_le _, Below.refl _ _, rfl⟩
            case round =>
              obtain ⟨m, hm, HBm, rfl⟩ := hrel
              obtain ⟨hb3m, hbwm⟩ := HJ.out _ HBm.out
              by_cases cm : m < x.el.length
              · have cmi : (m : Int) < (x.el.length : Int) := by omega
                obtain ⟨_, ⟨ce0, ce1⟩, _⟩ := HT.out _ hbwm
                have kel := oelem_e (KT.out _ hb3m) HO.out HX.out.1 (m : Int)
                have krl := relem_e (KT.out _ hb3m) HO.out HX.out.1 (m : Int)
                unfold stV at krl
                rw [show (SV.mk oa S.length oc).val = .slice oa S.length oc from rfl, show (SV.mk ta ts.length tc).val = .slice ta ts.length tc from rfl] at krl
                generalize (elS x.el (m : Int)).getD undW = ev at *
                generalize (elS x.el (m : Int)).isSome = eb at *
                clear hm cm b0 b1 b2 b3 b4 b5 b6 hb3m hbwm
                generalize x.el.length = el at *
                go_wp2_with fail
                refine kel.mono ?_
                rintro e w6 ⟨rfl, rfl⟩
                clear kel
                go_wp2_with fail
                refine krl.mono ?_
                rintro e w7 ⟨rfl, hb7⟩
                have HE : Hid (Below wr.heap.size _ w7) := bel_sm HBm.out hb7
                clear krl hb7 HBm ce0 ce1
                go_wp2_with fail
                refine ⟨⟨m + 1, by omega, HE, by go_num⟩, ?_⟩
                simp [intOf]
                omega
              · have hmn : ¬ (m : Int) < x.el.length := by omega
                have HE : Hid (Below wb.heap.size wb _) := hbwm
                clear hb3m hbwm HBm b0 b1 b2 b3 b4 b5 b6
                generalize x.el.length = el at *
                go_wp2_with fail
                refine ⟨⟨i + 1, by have := HI.out; omega, HE, by go_num⟩, ?_⟩
                have := HI.out
                simp [intOf]
                omega
    · have hin : ¬ (i : Int) < S.length := by omega
      clear hTr hi c
      go_wp2_with fail
      go_loopw [194] (fun p W => ∃ m : Nat, m ≤ ts.length ∧ Hid (Below wb.heap.size wb W) ∧ p = .int .i64 (m : Int)) (fun p W => ((ts.length : Int) - intOf p).toNat)
      case atStart => exact ⟨0, Nat.zero_le _, HBr, rfl⟩
      case round =>
        clear HBr ce0 ce1
        obtain ⟨m, hm, HBm, rfl⟩ := hrel
        obtain ⟨hTm, ⟨ce0, ce1⟩, hbend⟩ := HT.out _ HBm.out
        by_cases cm : m < ts.length
        · obtain ⟨s, hs⟩ : ∃ s, ts[m]? = some s := ⟨_, List.getElem?_eq_getElem cm⟩
          have kt := otext_e hTm HO.out hs
          have hks := HTX.out _ HBm.out
          obtain ⟨kb, kf, e1, hc⟩ := hks.cells (by intro e; have e : ts = [] := e; rw [e] at cm; simp at cm)
          simp only at e1
          subst e1
          have q0 := hc m s hs 0 _ rfl
          simp only [Nat.mul_one, Nat.add_zero] at q0
          have cmi : (m : Int) < (ts.length : Int) := by omega
          have hwr : IntKind.u64.wrap (m : Int) = (m : Int) := by rw [IntKind.wrap_u64]; omega
          have hwo : IntKind.u64.wrap (18445618173802708992 + (m : Int)) = txtW (m : Int) := by rw [IntKind.wrap_u64]; unfold txtW; omega
          clear hTm hbend hc hks hs hm
          go_wp2_with fail
          refine kt.mono ?_
          rintro e w6 ⟨rfl, rfl⟩
          clear kt
          go_wp2_with fail
          refine ⟨⟨m + 1, by omega, HBm, by go_num⟩, ?_⟩
          simp [intOf]
          omega
        · have hmn : ¬ (m : Int) < ts.length := by omega
          have HE : Hid (Below w.heap.size w _) := hbend
          clear hTm hbend
          go_wp2_with fail
          go_ret
          exact ⟨rfl, HE.out⟩
end
end Go.Proofs.YtkpdpdllbnihgaaGreat.Hp
/- A law on its way: the heap, the document's store and its variable; the beginning, and a call. -/
namespace Go.Proofs.YtkpdpdllbnihgaaGreat.Hp
open Go.RowKit
structure LawAt (w wr : World) (hb bs : Nat) (H : He) (S : List So) (vo vt : SV) (ts : List ByteArray) (n : Nat) : Prop where
  two : TwoE w wr (fun b => b = bs) hb H S vo vt ts
  box : BxS wr bs vo vt
  ord : Ord H S ts n
  sh : ShOk H
  lo : w.heap.size ≤ bs
section
variable {w wr w' : World} {hb bs : Nat} {H : He} {S : List So} {vo vt : SV} {ts : List ByteArray} {n : Nat}
theorem obI_new (m : Int) (o : Int) : obI (He.new m) o = none := by
  unfold obI
  rw [if_neg (by
    intro c
    have h1 : payN o 65530 < ((He.new m).obs.length : Int) := c.2
    have h2 := payN_bd o 65530
    have h3 : (He.new m).obs.length = 0 := rfl
    omega)]
theorem ord_new (m : Int) : Ord (He.new m) [] [] 0 := by
  have hno : ∀ ob, ob ∈ (He.new m).obs → False := fun ob h => by simp [He.new] at h
  refine ⟨⟨rfl, fun i ob x h => by simp [He.new] at h, rfl⟩, ⟨fun ob h => (hno ob h).elim, fun ob h => (hno ob h).elim, fun ob h => (hno ob h).elim, fun o => ?_, fun ob h => (hno ob h).elim, fun ob h => (hno ob h).elim⟩, fun x h => by simp at h, by simp [He.new]⟩
  show obO (He.new m) o = none
  unfold obO
  rw [obI_new]
  rfl
theorem LawAt.start {w1 : World} {O : Nat → Prop} {m : Int} (h : Heap w1 w.heap.size hb O (He.new m)) (hB : Below w.heap.size w w1) : LawAt w (w1.alloc (.cells #[.slice none 0 0, .slice none 0 0] 28)) hb w1.heap.size (He.new m) [] .nil .nil [] 0 := by
  obtain ⟨tg, M, h, _⟩ := h
  have hal : Below w1.heap.size w1 (w1.alloc (.cells #[.slice none 0 0, .slice none 0 0] 28)) := (Below.refl _ _).alloc (Nat.le_refl _) _
  refine ⟨⟨tg, fun _ => 0, M, [], h.below hal, StAt.nil _ _, OwnR.nil _ _, fun b _ => rfl, fun b q => by simp [SV.nil, SV.val, Value.ownBlock] at q, fun b q => ⟨?_, rfl, fun r => by simp [SV.nil, SV.val, Value.ownBlock] at r, ?_⟩, hB.trans (hal.mono hB.size)⟩, BxS.new w1 .nil .nil, ord_new m, ShOk.start m, hB.size⟩
  · rw [show b = w1.heap.size from q]
    rcases Nat.eq_zero_or_pos (tg w1.heap.size) with e | e
    · exact e
    · have := (h.lt _ (by omega : tg w1.heap.size ≠ 0)).2
      omega
  · rw [show b = w1.heap.size from q]
    have := size_new w1 (.cells #[.slice none 0 0, .slice none 0 0] 28)
    omega
theorem LawAt.below (h : LawAt w wr hb bs H S vo vt ts n) (hB : Below wr.heap.size wr w') : LawAt w w' hb bs H S vo vt ts n :=
  ⟨h.two.below hB, h.box.below hB, h.ord, h.sh, h.lo⟩
theorem LawAt.most (h : LawAt w wr hb bs H S vo vt ts n) : H.most ≤ 256 := h.two.wf.mo
/-- a call of the script -/
theorem LawAt.step (h : LawAt w wr hb bs H S vo vt ts n) (hn : n ≤ 1000000) (o : OpL) (ho : o.wf) (hw : o.w.ok wC 1 w) :
    Calls Tryz.prog 8 #[.pointer (some ⟨hb, 0, none⟩), stV vo vt, o.val] wr fun e w' => ∃ vo' vt', e = .returned (.tuple #[stV vo' vt', .bool true]) ∧ BxS w' bs vo vt ∧ LawAt w ((w'.setCell ⟨bs, 0, none⟩ vo'.val).setCell ⟨bs, 1, none⟩ vt'.val) hb bs (stepH H o) (stepS S o) vo' vt' (stepT ts o) (n + 1) := by
  refine (step_any h.two h.ord hn o ho (fun W q => hw.kept (cells_below q))).mono ?_
  rintro e w' ⟨vo', vt', rfl, hk⟩
  have hbx : BxS w' bs vo vt := (hk.kp bs rfl).trans h.box
  have z0 := heap_setCell_same _ bs 0 _ _ vo'.val hbx
  have z1 := heap_setCell_same _ bs 1 _ _ vt'.val z0
  exact ⟨vo', vt', rfl, hbx, (hk.two.set (b := bs) rfl h.lo 0 _).set (b := bs) rfl h.lo 1 _, z1, h.ord.step h.two.wf o, h.sh.step h.most o, h.lo⟩
theorem LawAt.told (h : LawAt w wr hb bs H S vo vt ts n) : Calls Tryz.prog 9 #[.pointer (some ⟨hb, 0, none⟩), stV vo vt] wr fun e w' => e = .returned (.bool true) ∧ Below wr.heap.size wr w' := told_any h.two h.ord h.sh.len
end
end Go.Proofs.YtkpdpdllbnihgaaGreat.Hp
/- HeapAll: the walk. -/
namespace Go.Proofs.YtkpdpdllbnihgaaGreat.Hp
open Go.RowKit
set_option maxRecDepth 100000 in
set_option maxHeartbeats 8000000 in
theorem all_walk (w : World) (m : Int) (sc : Sli OpL) (hsc : sc.ok opC 9 w) (hwf : ∀ o ∈ sc.xs, o.wf ∧ o.w.ok wC 1 w) (hsz : 11 * sc.xs.length ≤ 1048576) :
    Calls Tryz.prog 3 #[.int .i64 m, sc.val] w fun e w' => e = .returned (.bool true) ∧ Below w.heap.size w w' := by
  obtain ⟨ca, cc, cx⟩ := sc
  unfold Sli.val
  simp only at *
  have kn := new_any w m
  have KA : Hid (∀ w : World, Calls Tryz.prog 7 #[] w fun e w' => e = .returned (.bool true) ∧ Below w.heap.size w w') := alive_any
  have HC : Hid (∀ W, Below w.heap.size w W → Sli.ok opC 9 W ⟨ca, cc, cx⟩) := fun W hW => hsc.kept (cells_below hW)
  have HWF : Hid ((∀ o ∈ cx, o.wf ∧ o.w.ok wC 1 w) ∧ 11 * cx.length ≤ 1048576) := ⟨hwf, hsz⟩
  have hcl : (cx.length : Int) ≤ 1048576 := by omega
  clear hsc hwf hsz
  go_enter Tryz.func3, Tryz.ntmps3
  go_wp2_with fail
  refine kn.mono ?_
  rintro e w1 ⟨hb, O, rfl, hT, hb1⟩
  have HS : Hid (LawAt w (w1.alloc (.cells #[.slice none 0 0, .slice none 0 0] 28)) hb w1.heap.size (He.new m) [] .nil .nil [] 0) := LawAt.start hT hb1
  clear kn hT hb1
  go_upto_region 3 with fail
  generalize w1.alloc (.cells #[.slice none 0 0, .slice none 0 0] 28) = w2 at *
  generalize w1.heap.size = bs at *
  have kal := KA.out w2
  go_wp2_with fail
  refine kal.mono ?_
  rintro e w3 ⟨rfl, hb3⟩
  have HI : Hid (LawAt w w3 hb bs (He.new m) [] .nil .nil [] 0) := HS.out.below hb3
  clear kal hb3 HS
  go_wp2_with fail
  go_loopw [7, 8] (fun ok iv wr => ∃ (i : Nat) (H : He) (S : List So) (vo vt : SV) (ts : List ByteArray), (i ≤ cx.length ∧ LawAt w wr hb bs H S vo vt ts i) ∧ ok = .bool true ∧ iv = .int .i64 i) (fun ok iv wr => cx.length - (intOf iv).toNat)
  case atStart => exact ⟨0, _, _, _, _, _, ⟨Nat.zero_le _, HI.out⟩, rfl, rfl⟩
  case round =>
    clear HI
    obtain ⟨i, H, S, ⟨oa, ol, oc⟩, ⟨ta, tl, tc⟩, ts, ⟨ple, hl⟩, rfl, rfl⟩ := hrel
    have HL := (show Hid _ from hl)
    obtain ⟨r0, r1⟩ := hl.box.ce
    rw [show (SV.mk oa ol oc).val = .slice oa ol oc from rfl] at r0
    rw [show (SV.mk ta tl tc).val = .slice ta tl tc from rfl] at r1
    clear hl
    rcases Nat.lt_or_ge i cx.length with c | c
    · have hex : ∃ o, cx[i]? = some o := ⟨_, List.getElem?_eq_getElem c⟩
      obtain ⟨o, ho⟩ := hex
      obtain ⟨b, off, e1, hc⟩ := (HC.out wr HL.out.two.bel).cells (by intro e; have e : cx = [] := e; rw [e] at c; simp at c)
      simp only at e1
      subst e1
      have d0 := hc i o ho 0 _ rfl
      have d1 := hc i o ho 1 _ rfl
      have d2 := hc i o ho 2 _ rfl
      have d3 := hc i o ho 3 _ rfl
      have d4 := hc i o ho 4 _ rfl
      have d5 := hc i o ho 5 _ rfl
      have d6 := hc i o ho 6 _ rfl
      have d7 := hc i o ho 7 _ rfl
      have d8 := hc i o ho 8 _ rfl
      rw [Nat.add_zero] at d0
      have hdr := HL.out.below ((Below.refl _ _).drew)
      have ks := hdr.step (by have := HWF.out.2; omega) o (HWF.out.1 o (List.mem_of_getElem? ho)).1 (HWF.out.1 o (List.mem_of_getElem? ho)).2
      have cil : (i : Int) < cx.length := by omega
      unfold stV OpL.val OpL.cells at ks
      rw [show (SV.mk oa ol oc).val = .slice oa ol oc from rfl, show (SV.mk ta tl tc).val = .slice ta tl tc from rfl] at ks
      obtain ⟨kd, oo, op, kk, ⟨va, se, fl⟩, on, ⟨wa, wc, wl⟩⟩ := o
      unfold Sli.val at ks d8
      simp only at *
      have HDR := (show Hid _ from hdr.two.bel)
      clear hc ho hdr
      go_upto_region 7 with fail
      first
      | (go_region_with ((go_at_call 8; refine ks.mono ?_; rintro e w5 ⟨⟨za, zl, zc⟩, ⟨ua, ul, uc⟩, rfl, bx5, hl5⟩; have HX := (show Hid _ from hl5); obtain ⟨m0, m1⟩ := bx5.ce; obtain ⟨n0, n1⟩ := bx5.fz; rw [show (SV.mk oa ol oc).val = .slice oa ol oc from rfl] at m0; rw [show (SV.mk ta tl tc).val = .slice ta tl tc from rfl] at m1; rw [show (SV.mk za zl zc).val = .slice za zl zc from rfl, show (SV.mk ua ul uc).val = .slice ua ul uc from rfl] at HX ⊢; clear hl5 bx5)))
      | fail
      all_goals
        clear ks d0 d1 d2 d3 d4 d5 d6 d7 d8 r0 r1 m0 m1 n0 n1 HDR
        generalize ((w5.setCell ⟨bs, 0, none⟩ (.slice za zl zc)).setCell ⟨bs, 1, none⟩ (.slice ua ul uc)) = w6 at *
        have kt := HX.out.told
        obtain ⟨r0, r1⟩ := HX.out.box.ce
        unfold stV at kt
        rw [show (SV.mk za zl zc).val = .slice za zl zc from rfl] at r0
        rw [show (SV.mk ua ul uc).val = .slice ua ul uc from rfl] at r1
        rw [show (SV.mk za zl zc).val = .slice za zl zc from rfl, show (SV.mk ua ul uc).val = .slice ua ul uc from rfl] at kt
        go_wp2_with fail
        refine kt.mono ?_
        rintro e w7 ⟨rfl, hb7⟩
        have HX7 := (show Hid _ from HX.out.below hb7)
        clear kt hb7 HX r0 r1
        go_wp2_with fail
        refine ⟨⟨i + 1, _, _, ⟨za, zl, zc⟩, ⟨ua, ul, uc⟩, _, ⟨c, HX7.out⟩, rfl, by go_num⟩, ?_⟩
        simp [intOf]
        omega
    · have hil : ¬ (i : Int) < cx.length := by omega
      have HE := (show Hid _ from HL.out.two.bel)
      clear r0 r1 HL
      go_wp2_with fail
      go_ret
      exact ⟨rfl, HE.out⟩
end Go.Proofs.YtkpdpdllbnihgaaGreat.Hp
