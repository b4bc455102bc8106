/- VH -/
import Derived.Test.YtkpdpdllbnihgaaGreatB32
import Derived.Deep.CutBlock
import Derived.Deep.CutRange
set_option linter.unusedVariables false
set_option linter.unusedSimpArgs false
set_option maxRecDepth 100000
set_option maxHeartbeats 40000000
/- Guard: the walk. -/
namespace Go.Proofs.YtkpdpdllbnihgaaGreat.Hp
open Go.RowKit
theorem cell_len (i : Nat) (s : He × Int) : (cellH i s).1.C.length = s.1.C.length + 1 ∧ (cellH i s).1.obs.length = s.1.obs.length := by
  unfold cellH
  split
  · exact ⟨by simp [Ce.makeD], rfl⟩
  · exact ⟨by simp [Ce.makeD], by simp⟩
theorem fold_len {H : He} {c : Int} : ∀ l : List Nat, (l.foldr cellH (H, c)).1.C.length = H.C.length + l.length ∧ (l.foldr cellH (H, c)).1.obs.length = H.obs.length
  | [] => ⟨rfl, rfl⟩
  | i :: l => by
    obtain ⟨h1, h2⟩ := fold_len (H := H) (c := c) l
    obtain ⟨k1, k2⟩ := cell_len i (l.foldr cellH (H, c))
    rw [List.foldr_cons, List.length_cons]
    exact ⟨by omega, by omega⟩
/-- cells are made, the last one first -/
structure GmAt (w1 W : World) (B hb : Nat) (tg : Nat → Nat) (H : He) (M : HV) (R : List Nat × Int) (c : Int) (k : Nat) : Prop where
  le : k ≤ R.1.length
  val : c = ((R.1.drop k).foldr cellH (H, R.2)).2
  went : WentM w1 B hb tg ((R.1.drop k).foldr cellH (H, R.2)).1 M W
section
variable {w w' w1 : World} {B hb : Nat} {O S : Nat → Prop} {H H' : He} {M M' : HV} {tg : Nat → Nat}
theorem GuAt.next {W W2 : World} {g : Nat} {R : List Nat × Int} {l : List Nat} {v v2 : Value} {p : Int} {gh i : Nat} {ob : Ob} (h : GuAt w W H g R l v p (gh + 1)) (ho : obI H p = some i) (hi : H.obs[i]? = some ob) (hv : Ce.validD H.C ob.cell = false) (hwf : 0 ≤ ob.proto ∧ ob.proto < 18446744073709551616) (hen : EndsH H gh ob.proto) (hb2 : Below w.heap.size w W2) (hown : OwnR (ptC g) 1 98 w.heap.size W2 v2 (l ++ [i])) : GuAt w W2 H g R (l ++ [i]) v2 ob.proto gh := by
  have hs := bare_step (n := gh) ho hi
  rw [if_neg (by rw [hv]; simp)] at hs
  refine ⟨hwf.1, hwf.2, hb2, hen, hown, ?_, ?_⟩
  · have := h.few
    rw [hs] at this
    simp only [List.length_cons, List.length_append, List.length_nil] at this ⊢
    omega
  · rw [h.eq, hs]
    simp
set_option maxRecDepth 100000 in
/-- a round of the making -/
theorem GmAt.round {w2 wc W : World} {c c0 : Int} {k g cap sc : Nat} {sa : Option Addr} {sx : List Nat} (hW : HeapAt w2 B hb tg H M) (hbel : Below w2.heap.size w2 wc) (hvo : M.vo = ⟨some ⟨g, 0, none⟩, H.obs.length, cap⟩) (hin : ∀ i ∈ sx, i < H.obs.length) (hf : sx.length ≤ 65536 ∧ H.C.length + 65536 ≤ Ce.top) (own : OwnR (ptC g) 1 98 w2.heap.size wc (.slice sa sx.length sc) sx) (h : GmAt wc W B hb tg H M (sx, c0) c (k + 1)) :
    ∃ i gb, sa = some ⟨gb, 0, none⟩ ∧ W.cell? ⟨hb, 4, none⟩ = some (.pointer (some ⟨M.cb, 0, none⟩)) ∧ Calls Tryz.prog 59 #[.pointer (some ⟨M.cb, 0, none⟩), .int .i64 c] W (fun e W6 => ∃ c' old : Int, e = .returned (.int .i64 c') ∧ W6.cell? ⟨gb, k, none⟩ = some (.pointer (some ⟨g, i * 12, none⟩)) ∧ W6.cell? ⟨g, i * 12 + 11, none⟩ = some (.int .i64 old) ∧ W6.frozen? ⟨g, i * 12 + 11, none⟩ = false ∧ GmAt wc (W6.setCell ⟨g, i * 12 + 11, none⟩ (.int .i64 c')) B hb tg H M (sx, c0) c' k) := by
  obtain ⟨hle, hval, tg3, r1, r2, r3⟩ := h
  simp only at hle hval r1
  have hkl : k < sx.length := by omega
  obtain ⟨i, hi⟩ : ∃ i, sx[k]? = some i := ⟨_, List.getElem?_eq_getElem hkl⟩
  have hil : i < H.obs.length := hin i (List.mem_of_getElem? hi)
  have hdrop : sx.drop k = i :: sx.drop (k + 1) := by rw [List.drop_eq_getElem_cons hkl, (List.getElem?_eq_some_iff.1 hi).2]
  obtain ⟨f1, f2⟩ := fold_len (H := H) (c := c0) (sx.drop (k + 1))
  generalize hS : (sx.drop (k + 1)).foldr cellH (H, c0) = S at *
  obtain ⟨SH, sc'⟩ := S
  simp only at hval r1 f1 f2
  subst hval
  have hfold : (sx.drop k).foldr cellH (H, c0) = cellH i (SH, c) := by rw [hdrop, List.foldr_cons, hS]
  obtain ⟨gb, cpb, hve, _, _⟩ : ∃ gb cpb, Value.slice sa sx.length sc = .slice (some ⟨gb, 0, none⟩) sx.length cpb ∧ True ∧ True := by
    rcases own.2 with ⟨e, e0⟩ | ⟨gb, cpb, cur, e, _⟩
    · omega
    · exact ⟨gb, cpb, e, trivial, trivial⟩
  injection hve with y1 y2 y3
  subst y1
  obtain ⟨b0, b1, b2, b3, b4, b5, fz⟩ := r1.box
  obtain ⟨Oc, hcs, hOc⟩ := r1.prt 6
  have hOc : ∀ b, Oc b → tg3 b = 6 := hOc
  obtain ⟨ob, hob⟩ : ∃ ob, SH.obs[i]? = some ob := ⟨_, List.getElem?_eq_getElem (by rw [f2]; exact hil)⟩
  refine ⟨i, gb, rfl, b4, ?_⟩
  refine (Ce.make_any W B M.cb Oc SH.C hcs (by rw [f1, List.length_drop]; omega) c).mono ?_
  rintro e W6 ⟨rfl, hq⟩
  have hw6 := WentM.next r2 r3 (r1.celM hOc hq)
  obtain ⟨tg6, s1, s2, s3⟩ := hw6
  have hob6 : ({ SH with C := Ce.makeD SH.C c } : He).obs[i]? = some ob := hob
  have hvo6 : M.vo = ⟨some ⟨g, 0, none⟩, ({ SH with C := Ce.makeD SH.C c } : He).obs.length, cap⟩ := by
    show M.vo = ⟨some ⟨g, 0, none⟩, SH.obs.length, cap⟩
    rw [f2]
    exact hvo
  obtain ⟨g', cap', ov, hvo', hov, _, _, hgl, hcell, hfz, _⟩ := s1.obj hob6
  rw [hvo6] at hvo'
  injection hvo' with x1 x2 x3
  injection x1 with x1
  injection x1 with x1
  subst x1
  have d11 := hcell 11 _ rfl
  simp only at d11
  have hwf := s1.wf.ob ob (List.mem_of_getElem? hob6)
  have hfl := s1.fld hob6 hov hvo6 { ob with cell := (SH.C.length : Int) } (j := 11) (u := .int .i64 (SH.C.length : Int)) (by omega) rfl rfl rfl rfl ⟨hwf.kd, hwf.pr, hwf.ks, hwf.fl, hwf.nx, hwf.el, hwf.inn⟩
  have hwent := WentM.next s2 s3 (HeapAt.wentF s1 hfl.2 (fun b q => by omega) hfl.1)
  have hcH : cellH i (SH, c) = ({ SH with C := Ce.makeD SH.C c, obs := SH.obs.set i { ob with cell := (SH.C.length : Int) } }, (SH.C.length : Int)) := by
    unfold cellH
    simp only [hob]
  refine ⟨(SH.C.length : Int), ob.cell, rfl, ?_, d11, hfz _, ?_⟩
  · have hk := own.kept s2 (fun b q hb => by
      have q1 := (own.lt b q).1
      have q2 := (hW.lt b hb).2
      omega)
    have := OwnR.at' (rtPt g).len hk hi (j := 0) rfl
    simpa using this
  · refine ⟨by simp only; omega, ?_, ?_⟩
    · simp only
      rw [hfold, hcH]
    · simp only
      rw [hfold, hcH]
      exact hwent
set_option maxRecDepth 100000 in
set_option maxHeartbeats 8000000 in
theorem guard_up (h : HeapAt w B hb tg H M) (hac : Acy H) (p : Int) (p0 : 0 ≤ p) (p1 : p < 18446744073709551616) {i0 : Nat} {ob0 : Ob} (ho0 : obI H p = some i0) (hi0 : H.obs[i0]? = some ob0) (hroom : H.C.length + 65536 ≤ Ce.top) :
    Calls Tryz.prog 12 #[.pointer (some ⟨hb, 0, none⟩), .int .u64 p] w fun e w' => e = .returned (.int .i64 (guardH H p).2) ∧ WentM w B hb tg (guardH H p).1 M w' := by
  obtain ⟨g, cap, ov, hvo, hov, t4, hne2, hgl, hcell, hfz, hl1, hl2, hrow⟩ := h.obj hi0
  have hG : guardH H p = (bareF H H.obs.length p).1.foldr cellH (H, (bareF H H.obs.length p).2) := rfl
  have hfew : (bareF H H.obs.length p).1.length ≤ 65536 := by have := bare_len (H := H) H.obs.length p; have := h.wf.ol; omega
  have hin := bare_in (H := H) H.obs.length p
  rw [hG]
  have hpe := hac p
  have HS : Hid (GuAt w w H g (bareF H H.obs.length p) [] (.slice none 0 0) p H.obs.length) := ⟨p0, p1, Below.refl _ _, hpe, OwnR.nil _ _, by simpa using hfew, by simp⟩
  generalize bareF H H.obs.length p = R at *
  have HH : Hid (HeapAt w B hb tg H M) := h
  have HV : Hid (M.vo = ⟨some ⟨g, 0, none⟩, H.obs.length, cap⟩) := hvo
  have HN : Hid (∀ i ∈ R.1, i < H.obs.length) := hin
  have HF : Hid (R.1.length ≤ 65536 ∧ H.C.length + 65536 ≤ Ce.top) := ⟨hfew, hroom⟩
  have ka := at_any h p p0 p1
  generalize hLN : H.obs.length = LN at HS
  clear h hvo hov t4 hne2 hgl hcell hfz hl1 hl2 hrow hG hfew hin hpe hac hroom ho0 hi0 hLN
  go_enter Tryz.func12, Tryz.ntmps12
  go_wp2_with fail
  refine ka.mono ?_
  rintro e w2 ⟨rfl, rfl⟩
  clear ka
  go_upto_block 0 with fail
  go_cut [5, 6] from 5 to 36 (fun v5 v6 wx => v6 = .int .i64 R.2 ∧ Hid (Below w2.heap.size w2 wx ∧ OwnR (ptC g) 1 98 w2.heap.size wx v5 R.1))
  case first =>
    go_wp2_with fail
    go_loopg [5, 6, 7] LN (fun gh s5 s6 s7 W0 => ∃ (l : List Nat) (p' : Int), s6 = .int .i64 (-1) ∧ s7 = atV H M p' ∧ Hid (GuAt w2 W0 H g R l s5 p' gh))
    case atStart => exact ⟨[], p, rfl, rfl, HS⟩
    case round =>
      clear HS
      obtain ⟨l, p', rfl, rfl, HL⟩ := hrel
      obtain ⟨⟨sa, sc, sx⟩, hse, hsx, hsok, _⟩ := OwnR.sl (rtPt g).len HL.out.own
      simp only at hsx
      subst hsx
      unfold Sli.val at hse
      simp only at hse
      subst hse
      cases hq : obO H p' with
      | none =>
        have hv : atV H M p' = .pointer none := by unfold atV; rw [obO_none hq]
        have heq := HL.out.eq
        rw [bare_none hq] at heq
        simp only [List.append_nil] at heq
        have HR : Hid (R = (sx, -1)) := heq
        have HO : Hid (Below w2.heap.size w2 wr ∧ OwnR (ptC g) 1 98 w2.heap.size wr (.slice sa sx.length sc) sx) := ⟨HL.out.bel, HL.out.own⟩
        rw [hv]
        clear HL hq hv heq hsok HH HV HN
        go_wp2_with fail
        go_meet
        rw [HR.out]
        exact ⟨rfl, HO⟩
      | some ob =>
        obtain ⟨j, hj, hob⟩ := obO_some hq
        have hw := HH.out.below HL.out.bel
        obtain ⟨g2, cap2, ov2, hvo2, _, _, _, _, hcell2, _⟩ := hw.obj hob
        have hgg := hvo2
        rw [HV.out] at hgg
        injection hgg with x1 x2 x3
        injection x1 with x1
        injection x1 with x1
        subst x1
        have hv : atV H M p' = .pointer (some ⟨g, j * 12, none⟩) := by unfold atV; rw [hj]; simp only [hvo2, Option.map_some]
        rw [hv]
        have d1 := hcell2 1 _ rfl
        have d11 := hcell2 11 _ rfl
        simp only at d1 d11
        obtain ⟨c0, c1, c2, c3, c4, c5, fz⟩ := hw.box
        obtain ⟨gh', rfl, hen⟩ := ends_step HL.out.en hq
        obtain ⟨Oc, hcs, hOc⟩ := hw.prt 6
        have kv : ∀ n, Calls Tryz.prog 58 #[.pointer (some ⟨M.cb, 0, none⟩), .int .i64 ob.cell] (wr.drewN n) fun e w' => e = .returned (.bool (Ce.validD H.C ob.cell)) ∧ w' = wr.drewN n := fun n => Ce.valid_any _ B M.cb Oc H.C (hcs.below (below_drewN (Below.refl _ _) n)) ob.cell
        have hpr := (hw.wf.ob ob (List.mem_of_getElem? hob)).pr
        cases hb : Ce.validD H.C ob.cell with
        | true =>
          rw [hb] at kv
          have heq := HL.out.eq
          rw [bare_step hj hob, if_pos hb] at heq
          simp only [List.append_nil] at heq
          have HR : Hid (R = (sx, ob.cell)) := heq
          have HO : Hid (∀ n, Below w2.heap.size w2 (wr.drewN n) ∧ OwnR (ptC g) 1 98 w2.heap.size (wr.drewN n) (.slice sa sx.length sc) sx) := fun n => ⟨below_drewN HL.out.bel n, HL.out.own.below (below_drewN (Below.refl _ _) n)⟩
          have e11 : ∀ n, (wr.drewN n).cell? ⟨g, j * 12 + 11, none⟩ = some (.int .i64 ob.cell) := fun n => cells_below (below_drewN (Below.refl _ _) n) _ _ d11
          generalize ob.cell = oc at *
          generalize M.cb = cb at *
          clear HL hq hv heq hsok HH HV HN hj hob hw hvo2 hcell2 hcs hOc hpr hb hen d1 c0 c1 c2 c3 c5 fz x2 x3
          go_wp2_with fail
          go_quiet ((go_at_call 58; refine Calls.quiet_of_same (kv _)))
          have e11n := e11 nq
          clear kv e11 d11
          go_wp2_with fail
          go_meet
          rw [HR.out]
          exact ⟨rfl, HO.out nq⟩
        | false =>
          rw [hb] at kv
          have HNX : Hid (∀ (W : World) (v2 : Value), Below w2.heap.size w2 W → OwnR (ptC g) 1 98 w2.heap.size W v2 (sx ++ [j]) → GuAt w2 W H g R (sx ++ [j]) v2 ob.proto gh') := fun W v2 r1 r2 => HL.out.next hj hob hb hpr hen r1 r2
          have kat := fun (W : World) (r : Below w2.heap.size w2 W) => at_any (HH.out.below r) ob.proto hpr.1 hpr.2
          have HO : Hid (∀ n, Below w2.heap.size w2 (wr.drewN n) ∧ OwnR (ptC g) 1 98 w2.heap.size (wr.drewN n) (.slice sa sx.length sc) sx) := fun n => ⟨below_drewN HL.out.bel n, HL.out.own.below (below_drewN (Below.refl _ _) n)⟩
          have HE : Hid (∀ n, (wr.drewN n).cell? ⟨g, j * 12 + 1, none⟩ = some (.int .u64 ob.proto)) := fun n => cells_below (below_drewN (Below.refl _ _) n) _ _ d1
          have HFW : Hid (sx.length + 1 ≤ 65536) := by
            have hs := bare_step (n := gh') hj hob
            rw [if_neg (by rw [hb]; simp)] at hs
            have := HL.out.few
            rw [hs] at this
            simp only [List.length_cons] at this
            show _ ≤ _
            omega
          have HGL : Hid (g < w2.heap.size) := by
            obtain ⟨g3, cap3, ov3, hvo3, _, _, _, hgl3, _⟩ := HH.out.obj hob
            rw [HV.out] at hvo3
            injection hvo3 with x1 x2 x3
            injection x1 with x1
            injection x1 with x1
            subst x1
            exact hgl3
          generalize ob.cell = oc at *
          generalize ob.proto = op at *
          generalize M.cb = cb at *
          clear HL hq hv hsok HN hj hob hw hvo2 hcell2 hcs hOc hpr hb hen c0 c1 c2 c3 c5 fz x2 x3
          go_wp2_with fail
          go_quiet ((go_at_call 58; refine Calls.quiet_of_same (kv _)))
          have e1 := HE.out nq
          obtain ⟨hbq, hoq⟩ := HO.out nq
          clear kv d11 d1 c4 HE HO
          generalize wr.drewN nq = wq at *
          have HAL : Hid (Below wq.heap.size wq (wq.alloc (.cells #[.pointer (some ⟨g, j * 12, none⟩)] 98))) := (Below.refl _ _).alloc (Nat.le_refl _) _
          have HOW : Hid (OwnR (ptC g) 1 98 w2.heap.size (wq.alloc (.cells #[.pointer (some ⟨g, j * 12, none⟩)] 98)) (.slice sa sx.length sc) sx) := hoq.below HAL.out
          have HONE : Hid (Sli.ok (ptC g) 1 (wq.alloc (.cells #[.pointer (some ⟨g, j * 12, none⟩)] 98)) ⟨some ⟨wq.heap.size, 0, none⟩, 1, [j]⟩) := one_sli (rtPt g) (at_new _ _) rfl
          have HSZ : Hid (w2.heap.size ≤ (wq.alloc (.cells #[.pointer (some ⟨g, j * 12, none⟩)] 98)).heap.size) := Nat.le_trans hbq.size HAL.out.size
          have HBX : Hid (((sx.length + 1) + (sx.length + 1) / 4 + 192) * 8 ≤ 281474976710656 ∧ sx.length + 1 ≤ maxLen) := ⟨by have := HFW.out; omega, by have := HFW.out; unfold maxLen; omega⟩
          have HBQ : Hid (Below w2.heap.size w2 wq) := hbq
          have HQL : Hid (∀ k, (Value.slice sa sx.length sc).ownBlock = some k → w2.heap.size ≤ k) := fun k q => (hoq.lt k q).1
          have HE1 : Hid (wq.cell? ⟨g, j * 12 + 1, none⟩ = some (.int .u64 op)) := e1
          clear hbq hoq e1
          go_wp2_with (at_builtin; refine app_row (rtPt g) rfl _ _ rfl w2.heap.size (.slice sa sx.length sc) sx ?h1 HOW.out ⟨some ⟨wq.heap.size, 0, none⟩, 1, [j]⟩ ?h3 HONE.out HBX.out.2 HBX.out.1 HSZ.out ?_)
          case h1 => rfl
          case h3 => rfl
          intro v6 w6 ho6 hg6 hl6
          have hll : (sx ++ [j]).length = sx.length + 1 := by simp
          have ho7 : w6.ownsRow w2.heap.size 98 1 v6 (sx.length + 1) ((sx ++ [j]).flatMap (ptC g)) := by rw [← hll]; exact ho6
          obtain ⟨g6, c6, rfl, _, _⟩ := ho7.form (by omega)
          have hch : Chg (fun b => w2.heap.size ≤ b) wq w6 := (Chg.of_below (S := fun b => w2.heap.size ≤ b) HAL.out).trans (Chg.of_grown (S := fun b => w2.heap.size ≤ b) hg6 (fun k q => HQL.out k q)) (fun _ _ q => q)
          have hb6 : Below w2.heap.size w2 w6 := hch.below HBQ.out HBQ.out.size (fun b q => q)
          have hx1 : w6.cell? ⟨g, j * 12 + 1, none⟩ = some (.int .u64 op) := hch.cell HE1.out (fun q => by have := HGL.out; have q : w2.heap.size ≤ g := q; omega)
          have hka := kat w6 hb6
          have HG6 := (show Hid _ from HNX.out w6 _ hb6 ho6)
          clear ho6 ho7 hg6 hl6 hch hb6 HNX kat HOW HONE HBX HSZ HAL HE1 HQL HBQ
          go_wp2_with fail
          refine hka.mono ?_
          rintro e w7 ⟨rfl, rfl⟩
          clear hka
          go_wp2_with fail
          go_roundg gh'
          case measure => omega
          case rel => exact ⟨_, _, rfl, rfl, HG6⟩
  case rest =>
    obtain ⟨rfl, HO⟩ := hcut
    obtain ⟨⟨sa, sc, sx⟩, hse, hsx, hsok, _⟩ := OwnR.sl (rtPt g).len HO.out.2
    obtain ⟨l, c0⟩ := R
    simp only at hsx hse HO HN HF ⊢
    subst hsx
    unfold Sli.val at hse
    simp only at hse
    subst hse
    have hW := HH.out.below HO.out.1
    have HST : Hid (GmAt wc wc B hb tg H M (sx, c0) c0 sx.length) := ⟨Nat.le_refl _, by simp, by simp only [List.drop_length, List.foldr_nil]; exact WentM.same hW (Below.refl _ _)⟩
    have HWc : Hid (HeapAt wc B hb tg H M) := hW
    have HEND : Hid (∀ W c, GmAt wc W B hb tg H M (sx, c0) c 0 → c = (sx.foldr cellH (H, c0)).2 ∧ WentM w2 B hb tg (sx.foldr cellH (H, c0)).1 M W) := fun W c q => by
      obtain ⟨q1, q2, q3⟩ := q
      simp only [List.drop_zero] at q2 q3
      exact ⟨q2, WentM.behind HO.out.1 q3⟩
    have HIN : Hid (∀ i ∈ sx, i < H.obs.length) := HN.out
    have hlen : (sx.length : Int) ≤ 65536 := by have := HF.out.1; omega
    have HRD : Hid (∀ (W : World) (c : Int) (k : Nat), GmAt wc W B hb tg H M (sx, c0) c (k + 1) → ∃ i gb, sa = some ⟨gb, 0, none⟩ ∧ W.cell? ⟨hb, 4, none⟩ = some (.pointer (some ⟨M.cb, 0, none⟩)) ∧ Calls Tryz.prog 59 #[.pointer (some ⟨M.cb, 0, none⟩), .int .i64 c] W (fun e W6 => ∃ c' old : Int, e = .returned (.int .i64 c') ∧ W6.cell? ⟨gb, k, none⟩ = some (.pointer (some ⟨g, i * 12, none⟩)) ∧ W6.cell? ⟨g, i * 12 + 11, none⟩ = some (.int .i64 old) ∧ W6.frozen? ⟨g, i * 12 + 11, none⟩ = false ∧ GmAt wc (W6.setCell ⟨g, i * 12 + 11, none⟩ (.int .i64 c')) B hb tg H M (sx, c0) c' k)) := fun W c k q => GmAt.round HH.out HO.out.1 HV.out HN.out HF.out HO.out.2 q
    generalize M.cb = cb at HRD
    clear hW HS hsok HH HN HO HV
    go_wp2_with fail
    go_loopg [6, 8] sx.length (fun gk s6 s8 W0 => ∃ (c : Int) (k : Nat), gk = k ∧ s6 = .int .i64 c ∧ s8 = .int .i64 ((k : Int) - 1) ∧ Hid (GmAt wc W0 B hb tg H M (sx, c0) c k))
    case atStart => exact ⟨c0, _, rfl, rfl, rfl, HST⟩
    case round =>
      clear HST
      obtain ⟨c, k, hgk, rfl, rfl, HG⟩ := hrel
      cases k with
      | zero =>
        obtain ⟨e1, e2⟩ := HEND.out _ _ HG.out
        have HW := (show Hid _ from e2)
        have HE : Hid (c = (sx.foldr cellH (H, c0)).2) := e1
        clear HG HEND HRD e1 e2
        have hk0 : ((0 : Nat) : Int) - 1 = -1 := by omega
        rw [hk0]
        go_wp2_with fail
        go_ret
        refine ⟨?_, HW.out⟩
        rw [HE.out]
        rfl
      | succ k =>
        obtain ⟨i, gb, rfl, c4, km⟩ := HRD.out _ _ _ HG.out
        have hle := HG.out.le
        simp only at hle
        have hk0 : (((k + 1 : Nat) : Int) - 1) = (k : Int) := by omega
        rw [hk0]
        have hk1 : (0 : Int) ≤ (k : Int) := by omega
        have hk2 : (k : Int) < (sx.length : Int) := by omega
        clear HG hle
        go_wp2_with fail
        refine km.mono ?_
        rintro e W6 ⟨c', old, rfl, z1, z2, z3, hq⟩
        have HQ : Hid (GmAt wc (W6.setCell ⟨g, i * 12 + 11, none⟩ (.int .i64 c')) B hb tg H M (sx, c0) c' k) := hq
        clear km hq c4
        go_wp2_with fail
        go_roundg k
        case measure => omega
        case rel => exact ⟨c', k, rfl, rfl, rfl, HQ⟩
set_option maxRecDepth 100000 in
theorem guard_any (h : HeapAt w B hb tg H M) (hac : Acy H) (p : Int) (p0 : 0 ≤ p) (p1 : p < 18446744073709551616) (hroom : H.C.length + 65536 ≤ Ce.top) :
    Calls Tryz.prog 12 #[.pointer (some ⟨hb, 0, none⟩), .int .u64 p] w fun e w' => e = .returned (.int .i64 (guardH H p).2) ∧ WentM w B hb tg (guardH H p).1 M w' := by
  cases hq : obO H p with
  | some ob =>
    obtain ⟨i, ho, hi⟩ := obO_some hq
    exact guard_up h hac p p0 p1 ho hi hroom
  | none =>
    have e : guardH H p = (H, -1) := by unfold guardH; rw [bare_none hq]; rfl
    rw [e]
    have ka := at_miss h p p0 p1 (obO_none hq)
    have HW : Hid (WentM w B hb tg H M w) := WentM.same h (Below.refl _ _)
    clear h hac hroom hq e
    go_enter Tryz.func12, Tryz.ntmps12
    go_wp2_with fail
    refine ka.mono ?_
    rintro e w2 ⟨rfl, rfl⟩
    clear ka
    go_wp2_with fail
    go_loopg [5, 6, 7] 0 (fun gk s5 s6 s7 W0 => s5 = .slice none 0 0 ∧ s6 = .int .i64 (-1) ∧ s7 = .pointer none ∧ W0 = w2)
    case atStart => exact ⟨rfl, rfl, rfl, rfl⟩
    case round =>
      obtain ⟨rfl, rfl, rfl, rfl⟩ := hrel
      go_wp2_with fail
      go_loopg [6, 8] 0 (fun gk s6 s8 W0 => s6 = .int .i64 (-1) ∧ s8 = .int .i64 (-1) ∧ W0 = wr)
      case atStart => exact ⟨rfl, rfl, rfl⟩
      case round =>
        obtain ⟨rfl, rfl, rfl⟩ := hrel
        go_wp2_with fail
        go_ret
        exact ⟨rfl, HW.out⟩
end
end Go.Proofs.YtkpdpdllbnihgaaGreat.Hp
