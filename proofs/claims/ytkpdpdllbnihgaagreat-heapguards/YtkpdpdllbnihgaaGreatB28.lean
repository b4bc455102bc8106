/- IL, IO -/
import Derived.Test.YtkpdpdllbnihgaaGreatB27
import Derived.Test.YtkpdpdllbnihgaaGreatB21
set_option linter.unusedVariables false
set_option linter.unusedSimpArgs false
set_option maxRecDepth 100000
set_option maxHeartbeats 40000000
/- replace. -/
namespace Go.Proofs.YtkpdpdllbnihgaaGreat.Hp
open Go.RowKit
def setD (ps : List Pr) (n : Nat) (p : Pr) (d : De) : List Pr := ps.set n ⟨p.key, p.came, d⟩
section
variable {w w' w1 : World} {B hb : Nat} {O S : Nat → Prop} {H H' : He} {M M' : HV} {tg : Nat → Nat}
/-- a property is laid anew in its place -/
theorem HeapAt.dset (h : HeapAt w B hb tg H M) {i gl lcap : Nat} {ob : Ob} {ov : OV} (hi : H.obs[i]? = some ob) (hv : M.ovs[i]? = some ov) (hvl : ov.vl = ⟨some ⟨gl, 0, none⟩, ob.ps.length, lcap⟩) {n : Nat} {p : Pr} (hp : ob.ps[n]? = some p) (d : De) (hd : 0 ≤ d.fl ∧ d.fl ≤ 15) :
    WentM w B hb tg { H with obs := H.obs.set i { ob with ps := setD ob.ps n p d } } M (((w.setCell ⟨gl, n * 5 + 2, none⟩ (.int .u64 d.va)).setCell ⟨gl, n * 5 + 3, none⟩ (.int .u64 d.se)).setCell ⟨gl, n * 5 + 4, none⟩ (.int .i64 d.fl)) := by
  have hwf := h.wf.ob ob (List.mem_of_getElem? hi)
  have hr : RowIn prC 5 123 B w _ ov.vl ob.ps := h.part hi hv 0 (by omega)
  have hr1 := hr.1
  have ht := hr.2
  rw [hvl] at hr1 ht
  unfold SV.val at hr1 ht
  simp only at hr1 ht
  have htg : tg gl = 7 + 4 * i + 0 := ht gl rfl
  have hil : i < H.obs.length := (List.getElem?_eq_some_iff.1 hi).1
  have hnl : n < ob.ps.length := (List.getElem?_eq_some_iff.1 hp).1
  have o1 := hr1.put (j := 2) (u := .int .u64 d.va) (y' := ⟨p.key, p.came, ⟨d.va, p.de.se, p.de.fl⟩⟩) rtPr.len hp (by omega) rfl
  have o2 := o1.put (j := 3) (u := .int .u64 d.se) (y' := ⟨p.key, p.came, ⟨d.va, d.se, p.de.fl⟩⟩) rtPr.len (List.getElem?_set_self hnl) (by omega) rfl
  have o3 := o2.put (j := 4) (u := .int .i64 d.fl) (y' := ⟨p.key, p.came, d⟩) rtPr.len (List.getElem?_set_self (by rw [List.length_set]; exact hnl)) (by omega) rfl
  rw [List.set_set, List.set_set] at o3
  generalize hw3 : ((w.setCell ⟨gl, n * 5 + 2, none⟩ (.int .u64 d.va)).setCell ⟨gl, n * 5 + 3, none⟩ (.int .u64 d.se)).setCell ⟨gl, n * 5 + 4, none⟩ (.int .i64 d.fl) = w3 at *
  have hc : Chg (fun b => tg b = 7 + 4 * i + 0) w w3 := by
    rw [← hw3]
    exact ((Chg.set (S := fun b => tg b = 7 + 4 * i + 0) w ⟨gl, n * 5 + 2, none⟩ _ htg).trans (Chg.set (S := fun b => tg b = 7 + 4 * i + 0) _ ⟨gl, n * 5 + 3, none⟩ _ htg) (fun _ _ q => q)).trans (Chg.set (S := fun b => tg b = 7 + 4 * i + 0) _ ⟨gl, n * 5 + 4, none⟩ _ htg) (fun _ _ q => q)
  have hks : ∀ q ∈ setD ob.ps n p d, q.key.size ≤ maxLen := fun q hq => by
    rcases List.mem_or_eq_of_mem_set hq with c | c
    · exact hwf.ks q c
    · rw [c]; exact hwf.ks p (List.mem_of_getElem? hp)
  have hfl : ∀ q ∈ setD ob.ps n p d, 0 ≤ q.de.fl ∧ q.de.fl ≤ 15 := fun q hq => by
    rcases List.mem_or_eq_of_mem_set hq with c | c
    · exact hwf.fl q c
    · rw [c]; exact hd
  refine h.wentM (k0 := 7 + 4 * i + 0) hc (fun b _ q => by omega) ?_
  refine h.up (H' := { H with obs := H.obs.set i { ob with ps := setD ob.ps n p d } }) (M' := M) hc (fun kj => kj = 7 + 4 * i + 0) (7 + 4 * i + 0) (fun b _ q => ⟨q, by omega⟩) (fun kj q => ?_) (fun kj O q hk => ?_) (by simp only [List.length_set]; exact h.len) ⟨?_, by simp only [List.length_set]; exact h.wf.ol, h.wf.tn, h.wf.ts, h.wf.tl, h.wf.mo, h.wf.br⟩
  · subst q
    rw [show 7 + 4 * i + 0 = (4 * i) + 7 by omega]
    intro ob1 ov1 e1 e2
    rw [show (4 * i) / 4 = i by omega] at e1 e2
    rw [show (4 * i) % 4 = 0 by omega]
    have e1' : (H.obs.set i { ob with ps := setD ob.ps n p d })[i]? = some ob1 := e1
    rw [List.getElem?_set_self hil] at e1'
    have e2' : M.ovs[i]? = some ov1 := e2
    rw [hv] at e2'
    cases e1'
    cases e2'
    refine ⟨?_, fun b q => ?_⟩
    · show OwnR prC 5 _ B _ ov.vl.val (ob.ps.set n ⟨p.key, p.came, d⟩)
      rw [hvl]
      exact o3
    · rw [hvl] at q
      have hbg : b = gl := by simpa [SV.val, Value.ownBlock] using q.symm
      show rtg _ _ _ _ _ = _
      rw [hbg, rtg_old (h.lt gl (by omega)).2]
      omega
  · match kj, hk, q with
    | 0, hk, q => trivial
    | 1, hk, q => exact hk
    | 2, hk, q => exact hk
    | 3, hk, q => exact hk
    | 4, hk, q =>
      refine ⟨?_, hk.2⟩
      show OwnR obC 12 _ B _ M.vo.val ((H.obs.set i { ob with ps := setD ob.ps n p d }).zip M.ovs)
      have hz : (H.obs.set i { ob with ps := setD ob.ps n p d }).zip M.ovs = (H.obs.zip M.ovs).set i ({ ob with ps := setD ob.ps n p d }, ov) := by
        conv => lhs; rw [← set_self hv]
        rw [zip_set]
      rw [hz]
      exact OwnR.congr hk.1 (by simp) (flat_same (enc := obC) (y := (ob, ov)) (y' := ({ ob with ps := setD ob.ps n p d }, ov)) rfl _ i (zip_at hi hv))
    | 5, hk, q => exact hk
    | 6, hk, q => exact hk
    | k' + 7, hk, q =>
      intro ob1 ov1 e1 e2
      have e1' : (H.obs.set i { ob with ps := setD ob.ps n p d })[k' / 4]? = some ob1 := e1
      by_cases c2 : i = k' / 4
      · rw [← c2, List.getElem?_set_self hil] at e1'
        cases e1'
        have e2' : M.ovs[i]? = some ov1 := by rw [c2]; exact e2
        rw [hv] at e2'
        cases e2'
        have hk2 := hk ob ov (by rw [← c2]; exact hi) (by rw [← c2]; exact hv)
        have hne : k' % 4 ≠ 0 := fun e => q (by omega)
        generalize k' % 4 = c4 at *
        match c4, hk2, hne with
        | 0, _, hne => exact absurd rfl hne
        | 1, hk2, _ => exact hk2
        | 2, hk2, _ => exact hk2
        | _ + 3, hk2, _ => exact hk2
      · rw [List.getElem?_set_ne c2] at e1'
        exact hk ob1 ov1 e1' e2
  · intro o ho
    rcases List.mem_or_eq_of_mem_set ho with q | q
    · exact h.wf.ob o q
    · rw [q]
      exact ⟨hwf.kd, hwf.pr, hks, hfl, ⟨hwf.nx.1, hwf.nx.2.1, by simp only [setD, List.length_set]; exact hwf.nx.2.2⟩, hwf.el, hwf.inn⟩
/-- what replace leaves -/
def replH (H : He) (i : Nat) (ob : Ob) (n : Nat) (p : Pr) (d : De) : He :=
  if ob.shaped = true then { H with L := (Sp.changeD H.most H.L ob.shape p.key d.fl).1, obs := H.obs.set i { ob with ps := setD ob.ps n p d, shape := (Sp.changeD H.most H.L ob.shape p.key d.fl).2.1, shaped := (Sp.changeD H.most H.L ob.shape p.key d.fl).2.2 } }
  else { H with obs := H.obs.set i { ob with ps := setD ob.ps n p d } }
set_option maxRecDepth 100000 in
set_option maxHeartbeats 4000000 in
theorem replace_at (h : HeapAt w B hb tg H M) {i g cap : Nat} {ob : Ob} (hi : H.obs[i]? = some ob) (hvo : M.vo = ⟨some ⟨g, 0, none⟩, H.obs.length, cap⟩) {n : Nat} {p : Pr} (hp : ob.ps[n]? = some p) (d : De) (hd : 0 ≤ d.fl ∧ d.fl ≤ 15) :
    Calls Tryz.prog 71 #[.pointer (some ⟨hb, 0, none⟩), .pointer (some ⟨g, i * 12, none⟩), .int .i64 (n : Int), deV d] w fun e w' => e = .returned (.tuple #[]) ∧ WentM w B hb tg (replH H i ob n p d) M w' := by
  obtain ⟨wb, hwb⟩ : ∃ wb, wb = w.alloc (.cells #[.int .u64 d.va, .int .u64 d.se, .int .i64 d.fl] 35) := ⟨_, rfl⟩
  have hB : Below w.heap.size w wb := by rw [hwb]; exact (Below.refl _ _).alloc (Nat.le_refl _) _
  have hbx : wb.heap[w.heap.size]? = some (.cells #[.int .u64 d.va, .int .u64 d.se, .int .i64 d.fl] 35 (0, 0)) := by rw [hwb]; exact at_new _ _
  have h2 : HeapAt wb B hb tg H M := h.below hB
  obtain ⟨_, _, ov, _, hov, _⟩ := h2.obj hi
  have hnl : n < ob.ps.length := (List.getElem?_eq_some_iff.1 hp).1
  have hwf := h.wf.ob ob (List.mem_of_getElem? hi)
  have htx : tg w.heap.size = 0 := by
    by_cases c : tg w.heap.size = 0
    · exact c
    · have := (h.lt _ c).2; omega
  have hil : i < H.obs.length := (List.getElem?_eq_some_iff.1 hi).1
  obtain ⟨c4, _, _, fz, hgl, t4⟩ := h2.tab hi hov hvo
  have hr : RowIn prC 5 123 B wb _ ov.vl ob.ps := h2.part hi hov 0 (by omega)
  obtain ⟨q1, q2, q3, q4⟩ := hr.open rtPr.len
  obtain ⟨gl, e1, hgl1, hgl2, hgl3, hc, hfz⟩ := q4 (by intro e; rw [e] at hnl; simp at hnl)
  have hgl3 : tg gl = 7 + 4 * i + 0 := hgl3
  rcases hvl : ov.vl with ⟨lad, llen, lcap⟩
  rw [hvl] at q1 q2 q3 e1 c4
  simp only at q1 q2 q3 e1 c4
  subst q1 e1
  have d0 := hc n p hp 0 _ rfl
  have d2 := hc n p hp 2 _ rfl
  have d3 := hc n p hp 3 _ rfl
  have d4 := hc n p hp 4 _ rfl
  simp only [Nat.add_zero] at d0
  have f2 := hfz (n * 5 + 2)
  have f3 := hfz (n * 5 + 3)
  have f4 := hfz (n * 5 + 4)
  have hds := h2.dset hi hov hvl hp d hd
  obtain ⟨w3, hw3⟩ : ∃ w3, w3 = ((wb.setCell ⟨gl, n * 5 + 2, none⟩ (.int .u64 d.va)).setCell ⟨gl, n * 5 + 3, none⟩ (.int .u64 d.se)).setCell ⟨gl, n * 5 + 4, none⟩ (.int .i64 d.fl) := ⟨_, rfl⟩
  rw [← hw3] at hds
  have hxs : w.heap.size < wb.heap.size := (Array.getElem?_eq_some_iff.1 hbx).1
  have hfl : -9223372036854775808 ≤ d.fl ∧ d.fl ≤ 9223372036854775807 := by omega
  have HA : Hid ((w3.cell? ⟨w.heap.size, 2, none⟩ = some (.int .i64 d.fl) ∧ w3.cell? ⟨hb, 3, none⟩ = some (.pointer (some ⟨M.tb, 0, none⟩)) ∧ w3.cell? ⟨g, i * 12 + 9, none⟩ = some (.int .i64 ob.shape) ∧ w3.cell? ⟨g, i * 12 + 10, none⟩ = some (.bool ob.shaped) ∧ w3.cell? ⟨gl, n * 5, none⟩ = some (.string p.key)) ∧
      (ob.shaped = false → WentM w B hb tg (replH H i ob n p d) M w3) ∧
      (ob.shaped = true → Calls Tryz.prog 97 #[.pointer (some ⟨M.tb, 0, none⟩), .int .i64 ob.shape, .string p.key, .int .i64 d.fl] w3.drew (fun e w' => e = .returned (.tuple #[.int .i64 (Sp.changeD H.most H.L ob.shape p.key d.fl).2.1, .bool (Sp.changeD H.most H.L ob.shape p.key d.fl).2.2]) ∧
        ((w'.cell? ⟨g, i * 12 + 9, none⟩ = some (.int .i64 ob.shape) ∧ w'.cell? ⟨g, i * 12 + 10, none⟩ = some (.bool ob.shaped) ∧ w'.frozen? ⟨g, i * 12 + 9, none⟩ = false ∧ w'.frozen? ⟨g, i * 12 + 10, none⟩ = false) ∧
          WentM w B hb tg (replH H i ob n p d) M ((w'.setCell ⟨g, i * 12 + 9, none⟩ (.int .i64 (Sp.changeD H.most H.L ob.shape p.key d.fl).2.1)).setCell ⟨g, i * 12 + 10, none⟩ (.bool (Sp.changeD H.most H.L ob.shape p.key d.fl).2.2)))))) := by
    have hw0 := hds
    obtain ⟨tg2, p1, p2, p3⟩ := hds
    have hbx2 : w3.heap[w.heap.size]? = some (.cells #[.int .u64 d.va, .int .u64 d.se, .int .i64 d.fl] 35 (0, 0)) := by
      rw [p2.block _ hxs (fun q => q htx)]
      exact hbx
    have hi1 : ({ H with obs := H.obs.set i { ob with ps := setD ob.ps n p d } } : He).obs[i]? = some { ob with ps := setD ob.ps n p d } := List.getElem?_set_self hil
    have hvo1 : M.vo = ⟨some ⟨g, 0, none⟩, ({ H with obs := H.obs.set i { ob with ps := setD ob.ps n p d } } : He).obs.length, cap⟩ := by
      simp only [List.length_set]
      exact hvo
    obtain ⟨g', cap', ov1, hvo', hov1, t4', hne', hgl', hcell', hfz', _⟩ := p1.obj hi1
    have hvv := hvo'
    rw [hvo1] at hvv
    injection hvv with x1 x2 x3
    injection x1 with x1
    injection x1 with x1
    subst x1
    have y9 := hcell' 9 _ rfl
    have y10 := hcell' 10 _ rfl
    simp only at y9 y10
    obtain ⟨b0, b1, b2, b3, b4, b5, bfz⟩ := p1.box
    have k0 : w3.cell? ⟨gl, n * 5, none⟩ = some (.string p.key) := by
      rw [hw3, World.cell?_setCell_other _ _ _ _ (by simp), World.cell?_setCell_other _ _ _ _ (by simp), World.cell?_setCell_other _ _ _ _ (by simp)]
      exact d0
    refine ⟨⟨cell_of_row w3 w.heap.size 2 _ _ (0, 0) hbx2, b3, y9, y10, k0⟩, fun hs => ?_, fun hs => ?_⟩
    · unfold replH
      rw [if_neg (by rw [hs]; simp)]
      exact WentM.behind hB hw0
    · obtain ⟨Ot, ht, hO⟩ := p1.prt 5
      have hO : ∀ b, Ot b → tg2 b = 5 := hO
      refine (Sp.change_any w3.drew B M.tb Ot H.most H.L (ht.below ((Below.refl _ _).drew)) ob.shape p.key d.fl ⟨hwf.ks p (List.mem_of_getElem? hp), hfl.1, hfl.2⟩ (Or.inl (by have := h.wf.mo; unfold Sp.top; omega))).mono ?_
      rintro e w' ⟨rfl, hq⟩
      refine ⟨rfl, ?_⟩
      obtain ⟨s1, s2⟩ := shape_mid p1 hi1 hvo1 hO hq (Sp.changeD H.most H.L ob.shape p.key d.fl).2.1 (Sp.changeD H.most H.L ob.shape p.key d.fl).2.2
      refine ⟨s1, ?_⟩
      unfold replH
      rw [if_pos hs]
      simp only [List.set_set] at s2
      exact WentM.behind hB (WentM.next p2 p3 s2)
  have b0 : wb.cell? ⟨w.heap.size, 0, none⟩ = some (.int .u64 d.va) := cell_of_row wb w.heap.size 0 _ _ (0, 0) hbx
  have b1 : wb.cell? ⟨w.heap.size, 1, none⟩ = some (.int .u64 d.se) := cell_of_row wb w.heap.size 1 _ _ (0, 0) hbx
  have b2 : wb.cell? ⟨w.heap.size, 2, none⟩ = some (.int .i64 d.fl) := cell_of_row wb w.heap.size 2 _ _ (0, 0) hbx
  have hnn : (n : Int) < (ob.ps.length : Int) := by omega
  have hlim : (ob.ps.length : Int) ≤ 9223372036854775807 := by unfold maxLen at q3; omega
  generalize hsq : (Sp.changeD H.most H.L ob.shape p.key d.fl).2.1 = sh2 at *
  generalize hok : (Sp.changeD H.most H.L ob.shape p.key d.fl).2.2 = ok2 at *
  generalize hlh : replH H i ob n p d = HL at *
  generalize ob.ps.length = len at *
  generalize ob.shape = sh at *
  generalize hsd : ob.shaped = sd at *
  generalize M.tb = tb at *
  obtain ⟨pk, pc, pv, pse, pf⟩ := p
  unfold deV
  obtain ⟨va, se, fl⟩ := d
  simp only at *
  clear h h2 hi hvo hov hwf hp hB hbx htx hil hnl hfz fz hgl t4 hr q2 q3 q4 hc hgl1 hgl2 hgl3 hvl hds hxs hfl hd hsq hok hlh hsd
  go_enter Tryz.func71, Tryz.ntmps71
  go_upto_region 1 with fail
  rw [← hwb]
  clear hwb
  generalize w.heap.size = xb at b0 b1 b2 HA ⊢
  go_upto_region 3 with fail
  rw [← hw3]
  clear hw3 d0 d2 d3 d4 f2 f3 f4 b0 b1 b2 c4
  obtain ⟨⟨a0, a1, a2, a3, a4⟩, ano, ayes⟩ := HA.out
  cases sd with
  | false =>
    have HQ := (show Hid _ from ano rfl)
    clear HA ano ayes
    go_wp2_with fail
    go_end0
    exact ⟨rfl, HQ.out⟩
  | true =>
    have ktr := ayes rfl
    clear HA ano ayes
    go_upto_region 4 with fail
    refine Code.wp_mono ?_ (replReg w3 hb g (i * 12) gl (n * 5) xb tb sh fl sh2 ok2 pk (fun W => WentM w B hb tg HL M W) a0 a1 a2 a4 ktr _ _ _ _ _ _ _ _ _ _ _ _ _ _ _ _ _ _ _ _ _ _ _ _ _ _ _ _ _ _ _ _ _ _ _ _ _ _ _ _ _ _ _ _)
    intro e a W hP
    cases e with
    | normal =>
      obtain ⟨hdf, hQ⟩ := hP
      have HQ : Hid (WentM w B hb tg HL M W) := hQ
      obtain ⟨tm, df⟩ := a
      have hdf : df = [] := hdf
      subst hdf
      clear ktr a0 a1 a2 a3 a4 hQ
      go_wp2_with fail
      go_end0
      exact ⟨rfl, HQ.out⟩
    | _ => exact hP.elim
end
end Go.Proofs.YtkpdpdllbnihgaaGreat.Hp
/- Put. -/
namespace Go.Proofs.YtkpdpdllbnihgaaGreat.Hp
open Go.RowKit
/-- what lies in a place of a list; something else where nothing does -/
def prAt (ps : List Pr) (n : Nat) : Pr := (ps[n]?).getD ⟨⟨#[]⟩, 0, 0, 0, 0⟩
/-- what Put leaves -/
def putH (H0 : He) (i : Nat) (ob : Ob) (k : ByteArray) (d0 : De) : He :=
  match plc ob.ps k with
  | some n => replH (touchH H0 ob.cell) i ob n (prAt ob.ps n) (keptD d0)
  | none => if ob.shaped = true ∧ ob.ps.length + 1 ≤ 16 then layH (touchH H0 ob.cell) i ob k (keptD d0) else { touchH H0 ob.cell with obs := H0.obs.set i (ob.bare k (keptD d0)) }
section
variable {w w' w1 : World} {B hb : Nat} {O S : Nat → Prop} {H H' : He} {M M' : HV} {tg : Nat → Nat}
set_option maxRecDepth 100000 in
set_option maxHeartbeats 4000000 in
theorem put_any (h : HeapAt w B hb tg H M) (o : Int) (o0 : 0 ≤ o) (o1 : o < 18446744073709551616) {i : Nat} {ob : Ob} (ho : obI H o = some i) (hi : H.obs[i]? = some ob) (hnt : ob.neat) (hms : ob.shaped = true → ob.hm = false) (k : ByteArray) (hk : k.size ≤ maxLen) (d : De) (hnx : ob.next < 2000000000000) :
    Calls Tryz.prog 21 #[.pointer (some ⟨hb, 0, none⟩), .int .u64 o, .string k, deV d] w fun e w' => e = .returned (.tuple #[]) ∧ ∃ M', M'.vo = M.vo ∧ WentM w B hb tg (putH H i ob k d) M' w' := by
  obtain ⟨wb, hwb⟩ : ∃ wb, wb = w.alloc (.cells #[.int .u64 d.va, .int .u64 d.se, .int .i64 d.fl] 35) := ⟨_, rfl⟩
  have hB : Below w.heap.size w wb := by rw [hwb]; exact (Below.refl _ _).alloc (Nat.le_refl _) _
  have hbx : wb.heap[w.heap.size]? = some (.cells #[.int .u64 d.va, .int .u64 d.se, .int .i64 d.fl] 35 (0, 0)) := by rw [hwb]; exact at_new _ _
  have h2 : HeapAt wb B hb tg H M := h.below hB
  obtain ⟨g, cap, ov, hvo, hov, _⟩ := h2.obj hi
  have ka := at_hit h2 o o0 o1 i g cap ho hvo
  have kt := touch_at h2 hi hvo
  have kk := fun w => kept_any w d.fl
  have htx : tg w.heap.size = 0 := by
    by_cases c : tg w.heap.size = 0
    · exact c
    · have := (h.lt _ c).2; omega
  have hxs : w.heap.size < wb.heap.size := (Array.getElem?_eq_some_iff.1 hbx).1
  have HA : Hid (∀ w2, WentM wb B hb tg (touchH H ob.cell) M w2 →
      (w2.cell? ⟨w.heap.size, 0, none⟩ = some (.int .u64 d.va) ∧ w2.cell? ⟨w.heap.size, 1, none⟩ = some (.int .u64 d.se) ∧ w2.cell? ⟨w.heap.size, 2, none⟩ = some (.int .i64 d.fl) ∧ w2.frozen? ⟨w.heap.size, 2, none⟩ = false) ∧
      ∀ w3, w3 = w2.setCell ⟨w.heap.size, 2, none⟩ (.int .i64 (keptI d.fl)) →
      Calls Tryz.prog 70 #[.pointer (some ⟨g, i * 12 + 4, none⟩), .string k] w3 (fun e w6 => e = .returned (.tuple #[.int .i64 (nOf (plc ob.ps k)), .bool (plc ob.ps k).isSome]) ∧
        (w6.cell? ⟨w.heap.size, 0, none⟩ = some (.int .u64 d.va) ∧ w6.cell? ⟨w.heap.size, 1, none⟩ = some (.int .u64 d.se) ∧ w6.cell? ⟨w.heap.size, 2, none⟩ = some (.int .i64 (keptI d.fl))) ∧
        (∀ n, plc ob.ps k = some n → Calls Tryz.prog 71 #[.pointer (some ⟨hb, 0, none⟩), .pointer (some ⟨g, i * 12, none⟩), .int .i64 (n : Int), .agg #[.int .u64 d.va, .int .u64 d.se, .int .i64 (keptI d.fl)]] w6 (fun e w' => e = .returned (.tuple #[]) ∧ ∃ M', M'.vo = M.vo ∧ WentM w B hb tg (putH H i ob k d) M' w')) ∧
        (plc ob.ps k = none → Calls Tryz.prog 72 #[.pointer (some ⟨hb, 0, none⟩), .pointer (some ⟨g, i * 12, none⟩), .string k, .agg #[.int .u64 d.va, .int .u64 d.se, .int .i64 (keptI d.fl)]] w6 (fun e w' => e = .returned (.tuple #[]) ∧ ∃ M', M'.vo = M.vo ∧ WentM w B hb tg (putH H i ob k d) M' w')))) := fun w2 hw2 => by
    obtain ⟨tg2, p1, p2, p3⟩ := hw2
    have hbx2 : w2.heap[w.heap.size]? = some (.cells #[.int .u64 d.va, .int .u64 d.se, .int .i64 d.fl] 35 (0, 0)) := by
      rw [p2.block _ hxs (fun q => q htx)]
      exact hbx
    refine ⟨⟨cell_of_row w2 w.heap.size 0 _ _ (0, 0) hbx2, cell_of_row w2 w.heap.size 1 _ _ (0, 0) hbx2, cell_of_row w2 w.heap.size 2 _ _ (0, 0) hbx2, frozen_of_row w2 w.heap.size 2 _ _ hbx2⟩, ?_⟩
    rintro w3 rfl
    have hbx3 := heap_setCell_same w2 w.heap.size 2 _ _ (.int .i64 (keptI d.fl)) hbx2
    have hx2 : tg2 w.heap.size = 0 := by
      by_cases c : tg2 w.heap.size = 0
      · exact c
      · rcases p3 _ c with q | q
        · exact absurd htx q
        · omega
    have cs : Chg (fun b => b = w.heap.size) w2 (w2.setCell ⟨w.heap.size, 2, none⟩ (.int .i64 (keptI d.fl))) := Chg.set (S := fun b => b = w.heap.size) w2 ⟨w.heap.size, 2, none⟩ _ rfl
    have h3 := p1.kept cs (fun b q e => by rw [show b = w.heap.size from e] at q; exact q hx2)
    refine (show FindB _ _ _ _ _ from find_any (ob := ob) h3 hi hvo hnt k hk).mono ?_
    rintro e w6 ⟨rfl, hB6⟩
    have h6 := h3.below hB6
    have p2w : Chg (fun b => tg b ≠ 0) w w6 := (((Chg.of_below (S := fun b => tg b ≠ 0) hB).trans p2 (fun _ _ q => q)).trans cs (fun b hb q => by have q : b = w.heap.size := q; omega)).trans (Chg.of_below (S := fun b => tg b ≠ 0) hB6) (fun _ _ q => q)
    have p3w : ∀ b, tg2 b ≠ 0 → tg b ≠ 0 ∨ w.heap.size ≤ b := fun b q => by rcases p3 b q with c | c; exact Or.inl c; exact Or.inr (by omega)
    refine ⟨rfl, ⟨cells_below hB6 _ _ (cell_of_row _ w.heap.size 0 _ _ (0, 0) hbx3), cells_below hB6 _ _ (cell_of_row _ w.heap.size 1 _ _ (0, 0) hbx3), cells_below hB6 _ _ (cell_of_row _ w.heap.size 2 _ _ (0, 0) hbx3)⟩, fun n hn => ?_, fun hn => ?_⟩
    · obtain ⟨⟨p, hp, _⟩, _⟩ := plc_some hn
      refine (replace_at (ob := ob) h6 hi hvo hp (keptD d) (kept_bd d.fl)).mono ?_
      rintro e w' ⟨rfl, hq⟩
      refine ⟨rfl, M, rfl, ?_⟩
      have e : putH H i ob k d = replH (touchH H ob.cell) i ob n p (keptD d) := by
        unfold putH
        rw [hn]
        simp only
        unfold prAt
        rw [hp]
        rfl
      rw [e]
      exact WentM.next p2w p3w hq
    · by_cases c : ob.shaped = true ∧ ob.ps.length + 1 ≤ 16
      · refine (lay_small (ob := ob) h6 hi hov hvo (hms c.1) c.1 k hk (keptD d) (kept_bd d.fl) c.2 hnx).mono ?_
        rintro e w' ⟨rfl, vl', hq⟩
        refine ⟨rfl, { M with ovs := M.ovs.set i { ov with vl := vl' } }, rfl, ?_⟩
        have e : putH H i ob k d = layH (touchH H ob.cell) i ob k (keptD d) := by
          unfold putH
          rw [hn]
          simp only
          rw [if_pos c]
        rw [e]
        exact WentM.next p2w p3w hq
      · refine (lay_bare (ob := ob) h6 hi hvo hnt (by
          cases hs : ob.shaped with
          | false => exact Or.inr rfl
          | true => exact Or.inl (by rcases Nat.lt_or_ge 16 (ob.ps.length + 1) with q | q; exact q; exact absurd ⟨hs, q⟩ c)) k hk hn (keptD d) (kept_bd d.fl) hnx).mono ?_
        rintro e w' ⟨rfl, M', hM', hq⟩
        refine ⟨rfl, M', hM', ?_⟩
        have e : putH H i ob k d = { touchH H ob.cell with obs := (touchH H ob.cell).obs.set i (ob.bare k (keptD d)) } := by
          unfold putH
          rw [hn]
          simp only
          rw [if_neg c]
          rfl
        rw [e]
        exact WentM.next p2w p3w hq
  have b0 : wb.cell? ⟨w.heap.size, 0, none⟩ = some (.int .u64 d.va) := cell_of_row wb w.heap.size 0 _ _ (0, 0) hbx
  have b1 : wb.cell? ⟨w.heap.size, 1, none⟩ = some (.int .u64 d.se) := cell_of_row wb w.heap.size 1 _ _ (0, 0) hbx
  have b2 : wb.cell? ⟨w.heap.size, 2, none⟩ = some (.int .i64 d.fl) := cell_of_row wb w.heap.size 2 _ _ (0, 0) hbx
  generalize putH H i ob k d = HL at *
  generalize touchH H ob.cell = HT at *
  generalize plc ob.ps k = R at *
  unfold deV
  obtain ⟨va, se, fl⟩ := d
  simp only at *
  generalize keptI fl = kf at *
  clear h h2 hB hbx ho hi hnt hms hk hnx hvo hov htx hxs
  go_enter Tryz.func21, Tryz.ntmps21
  go_upto_region 1 with fail
  rw [← hwb]
  clear hwb
  generalize w.heap.size = xb at b0 b1 b2 HA ⊢
  go_wp2_with fail
  refine ka.mono ?_
  rintro e w2 ⟨rfl, rfl⟩
  clear ka
  go_wp2_with fail
  refine kt.mono ?_
  rintro e w3 ⟨rfl, hw3⟩
  obtain ⟨⟨a0, a1, a2, a3⟩, HB0⟩ := HA.out w3 hw3
  have kfd := HB0 _ rfl
  clear hw3 kt HB0 HA b0 b1 b2
  go_wp2_with fail
  refine (kk _).mono ?_
  rintro e w4 ⟨rfl, rfl⟩
  clear kk
  go_upto_region 5 with fail
  generalize (w4.setCell ⟨xb, 2, none⟩ (.int .i64 kf)) = w5 at *
  clear a0 a1 a2 a3
  go_wp2_with fail
  refine kfd.mono ?_
  rintro e w6 ⟨rfl, ⟨y0, y1, y2⟩, krp, kly⟩
  clear kfd
  cases R with
  | none =>
    have kl := kly rfl
    clear krp kly
    rw [show nOf none = 0 from rfl]
    simp only [Option.isSome_none]
    go_wp2_with fail
    refine kl.mono ?_
    rintro e w7 ⟨rfl, hq⟩
    have HQ := (show Hid _ from hq)
    clear kl hq
    go_wp2_with fail
    go_end0
    exact ⟨rfl, HQ.out⟩
  | some n =>
    have kr := krp n rfl
    clear krp kly
    rw [show nOf (some n) = (n : Int) from rfl]
    simp only [Option.isSome_some]
    go_wp2_with fail
    refine kr.mono ?_
    rintro e w7 ⟨rfl, hq⟩
    have HQ := (show Hid _ from hq)
    clear kr hq
    go_wp2_with fail
    go_end0
    exact ⟨rfl, HQ.out⟩
end
end Go.Proofs.YtkpdpdllbnihgaaGreat.Hp
