/- loseShape; lay, where no shape is asked for. -/
import Derived.Test.YtahhionlbfhinaaGreatDoorIJ
namespace Go.Proofs.YtahhionlbfhinaaGreatDoor.Hp
open Go.RowKit
set_option linter.unusedVariables false

section
variable {w w' w1 : World} {B hb : Nat} {O S : Nat → Prop} {H H' : He} {M M' : HV} {tg : Nat → Nat}

def Ob.lost (o : Ob) : Ob := { o with shape := 0, shaped := false }

set_option maxRecDepth 100000 in
theorem lose_at (h : HeapAt w B hb tg H M) {i g cap : Nat} {ob : Ob} (hi : H.obs[i]? = some ob) (hvo : M.vo = ⟨some ⟨g, 0, none⟩, H.obs.length, cap⟩) :
    Calls Tryz.prog 100 #[.pointer (some ⟨g, i * 12, none⟩)] w fun e w' => e = .returned (.tuple #[]) ∧ WentM w B hb tg { H with obs := H.obs.set i ob.lost } M w' := by
  obtain ⟨g', cap', ov, hvo', hov, t4, hne, hgl, hcell, hfz, _⟩ := h.obj hi
  have hvv := hvo'
  rw [hvo] at hvv
  injection hvv with x1 x2 x3
  injection x1 with x1
  injection x1 with x1
  subst x1
  have d9 := hcell 9 _ rfl
  have d10 := hcell 10 _ rfl
  simp only at d9 d10
  have f9 := hfz (i * 12 + 9)
  have f10 := hfz (i * 12 + 10)
  have hwf := h.wf.ob ob (List.mem_of_getElem? hi)
  have hil : i < H.obs.length := (List.getElem?_eq_some_iff.1 hi).1
  have p1 := h.fld hi hov hvo { ob with shape := 0 } (j := 9) (u := .int .i64 0) (by omega) rfl rfl rfl rfl ⟨hwf.kd, hwf.pr, hwf.ks, hwf.fl, hwf.nx, hwf.el, hwf.inn⟩
  have hi2 : ({ H with obs := H.obs.set i { ob with shape := 0 } } : He).obs[i]? = some { ob with shape := 0 } := List.getElem?_set_self hil
  have p2 := p1.1.fld hi2 hov (by simp only [List.length_set]; exact hvo) ob.lost (j := 10) (u := .bool false) (by omega) rfl rfl rfl rfl ⟨hwf.kd, hwf.pr, hwf.ks, hwf.fl, hwf.nx, hwf.el, hwf.inn⟩
  have p3 := p2.1
  simp only [List.set_set] at p3
  have HW : Hid (WentM w B hb tg { H with obs := H.obs.set i ob.lost } M ((w.setCell ⟨g, i * 12 + 9, none⟩ (.int .i64 0)).setCell ⟨g, i * 12 + 10, none⟩ (.bool false))) := h.wentF (p1.2.trans p2.2 (fun _ _ q => q)) (fun b q => by omega) p3
  generalize { H with obs := H.obs.set i ob.lost } = HN at *
  clear h hi hvo hvo' hov t4 hne hgl hcell hfz hwf hil p1 hi2 p2 p3 x2 x3
  go_enter Tryz.func100, Tryz.ntmps100
  go_wp2_with fail
  go_end0
  exact ⟨rfl, HW.out⟩

/-- what add leaves of an object -/
def Ob.plus (o : Ob) (k : ByteArray) (d : De) : Ob := if o.hm = true ∨ 16 < o.ps.length + 1 then o.mapped k d else o.added k d

theorem add_any (h : HeapAt w B hb tg H M) {i g cap : Nat} {ob : Ob} (hi : H.obs[i]? = some ob) (hvo : M.vo = ⟨some ⟨g, 0, none⟩, H.obs.length, cap⟩) (hnt : ob.neat) (k : ByteArray) (hk : k.size ≤ maxLen) (hno : plc ob.ps k = none) (d : De) (hd : 0 ≤ d.fl ∧ d.fl ≤ 15) (hnx : ob.next < 2000000000000) :
    Calls Tryz.prog 98 #[.pointer (some ⟨g, i * 12 + 4, none⟩), .string k, deV d] w fun e w' => e = .returned (.tuple #[]) ∧ ∃ M', M'.vo = M.vo ∧ WentM w B hb tg { H with obs := H.obs.set i (ob.plus k d) } M' w' := by
  obtain ⟨_, _, ov, _, hov, _⟩ := h.obj hi
  unfold Ob.plus
  by_cases c : ob.hm = true ∨ 16 < ob.ps.length + 1
  · rw [if_pos c]
    exact add_big h hi hov hvo hnt c k hk hno d hd hnx
  · rw [if_neg c]
    have hm : ob.hm = false := by
      cases q : ob.hm with
      | false => rfl
      | true => exact absurd (Or.inl q) c
    refine (add_small h hi hov hvo hm k hk d hd (by rcases Nat.lt_or_ge 16 (ob.ps.length + 1) with q | q; exact absurd (Or.inr q) c; exact q) hnx).mono ?_
    rintro e w' ⟨rfl, vl', hq⟩
    exact ⟨rfl, { M with ovs := M.ovs.set i { ov with vl := vl' } }, rfl, hq⟩

theorem plus_len (o : Ob) (k : ByteArray) (d : De) : (o.plus k d).ps = o.ps ++ [⟨k, o.next, d⟩] ∧ (o.plus k d).shape = o.shape ∧ (o.plus k d).shaped = o.shaped := by
  unfold Ob.plus
  split <;> exact ⟨rfl, rfl, rfl⟩

/-- what lay leaves of an object that gets no shape -/
def Ob.bare (o : Ob) (k : ByteArray) (d : De) : Ob := if 16 < o.ps.length + 1 then (o.plus k d).lost else o.plus k d

set_option maxRecDepth 100000 in
set_option maxHeartbeats 4000000 in
theorem lay_bare (h : HeapAt w B hb tg H M) {i g cap : Nat} {ob : Ob} (hi : H.obs[i]? = some ob) (hvo : M.vo = ⟨some ⟨g, 0, none⟩, H.obs.length, cap⟩) (hnt : ob.neat) (hb16 : 16 < ob.ps.length + 1 ∨ ob.shaped = false) (k : ByteArray) (hk : k.size ≤ maxLen) (hno : plc ob.ps k = none) (d : De) (hd : 0 ≤ d.fl ∧ d.fl ≤ 15) (hnx : ob.next < 2000000000000) :
    Calls Tryz.prog 55 #[.pointer (some ⟨hb, 0, none⟩), .pointer (some ⟨g, i * 12, none⟩), .string k, deV d] w fun e w' => e = .returned (.tuple #[]) ∧ ∃ M', M'.vo = M.vo ∧ WentM w B hb tg { H with obs := H.obs.set i (ob.bare k d) } M' w' := by
  obtain ⟨wb, hwb⟩ : ∃ wb, wb = w.alloc (.cells #[.int .u64 d.va, .int .u64 d.se, .int .i64 d.fl] 41) := ⟨_, rfl⟩
  have hB : Below w.heap.size w wb := by rw [hwb]; exact (Below.refl _ _).alloc (Nat.le_refl _) _
  have hbx : wb.heap[w.heap.size]? = some (.cells #[.int .u64 d.va, .int .u64 d.se, .int .i64 d.fl] 41 (0, 0)) := by rw [hwb]; exact at_new _ _
  have h2 : HeapAt wb.drew B hb tg H M := (h.below hB).below ((Below.refl _ _).drew)
  have kadd := add_any h2 hi hvo hnt k hk hno d hd hnx
  have hil : i < H.obs.length := (List.getElem?_eq_some_iff.1 hi).1
  have hpl := plus_len ob k d
  have HA : Hid (∀ w2 M2, M2.vo = M.vo → WentM wb.drew B hb tg { H with obs := H.obs.set i (ob.plus k d) } M2 w2 →
      Calls Tryz.prog 99 #[.pointer (some ⟨g, i * 12 + 4, none⟩)] w2 (fun e w' => e = .returned (.int .i64 ((ob.ps.length + 1 : Nat) : Int)) ∧ w' = w2) ∧
      w2.cell? ⟨g, i * 12 + 10, none⟩ = some (.bool ob.shaped) ∧
      (¬ 16 < ob.ps.length + 1 → ∃ M', M'.vo = M.vo ∧ WentM w B hb tg { H with obs := H.obs.set i (ob.bare k d) } M' w2) ∧
      (16 < ob.ps.length + 1 → Calls Tryz.prog 100 #[.pointer (some ⟨g, i * 12, none⟩)] w2 (fun e w' => e = .returned (.tuple #[]) ∧ ∃ M', M'.vo = M.vo ∧ WentM w B hb tg { H with obs := H.obs.set i (ob.bare k d) } M' w'))) := fun w2 M2 hM2 hw2 => by
    have hw0 := hw2
    obtain ⟨tg2, p1, p2, p3⟩ := hw2
    have hi1 : ({ H with obs := H.obs.set i (ob.plus k d) } : He).obs[i]? = some (ob.plus k d) := List.getElem?_set_self hil
    have hvo1 : M2.vo = ⟨some ⟨g, 0, none⟩, ({ H with obs := H.obs.set i (ob.plus k d) } : He).obs.length, cap⟩ := by
      simp only [List.length_set]
      rw [hM2]
      exact hvo
    obtain ⟨g', cap', ov1, hvo', hov, t4, hne, hgl, hcell, hfz, _⟩ := p1.obj hi1
    have hvv := hvo'
    rw [hvo1] at hvv
    injection hvv with x1 x2 x3
    injection x1 with x1
    injection x1 with x1
    subst x1
    have d10 := hcell 10 _ rfl
    simp only at d10
    rw [hpl.2.2] at d10
    have hs := size_at p1 hi1 hvo1
    rw [hpl.1, List.length_append, List.length_singleton] at hs
    refine ⟨hs, d10, fun c => ⟨M2, hM2, ?_⟩, fun c => ?_⟩
    · unfold Ob.bare
      rw [if_neg c]
      exact WentM.behind hB (WentM.behind ((Below.refl _ _).drew) hw0)
    · refine (lose_at p1 hi1 hvo1).mono ?_
      rintro e w' ⟨rfl, hq⟩
      refine ⟨rfl, M2, hM2, ?_⟩
      unfold Ob.bare
      rw [if_pos c]
      simp only [List.set_set] at hq
      exact WentM.behind hB (WentM.behind ((Below.refl _ _).drew) (WentM.next p2 p3 hq))
  have b0 : wb.cell? ⟨w.heap.size, 0, none⟩ = some (.int .u64 d.va) := cell_of_row wb w.heap.size 0 _ _ (0, 0) hbx
  have b1 : wb.cell? ⟨w.heap.size, 1, none⟩ = some (.int .u64 d.se) := cell_of_row wb w.heap.size 1 _ _ (0, 0) hbx
  have b2 : wb.cell? ⟨w.heap.size, 2, none⟩ = some (.int .i64 d.fl) := cell_of_row wb w.heap.size 2 _ _ (0, 0) hbx
  have HSH : Hid (16 < ob.ps.length + 1 ∨ ob.shaped = false) := hb16
  generalize hlh : { H with obs := H.obs.set i (ob.bare k d) } = HL at *
  generalize hlo : { H with obs := H.obs.set i (ob.plus k d) } = HX at *
  generalize ob.ps.length + 1 = len at *
  generalize hsd : ob.shaped = sd at *
  unfold deV at kadd ⊢
  obtain ⟨va, se, fl⟩ := d
  simp only at *
  clear h h2 hi hvo hnt hb16 hB hbx hil hpl hk hno hd hnx hlh hlo hsd
  by_cases c16 : 16 < len
  · have hl16 : decide ((16 : Int) < (len : Int)) = true := decide_eq_true (by omega)
    have hl16' : (16 : Int) < (len : Int) := by omega
    have HC16 : Hid (16 < len) := c16
    clear c16
    go_enter Tryz.func55, Tryz.ntmps55
    go_upto_region 1 with fail
    rw [← hwb]
    clear hwb
    generalize w.heap.size = xb at b0 b1 b2 HA ⊢
    first
    | (go_region_with ((go_at_call 98; refine kadd.mono ?_; rintro e w2 ⟨rfl, M2, hM2, hw2⟩; obtain ⟨ksz, a5, _, klo⟩ := HA.out w2 M2 hM2 hw2; have kls := klo HC16.out; clear hw2 klo)))
    | fail
    all_goals
      clear kadd b0 b1 b2 HA
      go_wp2_with fail
      refine ksz.mono ?_
      rintro e w3 ⟨rfl, rfl⟩
      clear ksz
      go_wp2_with fail
      refine kls.mono ?_
      rintro e w4 ⟨rfl, hq⟩
      have HQ := (show Hid _ from hq)
      clear kls hq
      go_wp2_with fail
      go_end0
      exact ⟨rfl, HQ.out⟩
  · have hl16 : decide ((16 : Int) < (len : Int)) = false := decide_eq_false (by omega)
    have hl16' : ¬ ((16 : Int) < (len : Int)) := by omega
    have hsf : sd = false := by rcases HSH.out with q | q; exact absurd q c16; exact q
    subst hsf
    have HC16 : Hid (¬ 16 < len) := c16
    clear c16 HSH
    go_enter Tryz.func55, Tryz.ntmps55
    go_upto_region 1 with fail
    rw [← hwb]
    clear hwb
    generalize w.heap.size = xb at b0 b1 b2 HA ⊢
    first
    | (go_region_with ((go_at_call 98; refine kadd.mono ?_; rintro e w2 ⟨rfl, M2, hM2, hw2⟩; obtain ⟨ksz, a5, kno, _⟩ := HA.out w2 M2 hM2 hw2; have HQ := (show Hid _ from kno HC16.out); clear hw2 kno)))
    | fail
    all_goals
      clear kadd b0 b1 b2 HA
      go_wp2_with fail
      refine ksz.mono ?_
      rintro e w3 ⟨rfl, rfl⟩
      clear ksz
      go_wp2_with fail
      go_end0
      exact ⟨rfl, HQ.out⟩

end

end Go.Proofs.YtahhionlbfhinaaGreatDoor.Hp

/- replace: its region that draws. -/
namespace Go.Proofs.YtahhionlbfhinaaGreatDoor.Hp
open Go.RowKit
set_option linter.unusedVariables false

/-- a region of a body, by its number -/
def regN (n : Nat) : Code → Option Code
  | .region k ops d => if k = n then some (.region k ops d) else none
  | .seq a b => match regN n a with
    | some c => some c
    | none => regN n b
  | .cond _ a b => match regN n a with
    | some c => some c
    | none => regN n b
  | .block _ c => regN n c
  | .loop c => regN n c
  | .scope c => regN n c
  | _ => none

def PQ (Q : World → Prop) : Exit → Act → World → Prop := fun e a w' => match e with
  | .normal => a.defers = [] ∧ Q w'
  | _ => False

set_option maxRecDepth 100000 in
set_option maxHeartbeats 8000000 in
theorem replReg (w3 : World) (hb g off gl lo xb tb : Nat) (sh fl sh2 : Int) (ok2 : Bool) (pk : ByteArray) (Q : World → Prop)
    (a0 : w3.cell? ⟨xb, 2, none⟩ = some (.int .i64 fl)) (a1 : w3.cell? ⟨hb, 3, none⟩ = some (.pointer (some ⟨tb, 0, none⟩))) (a2 : w3.cell? ⟨g, off + 9, none⟩ = some (.int .i64 sh)) (a4 : w3.cell? ⟨gl, lo, none⟩ = some (.string pk))
    (ktr : Calls Tryz.prog 97 #[.pointer (some ⟨tb, 0, none⟩), .int .i64 sh, .string pk, .int .i64 fl] w3.drew (fun e w' => e = .returned (.tuple #[.int .i64 sh2, .bool ok2]) ∧ ((w'.cell? ⟨g, off + 9, none⟩ = some (.int .i64 sh) ∧ w'.cell? ⟨g, off + 10, none⟩ = some (.bool true) ∧ w'.frozen? ⟨g, off + 9, none⟩ = false ∧ w'.frozen? ⟨g, off + 10, none⟩ = false) ∧ Q ((w'.setCell ⟨g, off + 9, none⟩ (.int .i64 sh2)).setCell ⟨g, off + 10, none⟩ (.bool ok2)))))
    (c2 c3 c4 c5 c6 c9 c10 c11 c12 c13 c14 c15 c16 c17 c18 c19 c20 c21 c22 c23 c24 c25 c26 c27 c28 c29 c30 c31 c32 c33 c34 c35 c36 c37 c38 c39 c40 c41 c42 c43 c44 c45 c46 c47 : Value) :
    Code.wp Tryz.prog ((Tryz.f54.body.bind (regN 4)).getD .skip) (PQ Q) ⟨#[.pointer (some ⟨hb, 0, none⟩), .pointer (some ⟨g, off, none⟩), c2, c3, c4, c5, c6, .pointer (some ⟨xb, 0, none⟩), .pointer (some ⟨gl, lo, none⟩), c9, c10, c11, c12, c13, c14, c15, c16, c17, c18, c19, c20, c21, c22, c23, c24, c25, c26, c27, c28, c29, c30, c31, c32, c33, c34, c35, c36, c37, c38, c39, c40, c41, c42, c43, c44, c45, c46, c47], []⟩ w3 := by
  conv => arg 2; whnf
  first
  | (go_region_with ((go_at_call 97; refine ktr.mono ?_; rintro e w5 ⟨rfl, ⟨y1, y2, y3, y4⟩, hq⟩; have HQ := (show Hid _ from hq); clear hq)))
  | fail
  all_goals exact ⟨rfl, HQ.out⟩

end Go.Proofs.YtahhionlbfhinaaGreatDoor.Hp
