/- mayBeProto, raise, rootOf. -/
import Derived.Test.YtahhionlbfhinaaDoorB9
namespace Go.Proofs.YtahhionlbfhinaaDoor.Hp
open Go.RowKit
set_option linter.unusedVariables false

def mayB (H : He) (p : Int) : Bool := (p == nulW) || (obI H p).isSome

def raiseH (H : He) (p : Int) : He :=
  match obI H p with
  | none => H
  | some j => match H.obs[j]? with
    | none => H
    | some ob => { H with obs := H.obs.set j { ob with above := true } }

def rootN (kind proto : Int) : Int := (proto * 8 + kind) % 18446744073709551616

theorem obI_at {H : He} {o : Int} {i : Nat} (h : obI H o = some i) : ∃ ob, H.obs[i]? = some ob := ⟨_, List.getElem?_eq_getElem (obI_some h).2.2.1⟩

section
variable {w w' w1 : World} {B hb : Nat} {O S : Nat → Prop} {H H' : He} {M M' : HV} {tg : Nat → Nat}

set_option maxRecDepth 100000 in
theorem mayBe_at (h : HeapAt w B hb tg H M) (p : Int) (p0 : 0 ≤ p) (p1 : p < 18446744073709551616) :
    Calls Tryd.prog 15 #[.pointer (some ⟨hb, 0, none⟩), .int .u64 p] w fun e w' => e = .returned (.bool (mayB H p)) ∧ w' = w := by
  unfold mayB
  by_cases c : p = nulW
  · have c1 : (p == nulW) = true := by simpa using c
    rw [c1, Bool.true_or]
    have c2 : (p == 18445336698825998337) = true := c1
    clear c1 c h
    go_enter Tryd.func15, Tryd.ntmps15
    go_wp2_with fail
    go_ret
    exact ⟨rfl, rfl⟩
  · have c1 : (p == nulW) = false := by simpa using c
    rw [c1, Bool.false_or]
    have c2 : (p == 18445336698825998337) = false := c1
    cases hi : obI H p with
    | none =>
      have ka := at_miss h p p0 p1 hi
      clear h hi c c1
      go_enter Tryd.func15, Tryd.ntmps15
      go_wp2_with fail
      refine ka.mono ?_
      rintro e w2 ⟨rfl, rfl⟩
      clear ka
      go_wp2_with fail
      go_ret
      exact ⟨rfl, rfl⟩
    | some i =>
      obtain ⟨ob, hob⟩ := obI_at hi
      obtain ⟨g, cap, ov, hvo, _⟩ := h.obj hob
      have ka := at_hit h p p0 p1 i g cap hi hvo
      clear h hi c c1 hvo hob
      go_enter Tryd.func15, Tryd.ntmps15
      go_wp2_with fail
      refine ka.mono ?_
      rintro e w2 ⟨rfl, rfl⟩
      clear ka
      go_wp2_with fail
      go_ret
      exact ⟨rfl, rfl⟩

set_option maxRecDepth 100000 in
theorem raise_at (h : HeapAt w B hb tg H M) (p : Int) (p0 : 0 ≤ p) (p1 : p < 18446744073709551616) :
    Calls Tryd.prog 17 #[.pointer (some ⟨hb, 0, none⟩), .int .u64 p] w fun e w' => e = .returned (.tuple #[]) ∧ WentM w B hb tg (raiseH H p) M w' := by
  unfold raiseH
  cases hi : obI H p with
  | none =>
    have ka := at_miss h p p0 p1 hi
    have HW : Hid (WentM w B hb tg H M w) := WentM.same h (Below.refl _ _)
    simp only
    clear h hi
    go_enter Tryd.func17, Tryd.ntmps17
    go_wp2_with fail
    refine ka.mono ?_
    rintro e w2 ⟨rfl, rfl⟩
    clear ka
    go_wp2_with fail
    go_end0
    exact ⟨rfl, HW.out⟩
  | some i =>
    obtain ⟨ob, hob⟩ := obI_at hi
    simp only [hob]
    obtain ⟨g, cap, ov, hvo, hov, t4, hne, hgl, hcell, hfz, hl1, hl2, hrow⟩ := h.obj hob
    have ka := at_hit h p p0 p1 i g cap hi hvo
    have hwf := h.wf.ob ob (List.mem_of_getElem? hob)
    have hf := h.fld hob hov hvo { ob with above := true } (j := 3) (u := .bool true) (by omega) rfl rfl rfl rfl ⟨hwf.kd, hwf.pr, hwf.ks, hwf.fl, hwf.nx, hwf.el, hwf.inn⟩
    have HW : Hid (WentM w B hb tg { H with obs := H.obs.set i { ob with above := true } } M (w.setCell ⟨g, i * 12 + 3, none⟩ (.bool true))) := h.wentF hf.2 (fun b q => by omega) hf.1
    have d3 := hcell 3 _ rfl
    have f3 := hfz (i * 12 + 3)
    simp only at d3
    generalize { H with obs := H.obs.set i { ob with above := true } } = H1 at *
    clear h hi hob hvo hov t4 hne hgl hcell hfz hl1 hl2 hrow hwf hf
    go_enter Tryd.func17, Tryd.ntmps17
    go_wp2_with fail
    refine ka.mono ?_
    rintro e w2 ⟨rfl, rfl⟩
    clear ka
    go_wp2_with fail
    go_end0
    exact ⟨rfl, HW.out⟩

theorem rootOf_any (w : World) (k p : Int) (k0 : 0 ≤ k) (k6 : k ≤ 6) (p0 : 0 ≤ p) (p1 : p < 18446744073709551616) :
    Calls Tryd.prog 19 #[.int .i64 k, .int .u64 p] w fun e w' => e = .returned (.int .u64 (rootN k p)) ∧ w' = w := by
  have h1 : IntKind.u64.wrap (p * 8) = p * 8 % 18446744073709551616 := IntKind.wrap_u64 _
  have h2 : IntKind.u64.wrap k = k := by rw [IntKind.wrap_u64]; omega
  have h3 : IntKind.u64.wrap (p * 8 % 18446744073709551616 + k) = rootN k p := by unfold rootN; rw [IntKind.wrap_u64]; omega
  generalize rootN k p = r at *
  generalize p * 8 % 18446744073709551616 = q at *
  go_enter Tryd.func19, Tryd.ntmps19
  go_wp2
  go_ret
  exact ⟨rfl, rfl⟩

theorem raise_len (H : He) (p : Int) : (raiseH H p).obs.length = H.obs.length ∧ (raiseH H p).L = H.L ∧ (raiseH H p).most = H.most := by
  unfold raiseH
  cases obI H p with
  | none => exact ⟨rfl, rfl, rfl⟩
  | some j =>
    simp only
    cases H.obs[j]? with
    | none => exact ⟨rfl, rfl, rfl⟩
    | some ob => exact ⟨by simp, rfl, rfl⟩

/-- an object more -/
theorem HeapAt.push (h : HeapAt w B hb tg H M) {w5 : World} {g5 cap5 : Nat} {ob : Ob} (ho : OwnR obC 12 58 B w5 (.slice (some ⟨g5, 0, none⟩) (H.obs.length + 1) cap5) (H.obs.zip M.ovs ++ [(ob, OV.none)])) (hc : Chg (fun b => M.vo.val.ownBlock = some b) w w5) (hg : M.vo.val.ownBlock = some g5 ∨ w.heap.size ≤ g5) (h1 : ob.ps = []) (h2 : ob.el = []) (h3 : ob.inn = []) (hwf : ob.wf) (hl : H.obs.length + 1 ≤ 65536) (h4 : ob.hm = false := by rfl) :
    WentM w B hb tg { H with obs := H.obs ++ [ob] } { M with vo := ⟨some ⟨g5, 0, none⟩, H.obs.length + 1, cap5⟩, ovs := M.ovs ++ [OV.none] } (w5.setCell ⟨hb, 2, none⟩ (.slice (some ⟨g5, 0, none⟩) (H.obs.length + 1) cap5)) := by
  have hp : RowIn obC 12 _ B w _ M.vo (H.obs.zip M.ovs) := h.prt 4
  have hB0 := h.B0
  have t4 : ∀ b, M.vo.val.ownBlock = some b → tg b = 4 := hp.2
  have hnb : g5 ≠ hb := fun e => by
    rcases hg with q | q
    · have := t4 g5 q; rw [e] at this; omega
    · omega
  have hset : Chg (fun b => b = hb) w5 (w5.setCell ⟨hb, 2, none⟩ (.slice (some ⟨g5, 0, none⟩) (H.obs.length + 1) cap5)) := Chg.set (S := fun b => b = hb) w5 ⟨hb, 2, none⟩ _ rfl
  have hcc : Chg (fun b => tg b = 4 ∨ b = hb) w (w5.setCell ⟨hb, 2, none⟩ (.slice (some ⟨g5, 0, none⟩) (H.obs.length + 1) cap5)) := (hc.mono (S' := fun b => tg b = 4 ∨ b = hb) (fun b q => Or.inl (t4 b q))).trans hset (fun b _ q => Or.inr q)
  have hsz : (w5.setCell ⟨hb, 2, none⟩ (.slice (some ⟨g5, 0, none⟩) (H.obs.length + 1) cap5)).heap.size = w5.heap.size := by simp
  have hg5 : g5 < w5.heap.size := (ho.lt g5 rfl).2
  refine h.wentM (k0 := 4) hcc (fun b _ q => by rcases q with q | q; omega; rw [q]; omega) ?_
  refine h.up (H' := { H with obs := H.obs ++ [ob] }) (M' := { M with vo := ⟨some ⟨g5, 0, none⟩, H.obs.length + 1, cap5⟩, ovs := M.ovs ++ [OV.none] }) hcc (fun k => k = 4 ∨ k = 1) 4 (fun b _ q => by rcases q with q | q; exact ⟨Or.inl q, by omega⟩; exact ⟨Or.inr (by rw [q]; exact hB0.1), by rw [q]; omega⟩) (fun k q => ?_) (fun k O q hk => ?_) (by simp [h.len]) ⟨?_, by simp only [List.length_append, List.length_singleton]; exact hl, h.wf.tn, h.wf.ts, h.wf.tl, h.wf.mo, h.wf.br⟩
  · rw [hsz]
    rcases q with rfl | rfl
    · have hz : (H.obs ++ [ob]).zip (M.ovs ++ [OV.none]) = H.obs.zip M.ovs ++ [(ob, OV.none)] := by
        rw [List.zip_append h.len.symm]
        rfl
      refine ⟨?_, fun b q => ?_⟩
      · show OwnR obC 12 _ B _ (.slice (some ⟨g5, 0, none⟩) (H.obs.length + 1) cap5) ((H.obs ++ [ob]).zip (M.ovs ++ [OV.none]))
        rw [hz]
        exact ho.set (a := ⟨hb, 2, none⟩) (fun b q => by simp [Value.ownBlock] at q; subst q; exact hnb) _
      · have hbg : b = g5 := by simpa [SV.val, Value.ownBlock] using q.symm
        subst hbg
        show rtg _ _ _ _ _ = 4
        by_cases c : b < w.heap.size
        · rw [rtg_old c]
          rcases hg with q | q
          · exact t4 b q
          · omega
        · rw [rtg_new (by omega) hg5]
    · refine ⟨by show rtg _ _ _ _ _ = 1; rw [rtg_old hB0.2.1]; exact hB0.1, ?_⟩
      have hbx : w5.heap[hb]? = some (.cells (hpC H M) 49 (0, 0)) := by
        rw [hc.block hb hB0.2.1 (fun q => by have := t4 hb q; omega)]
        exact (h.prt 1).2
      exact heap_setCell_same w5 hb 2 _ _ _ hbx
  · match k, hk, q with
    | 0, hk, q => trivial
    | 1, hk, q => exact absurd (Or.inr rfl) q
    | 2, hk, q => exact hk
    | 3, hk, q => exact hk
    | 4, hk, q => exact absurd (Or.inl rfl) q
    | 5, hk, q => exact hk
    | 6, hk, q => exact hk
    | k + 7, hk, q =>
      intro ob1 ov1 e1 e2
      have e1' : (H.obs ++ [ob])[k / 4]? = some ob1 := e1
      have e2' : (M.ovs ++ [OV.none])[k / 4]? = some ov1 := e2
      by_cases c : k / 4 < H.obs.length
      · rw [List.getElem?_append_left c] at e1'
        rw [List.getElem?_append_left (by rw [h.len]; exact c)] at e2'
        exact hk ob1 ov1 e1' e2'
      · have hk2 : k / 4 = H.obs.length := by
          have := (List.getElem?_eq_some_iff.1 e1').1
          rw [List.length_append, List.length_singleton] at this
          omega
        rw [hk2, List.getElem?_append_right (Nat.le_refl _), Nat.sub_self] at e1'
        rw [hk2, ← h.len, List.getElem?_append_right (Nat.le_refl _), Nat.sub_self] at e2'
        simp at e1' e2'
        subst e1' e2'
        have hnil : ∀ b, SV.nil.val.ownBlock = some b → O b := fun b q => by simp [SV.nil, SV.val, Value.ownBlock] at q
        generalize k % 4 = c4
        match c4 with
        | 0 => exact ⟨by rw [h1]; exact OwnR.nil _ _, hnil⟩
        | 1 => exact ⟨by rw [h4]; rfl, fun mb e => by cases e⟩
        | 2 => exact ⟨by rw [h2]; exact OwnR.nil _ _, hnil⟩
        | _ + 3 => exact ⟨by rw [h3]; exact OwnR.nil _ _, hnil⟩
  · intro o ho'
    rcases List.mem_append.1 ho' with q | q
    · exact h.wf.ob o q
    · rw [List.mem_singleton.1 q]; exact hwf

end

end Go.Proofs.YtahhionlbfhinaaDoor.Hp
