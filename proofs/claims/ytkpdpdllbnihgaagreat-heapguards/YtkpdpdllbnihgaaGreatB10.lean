/- HH, HI, HJ -/
import Derived.Test.YtkpdpdllbnihgaaGreatB9
import Derived.Deep.RegionWith
set_option linter.unusedVariables false
set_option linter.unusedSimpArgs false
set_option maxRecDepth 100000
set_option maxHeartbeats 40000000
/- What a call leaves, its parts' values named; the tree, the cells; touch. -/
namespace Go.Proofs.YtkpdpdllbnihgaaGreat.Hp
open Go.RowKit
theorem round_cnt (i : Nat) (r : List Ce.Cel × Nat) : (Ce.roundD i r).2 + (Ce.roundD i r).1.countP Ce.Cel.ok = r.2 + r.1.countP Ce.Cel.ok ∧ (Ce.roundD i r).1.length = r.1.length := by
  unfold Ce.roundD
  cases h : r.1[i]? with
  | none => exact ⟨rfl, rfl⟩
  | some c =>
    simp only
    split
    · rename_i q
      obtain ⟨hi, he⟩ := List.getElem?_eq_some_iff.1 h
      have hp : Ce.Cel.ok r.1[i] = true := by rw [he]; exact q.1
      have hpos : 0 < r.1.countP Ce.Cel.ok := List.countP_pos_iff.2 ⟨_, List.getElem_mem hi, hp⟩
      refine ⟨?_, by simp⟩
      simp only
      rw [List.countP_set hi, if_pos hp]
      simp only [Bool.false_eq_true, if_false]
      omega
    · exact ⟨rfl, rfl⟩
theorem rounds_cnt : ∀ (n i : Nat) (r : List Ce.Cel × Nat), (Ce.roundsD i n r).2 + (Ce.roundsD i n r).1.countP Ce.Cel.ok = r.2 + r.1.countP Ce.Cel.ok ∧ (Ce.roundsD i n r).1.length = r.1.length
  | 0, i, r => ⟨rfl, rfl⟩
  | n + 1, i, r => by
    rw [Ce.roundsD]
    have h1 := rounds_cnt n (i + 1) (Ce.roundD i r)
    have h2 := round_cnt i r
    omega
theorem break_cnt (l : List Ce.Cel) (n : Int) : (Ce.breakD l n).2 + (Ce.breakD l n).1.countP Ce.Cel.ok = l.countP Ce.Cel.ok ∧ (Ce.breakD l n).1.length = l.length := by
  unfold Ce.breakD
  split
  · rename_i q
    cases h : l[n.toNat]? with
    | none => exact ⟨by simp, rfl⟩
    | some c =>
      simp only
      obtain ⟨hi, he⟩ := List.getElem?_eq_some_iff.1 h
      have hp : Ce.Cel.ok l[n.toNat] = true := by
        have := q.2
        unfold Ce.okAt at this
        rw [h] at this
        rw [he]
        simpa using this
      have hpos : 0 < l.countP Ce.Cel.ok := List.countP_pos_iff.2 ⟨_, List.getElem_mem hi, hp⟩
      have h1 := rounds_cnt (l.length - (n.toNat + 1)) (n.toNat + 1) (l.set n.toNat ⟨false, c.on⟩, 1)
      simp only at h1
      rw [List.countP_set hi, if_pos hp, List.length_set] at h1
      simp only [Bool.false_eq_true, if_false] at h1
      omega
  · exact ⟨by simp, rfl⟩
section
variable {w w' w1 : World} {B hb : Nat} {O S : Nat → Prop} {H H' : He} {M M' : HV} {tg : Nat → Nat}
/-- what a call leaves -/
def WentM (w : World) (B hb : Nat) (tg : Nat → Nat) (H : He) (M : HV) (w' : World) : Prop := ∃ tg', HeapAt w' B hb tg' H M ∧ Chg (fun b => tg b ≠ 0) w w' ∧ ∀ b, tg' b ≠ 0 → tg b ≠ 0 ∨ w.heap.size ≤ b
theorem WentM.same (h : HeapAt w B hb tg H M) (hb' : Below w.heap.size w w') : WentM w B hb tg H M w' := ⟨tg, h.below hb', Chg.of_below hb', fun b q => Or.inl q⟩
theorem WentM.drew (h : WentM w B hb tg H M w') : WentM w B hb tg H M w'.drew := by
  obtain ⟨O', h1, h2, h3⟩ := h
  exact ⟨O', h1.below ((Below.refl _ _).drew), h2.drew, h3⟩
theorem WentM.behind (hb' : Below w.heap.size w w1) (h : WentM w1 B hb tg H M w') : WentM w B hb tg H M w' := by
  obtain ⟨O', g1, g2, g3⟩ := h
  exact ⟨O', g1, (Chg.of_below hb').trans g2 (fun _ _ q => q), fun b q => (g3 b q).imp id (fun q => Nat.le_trans hb'.size q)⟩
theorem WentM.then (hb' : Below w1.heap.size w1 w') (h : WentM w B hb tg H M w1) : WentM w B hb tg H M w' := by
  obtain ⟨O', g1, g2, g3⟩ := h
  exact ⟨O', g1.below hb', g2.trans (Chg.of_below (S := fun b => tg b ≠ 0) hb') (fun _ _ q => q), g3⟩
theorem WentM.trans (h : WentM w B hb tg H M w1) (k : ∀ tg', HeapAt w1 B hb tg' H M → WentM w1 B hb tg' H' M' w') : WentM w B hb tg H' M' w' := by
  obtain ⟨O1, h1, h2, h3⟩ := h
  obtain ⟨O2, k1, k2, k3⟩ := k O1 h1
  refine ⟨O2, k1, h2.trans k2 (fun i hi q => ?_), fun b q => ?_⟩
  · rcases h3 i q with c | c
    · exact c
    · omega
  · rcases k3 b q with c | c
    · exact h3 b c
    · exact Or.inr (Nat.le_trans h2.size c)
theorem WentM.went (h : WentM w B hb tg H M w') (hO : ∀ b, O b ↔ tg b ≠ 0) : Went w B hb O H w' := by
  obtain ⟨tg', h1, h2, h3⟩ := h
  exact ⟨fun b => tg' b ≠ 0, ⟨tg', M, h1, fun _ => Iff.rfl⟩, h2.mono (fun b q => (hO b).2 q), fun b q => (h3 b q).imp (fun q => (hO b).2 q) id⟩
theorem HeapAt.wentM (h : HeapAt w B hb tg H M) {k0 : Nat} (hc : Chg S w w') (hS : ∀ b, b < w.heap.size → S b → tg b ≠ 0) (h' : HeapAt w' B hb (rtg tg w.heap.size w'.heap.size k0) H' M') : WentM w B hb tg H' M' w' := by
  refine ⟨_, h', ⟨hc.os, hc.tape, hc.output, hc.size, fun k hk hn => hc.block k hk (fun s => hn (hS k hk s))⟩, fun b q => ?_⟩
  by_cases c : b < w.heap.size
  · rw [rtg_old c] at q
    exact Or.inl q
  · exact Or.inr (by omega)
theorem HeapAt.wentF (h : HeapAt w B hb tg H M) (hc : Chg S w w') (hS : ∀ b, S b → tg b ≠ 0) (h' : HeapAt w' B hb tg H' M') : WentM w B hb tg H' M' w' :=
  ⟨_, h', hc.mono hS, fun b q => Or.inl q⟩
/-- the tree is another one -/
theorem HeapAt.tree (h : HeapAt w B hb tg H M) {Ot : Nat → Prop} {L' : List Sp.Sh} (hO : ∀ b, Ot b → tg b = 5) (hw : Sp.Went w B M.tb Ot H.most L' w') : WentM w B hb tg { H with L := L' } M w' ∧ Chg (fun b => tg b = 5) w w' := by
  obtain ⟨O', k1, k2, k3⟩ := hw
  have hc : Chg (fun b => tg b = 5) w w' := k2.mono hO
  refine ⟨h.wentM (k0 := 5) hc (fun b _ q => by omega) ?_, hc⟩
  refine h.up (H' := { H with L := L' }) (M' := M) hc (fun k => k = 5) 5 (fun b _ q => ⟨q, by omega⟩) (fun k q => ?_) (fun k O q hk => ?_) h.len ⟨h.wf.ob, h.wf.ol, h.wf.tn, h.wf.ts, h.wf.tl, h.wf.mo, h.wf.br⟩
  · subst q
    refine ⟨O', k1, fun b q => ?_⟩
    have hl := k1.lt b q
    show rtg _ _ _ _ _ = 5
    rcases k3 b q with c | c
    · have := h.lt b (by have := hO b c; omega)
      rw [rtg_old this.2]
      exact hO b c
    · rw [rtg_new c hl.2]
  · match k, hk, q with
    | 0, hk, q => trivial
    | 1, hk, q => exact hk
    | 2, hk, q => exact hk
    | 3, hk, q => exact hk
    | 4, hk, q => exact hk
    | 5, hk, q => exact absurd rfl q
    | 6, hk, q => exact hk
    | k + 7, hk, q => exact hk
/-- the cells are others, and how many were broken -/
theorem HeapAt.cels (h : HeapAt w B hb tg H M) {Oc : Nat → Prop} {n : Int} (hO : ∀ b, Oc b → tg b = 6) (hw : Ce.Went w B M.cb Oc (Ce.breakD H.C n).1 w') : WentM w B hb tg { H with C := (Ce.breakD H.C n).1, br := H.br + ((Ce.breakD H.C n).2 : Int) } M (w'.setCell ⟨hb, 5, none⟩ (.int .i64 (H.br + ((Ce.breakD H.C n).2 : Int)))) := by
  obtain ⟨O', k1, k2, k3⟩ := hw
  have hB0 := h.B0
  have hc : Chg (fun b => tg b = 6 ∨ b = hb) w (w'.setCell ⟨hb, 5, none⟩ (.int .i64 (H.br + ((Ce.breakD H.C n).2 : Int)))) := (k2.mono (S' := fun b => tg b = 6 ∨ b = hb) (fun b q => Or.inl (hO b q))).trans (Chg.set (S := fun b => b = hb) w' ⟨hb, 5, none⟩ _ rfl) (fun b _ q => Or.inr q)
  have hsz : (w'.setCell ⟨hb, 5, none⟩ (.int .i64 (H.br + ((Ce.breakD H.C n).2 : Int)))).heap.size = w'.heap.size := by simp
  have hset : Chg (fun b => b = hb) w' (w'.setCell ⟨hb, 5, none⟩ (.int .i64 (H.br + ((Ce.breakD H.C n).2 : Int)))) := Chg.set (S := fun b => b = hb) w' ⟨hb, 5, none⟩ _ rfl
  have hcnt := break_cnt H.C n
  have hbr := h.wf.br
  refine h.wentM (k0 := 6) hc (fun b _ q => by rcases q with q | q; omega; rw [q]; omega) ?_
  refine h.up (H' := { H with C := (Ce.breakD H.C n).1, br := H.br + ((Ce.breakD H.C n).2 : Int) }) (M' := M) hc (fun k => k = 6 ∨ k = 1) 6 (fun b _ q => by rcases q with q | q; exact ⟨Or.inl q, by omega⟩; exact ⟨Or.inr (by rw [q]; exact hB0.1), by rw [q]; omega⟩) (fun k q => ?_) (fun k O q hk => ?_) h.len ⟨h.wf.ob, h.wf.ol, h.wf.tn, h.wf.ts, h.wf.tl, h.wf.mo, by simp only; omega⟩
  · rw [hsz]
    rcases q with rfl | rfl
    · have hne : ¬ O' hb := fun q => by
        rcases k3 hb q with c | c
        · have := hO hb c; omega
        · omega
      refine ⟨O', k1.kept hset (fun b q e => by rw [show b = hb from e] at q; exact hne q), fun b q => ?_⟩
      have hl := k1.lt b q
      show rtg _ _ _ _ _ = 6
      rcases k3 b q with c | c
      · have := h.lt b (by have := hO b c; omega)
        rw [rtg_old this.2]
        exact hO b c
      · rw [rtg_new c hl.2]
    · refine ⟨by show rtg _ _ _ _ _ = 1; rw [rtg_old hB0.2.1]; exact hB0.1, ?_⟩
      have hbx : w'.heap[hb]? = some (.cells (hpC H M) 63 (0, 0)) := by
        rw [k2.block hb hB0.2.1 (fun q => by have := hO hb q; omega)]
        exact (h.prt 1).2
      exact heap_setCell_same w' hb 5 _ _ _ hbx
  · match k, hk, q with
    | 0, hk, q => trivial
    | 1, hk, q => exact absurd (Or.inr rfl) q
    | 2, hk, q => exact hk
    | 3, hk, q => exact hk
    | 4, hk, q => exact hk
    | 5, hk, q => exact hk
    | 6, hk, q => exact absurd (Or.inl rfl) q
    | k + 7, hk, q => exact hk
end
end Go.Proofs.YtkpdpdllbnihgaaGreat.Hp
/- touch. -/
namespace Go.Proofs.YtkpdpdllbnihgaaGreat.Hp
open Go.RowKit
def touchH (H : He) (n : Int) : He := { H with C := (Ce.breakD H.C n).1, br := H.br + ((Ce.breakD H.C n).2 : Int) }
section
variable {w w' w1 : World} {B hb : Nat} {O S : Nat → Prop} {H H' : He} {M M' : HV} {tg : Nat → Nat}
set_option maxRecDepth 100000 in
set_option maxHeartbeats 4000000 in
theorem touch_at (h : HeapAt w B hb tg H M) {i g cap : Nat} {ob : Ob} (hi : H.obs[i]? = some ob) (hvo : M.vo = ⟨some ⟨g, 0, none⟩, H.obs.length, cap⟩) :
    Calls Tryz.prog 68 #[.pointer (some ⟨hb, 0, none⟩), .pointer (some ⟨g, i * 12, none⟩)] w fun e w' => e = .returned (.tuple #[]) ∧ WentM w B hb tg (touchH H ob.cell) M w' := by
  obtain ⟨g', cap', ov, hvo', hov, t4, hne, hgl, hcell, hfz, hl1, hl2, hrow⟩ := h.obj hi
  rw [hvo] at hvo'
  injection hvo' with e1 e2 e3
  injection e1 with e1
  injection e1 with e1
  subst e1
  obtain ⟨c0, c1, c2, c3, c4, c5, fz⟩ := h.box
  have d11 := hcell 11 _ rfl
  simp only at d11
  obtain ⟨Oc, hcs, hOc⟩ := h.prt 6
  have hcs2 : Ce.Cs w.drew B M.cb Oc H.C := hcs.below ((Below.refl _ _).drew)
  have kb := Ce.break_any w.drew B M.cb Oc H.C hcs2 ob.cell
  have hbr := h.wf.br
  have hcnt := break_cnt H.C ob.cell
  have hlen : H.C.length ≤ Ce.top := by obtain ⟨E, v, _, _, _, q⟩ := hcs; exact q
  have hB0 := h.B0
  have HW : Hid (∀ w5, Ce.Went w.drew B M.cb Oc (Ce.breakD H.C ob.cell).1 w5 → WentM w B hb tg (touchH H ob.cell) M (w5.setCell ⟨hb, 5, none⟩ (.int .i64 (H.br + ((Ce.breakD H.C ob.cell).2 : Int)))) ∧ w5.cell? ⟨hb, 5, none⟩ = some (.int .i64 H.br) ∧ w5.frozen? ⟨hb, 5, none⟩ = false) := fun w5 q => by
    have hd : HeapAt w.drew B hb tg H M := h.below ((Below.refl _ _).drew)
    refine ⟨WentM.behind ((Below.refl _ _).drew) (hd.cels hOc q), ?_⟩
    obtain ⟨O', k1, k2, k3⟩ := q
    have hn : ¬ Oc hb := fun q => by have := hOc hb q; omega
    exact ⟨k2.cell (a := ⟨hb, 5, none⟩) c5 hn, by rw [World.frozen?_of_block (w := w.drew) (k2.block hb hB0.2.1 hn)]; exact fz 5⟩
  have hw1 : IntKind.i64.wrap (H.br + ((Ce.breakD H.C ob.cell).2 : Int)) = H.br + ((Ce.breakD H.C ob.cell).2 : Int) := by
    unfold Ce.top at hlen
    rw [IntKind.wrap_i64]
    omega
  generalize ob.cell = n at *
  generalize touchH H n = HT at *
  generalize ((Ce.breakD H.C n).2 : Int) = x at *
  generalize (Ce.breakD H.C n).1 = C1 at *
  generalize H.br = br at *
  generalize M.cb = cb at *
  have f5 := fz 5
  clear h hi hvo hov t4 hgl hcell hfz hl1 hl2 hrow c0 c1 c2 c3 hcs hcs2 hOc hbr hcnt hlen hB0 fz e2 e3
  go_enter Tryz.func68, Tryz.ntmps68
  go_wp2_with fail
  first
  | (go_region_with ((go_at_call 94; refine kb.mono ?_; rintro e w5 ⟨rfl, hq⟩; have HX := HW.out w5 hq; have HY : Hid (WentM w B hb tg HT M (w5.setCell ⟨hb, 5, none⟩ (.int .i64 (br + x)))) := HX.1; have m5 := HX.2.1; have n5 := HX.2.2; clear hq HX)))
  | fail
  all_goals
    go_wp2_with fail
    go_end0
    exact ⟨rfl, HY.out⟩
end
end Go.Proofs.YtkpdpdllbnihgaaGreat.Hp
/- mayBeProto, raise, rootOf. -/
namespace Go.Proofs.YtkpdpdllbnihgaaGreat.Hp
open Go.RowKit
def mayB (H : He) (p : Int) : Bool := (p == nulW) || (obI H p).isSome
def raiseH (H : He) (p : Int) : He :=
  match obI H p with
  | none => H
  | some j => match H.obs[j]? with
    | none => H
    | some ob => { H with obs := H.obs.set j { ob with above := true } }
def rootN (kind proto : Int) : Int := (proto * 8 + kind) % 18446744073709551616
theorem obI_at {H : He} {o : Int} {i : Nat} (h : obI H o = some i) : ∃ ob, H.obs[i]? = some ob := ⟨_, List.getElem?_eq_getElem (obI_some h).2.2.1⟩
section
variable {w w' w1 : World} {B hb : Nat} {O S : Nat → Prop} {H H' : He} {M M' : HV} {tg : Nat → Nat}
set_option maxRecDepth 100000 in
theorem mayBe_at (h : HeapAt w B hb tg H M) (p : Int) (p0 : 0 ≤ p) (p1 : p < 18446744073709551616) :
    Calls Tryz.prog 63 #[.pointer (some ⟨hb, 0, none⟩), .int .u64 p] w fun e w' => e = .returned (.bool (mayB H p)) ∧ w' = w := by
  unfold mayB
  by_cases c : p = nulW
  · have c1 : (p == nulW) = true := by simpa using c
    rw [c1, Bool.true_or]
    have c2 : (p == 18445336698825998337) = true := c1
    clear c1 c h
    go_enter Tryz.func63, Tryz.ntmps63
    go_wp2_with fail
    go_ret
    exact ⟨rfl, rfl⟩
  · have c1 : (p == nulW) = false := by simpa using c
    rw [c1, Bool.false_or]
    have c2 : (p == 18445336698825998337) = false := c1
    cases hi : obI H p with
    | none =>
      have ka := at_miss h p p0 p1 hi
      clear h hi c c1
      go_enter Tryz.func63, Tryz.ntmps63
      go_wp2_with fail
      refine ka.mono ?_
      rintro e w2 ⟨rfl, rfl⟩
      clear ka
      go_wp2_with fail
      go_ret
      exact ⟨rfl, rfl⟩
    | some i =>
      obtain ⟨ob, hob⟩ := obI_at hi
      obtain ⟨g, cap, ov, hvo, _⟩ := h.obj hob
      have ka := at_hit h p p0 p1 i g cap hi hvo
      clear h hi c c1 hvo hob
      go_enter Tryz.func63, Tryz.ntmps63
      go_wp2_with fail
      refine ka.mono ?_
      rintro e w2 ⟨rfl, rfl⟩
      clear ka
      go_wp2_with fail
      go_ret
      exact ⟨rfl, rfl⟩
set_option maxRecDepth 100000 in
theorem raise_at (h : HeapAt w B hb tg H M) (p : Int) (p0 : 0 ≤ p) (p1 : p < 18446744073709551616) :
    Calls Tryz.prog 64 #[.pointer (some ⟨hb, 0, none⟩), .int .u64 p] w fun e w' => e = .returned (.tuple #[]) ∧ WentM w B hb tg (raiseH H p) M w' := by
  unfold raiseH
  cases hi : obI H p with
  | none =>
    have ka := at_miss h p p0 p1 hi
    have HW : Hid (WentM w B hb tg H M w) := WentM.same h (Below.refl _ _)
    simp only
    clear h hi
    go_enter Tryz.func64, Tryz.ntmps64
    go_wp2_with fail
    refine ka.mono ?_
    rintro e w2 ⟨rfl, rfl⟩
    clear ka
    go_wp2_with fail
    go_end0
    exact ⟨rfl, HW.out⟩
  | some i =>
    obtain ⟨ob, hob⟩ := obI_at hi
    simp only [hob]
    obtain ⟨g, cap, ov, hvo, hov, t4, hne, hgl, hcell, hfz, hl1, hl2, hrow⟩ := h.obj hob
    have ka := at_hit h p p0 p1 i g cap hi hvo
    have hwf := h.wf.ob ob (List.mem_of_getElem? hob)
    have hf := h.fld hob hov hvo { ob with above := true } (j := 3) (u := .bool true) (by omega) rfl rfl rfl rfl ⟨hwf.kd, hwf.pr, hwf.ks, hwf.fl, hwf.nx, hwf.el, hwf.inn⟩
    have HW : Hid (WentM w B hb tg { H with obs := H.obs.set i { ob with above := true } } M (w.setCell ⟨g, i * 12 + 3, none⟩ (.bool true))) := h.wentF hf.2 (fun b q => by omega) hf.1
    have d3 := hcell 3 _ rfl
    have f3 := hfz (i * 12 + 3)
    simp only at d3
    generalize { H with obs := H.obs.set i { ob with above := true } } = H1 at *
    clear h hi hob hvo hov t4 hne hgl hcell hfz hl1 hl2 hrow hwf hf
    go_enter Tryz.func64, Tryz.ntmps64
    go_wp2_with fail
    refine ka.mono ?_
    rintro e w2 ⟨rfl, rfl⟩
    clear ka
    go_wp2_with fail
    go_end0
    exact ⟨rfl, HW.out⟩
theorem rootOf_any (w : World) (k p : Int) (k0 : 0 ≤ k) (k6 : k ≤ 6) (p0 : 0 ≤ p) (p1 : p < 18446744073709551616) :
    Calls Tryz.prog 66 #[.int .i64 k, .int .u64 p] w fun e w' => e = .returned (.int .u64 (rootN k p)) ∧ w' = w := by
  have h1 : IntKind.u64.wrap (p * 8) = p * 8 % 18446744073709551616 := IntKind.wrap_u64 _
  have h2 : IntKind.u64.wrap k = k := by rw [IntKind.wrap_u64]; omega
  have h3 : IntKind.u64.wrap (p * 8 % 18446744073709551616 + k) = rootN k p := by unfold rootN; rw [IntKind.wrap_u64]; omega
  generalize rootN k p = r at *
  generalize p * 8 % 18446744073709551616 = q at *
  go_enter Tryz.func66, Tryz.ntmps66
  go_wp2
  go_ret
  exact ⟨rfl, rfl⟩
theorem raise_len (H : He) (p : Int) : (raiseH H p).obs.length = H.obs.length ∧ (raiseH H p).L = H.L ∧ (raiseH H p).most = H.most := by
  unfold raiseH
  cases obI H p with
  | none => exact ⟨rfl, rfl, rfl⟩
  | some j =>
    simp only
    cases H.obs[j]? with
    | none => exact ⟨rfl, rfl, rfl⟩
    | some ob => exact ⟨by simp, rfl, rfl⟩
/-- an object more -/
theorem HeapAt.push (h : HeapAt w B hb tg H M) {w5 : World} {g5 cap5 : Nat} {ob : Ob} (ho : OwnR obC 12 105 B w5 (.slice (some ⟨g5, 0, none⟩) (H.obs.length + 1) cap5) (H.obs.zip M.ovs ++ [(ob, OV.none)])) (hc : Chg (fun b => M.vo.val.ownBlock = some b) w w5) (hg : M.vo.val.ownBlock = some g5 ∨ w.heap.size ≤ g5) (h1 : ob.ps = []) (h2 : ob.el = []) (h3 : ob.inn = []) (hwf : ob.wf) (hl : H.obs.length + 1 ≤ 65536) (h4 : ob.hm = false := by rfl) :
    WentM w B hb tg { H with obs := H.obs ++ [ob] } { M with vo := ⟨some ⟨g5, 0, none⟩, H.obs.length + 1, cap5⟩, ovs := M.ovs ++ [OV.none] } (w5.setCell ⟨hb, 2, none⟩ (.slice (some ⟨g5, 0, none⟩) (H.obs.length + 1) cap5)) := by
  have hp : RowIn obC 12 _ B w _ M.vo (H.obs.zip M.ovs) := h.prt 4
  have hB0 := h.B0
  have t4 : ∀ b, M.vo.val.ownBlock = some b → tg b = 4 := hp.2
  have hnb : g5 ≠ hb := fun e => by
    rcases hg with q | q
    · have := t4 g5 q; rw [e] at this; omega
    · omega
  have hset : Chg (fun b => b = hb) w5 (w5.setCell ⟨hb, 2, none⟩ (.slice (some ⟨g5, 0, none⟩) (H.obs.length + 1) cap5)) := Chg.set (S := fun b => b = hb) w5 ⟨hb, 2, none⟩ _ rfl
  have hcc : Chg (fun b => tg b = 4 ∨ b = hb) w (w5.setCell ⟨hb, 2, none⟩ (.slice (some ⟨g5, 0, none⟩) (H.obs.length + 1) cap5)) := (hc.mono (S' := fun b => tg b = 4 ∨ b = hb) (fun b q => Or.inl (t4 b q))).trans hset (fun b _ q => Or.inr q)
  have hsz : (w5.setCell ⟨hb, 2, none⟩ (.slice (some ⟨g5, 0, none⟩) (H.obs.length + 1) cap5)).heap.size = w5.heap.size := by simp
  have hg5 : g5 < w5.heap.size := (ho.lt g5 rfl).2
  refine h.wentM (k0 := 4) hcc (fun b _ q => by rcases q with q | q; omega; rw [q]; omega) ?_
  refine h.up (H' := { H with obs := H.obs ++ [ob] }) (M' := { M with vo := ⟨some ⟨g5, 0, none⟩, H.obs.length + 1, cap5⟩, ovs := M.ovs ++ [OV.none] }) hcc (fun k => k = 4 ∨ k = 1) 4 (fun b _ q => by rcases q with q | q; exact ⟨Or.inl q, by omega⟩; exact ⟨Or.inr (by rw [q]; exact hB0.1), by rw [q]; omega⟩) (fun k q => ?_) (fun k O q hk => ?_) (by simp [h.len]) ⟨?_, by simp only [List.length_append, List.length_singleton]; exact hl, h.wf.tn, h.wf.ts, h.wf.tl, h.wf.mo, h.wf.br⟩
  · rw [hsz]
    rcases q with rfl | rfl
    · have hz : (H.obs ++ [ob]).zip (M.ovs ++ [OV.none]) = H.obs.zip M.ovs ++ [(ob, OV.none)] := by
        rw [List.zip_append h.len.symm]
        rfl
      refine ⟨?_, fun b q => ?_⟩
      · show OwnR obC 12 _ B _ (.slice (some ⟨g5, 0, none⟩) (H.obs.length + 1) cap5) ((H.obs ++ [ob]).zip (M.ovs ++ [OV.none]))
        rw [hz]
        exact ho.set (a := ⟨hb, 2, none⟩) (fun b q => by simp [Value.ownBlock] at q; subst q; exact hnb) _
      · have hbg : b = g5 := by simpa [SV.val, Value.ownBlock] using q.symm
        subst hbg
        show rtg _ _ _ _ _ = 4
        by_cases c : b < w.heap.size
        · rw [rtg_old c]
          rcases hg with q | q
          · exact t4 b q
          · omega
        · rw [rtg_new (by omega) hg5]
    · refine ⟨by show rtg _ _ _ _ _ = 1; rw [rtg_old hB0.2.1]; exact hB0.1, ?_⟩
      have hbx : w5.heap[hb]? = some (.cells (hpC H M) 63 (0, 0)) := by
        rw [hc.block hb hB0.2.1 (fun q => by have := t4 hb q; omega)]
        exact (h.prt 1).2
      exact heap_setCell_same w5 hb 2 _ _ _ hbx
  · match k, hk, q with
    | 0, hk, q => trivial
    | 1, hk, q => exact absurd (Or.inr rfl) q
    | 2, hk, q => exact hk
    | 3, hk, q => exact hk
    | 4, hk, q => exact absurd (Or.inl rfl) q
    | 5, hk, q => exact hk
    | 6, hk, q => exact hk
    | k + 7, hk, q =>
      intro ob1 ov1 e1 e2
      have e1' : (H.obs ++ [ob])[k / 4]? = some ob1 := e1
      have e2' : (M.ovs ++ [OV.none])[k / 4]? = some ov1 := e2
      by_cases c : k / 4 < H.obs.length
      · rw [List.getElem?_append_left c] at e1'
        rw [List.getElem?_append_left (by rw [h.len]; exact c)] at e2'
        exact hk ob1 ov1 e1' e2'
      · have hk2 : k / 4 = H.obs.length := by
          have := (List.getElem?_eq_some_iff.1 e1').1
          rw [List.length_append, List.length_singleton] at this
          omega
        rw [hk2, List.getElem?_append_right (Nat.le_refl _), Nat.sub_self] at e1'
        rw [hk2, ← h.len, List.getElem?_append_right (Nat.le_refl _), Nat.sub_self] at e2'
        simp at e1' e2'
        subst e1' e2'
        have hnil : ∀ b, SV.nil.val.ownBlock = some b → O b := fun b q => by simp [SV.nil, SV.val, Value.ownBlock] at q
        generalize k % 4 = c4
        match c4 with
        | 0 => exact ⟨by rw [h1]; exact OwnR.nil _ _, hnil⟩
        | 1 => exact ⟨by rw [h4]; rfl, fun mb e => by cases e⟩
        | 2 => exact ⟨by rw [h2]; exact OwnR.nil _ _, hnil⟩
        | _ + 3 => exact ⟨by rw [h3]; exact OwnR.nil _ _, hnil⟩
  · intro o ho'
    rcases List.mem_append.1 ho' with q | q
    · exact h.wf.ob o q
    · rw [List.mem_singleton.1 q]; exact hwf
end
end Go.Proofs.YtkpdpdllbnihgaaGreat.Hp
