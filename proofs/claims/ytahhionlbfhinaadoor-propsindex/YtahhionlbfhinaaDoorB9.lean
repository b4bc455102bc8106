/- What a call leaves, its parts' values named; the tree, the cells; touch. -/
import Derived.Test.YtahhionlbfhinaaDoorB8
import Derived.Deep.RegionWith
namespace Go.Proofs.YtahhionlbfhinaaDoor.Hp
open Go.RowKit
set_option linter.unusedVariables false

theorem round_cnt (i : Nat) (r : List Ce.Cel × Nat) : (Ce.roundD i r).2 + (Ce.roundD i r).1.countP Ce.Cel.ok = r.2 + r.1.countP Ce.Cel.ok ∧ (Ce.roundD i r).1.length = r.1.length := by
  unfold Ce.roundD
  cases h : r.1[i]? with
  | none => exact ⟨rfl, rfl⟩
  | some c =>
    simp only
    split
    · rename_i q
      obtain ⟨hi, he⟩ := List.getElem?_eq_some_iff.1 h
      have hp : Ce.Cel.ok r.1[i] = true := by rw [he]; exact q.1
      have hpos : 0 < r.1.countP Ce.Cel.ok := List.countP_pos_iff.2 ⟨_, List.getElem_mem hi, hp⟩
      refine ⟨?_, by simp⟩
      simp only
      rw [List.countP_set hi, if_pos hp]
      simp only [Bool.false_eq_true, if_false]
      omega
    · exact ⟨rfl, rfl⟩
theorem rounds_cnt : ∀ (n i : Nat) (r : List Ce.Cel × Nat), (Ce.roundsD i n r).2 + (Ce.roundsD i n r).1.countP Ce.Cel.ok = r.2 + r.1.countP Ce.Cel.ok ∧ (Ce.roundsD i n r).1.length = r.1.length
  | 0, i, r => ⟨rfl, rfl⟩
  | n + 1, i, r => by
    rw [Ce.roundsD]
    have h1 := rounds_cnt n (i + 1) (Ce.roundD i r)
    have h2 := round_cnt i r
    omega
theorem break_cnt (l : List Ce.Cel) (n : Int) : (Ce.breakD l n).2 + (Ce.breakD l n).1.countP Ce.Cel.ok = l.countP Ce.Cel.ok ∧ (Ce.breakD l n).1.length = l.length := by
  unfold Ce.breakD
  split
  · rename_i q
    cases h : l[n.toNat]? with
    | none => exact ⟨by simp, rfl⟩
    | some c =>
      simp only
      obtain ⟨hi, he⟩ := List.getElem?_eq_some_iff.1 h
      have hp : Ce.Cel.ok l[n.toNat] = true := by
        have := q.2
        unfold Ce.okAt at this
        rw [h] at this
        rw [he]
        simpa using this
      have hpos : 0 < l.countP Ce.Cel.ok := List.countP_pos_iff.2 ⟨_, List.getElem_mem hi, hp⟩
      have h1 := rounds_cnt (l.length - (n.toNat + 1)) (n.toNat + 1) (l.set n.toNat ⟨false, c.on⟩, 1)
      simp only at h1
      rw [List.countP_set hi, if_pos hp, List.length_set] at h1
      simp only [Bool.false_eq_true, if_false] at h1
      omega
  · exact ⟨by simp, rfl⟩

section
variable {w w' w1 : World} {B hb : Nat} {O S : Nat → Prop} {H H' : He} {M M' : HV} {tg : Nat → Nat}

/-- what a call leaves -/
def WentM (w : World) (B hb : Nat) (tg : Nat → Nat) (H : He) (M : HV) (w' : World) : Prop := ∃ tg', HeapAt w' B hb tg' H M ∧ Chg (fun b => tg b ≠ 0) w w' ∧ ∀ b, tg' b ≠ 0 → tg b ≠ 0 ∨ w.heap.size ≤ b

theorem WentM.same (h : HeapAt w B hb tg H M) (hb' : Below w.heap.size w w') : WentM w B hb tg H M w' := ⟨tg, h.below hb', Chg.of_below hb', fun b q => Or.inl q⟩
theorem WentM.drew (h : WentM w B hb tg H M w') : WentM w B hb tg H M w'.drew := by
  obtain ⟨O', h1, h2, h3⟩ := h
  exact ⟨O', h1.below ((Below.refl _ _).drew), h2.drew, h3⟩
theorem WentM.behind (hb' : Below w.heap.size w w1) (h : WentM w1 B hb tg H M w') : WentM w B hb tg H M w' := by
  obtain ⟨O', g1, g2, g3⟩ := h
  exact ⟨O', g1, (Chg.of_below hb').trans g2 (fun _ _ q => q), fun b q => (g3 b q).imp id (fun q => Nat.le_trans hb'.size q)⟩
theorem WentM.then (hb' : Below w1.heap.size w1 w') (h : WentM w B hb tg H M w1) : WentM w B hb tg H M w' := by
  obtain ⟨O', g1, g2, g3⟩ := h
  exact ⟨O', g1.below hb', g2.trans (Chg.of_below (S := fun b => tg b ≠ 0) hb') (fun _ _ q => q), g3⟩
theorem WentM.trans (h : WentM w B hb tg H M w1) (k : ∀ tg', HeapAt w1 B hb tg' H M → WentM w1 B hb tg' H' M' w') : WentM w B hb tg H' M' w' := by
  obtain ⟨O1, h1, h2, h3⟩ := h
  obtain ⟨O2, k1, k2, k3⟩ := k O1 h1
  refine ⟨O2, k1, h2.trans k2 (fun i hi q => ?_), fun b q => ?_⟩
  · rcases h3 i q with c | c
    · exact c
    · omega
  · rcases k3 b q with c | c
    · exact h3 b c
    · exact Or.inr (Nat.le_trans h2.size c)
theorem WentM.went (h : WentM w B hb tg H M w') (hO : ∀ b, O b ↔ tg b ≠ 0) : Went w B hb O H w' := by
  obtain ⟨tg', h1, h2, h3⟩ := h
  exact ⟨fun b => tg' b ≠ 0, ⟨tg', M, h1, fun _ => Iff.rfl⟩, h2.mono (fun b q => (hO b).2 q), fun b q => (h3 b q).imp (fun q => (hO b).2 q) id⟩
theorem HeapAt.wentM (h : HeapAt w B hb tg H M) {k0 : Nat} (hc : Chg S w w') (hS : ∀ b, b < w.heap.size → S b → tg b ≠ 0) (h' : HeapAt w' B hb (rtg tg w.heap.size w'.heap.size k0) H' M') : WentM w B hb tg H' M' w' := by
  refine ⟨_, h', ⟨hc.os, hc.tape, hc.output, hc.size, fun k hk hn => hc.block k hk (fun s => hn (hS k hk s))⟩, fun b q => ?_⟩
  by_cases c : b < w.heap.size
  · rw [rtg_old c] at q
    exact Or.inl q
  · exact Or.inr (by omega)
theorem HeapAt.wentF (h : HeapAt w B hb tg H M) (hc : Chg S w w') (hS : ∀ b, S b → tg b ≠ 0) (h' : HeapAt w' B hb tg H' M') : WentM w B hb tg H' M' w' :=
  ⟨_, h', hc.mono hS, fun b q => Or.inl q⟩

/-- the tree is another one -/
theorem HeapAt.tree (h : HeapAt w B hb tg H M) {Ot : Nat → Prop} {L' : List Sp.Sh} (hO : ∀ b, Ot b → tg b = 5) (hw : Sp.Went w B M.tb Ot H.most L' w') : WentM w B hb tg { H with L := L' } M w' ∧ Chg (fun b => tg b = 5) w w' := by
  obtain ⟨O', k1, k2, k3⟩ := hw
  have hc : Chg (fun b => tg b = 5) w w' := k2.mono hO
  refine ⟨h.wentM (k0 := 5) hc (fun b _ q => by omega) ?_, hc⟩
  refine h.up (H' := { H with L := L' }) (M' := M) hc (fun k => k = 5) 5 (fun b _ q => ⟨q, by omega⟩) (fun k q => ?_) (fun k O q hk => ?_) h.len ⟨h.wf.ob, h.wf.ol, h.wf.tn, h.wf.ts, h.wf.tl, h.wf.mo, h.wf.br⟩
  · subst q
    refine ⟨O', k1, fun b q => ?_⟩
    have hl := k1.lt b q
    show rtg _ _ _ _ _ = 5
    rcases k3 b q with c | c
    · have := h.lt b (by have := hO b c; omega)
      rw [rtg_old this.2]
      exact hO b c
    · rw [rtg_new c hl.2]
  · match k, hk, q with
    | 0, hk, q => trivial
    | 1, hk, q => exact hk
    | 2, hk, q => exact hk
    | 3, hk, q => exact hk
    | 4, hk, q => exact hk
    | 5, hk, q => exact absurd rfl q
    | 6, hk, q => exact hk
    | k + 7, hk, q => exact hk

/-- the cells are others, and how many were broken -/
theorem HeapAt.cels (h : HeapAt w B hb tg H M) {Oc : Nat → Prop} {n : Int} (hO : ∀ b, Oc b → tg b = 6) (hw : Ce.Went w B M.cb Oc (Ce.breakD H.C n).1 w') : WentM w B hb tg { H with C := (Ce.breakD H.C n).1, br := H.br + ((Ce.breakD H.C n).2 : Int) } M (w'.setCell ⟨hb, 5, none⟩ (.int .i64 (H.br + ((Ce.breakD H.C n).2 : Int)))) := by
  obtain ⟨O', k1, k2, k3⟩ := hw
  have hB0 := h.B0
  have hc : Chg (fun b => tg b = 6 ∨ b = hb) w (w'.setCell ⟨hb, 5, none⟩ (.int .i64 (H.br + ((Ce.breakD H.C n).2 : Int)))) := (k2.mono (S' := fun b => tg b = 6 ∨ b = hb) (fun b q => Or.inl (hO b q))).trans (Chg.set (S := fun b => b = hb) w' ⟨hb, 5, none⟩ _ rfl) (fun b _ q => Or.inr q)
  have hsz : (w'.setCell ⟨hb, 5, none⟩ (.int .i64 (H.br + ((Ce.breakD H.C n).2 : Int)))).heap.size = w'.heap.size := by simp
  have hset : Chg (fun b => b = hb) w' (w'.setCell ⟨hb, 5, none⟩ (.int .i64 (H.br + ((Ce.breakD H.C n).2 : Int)))) := Chg.set (S := fun b => b = hb) w' ⟨hb, 5, none⟩ _ rfl
  have hcnt := break_cnt H.C n
  have hbr := h.wf.br
  refine h.wentM (k0 := 6) hc (fun b _ q => by rcases q with q | q; omega; rw [q]; omega) ?_
  refine h.up (H' := { H with C := (Ce.breakD H.C n).1, br := H.br + ((Ce.breakD H.C n).2 : Int) }) (M' := M) hc (fun k => k = 6 ∨ k = 1) 6 (fun b _ q => by rcases q with q | q; exact ⟨Or.inl q, by omega⟩; exact ⟨Or.inr (by rw [q]; exact hB0.1), by rw [q]; omega⟩) (fun k q => ?_) (fun k O q hk => ?_) h.len ⟨h.wf.ob, h.wf.ol, h.wf.tn, h.wf.ts, h.wf.tl, h.wf.mo, by simp only; omega⟩
  · rw [hsz]
    rcases q with rfl | rfl
    · have hne : ¬ O' hb := fun q => by
        rcases k3 hb q with c | c
        · have := hO hb c; omega
        · omega
      refine ⟨O', k1.kept hset (fun b q e => by rw [show b = hb from e] at q; exact hne q), fun b q => ?_⟩
      have hl := k1.lt b q
      show rtg _ _ _ _ _ = 6
      rcases k3 b q with c | c
      · have := h.lt b (by have := hO b c; omega)
        rw [rtg_old this.2]
        exact hO b c
      · rw [rtg_new c hl.2]
    · refine ⟨by show rtg _ _ _ _ _ = 1; rw [rtg_old hB0.2.1]; exact hB0.1, ?_⟩
      have hbx : w'.heap[hb]? = some (.cells (hpC H M) 49 (0, 0)) := by
        rw [k2.block hb hB0.2.1 (fun q => by have := hO hb q; omega)]
        exact (h.prt 1).2
      exact heap_setCell_same w' hb 5 _ _ _ hbx
  · match k, hk, q with
    | 0, hk, q => trivial
    | 1, hk, q => exact absurd (Or.inr rfl) q
    | 2, hk, q => exact hk
    | 3, hk, q => exact hk
    | 4, hk, q => exact hk
    | 5, hk, q => exact hk
    | 6, hk, q => exact absurd (Or.inl rfl) q
    | k + 7, hk, q => exact hk

end

end Go.Proofs.YtahhionlbfhinaaDoor.Hp

/- touch. -/
namespace Go.Proofs.YtahhionlbfhinaaDoor.Hp
open Go.RowKit
set_option linter.unusedVariables false

def touchH (H : He) (n : Int) : He := { H with C := (Ce.breakD H.C n).1, br := H.br + ((Ce.breakD H.C n).2 : Int) }

section
variable {w w' w1 : World} {B hb : Nat} {O S : Nat → Prop} {H H' : He} {M M' : HV} {tg : Nat → Nat}

set_option maxRecDepth 100000 in
set_option maxHeartbeats 4000000 in
theorem touch_at (h : HeapAt w B hb tg H M) {i g cap : Nat} {ob : Ob} (hi : H.obs[i]? = some ob) (hvo : M.vo = ⟨some ⟨g, 0, none⟩, H.obs.length, cap⟩) :
    Calls Tryd.prog 52 #[.pointer (some ⟨hb, 0, none⟩), .pointer (some ⟨g, i * 12, none⟩)] w fun e w' => e = .returned (.tuple #[]) ∧ WentM w B hb tg (touchH H ob.cell) M w' := by
  obtain ⟨g', cap', ov, hvo', hov, t4, hne, hgl, hcell, hfz, hl1, hl2, hrow⟩ := h.obj hi
  rw [hvo] at hvo'
  injection hvo' with e1 e2 e3
  injection e1 with e1
  injection e1 with e1
  subst e1
  obtain ⟨c0, c1, c2, c3, c4, c5, fz⟩ := h.box
  have d11 := hcell 11 _ rfl
  simp only at d11
  obtain ⟨Oc, hcs, hOc⟩ := h.prt 6
  have hcs2 : Ce.Cs w.drew B M.cb Oc H.C := hcs.below ((Below.refl _ _).drew)
  have kb := Ce.break_any w.drew B M.cb Oc H.C hcs2 ob.cell
  have hbr := h.wf.br
  have hcnt := break_cnt H.C ob.cell
  have hlen : H.C.length ≤ Ce.top := by obtain ⟨E, v, _, _, _, q⟩ := hcs; exact q
  have hB0 := h.B0
  have HW : Hid (∀ w5, Ce.Went w.drew B M.cb Oc (Ce.breakD H.C ob.cell).1 w5 → WentM w B hb tg (touchH H ob.cell) M (w5.setCell ⟨hb, 5, none⟩ (.int .i64 (H.br + ((Ce.breakD H.C ob.cell).2 : Int)))) ∧ w5.cell? ⟨hb, 5, none⟩ = some (.int .i64 H.br) ∧ w5.frozen? ⟨hb, 5, none⟩ = false) := fun w5 q => by
    have hd : HeapAt w.drew B hb tg H M := h.below ((Below.refl _ _).drew)
    refine ⟨WentM.behind ((Below.refl _ _).drew) (hd.cels hOc q), ?_⟩
    obtain ⟨O', k1, k2, k3⟩ := q
    have hn : ¬ Oc hb := fun q => by have := hOc hb q; omega
    exact ⟨k2.cell (a := ⟨hb, 5, none⟩) c5 hn, by rw [World.frozen?_of_block (w := w.drew) (k2.block hb hB0.2.1 hn)]; exact fz 5⟩
  have hw1 : IntKind.i64.wrap (H.br + ((Ce.breakD H.C ob.cell).2 : Int)) = H.br + ((Ce.breakD H.C ob.cell).2 : Int) := by
    unfold Ce.top at hlen
    rw [IntKind.wrap_i64]
    omega
  generalize ob.cell = n at *
  generalize touchH H n = HT at *
  generalize ((Ce.breakD H.C n).2 : Int) = x at *
  generalize (Ce.breakD H.C n).1 = C1 at *
  generalize H.br = br at *
  generalize M.cb = cb at *
  have f5 := fz 5
  clear h hi hvo hov t4 hgl hcell hfz hl1 hl2 hrow c0 c1 c2 c3 hcs hcs2 hOc hbr hcnt hlen hB0 fz e2 e3
  go_enter Tryd.func52, Tryd.ntmps52
  go_wp2_with fail
  first
  | (go_region_with ((go_at_call 59; refine kb.mono ?_; rintro e w5 ⟨rfl, hq⟩; have HX := HW.out w5 hq; have HY : Hid (WentM w B hb tg HT M (w5.setCell ⟨hb, 5, none⟩ (.int .i64 (br + x)))) := HX.1; have m5 := HX.2.1; have n5 := HX.2.2; clear hq HX)))
  | fail
  all_goals
    go_wp2_with fail
    go_end0
    exact ⟨rfl, HY.out⟩

end

end Go.Proofs.YtahhionlbfhinaaDoor.Hp
