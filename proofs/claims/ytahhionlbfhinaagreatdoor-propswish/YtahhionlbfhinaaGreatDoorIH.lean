/- note. -/
import Derived.Test.YtahhionlbfhinaaGreatDoorB20
namespace Go.Proofs.YtahhionlbfhinaaGreatDoor.Hp
open Go.RowKit
set_option linter.unusedVariables false

theorem camd_take {ps : List Pr} {k : Nat} {p : Pr} (h : ps[k]? = some p) : camd (ps.take (k + 1)) = camd (ps.take k) ++ [(p.key, p.came)] := by
  unfold camd
  rw [take_at ps k p h, List.map_append]
  rfl
theorem camd_not {ps : List Pr} (hn : (ps.map Pr.key).Nodup) {k : Nat} {p : Pr} (h : ps[k]? = some p) : ∀ x ∈ camd (ps.take k), x.1 ≠ p.key := by
  intro x hx e
  obtain ⟨q, hq, rfl⟩ := List.mem_map.1 hx
  obtain ⟨j, hj⟩ := List.mem_iff_getElem?.1 hq
  have hjl := (List.getElem?_eq_some_iff.1 hj).1
  rw [List.length_take] at hjl
  rw [List.getElem?_take_of_lt (by omega)] at hj
  have h1 : (ps.map Pr.key)[j]? = some q.key := by rw [List.getElem?_map, hj]; rfl
  have h2 : (ps.map Pr.key)[k]? = some p.key := by rw [List.getElem?_map, h]; rfl
  obtain ⟨a1, a2⟩ := List.getElem?_eq_some_iff.1 h1
  obtain ⟨b1, b2⟩ := List.getElem?_eq_some_iff.1 h2
  have e : q.key = p.key := e
  have := (List.getElem_inj hn).1 (a2.trans (e.trans b2.symm))
  omega
theorem camd_tok {ps : List Pr} (hn : (ps.map Pr.key).Nodup) (hs : ∀ p ∈ ps, p.key.size ≤ maxLen) (k : Nat) : BkOk (camd (ps.take k)) := by
  refine camd_ok ?_ (fun p hp => hs p (List.mem_of_mem_take hp))
  rw [List.map_take]
  exact hn.sublist (List.take_sublist _ _)

section
variable {w w' w1 : World} {B hb : Nat} {O S : Nat → Prop} {H H' : He} {M M' : HV} {tg : Nat → Nat}

/-- on note's way -/
def NtAt (w : World) (B hb : Nat) (tg : Nat → Nat) (H : He) (M : HV) (i : Nat) (ob : Ob) (ov : OV) (mb k : Nat) (wr : World) : Prop :=
  WentM w B hb tg { H with obs := H.obs.set i { ob with hm := true, mp := camd (ob.ps.take k) } } { M with ovs := M.ovs.set i { ov with vm := some mb } } wr

theorem NtAt.cells {i g cap mb k : Nat} {ob : Ob} {ov : OV} {wr : World} (hi : H.obs[i]? = some ob) (hv : M.ovs[i]? = some ov) (hvo : M.vo = ⟨some ⟨g, 0, none⟩, H.obs.length, cap⟩) (hn : (ob.ps.map Pr.key).Nodup) (hs : ∀ p ∈ ob.ps, p.key.size ≤ maxLen) (h : NtAt w B hb tg H M i ob ov mb k wr) {p : Pr} (hp : ob.ps[k]? = some p) :
    ∃ gl, ov.vl.ad = some ⟨gl, 0, none⟩ ∧ (∀ (j : Nat) (u : Value), (prC p)[j]? = some u → wr.cell? ⟨gl, k * 5 + j, none⟩ = some u) ∧ wr.cell? ⟨g, i * 12 + 5, none⟩ = some (.map (some mb)) ∧
      ∀ wq, Below wr.heap.size wr wq → ∃ w7, (Instr.mapUpdate 92 (.map (some mb)) (.string p.key) (.int .i64 p.came)).run Tryz.prog wq = .ok () w7 ∧ NtAt w B hb tg H M i ob ov mb (k + 1) w7 := by
  obtain ⟨tg2, p1, p2, p3⟩ := h
  have hil : i < H.obs.length := (List.getElem?_eq_some_iff.1 hi).1
  have hil2 : i < M.ovs.length := (List.getElem?_eq_some_iff.1 hv).1
  have hi1 : ({ H with obs := H.obs.set i { ob with hm := true, mp := camd (ob.ps.take k) } } : He).obs[i]? = some { ob with hm := true, mp := camd (ob.ps.take k) } := List.getElem?_set_self hil
  have hv1 : ({ M with ovs := M.ovs.set i { ov with vm := some mb } } : HV).ovs[i]? = some { ov with vm := some mb } := List.getElem?_set_self hil2
  have hvo1 : ({ M with ovs := M.ovs.set i { ov with vm := some mb } } : HV).vo = ⟨some ⟨g, 0, none⟩, ({ H with obs := H.obs.set i { ob with hm := true, mp := camd (ob.ps.take k) } } : He).obs.length, cap⟩ := by
    simp only [List.length_set]
    exact hvo
  obtain ⟨c4, c5, c6, fz, hgl, t4⟩ := p1.tab hi1 hv1 hvo1
  have hr : RowIn prC 5 _ B wr _ ov.vl ob.ps := p1.part hi1 hv1 0 (by omega)
  obtain ⟨q1, q2, q3, q4⟩ := hr.open rtPr.len
  obtain ⟨gl, e1, _, _, _, hc, _⟩ := q4 (by intro e; rw [e] at hp; simp at hp)
  refine ⟨gl, e1, fun j u hj => hc k p hp j u hj, c5, fun wq hq => ?_⟩
  obtain ⟨w7, r1, r2⟩ := (p1.below hq).mput hi1 hv1 rfl (camd_tok hn hs k) (hs p (List.mem_of_getElem? hp)) (camd_not hn hp) p.came
  refine ⟨w7, r1, ?_⟩
  unfold NtAt
  rw [camd_take hp]
  simp only [List.set_set] at r2
  exact WentM.next p2 p3 (WentM.behind hq r2)

set_option maxRecDepth 100000 in
set_option maxHeartbeats 2000000 in
theorem note_at (h : HeapAt w B hb tg H M) {i g cap : Nat} {ob : Ob} {ov : OV} (hi : H.obs[i]? = some ob) (hv : M.ovs[i]? = some ov) (hvo : M.vo = ⟨some ⟨g, 0, none⟩, H.obs.length, cap⟩) (hn : (ob.ps.map Pr.key).Nodup) :
    Calls Tryz.prog 121 #[.pointer (some ⟨g, i * 12 + 4, none⟩)] w fun e w' => e = .returned (.tuple #[]) ∧ ∃ mb, WentM w B hb tg { H with obs := H.obs.set i { ob with hm := true, mp := camd ob.ps } } { M with ovs := M.ovs.set i { ov with vm := some mb } } w' := by
  have hwf := h.wf.ob ob (List.mem_of_getElem? hi)
  obtain ⟨c4, c5, c6, fz, hgl, t4⟩ := h.tab hi hv hvo
  have hmw := h.mnew hi hv hvo
  obtain ⟨wa, hwa⟩ : ∃ wa, wa = (w.alloc (.map #[] 0)).setCell ⟨g, i * 12 + 5, none⟩ (.map (some w.heap.size)) := ⟨_, rfl⟩
  rw [← hwa] at hmw
  have hst : NtAt w B hb tg H M i ob ov w.heap.size 0 wa := hmw
  have c4a : wa.cell? ⟨g, i * 12 + 4, none⟩ = some (.slice ov.vl.ad ob.ps.length ov.vl.cap) := by
    obtain ⟨tg2, p1, p2, p3⟩ := hst
    have hil : i < H.obs.length := (List.getElem?_eq_some_iff.1 hi).1
    have hil2 : i < M.ovs.length := (List.getElem?_eq_some_iff.1 hv).1
    exact (p1.tab (i := i) (ob := { ob with hm := true, mp := camd (ob.ps.take 0) }) (ov := { ov with vm := some w.heap.size }) (g := g) (cap := cap) (List.getElem?_set_self hil) (List.getElem?_set_self hil2) (by simp only [List.length_set]; exact hvo)).1
  have HCL : Hid (∀ k wr p, NtAt w B hb tg H M i ob ov w.heap.size k wr → ob.ps[k]? = some p → ∃ gl, ov.vl.ad = some ⟨gl, 0, none⟩ ∧ (∀ (j : Nat) (u : Value), (prC p)[j]? = some u → wr.cell? ⟨gl, k * 5 + j, none⟩ = some u) ∧ wr.cell? ⟨g, i * 12 + 5, none⟩ = some (.map (some w.heap.size)) ∧ ∀ wq, Below wr.heap.size wr wq → ∃ w7, (Instr.mapUpdate 92 (.map (some w.heap.size)) (.string p.key) (.int .i64 p.came)).run Tryz.prog wq = .ok () w7 ∧ NtAt w B hb tg H M i ob ov w.heap.size (k + 1) w7) := fun k wr p q hp => q.cells hi hv hvo hn hwf.ks hp
  have HEN : Hid (∀ wr, NtAt w B hb tg H M i ob ov w.heap.size ob.ps.length wr → ∃ mb, WentM w B hb tg { H with obs := H.obs.set i { ob with hm := true, mp := camd ob.ps } } { M with ovs := M.ovs.set i { ov with vm := some mb } } wr) := fun wr q => ⟨w.heap.size, by unfold NtAt at q; rw [List.take_length] at q; exact q⟩
  have hmm : (Instr.makeMap 92 none).run Tryz.prog w = .ok (.map (some w.heap.size)) (w.alloc (.map #[] 0)) := rfl
  have c5b : (w.alloc (.map #[] 0)).cell? ⟨g, i * 12 + 5, none⟩ = some (.map ov.vm) := cells_below ((Below.refl _ _).alloc (Nat.le_refl _) _) _ _ c5
  have f5b : (w.alloc (.map #[] 0)).frozen? ⟨g, i * 12 + 5, none⟩ = false := by
    rw [World.frozen?_of_block (w := w) (((Below.refl w.heap.size w).alloc (Nat.le_refl _) _).block g hgl)]
    exact fz _
  have hlim : (ob.ps.length : Int) ≤ 2000000000001 := by have := hwf.nx.2.2; omega
  have hgne : ¬ g = w.heap.size := by omega
  have HST : Hid (NtAt w B hb tg H M i ob ov w.heap.size 0 wa) := hst
  have HLN : Hid (∀ p k, ob.ps[k]? = some p → k < ob.ps.length) := fun p k q => (List.getElem?_eq_some_iff.1 q).1
  generalize hps : ob.ps = ps at *
  generalize ov.vl.ad = la at *
  generalize ov.vl.cap = lc at *
  clear h hi hv hvo hn hwf c4 c6 fz hgl t4 hmw hst HLN
  go_enter Tryz.func121, Tryz.ntmps121
  go_upto_region 1 with fail
  rw [← hwa]
  clear hwa
  generalize w.heap.size = mb at *
  go_wp2_with fail
  go_loopw [13] (fun p wr => ∃ k : Nat, k ≤ ps.length ∧ Hid (NtAt w B hb tg H M i ob ov mb k wr) ∧ p = .int .i64 (k : Int)) (fun p wr => ((ps.length : Int) - intOf p).toNat)
  case atStart => exact ⟨0, Nat.zero_le _, HST, rfl⟩
  case round =>
    clear HST c4a c5b f5b hmm
    obtain ⟨k, hk, HS, rfl⟩ := hrel
    by_cases c : k < ps.length
    · have hex : ∃ p, ps[k]? = some p := ⟨_, List.getElem?_eq_getElem c⟩
      obtain ⟨p, hp⟩ := hex
      obtain ⟨gl, rfl, hc, c5, hup⟩ := HCL.out k wr p HS.out hp
      have d0 := hc 0 _ rfl
      have d1 := hc 1 _ rfl
      have d2 := hc 2 _ rfl
      have d3 := hc 3 _ rfl
      have d4 := hc 4 _ rfl
      simp only [Nat.add_zero] at d0
      obtain ⟨pk, pc, pv, pse, pf⟩ := p
      simp only at *
      obtain ⟨wq, hwq⟩ : ∃ wq, wq = wr.alloc (.cells #[.string pk, .int .i64 pc, .int .u64 pv, .int .u64 pse, .int .i64 pf] 129) := ⟨_, rfl⟩
      have hBq : Below wr.heap.size wr wq := by rw [hwq]; exact (Below.refl _ _).alloc (Nat.le_refl _) _
      have x0 : wq.cell? ⟨wr.heap.size, 0, none⟩ = some (.string pk) := by rw [hwq]; exact box_new wr _ _ 0 _ rfl
      have x1 : wq.cell? ⟨wr.heap.size, 1, none⟩ = some (.int .i64 pc) := by rw [hwq]; exact box_new wr _ _ 1 _ rfl
      have c5q := cells_below hBq _ _ c5
      obtain ⟨w7, r1, r2⟩ := hup wq.drew (hBq.drew)
      have HR2 : Hid (NtAt w B hb tg H M i ob ov mb (k + 1) w7) := r2
      have hkk : (k : Int) < (ps.length : Int) := by omega
      have hkd : decide ((k : Int) < (ps.length : Int)) = true := decide_eq_true hkk
      have hw1 : IntKind.i64.wrap ((k : Int) + 1) = ((k + 1 : Nat) : Int) := by rw [IntKind.wrap_i64]; omega
      have HK : Hid (k < ps.length) := c
      clear hc hup r2 HS hp HCL HEN c hk hBq
      go_upto_region 4 with fail
      rw [← hwq]
      clear hwq d0 d1 d2 d3 d4 c5
      generalize wr.heap.size = xb at *
      go_region
      all_goals
        go_wp2_with fail
        refine ⟨⟨k + 1, by have := HK.out; omega, HR2, rfl⟩, ?_⟩
        have := HK.out
        simp [intOf]
        omega
    · have hkk : ¬ ((k : Int) < (ps.length : Int)) := by omega
      have hke : k = ps.length := by omega
      subst hke
      have HE := (show Hid _ from HEN.out wr HS.out)
      clear HCL HEN HS c hk
      go_wp2_with fail
      go_end0
      exact ⟨rfl, HE.out⟩

end

end Go.Proofs.YtahhionlbfhinaaGreatDoor.Hp
