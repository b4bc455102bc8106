/- table.drop over the heap. -/
import Derived.Test.YtkpdpdllbnihgaaB11
namespace Go.Proofs.Ytkpdpdllbnihgaa.Hp
open Go.RowKit
set_option linter.unusedVariables false

section
variable {w w' w1 : World} {B hb : Nat} {O S : Nat → Prop} {H H' : He} {M M' : HV} {tg : Nat → Nat}

/-- the list with a property less -/
theorem HeapAt.ldel (h : HeapAt w B hb tg H M) {i g cap gl lcap a : Nat} {ob : Ob} {ov : OV} (hi : H.obs[i]? = some ob) (hv : M.ovs[i]? = some ov) (hvo : M.vo = ⟨some ⟨g, 0, none⟩, H.obs.length, cap⟩) (hvl : ov.vl = ⟨some ⟨gl, 0, none⟩, ob.ps.length, lcap⟩) (ha : a < ob.ps.length)
    {w2 : World} (hw2 : w2 = (w.drew.setCells gl (a * 5) ((ob.ps.drop (a + 1)).flatMap prC)).setCells gl ((ob.ps.length - 1) * 5) zPr) :
    w2.cell? ⟨g, i * 12 + 4, none⟩ = some (.slice (some ⟨gl, 0, none⟩) ob.ps.length lcap) ∧ w2.frozen? ⟨g, i * 12 + 4, none⟩ = false ∧
    WentM w B hb tg { H with obs := H.obs.set i { ob with ps := ob.ps.eraseIdx a } } { M with ovs := M.ovs.set i { ov with vl := ⟨some ⟨gl, 0, none⟩, ob.ps.length - 1, lcap⟩ } } (w2.setCell ⟨g, i * 12 + 4, none⟩ (.slice (some ⟨gl, 0, none⟩) (ob.ps.length - 1) lcap)) := by
  have hwf := h.wf.ob ob (List.mem_of_getElem? hi)
  obtain ⟨c0, _, _, hfz, hgl, t4⟩ := h.tab hi hv hvo
  have hr : RowIn prC 5 _ B w _ ov.vl ob.ps := h.part hi hv 0 (by omega)
  have hr1 := hr.1
  have ht := hr.2
  rw [hvl] at hr1 ht c0
  unfold SV.val at hr1 ht
  simp only at hr1 ht c0
  have htg : tg gl = 7 + 4 * i + 0 := ht gl rfl
  have hr2 := hr1.below ((Below.refl w.heap.size w).drew)
  have q1 := del_row hr2 ha zPr rfl
  rw [← hw2] at q1
  have hc1 : Chg (fun k => k = gl) w w2 := by
    rw [hw2]
    exact (((Chg.refl (fun k => k = gl) w).drew).trans (chg_setCells gl _ _ _) (fun _ _ q => q)).trans (chg_setCells gl _ _ _) (fun _ _ q => q)
  have hc : Chg (fun b => tg b = 7 + 4 * i + 0) w w2 := hc1.mono (fun k q => by rw [q]; exact htg)
  have hng : ¬ g = gl := fun q => by rw [q] at t4; omega
  have hel : (ob.ps.eraseIdx a).length = ob.ps.length - 1 := List.length_eraseIdx_of_lt ha
  refine ⟨hc1.cell c0 hng, by rw [World.frozen?_of_block (w := w) (hc1.block g hgl hng)]; exact hfz _, ?_⟩
  obtain ⟨p1, p2⟩ := h.put hi hv hvo 0 (by omega) hc { ob with ps := ob.ps.eraseIdx a } { ov with vl := ⟨some ⟨gl, 0, none⟩, ob.ps.length - 1, lcap⟩ } (j := 4) (u := .slice (some ⟨gl, 0, none⟩) (ob.ps.length - 1) lcap) (by omega) rfl (fun O o1 o2 => by
    refine ⟨q1, fun b q => ?_⟩
    have hbg : b = gl := by simpa [SV.val, Value.ownBlock] using q.symm
    subst hbg
    exact o1 b (h.lt b (by omega)).2 htg) (fun c' W' O' c4 cn q => by
    match c', q with
    | 0, q => exact absurd rfl cn
    | 1, q => exact q
    | 2, q => exact q
    | _ + 3, q => exact q) ⟨hwf.kd, hwf.pr, fun p hp => hwf.ks p (List.mem_of_mem_eraseIdx hp), fun p hp => hwf.fl p (List.mem_of_mem_eraseIdx hp), ⟨hwf.nx.1, hwf.nx.2.1, by simp only [hel]; have := hwf.nx.2.2; omega⟩, hwf.el, hwf.inn⟩
  refine ⟨_, p1, p2.mono (fun b q => by show tg b ≠ 0; omega), fun b q => ?_⟩
  by_cases c : b < w.heap.size
  · rw [rtg_old c] at q
    exact Or.inl q
  · exact Or.inr (by omega)

/-- what drop leaves of an object -/
def Ob.less (o : Ob) (a : Nat) : Ob := { o with ps := o.ps.eraseIdx a, mp := if o.hm = true then o.mp.eraseIdx a else o.mp }

theorem drop_at (h : HeapAt w B hb tg H M) {i g cap a : Nat} {ob : Ob} (hi : H.obs[i]? = some ob) (hvo : M.vo = ⟨some ⟨g, 0, none⟩, H.obs.length, cap⟩) (hnt : ob.neat) (ha : a < ob.ps.length) :
    Calls Try.prog 40 #[.pointer (some ⟨g, i * 12 + 4, none⟩), .int .i64 a] w fun e w' => e = .returned (.tuple #[]) ∧ ∃ M', M'.vo = M.vo ∧ WentM w B hb tg { H with obs := H.obs.set i (ob.less a) } M' w' := by
  obtain ⟨_, _, ov, _, hov, _⟩ := h.obj hi
  have hwf := h.wf.ob ob (List.mem_of_getElem? hi)
  have hil : i < H.obs.length := (List.getElem?_eq_some_iff.1 hi).1
  obtain ⟨c0, c1, _, hfz, hgl, t4⟩ := h.tab hi hov hvo
  have hr : RowIn prC 5 _ B w _ ov.vl ob.ps := h.part hi hov 0 (by omega)
  obtain ⟨q1, q2, q3, q4⟩ := hr.open rtPr.len
  obtain ⟨gl, hgl2, _, _, _, hcl, _⟩ := q4 (fun e => by rw [e] at ha; simp at ha)
  have hvl : ov.vl = ⟨some ⟨gl, 0, none⟩, ob.ps.length, ov.vl.cap⟩ := by rw [← hgl2, ← q1]
  have hp : ob.ps[a]? = some ob.ps[a] := List.getElem?_eq_getElem ha
  have ck : w.cell? ⟨gl, a * 5, none⟩ = some (.string ob.ps[a].key) := hcl a _ hp 0 _ rfl
  have hks := hwf.ks _ (List.mem_of_getElem? hp)
  have hlen : ob.ps.length ≤ 2000000000001 := by have := hwf.nx.2.2; omega
  have hd : HeapAt w.drew B hb tg H M := h.below ((Below.refl _ _).drew)
  -- the map
  obtain ⟨w1, hrun, hW1⟩ : ∃ w1, (∀ ty, (Builtin.delete_ #[69, 9] ty #[.map ov.vm, .string ob.ps[a].key]).run Try.prog w.drew = .ok (.tuple #[]) w1) ∧ WentM w.drew B hb tg { H with obs := H.obs.set i { ob with mp := if ob.hm = true then ob.mp.eraseIdx a else ob.mp } } M w1 := by
    have hpt := h.part hi hov 1 (by omega)
    have hsm : ov.vm.isSome = ob.hm := hpt.1
    cases hvm : ov.vm with
    | none =>
      rw [hvm] at hsm
      have hm : ¬ ob.hm = true := by rw [← hsm]; simp
      rw [if_neg hm]
      refine ⟨w.drew, fun ty => ChangeMaps.run_delete_nil Try.underlying69 Try.underlying9 _, tg, ?_, Chg.refl _ _, fun b q => Or.inl q⟩
      have e : H.obs.set i { ob with mp := ob.mp } = H.obs := set_self hi
      rw [e]
      exact hd
    | some mb =>
      rw [hvm] at hsm
      have hm : ob.hm = true := by rw [← hsm]; rfl
      rw [if_pos hm]
      have hmp := hnt.mp hm
      obtain ⟨w1, r1, _, r3⟩ := hd.mdel hi hov hvm (by rw [hmp]; exact camd_ok hnt.kn hwf.ks) (a := a) (k := ob.ps[a].key) (c := ob.ps[a].came) hks (by rw [hmp]; unfold camd; rw [List.getElem?_map, hp]; rfl)
      exact ⟨w1, r1, r3⟩
  obtain ⟨tg1, h1, p2, p3⟩ := hW1
  have hi1 : ({ H with obs := H.obs.set i { ob with mp := if ob.hm = true then ob.mp.eraseIdx a else ob.mp } } : He).obs[i]? = some { ob with mp := if ob.hm = true then ob.mp.eraseIdx a else ob.mp } := List.getElem?_set_self hil
  have hvo1 : M.vo = ⟨some ⟨g, 0, none⟩, ({ H with obs := H.obs.set i { ob with mp := if ob.hm = true then ob.mp.eraseIdx a else ob.mp } } : He).obs.length, cap⟩ := by simp only [List.length_set]; exact hvo
  obtain ⟨d0, _⟩ := h1.tab hi1 hov hvo1
  have hr1 : RowIn prC 5 _ B w1 _ ov.vl ob.ps := h1.part hi1 hov 0 (by omega)
  have hr2 := hr1.1
  rw [hvl] at hr2 d0
  rw [hvl] at c0
  obtain ⟨e0, f0, hW2⟩ := h1.ldel hi1 hov hvo1 hvl ha rfl
  have kdel := delete_at hr2 ha
  simp only at d0 e0 f0 hW2 c0
  refine (drop_walk w w1 _ g (i * 12 + 4) gl a ob.ps.length ov.vl.cap ov.vm ob.ps[a].key ha hlen c0 c1 ck hrun d0 kdel e0 f0).mono ?_
  rintro e w' ⟨rfl, rfl⟩
  have hW3 := WentM.behind ((Below.refl w.heap.size w).drew) (WentM.next p2 p3 hW2)
  simp only [List.set_set] at hW3
  refine ⟨rfl, _, ?_, hW3⟩
  rfl

end

end Go.Proofs.Ytkpdpdllbnihgaa.Hp
