/- add: the list, the map, what comes next. -/
import Derived.Test.YtkpdpdllbnihgaaHO
import Derived.Test.YtkpdpdllbnihgaaB10
import Derived.Test.YtkpdpdllbnihgaaHX
namespace Go.Proofs.Ytkpdpdllbnihgaa.Hp
open Go.RowKit
set_option linter.unusedVariables false

section
variable {w w' w1 : World} {B hb : Nat} {O S : Nat → Prop} {H H' : He} {M M' : HV} {tg : Nat → Nat}

/-- the list with a property more -/
theorem add_list (h : HeapAt w B hb tg H M) {i g cap : Nat} {ob : Ob} {ov : OV} (hi : H.obs[i]? = some ob) (hv : M.ovs[i]? = some ov) (hvo : M.vo = ⟨some ⟨g, 0, none⟩, H.obs.length, cap⟩) (k : ByteArray) (hk : k.size ≤ maxLen) (d : De) (hd : 0 ≤ d.fl ∧ d.fl ≤ 15) (hlen : ob.ps.length + 1 ≤ 2000000000001)
    {W : World} {G C : Nat} (q1 : OwnR prC 5 87 B W (.slice (some ⟨G, 0, none⟩) (ob.ps.length + 1) C) (ob.ps ++ [⟨k, ob.next, d⟩])) (q2 : Chg (fun b => ov.vl.val.ownBlock = some b) w W) (q3 : ov.vl.val.ownBlock = some G ∨ w.heap.size ≤ G) :
    WentM w B hb tg { H with obs := H.obs.set i { ob with ps := ob.ps ++ [⟨k, ob.next, d⟩] } } { M with ovs := M.ovs.set i { ov with vl := ⟨some ⟨G, 0, none⟩, ob.ps.length + 1, C⟩ } } (W.setCell ⟨g, i * 12 + 4, none⟩ (.slice (some ⟨G, 0, none⟩) (ob.ps.length + 1) C)) := by
  have hwf := h.wf.ob ob (List.mem_of_getElem? hi)
  have hr : RowIn prC 5 _ B w _ ov.vl ob.ps := h.part hi hv 0 (by omega)
  have ht : ∀ b, ov.vl.val.ownBlock = some b → tg b = 7 + 4 * i + 0 := hr.2
  have hc : Chg (fun b => tg b = 7 + 4 * i + 0) w W := q2.mono ht
  have hks : ∀ p ∈ ob.ps ++ [⟨k, ob.next, d⟩], p.key.size ≤ maxLen := fun p hp => by
    rcases List.mem_append.1 hp with q | q
    · exact hwf.ks p q
    · rw [List.mem_singleton.1 q]; exact hk
  have hfl : ∀ p ∈ ob.ps ++ [⟨k, ob.next, d⟩], 0 ≤ p.de.fl ∧ p.de.fl ≤ 15 := fun p hp => by
    rcases List.mem_append.1 hp with q | q
    · exact hwf.fl p q
    · rw [List.mem_singleton.1 q]; exact hd
  have hll : (ob.ps ++ [(⟨k, ob.next, d⟩ : Pr)]).length = ob.ps.length + 1 := by simp
  obtain ⟨p1, p2⟩ := h.put hi hv hvo 0 (by omega) hc { ob with ps := ob.ps ++ [⟨k, ob.next, d⟩] } { ov with vl := ⟨some ⟨G, 0, none⟩, ob.ps.length + 1, C⟩ } (j := 4) (u := .slice (some ⟨G, 0, none⟩) (ob.ps.length + 1) C) (by omega) rfl (fun O o1 o2 => by
    refine ⟨q1, fun b q => ?_⟩
    have hbg : b = G := by simpa [SV.val, Value.ownBlock] using q.symm
    subst hbg
    rcases q3 with c | c
    · exact o1 b (h.lt b (by have := ht b c; omega)).2 (ht b c)
    · exact o2 b c (q1.lt b rfl).2) (fun c' W' O' c4 cn q => by
    match c', q with
    | 0, q => exact absurd rfl cn
    | 1, q => exact q
    | 2, q => exact q
    | _ + 3, q => exact q) ⟨hwf.kd, hwf.pr, hks, hfl, ⟨hwf.nx.1, hwf.nx.2.1, by simp only [hll]; exact hlen⟩, hwf.el, hwf.inn⟩
  refine ⟨_, p1, p2.mono (fun b q => by show tg b ≠ 0; omega), fun b q => ?_⟩
  by_cases c : b < w.heap.size
  · rw [rtg_old c] at q
    exact Or.inl q
  · exact Or.inr (by omega)

/-- the cells of a table -/
theorem HeapAt.tab (h : HeapAt w B hb tg H M) {i g cap : Nat} {ob : Ob} {ov : OV} (hi : H.obs[i]? = some ob) (hv : M.ovs[i]? = some ov) (hvo : M.vo = ⟨some ⟨g, 0, none⟩, H.obs.length, cap⟩) :
    w.cell? ⟨g, i * 12 + 4, none⟩ = some (.slice ov.vl.ad ob.ps.length ov.vl.cap) ∧ w.cell? ⟨g, i * 12 + 5, none⟩ = some (.map ov.vm) ∧ w.cell? ⟨g, i * 12 + 6, none⟩ = some (.int .i64 ob.next) ∧ (∀ n, w.frozen? ⟨g, n, none⟩ = false) ∧ g < w.heap.size ∧ tg g = 4 := by
  obtain ⟨g', cap', ov', hvo', hov, t4, hne, hgl, hcell, hfz, _⟩ := h.obj hi
  have hvv := hvo'
  rw [hvo] at hvv
  injection hvv with x1 x2 x3
  injection x1 with x1
  injection x1 with x1
  subst x1
  rw [hv] at hov
  cases hov
  have d4 := hcell 4 _ rfl
  have d5 := hcell 5 _ rfl
  have d6 := hcell 6 _ rfl
  have hr : RowIn prC 5 _ B w _ ov.vl ob.ps := h.part hi hv 0 (by omega)
  obtain ⟨q1, _⟩ := hr.open rtPr.len
  unfold SV.val at d4
  simp only at d4 d5 d6
  rw [q1] at d4
  exact ⟨d4, d5, d6, hfz, hgl, t4⟩

/-- the map with a name more -/
theorem HeapAt.mput (h : HeapAt w B hb tg H M) {i mb : Nat} {ob : Ob} {ov : OV} (hi : H.obs[i]? = some ob) (hv : M.ovs[i]? = some ov) (hvm : ov.vm = some mb) (hok : BkOk ob.mp) {k : ByteArray} (hk : k.size ≤ maxLen) (hno : ∀ x ∈ ob.mp, x.1 ≠ k) (c : Int) :
    ∃ w', (Instr.mapUpdate 69 (.map (some mb)) (.string k) (.int .i64 c)).run Try.prog w = .ok () w' ∧ WentM w B hb tg { H with obs := H.obs.set i { ob with mp := ob.mp ++ [(k, c)] } } M w' := by
  have hwf := h.wf.ob ob (List.mem_of_getElem? hi)
  have hp := h.part hi hv 1 (by omega)
  obtain ⟨ht, hmp⟩ := hp.2 mb hvm
  have ht : tg mb = 7 + 4 * i + 1 := ht
  obtain ⟨w', r1, r2, r3, r4⟩ := hmp.put hok Try.underlying69 hk hno c
  have hil : i < H.obs.length := (List.getElem?_eq_some_iff.1 hi).1
  have hc : Chg (fun b => tg b = 7 + 4 * i + 1) w w' := Chg.of_grown r3 (fun k q => by cases q; exact ht)
  refine ⟨w', r1, h.wentM (k0 := 7 + 4 * i + 1) hc (fun b _ q => by omega) ?_⟩
  refine h.up (H' := { H with obs := H.obs.set i { ob with mp := ob.mp ++ [(k, c)] } }) (M' := M) hc (fun kj => kj = 7 + 4 * i + 1) (7 + 4 * i + 1) (fun b _ q => ⟨q, by omega⟩) (fun kj q => ?_) (fun kj O q hk => ?_) (by simp only [List.length_set]; exact h.len) ⟨?_, by simp only [List.length_set]; exact h.wf.ol, h.wf.tn, h.wf.ts, h.wf.tl, h.wf.mo, h.wf.br⟩
  · subst q
    rw [show 7 + 4 * i + 1 = (4 * i + 1) + 7 by omega]
    intro ob1 ov1 e1 e2
    rw [show (4 * i + 1) / 4 = i by omega] at e1 e2
    rw [show (4 * i + 1) % 4 = 1 by omega]
    have e1' : (H.obs.set i { ob with mp := ob.mp ++ [(k, c)] })[i]? = some ob1 := e1
    rw [List.getElem?_set_self hil] at e1'
    have e2' : M.ovs[i]? = some ov1 := e2
    rw [hv] at e2'
    cases e1'
    cases e2'
    refine ⟨hp.1, fun mb' e => ?_⟩
    rw [hvm] at e
    cases e
    refine ⟨?_, r2⟩
    show rtg _ _ _ _ _ = _
    rw [rtg_old (h.lt mb (by omega)).2]
    omega
  · match kj, hk, q with
    | 0, hk, q => trivial
    | 1, hk, q => exact hk
    | 2, hk, q => exact hk
    | 3, hk, q => exact hk
    | 4, hk, q =>
      refine ⟨?_, hk.2⟩
      show OwnR obC 12 _ B _ M.vo.val ((H.obs.set i { ob with mp := ob.mp ++ [(k, c)] }).zip M.ovs)
      have hz : (H.obs.set i { ob with mp := ob.mp ++ [(k, c)] }).zip M.ovs = (H.obs.zip M.ovs).set i ({ ob with mp := ob.mp ++ [(k, c)] }, ov) := by
        conv => lhs; rw [← set_self hv]
        rw [zip_set]
      rw [hz]
      exact OwnR.congr hk.1 (by simp) (flat_same (enc := obC) (y := (ob, ov)) (y' := ({ ob with mp := ob.mp ++ [(k, c)] }, ov)) rfl _ i (zip_at hi hv))
    | 5, hk, q => exact hk
    | 6, hk, q => exact hk
    | k' + 7, hk, q =>
      intro ob1 ov1 e1 e2
      have e1' : (H.obs.set i { ob with mp := ob.mp ++ [(k, c)] })[k' / 4]? = some ob1 := e1
      by_cases c2 : i = k' / 4
      · rw [← c2, List.getElem?_set_self hil] at e1'
        cases e1'
        have e2' : M.ovs[i]? = some ov1 := by rw [c2]; exact e2
        rw [hv] at e2'
        cases e2'
        have hk2 := hk ob ov (by rw [← c2]; exact hi) (by rw [← c2]; exact hv)
        have hne : k' % 4 ≠ 1 := fun e => q (by omega)
        generalize k' % 4 = c4 at *
        match c4, hk2, hne with
        | 0, hk2, _ => exact hk2
        | 1, _, hne => exact absurd rfl hne
        | 2, hk2, _ => exact hk2
        | _ + 3, hk2, _ => exact hk2
      · rw [List.getElem?_set_ne c2] at e1'
        exact hk ob1 ov1 e1' e2
  · intro o ho
    rcases List.mem_or_eq_of_mem_set ho with q | q
    · exact h.wf.ob o q
    · rw [q]
      exact ⟨hwf.kd, hwf.pr, hwf.ks, hwf.fl, hwf.nx, hwf.el, hwf.inn⟩

/-- a new map, with no names -/
theorem HeapAt.mnew (h : HeapAt w B hb tg H M) {i g cap : Nat} {ob : Ob} {ov : OV} (hi : H.obs[i]? = some ob) (hv : M.ovs[i]? = some ov) (hvo : M.vo = ⟨some ⟨g, 0, none⟩, H.obs.length, cap⟩) :
    WentM w B hb tg { H with obs := H.obs.set i { ob with hm := true, mp := [] } } { M with ovs := M.ovs.set i { ov with vm := some w.heap.size } } ((w.alloc (.map #[] 0)).setCell ⟨g, i * 12 + 5, none⟩ (.map (some w.heap.size))) := by
  have hwf := h.wf.ob ob (List.mem_of_getElem? hi)
  have hB : Below w.heap.size w (w.alloc (.map #[] 0)) := (Below.refl _ _).alloc (Nat.le_refl _) _
  obtain ⟨p1, p2⟩ := h.put hi hv hvo 1 (by omega) (Chg.of_below hB) { ob with hm := true, mp := [] } { ov with vm := some w.heap.size } (j := 5) (u := .map (some w.heap.size)) (by omega) rfl (fun O o1 o2 => by
    refine ⟨rfl, fun mb e => ?_⟩
    have e : some w.heap.size = some mb := e
    cases e
    exact ⟨o2 _ (Nat.le_refl _) (by rw [size_new]; omega), #[], 0, at_new _ _, rfl⟩) (fun c' W' O' c4 cn q => by
    match c', q with
    | 0, q => exact q
    | 1, q => exact absurd rfl cn
    | 2, q => exact q
    | _ + 3, q => exact q) ⟨hwf.kd, hwf.pr, hwf.ks, hwf.fl, hwf.nx, hwf.el, hwf.inn⟩
  refine ⟨_, p1, p2.mono (fun b q => by show tg b ≠ 0; omega), fun b q => ?_⟩
  by_cases c : b < w.heap.size
  · rw [rtg_old c] at q
    exact Or.inl q
  · exact Or.inr (by omega)

end

end Go.Proofs.Ytkpdpdllbnihgaa.Hp
