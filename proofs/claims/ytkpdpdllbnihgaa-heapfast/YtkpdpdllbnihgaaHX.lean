/- Elements: resize. -/
import Derived.Test.YtkpdpdllbnihgaaHO
namespace Go.Proofs.Ytkpdpdllbnihgaa.Hp
open Go.RowKit
set_option linter.unusedVariables false

def resL (el : List Int) (n : Nat) : List Int := el.take n ++ List.replicate (n - el.length) holW

theorem OwnR.congr {β : Type} {enc : β → List Value} {k : Nat} {e : TypeId} {B : Nat} {w : World} {v : Value} {xs ys : List β} (h : OwnR enc k e B w v xs) (h1 : ys.length = xs.length) (h2 : ys.flatMap enc = xs.flatMap enc) : OwnR enc k e B w v ys := by
  unfold OwnR
  rw [h1, h2]
  exact h
theorem flat_same {β : Type} {enc : β → List Value} {y y' : β} (he : enc y' = enc y) : ∀ (xs : List β) (i : Nat), xs[i]? = some y → (xs.set i y').flatMap enc = xs.flatMap enc
  | [], i, hi => by simp at hi
  | x :: xs, 0, hi => by
    simp at hi
    subst hi
    rw [List.set_cons_zero, List.flatMap_cons, List.flatMap_cons, he]
  | x :: xs, i + 1, hi => by
    simp at hi
    rw [List.set_cons_succ, List.flatMap_cons, List.flatMap_cons, flat_same he xs i hi]

theorem set_self {α : Type} {l : List α} {i : Nat} {x : α} (h : l[i]? = some x) : l.set i x = l := by
  obtain ⟨a, b⟩ := List.getElem?_eq_some_iff.1 h
  rw [← b]
  exact List.set_getElem_self a

section
variable {w w' w1 w5 : World} {B hb : Nat} {O S : Nat → Prop} {H H' : He} {M M' : HV} {tg : Nat → Nat}

/-- an object's elements are another row -/
theorem HeapAt.els (h : HeapAt w B hb tg H M) {i g cap : Nat} {ob : Ob} {ov : OV} (hi : H.obs[i]? = some ob) (hv : M.ovs[i]? = some ov) (hvo : M.vo = ⟨some ⟨g, 0, none⟩, H.obs.length, cap⟩) {s : SV} {el' : List Int} (q1 : OwnR wC 1 27 B w5 s.val el') (q2 : Chg (fun b => ov.ve.val.ownBlock = some b) w w5) (q3 : ∀ b, s.val.ownBlock = some b → ov.ve.val.ownBlock = some b ∨ w.heap.size ≤ b) (hl : el'.length ≤ 4096) :
    WentM w B hb tg { H with obs := H.obs.set i { ob with el := el' } } { M with ovs := M.ovs.set i { ov with ve := s } } (w5.setCell ⟨g, i * 12 + 7, none⟩ s.val) := by
  have hwf := h.wf.ob ob (List.mem_of_getElem? hi)
  have hr : RowIn wC 1 _ B w _ ov.ve ob.el := h.part hi hv 2 (by omega)
  have ht : ∀ b, ov.ve.val.ownBlock = some b → tg b = 7 + 4 * i + 2 := hr.2
  have hc : Chg (fun b => tg b = 7 + 4 * i + 2) w w5 := q2.mono ht
  obtain ⟨p1, p2⟩ := h.put hi hv hvo 2 (by omega) hc { ob with el := el' } { ov with ve := s } (j := 7) (u := s.val) (by omega) rfl (fun O o1 o2 => by
    refine ⟨q1, fun b q => ?_⟩
    rcases q3 b q with c | c
    · exact o1 b (h.lt b (by have := ht b c; omega)).2 (ht b c)
    · exact o2 b c (q1.lt b q).2) (fun c' W' O' c4 cn q => by
    match c', q with
    | 0, q => exact q
    | 1, q => exact q
    | 2, q => exact absurd rfl cn
    | _ + 3, q => exact q) ⟨hwf.kd, hwf.pr, hwf.ks, hwf.fl, hwf.nx, hl, hwf.inn⟩
  refine ⟨_, p1, p2.mono (fun b q => by show tg b ≠ 0; omega), fun b q => ?_⟩
  by_cases c : b < w.heap.size
  · rw [rtg_old c] at q
    exact Or.inl q
  · exact Or.inr (by omega)

/-- an element is laid anew -/
theorem HeapAt.elst (h : HeapAt w B hb tg H M) {i ge ecap : Nat} {ob : Ob} {ov : OV} (hi : H.obs[i]? = some ob) (hv : M.ovs[i]? = some ov) (hve : ov.ve = ⟨some ⟨ge, 0, none⟩, ob.el.length, ecap⟩) {n : Nat} (hn : n < ob.el.length) (v : Int) :
    WentM w B hb tg { H with obs := H.obs.set i { ob with el := ob.el.set n v } } M (w.setCell ⟨ge, n, none⟩ (.int .u64 v)) := by
  have hwf := h.wf.ob ob (List.mem_of_getElem? hi)
  have hr : RowIn wC 1 27 B w _ ov.ve ob.el := h.part hi hv 2 (by omega)
  have hr1 := hr.1
  have ht := hr.2
  rw [hve] at hr1 ht
  unfold SV.val at hr1 ht
  simp only at hr1 ht
  have htg : tg ge = 7 + 4 * i + 2 := ht ge rfl
  have hil : i < H.obs.length := (List.getElem?_eq_some_iff.1 hi).1
  have hil2 : i < M.ovs.length := (List.getElem?_eq_some_iff.1 hv).1
  have hput := hr1.put (j := 0) (u := .int .u64 v) (y' := v) rtW.len (List.getElem?_eq_getElem hn) (by omega) rfl
  simp only [Nat.mul_one, Nat.add_zero] at hput
  have hc : Chg (fun b => tg b = 7 + 4 * i + 2) w (w.setCell ⟨ge, n, none⟩ (.int .u64 v)) := Chg.set (S := fun b => tg b = 7 + 4 * i + 2) w ⟨ge, n, none⟩ _ htg
  have hsz : (w.setCell ⟨ge, n, none⟩ (.int .u64 v)).heap.size = w.heap.size := by simp
  refine h.wentM (k0 := 7 + 4 * i + 2) hc (fun b _ q => by omega) ?_
  refine h.up (H' := { H with obs := H.obs.set i { ob with el := ob.el.set n v } }) (M' := M) hc (fun k => k = 7 + 4 * i + 2) (7 + 4 * i + 2) (fun b _ q => ⟨q, by omega⟩) (fun k q => ?_) (fun k O q hk => ?_) (by simp only [List.length_set]; exact h.len) ⟨?_, by simp only [List.length_set]; exact h.wf.ol, h.wf.tn, h.wf.ts, h.wf.tl, h.wf.mo, h.wf.br⟩
  · subst q
    rw [show 7 + 4 * i + 2 = (4 * i + 2) + 7 by omega]
    intro ob1 ov1 e1 e2
    rw [show (4 * i + 2) / 4 = i by omega] at e1 e2
    rw [show (4 * i + 2) % 4 = 2 by omega]
    have e1' : (H.obs.set i { ob with el := ob.el.set n v })[i]? = some ob1 := e1
    rw [List.getElem?_set_self hil] at e1'
    have e2' : M.ovs[i]? = some ov1 := e2
    rw [hv] at e2'
    cases e1'
    cases e2'
    refine ⟨?_, fun b q => ?_⟩
    · show OwnR wC 1 _ B _ ov.ve.val (ob.el.set n v)
      rw [hve]
      exact hput
    · rw [hve] at q
      have hbg : b = ge := by simpa [SV.val, Value.ownBlock] using q.symm
      show rtg _ _ _ _ _ = _
      rw [hbg, rtg_old (h.lt ge (by omega)).2]
      omega
  · match k, hk, q with
    | 0, hk, q => trivial
    | 1, hk, q => exact hk
    | 2, hk, q => exact hk
    | 3, hk, q => exact hk
    | 4, hk, q =>
      refine ⟨?_, hk.2⟩
      show OwnR obC 12 _ B _ M.vo.val ((H.obs.set i { ob with el := ob.el.set n v }).zip M.ovs)
      have hz : (H.obs.set i { ob with el := ob.el.set n v }).zip M.ovs = (H.obs.zip M.ovs).set i ({ ob with el := ob.el.set n v }, ov) := by
        conv => lhs; rw [← set_self hv]
        rw [zip_set]
      rw [hz]
      exact OwnR.congr hk.1 (by simp) (flat_same (enc := obC) (y := (ob, ov)) (y' := ({ ob with el := ob.el.set n v }, ov)) rfl _ i (zip_at hi hv))
    | 5, hk, q => exact hk
    | 6, hk, q => exact hk
    | k + 7, hk, q =>
      intro ob1 ov1 e1 e2
      have e1' : (H.obs.set i { ob with el := ob.el.set n v })[k / 4]? = some ob1 := e1
      by_cases c2 : i = k / 4
      · rw [← c2, List.getElem?_set_self hil] at e1'
        cases e1'
        have e2' : M.ovs[i]? = some ov1 := by rw [c2]; exact e2
        rw [hv] at e2'
        cases e2'
        have hk2 := hk ob ov (by rw [← c2]; exact hi) (by rw [← c2]; exact hv)
        have hne : k % 4 ≠ 2 := fun e => q (by omega)
        generalize k % 4 = c4 at *
        match c4, hk2, hne with
        | 0, hk2, _ => exact hk2
        | 1, hk2, _ => exact hk2
        | 2, _, hne => exact absurd rfl hne
        | _ + 3, hk2, _ => exact hk2
      · rw [List.getElem?_set_ne c2] at e1'
        exact hk ob1 ov1 e1' e2
  · intro o ho
    rcases List.mem_or_eq_of_mem_set ho with q | q
    · exact h.wf.ob o q
    · rw [q]
      exact ⟨hwf.kd, hwf.pr, hwf.ks, hwf.fl, hwf.nx, by simp only [List.length_set]; exact hwf.el, hwf.inn⟩

end

end Go.Proofs.Ytkpdpdllbnihgaa.Hp
