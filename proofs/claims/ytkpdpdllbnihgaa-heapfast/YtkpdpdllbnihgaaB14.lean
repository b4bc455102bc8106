/- One object's shapes, plain: keys are added one behind the other; flags are as they were. -/
import Derived.Test.YtkpdpdllbnihgaaPA
import Derived.Test.YtkpdpdllbnihgaaB13
namespace Go.Proofs.Ytkpdpdllbnihgaa.Sp
set_option linter.unusedVariables false

/-- each shape's keys and flags are those of its steps -/
def Sound (L : List Sh) : Prop := ∀ x ∈ L, x.ks = x.st.map (fun a => a.2.1) ∧ x.fs = x.st.map (fun a => a.2.2)

theorem addD_ok {most : Int} {L : List Sh} {n : Int} {s : Sh} {k : ByteArray} {f : Int} (hL : Sound L) (hs : shOf L n = some s) (hk : k ∉ s.ks) (hr : (L.length : Int) < most) :
    (addD most L n k f).2.2 = true ∧ Sound (addD most L n k f).1 ∧ (addD most L n k f).1.length ≤ L.length + 1 ∧ ∃ s', shOf (addD most L n k f).1 (addD most L n k f).2.1 = some s' ∧ s'.ks = s.ks ++ [k] ∧ s'.fs = s.fs ++ [f] := by
  have hn : idx s.ks k = none := idx_no (fun j e => hk (List.mem_of_getElem? e))
  have hsm : s ∈ L := by
    unfold shOf at hs
    split at hs
    · exact List.mem_of_getElem? hs
    · cases hs
  have hsS := hL s hsm
  have hg : (grow s k f).ks = (grow s k f).st.map (fun a => a.2.1) ∧ (grow s k f).fs = (grow s k f).st.map (fun a => a.2.2) := by
    constructor
    · show s.ks ++ [k] = (s.st ++ [(false, k, f)]).map _
      rw [List.map_append, ← hsS.1]
      rfl
    · show s.fs ++ [f] = (s.st ++ [(false, k, f)]).map _
      rw [List.map_append, ← hsS.2]
      rfl
  have e : addD most L n k f = layD most L (grow s k f) := by
    unfold addD
    rw [hs]
    simp only
    rw [hn]
  rw [e]
  unfold layD
  cases hh : hit L (grow s k f) with
  | some i =>
    simp only
    unfold hit at hh
    rw [List.findIdx?_eq_some_iff_getElem] at hh
    obtain ⟨h1, h2, _⟩ := hh
    have h2 := of_decide_eq_true h2
    have hx := hL L[i] (List.getElem_mem h1)
    refine ⟨trivial, hL, by omega, L[i], ?_, ?_, ?_⟩
    · unfold shOf
      rw [if_pos (by omega)]
      exact List.getElem?_eq_getElem h1
    · rw [hx.1, h2.2, ← hg.1]
      rfl
    · rw [hx.2, h2.2, ← hg.2]
      rfl
  | none =>
    simp only
    rw [if_neg (by omega)]
    refine ⟨rfl, fun x hx => ?_, by simp, grow s k f, ?_, rfl, rfl⟩
    · rcases List.mem_append.1 hx with q | q
      · exact hL x q
      · rw [List.mem_singleton.1 q]
        exact hg
    · unfold shOf
      rw [if_pos (by simp only; omega)]
      simp

theorem changeD_same {most : Int} {L : List Sh} {n : Int} {s : Sh} {k : ByteArray} {f : Int} {i : Nat} (hs : shOf L n = some s) (hi : idx s.ks k = some i) (hf : s.fs[i]? = some f) : changeD most L n k f = (L, n, true) := by
  unfold changeD
  rw [hs]
  simp only
  rw [hi]
  simp only
  rw [if_pos hf]

end Go.Proofs.Ytkpdpdllbnihgaa.Sp

/- One object, put upon over and over: plain. -/
namespace Go.Proofs.Ytkpdpdllbnihgaa.Hp
open Go.RowKit
set_option linter.unusedVariables false

/-- the unlike names with one more -/
def addU (un : List ByteArray) (k : ByteArray) : List ByteArray := if un.any (fun u => decide (u = k)) = true then un else un ++ [k]

/-- the one object behind m calls of Put; un: the unlike names, in their order -/
structure OneI (H : He) (ob : Ob) (un : List ByteArray) (m : Nat) : Prop where
  obs : H.obs = [ob]
  keys : ob.ps.map Pr.key = un
  neat : ob.neat
  fl : ∀ p ∈ ob.ps, p.de.fl = 7
  hm : ob.hm = decide (16 < un.length)
  sh : ob.shaped = decide (un.length ≤ 16)
  lo : ob.shaped = true → ∃ s, Sp.shOf H.L ob.shape = some s ∧ s.ks = ob.ps.map Pr.key ∧ s.fs = ob.ps.map (fun p => p.de.fl)
  so : Sp.Sound H.L
  ll : H.L.length ≤ 1 + m
  nx : ob.next ≤ m

theorem OneI.put {H : He} {ob : Ob} {un : List ByteArray} {m : Nat} (h : OneI H ob un m) (hmo : 1 + (m : Int) < H.most) (k : ByteArray) (d : De) (hd : (keptD d).fl = 7) :
    ∃ ob', OneI (putH H 0 ob k d) ob' (addU un k) (m + 1) := by
  have hul : un.length = ob.ps.length := by rw [← h.keys, List.length_map]
  have hll := h.ll
  have hnx := h.nx
  unfold putH
  cases hp : plc ob.ps k with
  | some n =>
    simp only
    obtain ⟨⟨p, hn, hk⟩, hbef⟩ := plc_some hp
    have hin : un.any (fun u => decide (u = k)) = true := by
      rw [← h.keys, List.any_eq_true]
      exact ⟨p.key, List.mem_map.2 ⟨p, List.mem_of_getElem? hn, rfl⟩, by simpa using hk⟩
    have hpa : prAt ob.ps n = p := by unfold prAt; rw [hn]; rfl
    unfold addU
    rw [if_pos hin, hpa]
    have hnl : n < ob.ps.length := (List.getElem?_eq_some_iff.1 hn).1
    have e1 := setD_same hn (keptD d) Pr.key (fun _ => rfl)
    have efl : (setD ob.ps n p (keptD d)).map (fun p => p.de.fl) = ob.ps.map (fun p => p.de.fl) := by
      unfold setD
      rw [List.map_set]
      apply List.ext_getElem?
      intro j
      by_cases c : n = j
      · subst c
        rw [List.getElem?_set_self (by rw [List.length_map]; exact hnl), List.getElem?_map, hn]
        simp [hd, h.fl p (List.mem_of_getElem? hn)]
      · rw [List.getElem?_set_ne c]
    have hfl : ∀ q ∈ setD ob.ps n p (keptD d), q.de.fl = 7 := fun q hq => by
      rcases List.mem_or_eq_of_mem_set hq with c | c
      · exact h.fl q c
      · rw [c]; exact hd
    unfold replH
    by_cases hs : ob.shaped = true
    · rw [if_pos hs]
      obtain ⟨s, s1, s2, s3⟩ := h.lo hs
      have hix : Sp.idx s.ks p.key = some n := by
        refine Sp.idx_of (by rw [s2, List.getElem?_map, hn]; rfl) (fun j hj e => ?_)
        rw [s2, List.getElem?_map] at e
        obtain ⟨q, q1, q2⟩ := Option.map_eq_some_iff.1 e
        exact hbef j q hj q1 (by rw [q2, hk])
      have hc : Sp.changeD (touchH H ob.cell).most (touchH H ob.cell).L ob.shape p.key (keptD d).fl = (H.L, ob.shape, true) := Sp.changeD_same s1 hix (by rw [s3, List.getElem?_map, hn, hd]; simp [h.fl p (List.mem_of_getElem? hn)])
      rw [hc]
      refine ⟨{ ob with ps := setD ob.ps n p (keptD d), shape := ob.shape, shaped := true }, ⟨?_, ?_, setD_neat h.neat hn _ _ _, hfl, h.hm, ?_, fun _ => ⟨s, s1, ?_, ?_⟩, h.so, ?_, ?_⟩⟩
      · show (touchH H ob.cell).obs.set 0 _ = _
        show H.obs.set 0 _ = _
        rw [h.obs]
        rfl
      · exact e1.trans h.keys
      · show true = _
        rw [← hs]
        exact h.sh
      · exact s2.trans e1.symm
      · exact s3.trans efl.symm
      · show H.L.length ≤ _
        omega
      · show ob.next ≤ _
        omega
    · rw [if_neg hs]
      refine ⟨{ ob with ps := setD ob.ps n p (keptD d) }, ⟨?_, ?_, setD_neat h.neat hn _ _ _, hfl, h.hm, h.sh, fun q => absurd q hs, h.so, ?_, ?_⟩⟩
      · show H.obs.set 0 _ = _
        rw [h.obs]
        rfl
      · exact e1.trans h.keys
      · show H.L.length ≤ _
        omega
      · show ob.next ≤ _
        omega
  | none =>
    simp only
    have hno := plc_none hp
    have hin : ¬ un.any (fun u => decide (u = k)) = true := fun q => by
      rw [← h.keys, List.any_eq_true] at q
      obtain ⟨u, hu, e⟩ := q
      obtain ⟨p, hp, rfl⟩ := List.mem_map.1 hu
      exact hno p hp (of_decide_eq_true e)
    unfold addU
    rw [if_neg hin]
    have hnk : k ∉ ob.ps.map Pr.key := fun q => by
      obtain ⟨p, hp, e⟩ := List.mem_map.1 q
      exact hno p hp e
    have hkeys : (ob.ps ++ [(⟨k, ob.next, keptD d⟩ : Pr)]).map Pr.key = un ++ [k] := by rw [List.map_append, h.keys]; rfl
    have hfl : ∀ q ∈ ob.ps ++ [(⟨k, ob.next, keptD d⟩ : Pr)], q.de.fl = 7 := fun q hq => by
      rcases List.mem_append.1 hq with c | c
      · exact h.fl q c
      · rw [List.mem_singleton.1 c]; exact hd
    have hul2 : (un ++ [k]).length = ob.ps.length + 1 := by rw [List.length_append, hul]; rfl
    obtain ⟨n1, n2, n3, n4⟩ := more_neat h.neat hp (keptD d)
    by_cases c : ob.shaped = true ∧ ob.ps.length + 1 ≤ 16
    · rw [if_pos c]
      obtain ⟨s, s1, s2, s3⟩ := h.lo c.1
      have hr : (H.L.length : Int) < H.most := by omega
      obtain ⟨a1, a2, a3, s', a4, a5, a6⟩ := Sp.addD_ok (f := (keptD d).fl) h.so s1 (by rw [s2]; exact hnk) hr
      have hmf : ob.hm = false := by rw [h.hm, hul]; exact decide_eq_false (by omega)
      refine ⟨layO (touchH H ob.cell) ob k (keptD d), ⟨?_, hkeys, ⟨n1, n2, n3, n4, fun q => ?_⟩, hfl, ?_, ?_, fun _ => ⟨s', a4, ?_, ?_⟩, a2, ?_, ?_⟩⟩
      · show H.obs.set 0 _ = _
        rw [h.obs]
        rfl
      · have q : ob.hm = true := q
        rw [hmf] at q
        cases q
      · show ob.hm = _
        rw [hmf, hul2]
        exact (decide_eq_false (by omega)).symm
      · show (Sp.addD H.most H.L ob.shape k (keptD d).fl).2.2 = _
        rw [a1, hul2]
        exact (decide_eq_true c.2).symm
      · show s'.ks = (ob.ps ++ [(⟨k, ob.next, keptD d⟩ : Pr)]).map Pr.key
        rw [a5, s2, List.map_append]
        rfl
      · show s'.fs = (ob.ps ++ [(⟨k, ob.next, keptD d⟩ : Pr)]).map (fun p => p.de.fl)
        rw [a6, s3, List.map_append]
        rfl
      · show (Sp.addD H.most H.L ob.shape k (keptD d).fl).1.length ≤ _
        omega
      · show ob.next + 1 ≤ _
        omega
    · rw [if_neg c]
      have h16 : 16 < ob.ps.length + 1 := by
        rcases Nat.lt_or_ge 16 (ob.ps.length + 1) with q | q
        · exact q
        · refine absurd ⟨?_, q⟩ c
          rw [h.sh, hul]
          exact decide_eq_true (by omega)
      have eb : ob.bare k (keptD d) = (ob.mapped k (keptD d)).lost := by
        unfold Ob.bare Ob.plus
        rw [if_pos h16, if_pos (Or.inr h16)]
      refine ⟨ob.bare k (keptD d), ⟨?_, ?_, h.neat.bare hp _, ?_, ?_, ?_, fun q => ?_, h.so, ?_, ?_⟩⟩
      · show H.obs.set 0 _ = _
        rw [h.obs]
        rfl
      · rw [eb]
        exact hkeys
      · rw [eb]
        exact hfl
      · rw [eb, hul2]
        exact (decide_eq_true h16).symm
      · rw [eb, hul2]
        exact (decide_eq_false (by omega)).symm
      · rw [eb] at q
        cases q
      · show H.L.length ≤ _
        omega
      · rw [eb]
        show ob.next + 1 ≤ _
        omega

end Go.Proofs.Ytkpdpdllbnihgaa.Hp
