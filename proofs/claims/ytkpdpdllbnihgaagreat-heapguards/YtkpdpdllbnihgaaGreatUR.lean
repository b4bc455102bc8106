/- UR -/
import Derived.Test.YtkpdpdllbnihgaaGreatUN
set_option linter.unusedVariables false
set_option linter.unusedSimpArgs false
set_option maxRecDepth 100000
set_option maxHeartbeats 40000000
/- What shapes say: a shape is what its steps make of it; an object's shape is its own keys and flags: plain. -/
namespace Go.Proofs.YtkpdpdllbnihgaaGreat.Sp
/-- a step on keys and flags -/
def repS (s : List ByteArray × List Int) (a : Bool × ByteArray × Int) : List ByteArray × List Int :=
  if a.1 = true then match idx s.1 a.2.1 with | some i => (s.1, s.2.set i a.2.2) | none => s else (s.1 ++ [a.2.1], s.2 ++ [a.2.2])
def repA (st : List (Bool × ByteArray × Int)) : List ByteArray × List Int := st.foldl repS ([], [])
theorem repA_snoc (st : List (Bool × ByteArray × Int)) (a : Bool × ByteArray × Int) : repA (st ++ [a]) = repS (repA st) a := by
  unfold repA
  rw [List.foldl_append]
  rfl
def SoundG (L : List Sh) : Prop := ∀ x ∈ L, (x.ks, x.fs) = repA x.st
/-- what an answer of the tree is: kept shapes, one that says so, no more than 256 -/
structure Ans (L : List Sh) (s : Sh) (r : List Sh × Int × Bool) : Prop where
  snd : SoundG r.1
  kp : ∀ m x, shOf L m = some x → shOf r.1 m = some x
  len : r.1.length ≤ 256
  ok : r.2.2 = true → ∃ x, shOf r.1 r.2.1 = some x ∧ x.pr = s.pr ∧ x.ks = s.ks ∧ x.fs = s.fs
theorem shOf_mem {L : List Sh} {n : Int} {s : Sh} (h : shOf L n = some s) : s ∈ L := by
  unfold shOf at h
  split at h
  · exact List.mem_of_getElem? h
  · cases h
theorem Ans.no {L : List Sh} {s : Sh} {n : Int} (h : SoundG L) (hl : L.length ≤ 256) : Ans L s (L, n, false) := ⟨h, fun _ _ q => q, hl, fun e => by cases e⟩
theorem layD_ans {most : Int} {L : List Sh} {s : Sh} (hL : SoundG L) (hm : most ≤ 256) (hl : L.length ≤ 256) (hs : (s.ks, s.fs) = repA s.st) : Ans L s (layD most L s) := by
  unfold layD
  cases hh : hit L s with
  | some i =>
    simp only
    unfold hit at hh
    rw [List.findIdx?_eq_some_iff_getElem] at hh
    obtain ⟨h1, h2, _⟩ := hh
    have h2 := of_decide_eq_true h2
    have hx := hL L[i] (List.getElem_mem h1)
    rw [h2.2, ← hs] at hx
    refine ⟨hL, fun _ _ q => q, hl, fun _ => ⟨L[i], ?_, h2.1, (Prod.mk.inj hx).1, (Prod.mk.inj hx).2⟩⟩
    show shOf L (i : Int) = _
    unfold shOf
    rw [if_pos (by omega)]
    exact List.getElem?_eq_getElem h1
  | none =>
    simp only
    split
    · exact Ans.no hL hl
    · rename_i c
      refine ⟨fun x hx => ?_, fun m x hq => ?_, ?_, fun _ => ⟨s, ?_, rfl, rfl, rfl⟩⟩
      · rcases List.mem_append.1 hx with q | q
        · exact hL x q
        · rw [List.mem_singleton.1 q]
          exact hs
      · unfold shOf at hq ⊢
        split at hq
        · rename_i c2
          rw [if_pos c2, List.getElem?_append_left (List.getElem?_eq_some_iff.1 hq).1]
          exact hq
        · cases hq
      · show (L ++ [s]).length ≤ 256
        rw [List.length_append]
        simp only [List.length_singleton]
        omega
      · unfold shOf
        rw [if_pos (by simp only; omega)]
        simp
theorem rootD_ans {most : Int} {L : List Sh} (hL : SoundG L) (hm : most ≤ 256) (hl : L.length ≤ 256) (p : Int) : Ans L ⟨p, [], [], []⟩ (rootD most L p) := layD_ans hL hm hl rfl
theorem addD_ans {most : Int} {L : List Sh} {n : Int} {s : Sh} {k : ByteArray} {f : Int} (hL : SoundG L) (hm : most ≤ 256) (hl : L.length ≤ 256) (hs : shOf L n = some s) : Ans L (grow s k f) (addD most L n k f) := by
  have hsS := hL s (shOf_mem hs)
  unfold addD
  rw [hs]
  simp only
  split
  · exact Ans.no hL hl
  · refine layD_ans hL hm hl ?_
    show (s.ks ++ [k], s.fs ++ [f]) = repA (s.st ++ [(false, k, f)])
    rw [repA_snoc, ← hsS]
    rfl
theorem addD_none {most : Int} {L : List Sh} {n : Int} {k : ByteArray} {f : Int} (hs : shOf L n = none) : addD most L n k f = (L, 0, false) := by unfold addD; rw [hs]
theorem changeD_ans {most : Int} {L : List Sh} {n : Int} {s : Sh} {k : ByteArray} {f : Int} {i : Nat} (hL : SoundG L) (hm : most ≤ 256) (hl : L.length ≤ 256) (hs : shOf L n = some s) (hi : idx s.ks k = some i) : Ans L ⟨s.pr, s.ks, s.fs.set i f, s.st⟩ (changeD most L n k f) := by
  have hsS := hL s (shOf_mem hs)
  unfold changeD
  rw [hs]
  simp only
  rw [hi]
  simp only
  split
  · rename_i c
    refine ⟨hL, fun _ _ q => q, hl, fun _ => ⟨s, hs, rfl, rfl, ?_⟩⟩
    have hil := (List.getElem?_eq_some_iff.1 c).1
    have hx : s.fs[i] = f := (List.getElem?_eq_some_iff.1 c).2
    show s.fs = s.fs.set i f
    rw [← hx]
    exact (List.set_getElem_self hil).symm
  · have := layD_ans (most := most) (s := chg s i k f) hL hm hl (by
      show (s.ks, s.fs.set i f) = repA (s.st ++ [(true, k, f)])
      rw [repA_snoc, ← hsS]
      unfold repS
      simp only [if_true]
      rw [hi])
    exact ⟨this.snd, this.kp, this.len, this.ok⟩
theorem movD_ans {most : Int} (hm : most ≤ 256) (L0 : List Sh) : ∀ (l : List (ByteArray × Int)) (r : List Sh × Int × Bool) (s : Sh), Ans L0 s r → Ans L0 ⟨s.pr, s.ks ++ l.map Prod.fst, s.fs ++ l.map Prod.snd, s.st⟩ (movD most l r)
  | [], r, s, h => by
    rw [List.map_nil, List.map_nil, List.append_nil, List.append_nil]
    exact ⟨h.snd, h.kp, h.len, h.ok⟩
  | x :: l, r, s, h => by
    rw [movD]
    split
    · rename_i c
      obtain ⟨y, hy, y1, y2, y3⟩ := h.ok c
      have ha := addD_ans (most := most) (k := x.1) (f := x.2) h.snd hm h.len hy
      have := movD_ans hm L0 l (addD most r.1 r.2.1 x.1 x.2) (grow y x.1 x.2) ⟨ha.snd, fun m z q => ha.kp m z (h.kp m z q), ha.len, ha.ok⟩
      have e1 : (grow y x.1 x.2).ks = s.ks ++ [x.1] := by show y.ks ++ [x.1] = _; rw [y2]
      have e2 : (grow y x.1 x.2).fs = s.fs ++ [x.2] := by show y.fs ++ [x.2] = _; rw [y3]
      have e3 : (grow y x.1 x.2).pr = s.pr := y1
      rw [e1, e2, e3] at this
      rw [List.map_cons, List.map_cons]
      have f1 : s.ks ++ (x.1 :: l.map Prod.fst) = s.ks ++ [x.1] ++ l.map Prod.fst := by simp
      have f2 : s.fs ++ (x.2 :: l.map Prod.snd) = s.fs ++ [x.2] ++ l.map Prod.snd := by simp
      rw [f1, f2]
      exact ⟨this.snd, this.kp, this.len, this.ok⟩
    · rename_i c
      exact ⟨h.snd, h.kp, h.len, fun e => absurd e c⟩
end Go.Proofs.YtkpdpdllbnihgaaGreat.Sp
namespace Go.Proofs.YtkpdpdllbnihgaaGreat.Hp
open Go.RowKit
/-- an object's shape is its own -/
def ShO (L : List Sp.Sh) (ob : Ob) : Prop := ob.shaped = true → ∃ s, Sp.shOf L ob.shape = some s ∧ s.pr = rootN ob.kind ob.proto ∧ s.ks = ob.ps.map Pr.key ∧ s.fs = ob.ps.map (fun p => p.de.fl)
structure ShOk (H : He) : Prop where
  snd : Sp.SoundG H.L
  len : H.L.length ≤ 256
  ob : ∀ ob ∈ H.obs, ShO H.L ob
section
variable {H H' : He} {S : List So} {ts : List ByteArray} {n : Nat}
theorem ShO.kp {L L' : List Sp.Sh} {ob : Ob} (h : ShO L ob) (hk : ∀ m x, Sp.shOf L m = some x → Sp.shOf L' m = some x) : ShO L' ob := fun e => by
  obtain ⟨s, a, b⟩ := h e
  exact ⟨s, hk _ _ a, b⟩
theorem ShOk.obs (h : ShOk H) (h1 : H'.L = H.L) (h2 : H'.obs = H.obs) : ShOk H' := ⟨by rw [h1]; exact h.snd, by rw [h1]; exact h.len, by rw [h1, h2]; exact h.ob⟩
theorem ShOk.one (h : ShOk H) {i : Nat} {ob : Ob} (h1 : H'.L = H.L) (h2 : H'.obs = H.obs.set i ob) (ho : ShO H.L ob) : ShOk H' :=
  ⟨by rw [h1]; exact h.snd, by rw [h1]; exact h.len, fun x hx => by
    rw [h2] at hx
    rw [h1]
    rcases List.mem_or_eq_of_mem_set hx with q | q
    · exact h.ob x q
    · rw [q]; exact ho⟩
theorem ShOk.ans (h : ShOk H) {s : Sp.Sh} {r : List Sp.Sh × Int × Bool} (ha : Sp.Ans H.L s r) {i : Nat} {ob : Ob} (h1 : H'.L = r.1) (h2 : H'.obs = H.obs.set i ob) (ho : ShO r.1 ob) : ShOk H' :=
  ⟨by rw [h1]; exact ha.snd, by rw [h1]; exact ha.len, fun x hx => by
    rw [h2] at hx
    rw [h1]
    rcases List.mem_or_eq_of_mem_set hx with q | q
    · exact (h.ob x q).kp ha.kp
    · rw [q]; exact ho⟩
theorem ShOk.raise (h : ShOk H) (p : Int) : ShOk (raiseH H p) := by
  unfold raiseH
  cases hq : obI H p with
  | none => exact h
  | some j =>
    simp only
    cases hj : H.obs[j]? with
    | none => exact h
    | some ob => exact h.one (H' := { H with obs := H.obs.set j { ob with above := true } }) rfl rfl (h.ob ob (List.mem_of_getElem? hj))
theorem ShOk.touch (h : ShOk H) (c : Int) : ShOk (touchH H c) := h.obs rfl rfl
theorem ShOk.make (h : ShOk H) (hm : H.most ≤ 256) (kind p : Int) : ShOk (makeF H kind p) := by
  unfold makeF
  split
  · exact h
  · have hr := h.raise p
    have ha := Sp.rootD_ans (most := H.most) h.snd hm h.len (rootN kind p)
    refine ⟨ha.snd, ha.len, fun x hx => ?_⟩
    have hx : x ∈ (raiseH H p).obs ++ [_] := hx
    rcases List.mem_append.1 hx with q | q
    · have := hr.ob x q
      rw [(raise_len H p).2.1] at this
      exact this.kp ha.kp
    · rw [List.mem_singleton.1 q]
      intro e
      obtain ⟨y, hy, y1, y2, y3⟩ := ha.ok e
      exact ⟨y, hy, y1, y2, y3⟩
theorem plc_idx {ps : List Pr} {k : ByteArray} : Sp.idx (ps.map Pr.key) k = plc ps k := plc_plS ps k
theorem ShOk.put (h : ShOk H) (hm : H.most ≤ 256) (o : Int) (k : ByteArray) (d : De) : ShOk (putF H o k d) := by
  unfold putF
  cases ho : obI H o with
  | none => exact h
  | some i =>
    simp only
    cases hi : H.obs[i]? with
    | none => exact h
    | some ob =>
      simp only
      have hob := h.ob ob (List.mem_of_getElem? hi)
      unfold putH
      cases hp : plc ob.ps k with
      | some m =>
        simp only
        obtain ⟨⟨p, hps, hpk⟩, _⟩ := plc_some hp
        have hpa : prAt ob.ps m = p := by unfold prAt; rw [hps]; rfl
        rw [hpa]
        have hkeys : (setD ob.ps m p (keptD d)).map Pr.key = ob.ps.map Pr.key := by
          unfold setD
          rw [List.map_set]
          have hl : m < (ob.ps.map Pr.key).length := by rw [List.length_map]; exact (List.getElem?_eq_some_iff.1 hps).1
          have hx : (ob.ps.map Pr.key)[m] = p.key := by rw [List.getElem_map]; rw [(List.getElem?_eq_some_iff.1 hps).2]
          show (ob.ps.map Pr.key).set m p.key = _
          rw [← hx]
          exact List.set_getElem_self hl
        have hfls : (setD ob.ps m p (keptD d)).map (fun p => p.de.fl) = (ob.ps.map (fun p => p.de.fl)).set m (keptD d).fl := by
          unfold setD
          rw [List.map_set]
        unfold replH
        split
        · rename_i c
          have c : ob.shaped = true := c
          obtain ⟨s, s1, s2, s3, s4⟩ := hob c
          have hix : Sp.idx s.ks p.key = some m := by rw [s3, plc_idx, hpk]; exact hp
          have ha := Sp.changeD_ans (most := H.most) (f := (keptD d).fl) h.snd hm h.len s1 hix
          refine h.ans ha (ob := { ob with ps := setD ob.ps m p (keptD d), shape := (Sp.changeD H.most H.L ob.shape p.key (keptD d).fl).2.1, shaped := (Sp.changeD H.most H.L ob.shape p.key (keptD d).fl).2.2 }) rfl rfl (fun e => ?_)
          obtain ⟨y, y0, y1, y2, y3⟩ := ha.ok e
          exact ⟨y, y0, y1.trans s2, y2.trans (s3.trans hkeys.symm), y3.trans (by show s.fs.set m _ = _; rw [s4]; exact hfls.symm)⟩
        · rename_i c
          exact h.one rfl rfl (fun e => absurd e c)
      | none =>
        simp only
        split
        · rename_i c
          obtain ⟨s, s1, s2, s3, s4⟩ := hob c.1
          have ha := Sp.addD_ans (most := H.most) (k := k) (f := (keptD d).fl) h.snd hm h.len s1
          refine h.ans ha (H' := layH (touchH H ob.cell) i ob k (keptD d)) (ob := layO (touchH H ob.cell) ob k (keptD d)) rfl rfl (fun e => ?_)
          obtain ⟨y, y0, y1, y2, y3⟩ := ha.ok e
          refine ⟨y, y0, y1.trans s2, y2.trans ?_, y3.trans ?_⟩
          · show s.ks ++ [k] = List.map Pr.key (ob.ps ++ [(⟨k, ob.next, keptD d⟩ : Pr)])
            rw [List.map_append, s3]; rfl
          · show s.fs ++ [(keptD d).fl] = List.map (fun p : Pr => p.de.fl) (ob.ps ++ [(⟨k, ob.next, keptD d⟩ : Pr)])
            rw [List.map_append, s4]; rfl
        · rename_i c
          refine h.one (H' := { touchH H ob.cell with obs := H.obs.set i (ob.bare k (keptD d)) }) rfl rfl (fun e => ?_)
          exfalso
          unfold Ob.bare at e
          split at e
          · cases e
          · have hsd : (ob.plus k (keptD d)).shaped = ob.shaped := by
              unfold Ob.plus
              split
              · unfold Ob.mapped; rfl
              · unfold Ob.added; rfl
            rw [hsd] at e
            exact c ⟨e, by omega⟩
theorem ShOk.proto (h : ShOk H) (hm : H.most ≤ 256) (o p : Int) : ShOk (setPF H o p) := by
  unfold setPF
  cases ho : obI H o with
  | none => exact h
  | some i =>
    simp only
    cases hi : H.obs[i]? with
    | none => exact h
    | some ob =>
      simp only
      have hob := h.ob ob (List.mem_of_getElem? hi)
      split
      · exact h
      · have hr := (h.touch ob.cell).raise p
        have hL := (raise_len (touchH H ob.cell) p).2.1
        unfold setPH
        split
        · rename_i c
          obtain ⟨s, s1, s2, s3, s4⟩ := hob c
          have hmv : mvD H ob p = Sp.movD H.most (s.ks.zip s.fs) (Sp.rootD H.most H.L (rootN ob.kind p)) := by
            unfold mvD Sp.moveD
            rw [s1]
          have ha := Sp.movD_ans hm H.L (s.ks.zip s.fs) _ _ (Sp.rootD_ans (most := H.most) h.snd hm h.len (rootN ob.kind p))
          rw [← hmv] at ha
          have hl : s.ks.length = s.fs.length := by rw [s3, s4, List.length_map, List.length_map]
          have z1 : (s.ks.zip s.fs).map Prod.fst = s.ks := List.map_fst_zip (by omega)
          have z2 : (s.ks.zip s.fs).map Prod.snd = s.fs := List.map_snd_zip (by omega)
          simp only [List.nil_append] at ha
          rw [z1, z2] at ha
          refine ⟨ha.snd, ha.len, fun x hx => ?_⟩
          have hx : x ∈ ((raiseH (touchH H ob.cell) p).obs.set i { ob with proto := p }).set i { ob with proto := p, shape := (mvD H ob p).2.1, shaped := (mvD H ob p).2.2 } := hx
          rw [List.set_set] at hx
          rcases List.mem_or_eq_of_mem_set hx with q | q
          · have := hr.ob x q
            rw [hL] at this
            exact this.kp ha.kp
          · rw [q]
            intro e
            obtain ⟨y, y0, y1, y2, y3⟩ := ha.ok e
            exact ⟨y, y0, y1, y2.trans s3, y3.trans s4⟩
        · rename_i c
          exact hr.one (H' := preH H i ob p) rfl rfl (fun e => absurd e c)
theorem ShOk.cell (h : ShOk H) (i : Nat) (c : Int) : ShOk (cellH i (H, c)).1 := by
  unfold cellH
  simp only
  cases hi : H.obs[i]? with
  | none => exact h.obs rfl rfl
  | some ob => exact h.one (ob := { ob with cell := (H.C.length : Int) }) rfl rfl (h.ob ob (List.mem_of_getElem? hi))
theorem ShOk.cells (h : ShOk H) (c : Int) : ∀ l : List Nat, ShOk (l.foldr cellH (H, c)).1
  | [] => h
  | i :: l => by
    rw [List.foldr_cons]
    have := ShOk.cells h c l
    generalize l.foldr cellH (H, c) = s at *
    obtain ⟨SH, sc⟩ := s
    exact this.cell i sc
theorem ShOk.write (h : ShOk H) (o m v : Int) : ShOk (writeH H o m v) := by
  unfold writeH
  cases ho : obI H o with
  | none => exact h
  | some i =>
    simp only
    cases hi : H.obs[i]? with
    | none => exact h
    | some ob =>
      simp only
      have hob := h.ob ob (List.mem_of_getElem? hi)
      cases hs : slotO H o m with
      | none => exact h
      | some p =>
        simp only
        have hps : ob.ps[m.toNat]? = some p := by
          unfold slotO obO at hs
          rw [ho] at hs
          simp only [Option.bind_some, hi] at hs
          split at hs
          · exact hs
          · cases hs
        refine h.one (ob := { ob with ps := setD ob.ps m.toNat p ⟨v, p.de.se, p.de.fl⟩ }) rfl rfl (fun e => ?_)
        obtain ⟨s, s1, s2, s3, s4⟩ := hob e
        refine ⟨s, s1, s2, s3.trans ?_, s4.trans ?_⟩
        · unfold setD
          rw [List.map_set]
          have hl : m.toNat < (ob.ps.map Pr.key).length := by rw [List.length_map]; exact (List.getElem?_eq_some_iff.1 hps).1
          have hx : (ob.ps.map Pr.key)[m.toNat] = p.key := by rw [List.getElem_map]; rw [(List.getElem?_eq_some_iff.1 hps).2]
          show _ = (ob.ps.map Pr.key).set m.toNat p.key
          rw [← hx]
          exact (List.set_getElem_self hl).symm
        · unfold setD
          rw [List.map_set]
          have hl : m.toNat < (ob.ps.map (fun p => p.de.fl)).length := by rw [List.length_map]; exact (List.getElem?_eq_some_iff.1 hps).1
          have hx : (ob.ps.map (fun p => p.de.fl))[m.toNat] = p.de.fl := by rw [List.getElem_map]; rw [(List.getElem?_eq_some_iff.1 hps).2]
          show _ = (ob.ps.map (fun p => p.de.fl)).set m.toNat p.de.fl
          rw [← hx]
          exact (List.set_getElem_self hl).symm
theorem ShOk.step (h : ShOk H) (hm : H.most ≤ 256) (o : OpL) : ShOk (stepH H o) := by
  rcases kinds o.kd with k | k | k | k | k | k | k | k | k | k | k | k
  · rw [stepH_0 k]
    exact h.make hm _ _
  · rw [stepH_1 k]
    exact h.put hm _ _ _
  · rw [stepH_2 k]
    unfold dropF
    cases ho : obI H o.o with
    | none => exact h
    | some i =>
      simp only
      cases hi : H.obs[i]? with
      | none => exact h
      | some ob =>
        simp only
        cases hp : plc ob.ps o.k with
        | none => exact h
        | some m => exact h.one (H' := dropH H i ob m) rfl rfl (fun e => by cases e)
  · rw [stepH_3 k]
    exact h.proto hm _ _
  · rw [stepH_4 k]
    unfold elemF
    cases ho : obI H o.o with
    | none => exact h
    | some i =>
      simp only
      cases hi : H.obs[i]? with
      | none => exact h
      | some ob =>
        simp only
        split
        · exact h
        · exact h.one (H' := elH H i ob _) rfl rfl (h.ob ob (List.mem_of_getElem? hi))
  · rw [stepH_5 k]
    unfold lenF
    cases ho : obI H o.o with
    | none => exact h
    | some i =>
      simp only
      cases hi : H.obs[i]? with
      | none => exact h
      | some ob =>
        simp only
        split
        · exact h
        · exact h.one (H' := elH H i ob _) rfl rfl (h.ob ob (List.mem_of_getElem? hi))
  · rw [stepH_6 k]
    unfold closeH
    cases ho : obI H o.o with
    | none => exact h
    | some i =>
      simp only
      cases hi : H.obs[i]? with
      | none => exact h
      | some ob =>
        simp only
        exact h.one (H' := H.setO i { ob with shut := true }) rfl rfl (h.ob ob (List.mem_of_getElem? hi))
  · rw [stepH_7 k]
    unfold innF
    cases ho : obI H o.o with
    | none => exact h
    | some i =>
      simp only
      cases hi : H.obs[i]? with
      | none => exact h
      | some ob =>
        simp only
        exact h.one (H' := H.setO i { ob with inn := o.w.xs }) rfl rfl (h.ob ob (List.mem_of_getElem? hi))
  · rw [stepH_8 k]
    unfold textF
    split
    · exact h
    · split
      · exact h
      · split
        · exact h
        · exact h.obs rfl rfl
  · rw [stepH_9 k]
    exact h.cells _ _
  · rw [stepH_10 k]
    exact h.write _ _ _
  · rw [stepH_no k]
    exact h
theorem ShOk.start (most : Int) : ShOk (He.new most) := ⟨fun x hx => by simp [He.new] at hx, by simp [He.new], fun x hx => by simp [He.new] at hx⟩
end
end Go.Proofs.YtkpdpdllbnihgaaGreat.Hp
