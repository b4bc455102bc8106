/- UN -/
import Derived.Test.YtkpdpdllbnihgaaGreatB38
set_option linter.unusedVariables false
set_option linter.unusedSimpArgs false
set_option maxRecDepth 100000
set_option maxHeartbeats 40000000
/- A call of a script: what it leaves on either side; the order is kept: plain. -/
namespace Go.Proofs.YtkpdpdllbnihgaaGreat.Hp
open Go.RowKit
/-- a call -/
structure OpL where
  kd : Int
  o : Int
  p : Int
  k : ByteArray
  d : De
  n : Int
  w : Sli Int
def OpL.cells (o : OpL) : Array Value := #[.int .i64 o.kd, .int .u64 o.o, .int .u64 o.p, .string o.k, .int .u64 o.d.va, .int .u64 o.d.se, .int .i64 o.d.fl, .int .i64 o.n, o.w.val]
def OpL.val (o : OpL) : Value := .agg o.cells
structure OpL.wf (o : OpL) : Prop where
  o0 : 0 ≤ o.o
  o1 : o.o < 18446744073709551616
  p0 : 0 ≤ o.p
  p1 : o.p < 18446744073709551616
  kl : o.k.size ≤ maxLen
  n1 : o.n ≤ 9223372036854775807
  wl : o.w.xs.length ≤ 2000000
def OpL.fst (o : OpL) : Int := (o.w.xs[0]?).getD undW
def writeG (S : List So) (o n v : Int) : List So := match soO S o with
  | none => S
  | some x => if n < 0 then S else match x.nm[n.toNat]?, x.ds[n.toNat]? with
    | some k, some d => putG S o k ⟨v, d.se, d.fl⟩
    | _, _ => S
def stepH (H : He) (o : OpL) : He :=
  if o.kd = 0 then makeF H o.n o.p else if o.kd = 1 then putF H o.o o.k o.d else if o.kd = 2 then (dropF H o.o o.k).1 else if o.kd = 3 then setPF H o.o o.p
  else if o.kd = 4 then (elemF H o.o o.n o.fst).1 else if o.kd = 5 then (lenF H o.o o.n).1 else if o.kd = 6 then closeH H o.o else if o.kd = 7 then innF H o.o o.w.xs
  else if o.kd = 8 then (textF H o.k).1 else if o.kd = 9 then (guardH H o.p).1 else if o.kd = 10 then writeH H o.o o.n o.fst else H
def stepS (S : List So) (o : OpL) : List So :=
  if o.kd = 0 then makeG S o.n o.p else if o.kd = 1 then putG S o.o o.k o.d else if o.kd = 2 then (dropG S o.o o.k).1 else if o.kd = 3 then protoG S o.o o.p
  else if o.kd = 4 then (elemG S o.o o.n o.fst).1 else if o.kd = 5 then (lenG S o.o o.n).1 else if o.kd = 6 then shutG S o.o else if o.kd = 7 then innG S o.o o.w.xs
  else if o.kd = 8 then S else if o.kd = 9 then S else if o.kd = 10 then writeG S o.o o.n o.fst else S
def stepT (ts : List ByteArray) (o : OpL) : List ByteArray := if o.kd = 8 then (textG ts o.k).1 else ts
theorem stepH_0 {H : He} {o : OpL} (h : o.kd = 0) : stepH H o = makeF H o.n o.p := by unfold stepH; rw [h]; rfl
theorem stepS_0 {S : List So} {o : OpL} (h : o.kd = 0) : stepS S o = makeG S o.n o.p := by unfold stepS; rw [h]; rfl
theorem stepT_0 {ts : List ByteArray} {o : OpL} (h : o.kd = 0) : stepT ts o = ts := by unfold stepT; rw [h]; rfl
theorem stepH_1 {H : He} {o : OpL} (h : o.kd = 1) : stepH H o = putF H o.o o.k o.d := by unfold stepH; rw [h]; rfl
theorem stepS_1 {S : List So} {o : OpL} (h : o.kd = 1) : stepS S o = putG S o.o o.k o.d := by unfold stepS; rw [h]; rfl
theorem stepT_1 {ts : List ByteArray} {o : OpL} (h : o.kd = 1) : stepT ts o = ts := by unfold stepT; rw [h]; rfl
theorem stepH_2 {H : He} {o : OpL} (h : o.kd = 2) : stepH H o = (dropF H o.o o.k).1 := by unfold stepH; rw [h]; rfl
theorem stepS_2 {S : List So} {o : OpL} (h : o.kd = 2) : stepS S o = (dropG S o.o o.k).1 := by unfold stepS; rw [h]; rfl
theorem stepT_2 {ts : List ByteArray} {o : OpL} (h : o.kd = 2) : stepT ts o = ts := by unfold stepT; rw [h]; rfl
theorem stepH_3 {H : He} {o : OpL} (h : o.kd = 3) : stepH H o = setPF H o.o o.p := by unfold stepH; rw [h]; rfl
theorem stepS_3 {S : List So} {o : OpL} (h : o.kd = 3) : stepS S o = protoG S o.o o.p := by unfold stepS; rw [h]; rfl
theorem stepT_3 {ts : List ByteArray} {o : OpL} (h : o.kd = 3) : stepT ts o = ts := by unfold stepT; rw [h]; rfl
theorem stepH_4 {H : He} {o : OpL} (h : o.kd = 4) : stepH H o = (elemF H o.o o.n o.fst).1 := by unfold stepH; rw [h]; rfl
theorem stepS_4 {S : List So} {o : OpL} (h : o.kd = 4) : stepS S o = (elemG S o.o o.n o.fst).1 := by unfold stepS; rw [h]; rfl
theorem stepT_4 {ts : List ByteArray} {o : OpL} (h : o.kd = 4) : stepT ts o = ts := by unfold stepT; rw [h]; rfl
theorem stepH_5 {H : He} {o : OpL} (h : o.kd = 5) : stepH H o = (lenF H o.o o.n).1 := by unfold stepH; rw [h]; rfl
theorem stepS_5 {S : List So} {o : OpL} (h : o.kd = 5) : stepS S o = (lenG S o.o o.n).1 := by unfold stepS; rw [h]; rfl
theorem stepT_5 {ts : List ByteArray} {o : OpL} (h : o.kd = 5) : stepT ts o = ts := by unfold stepT; rw [h]; rfl
theorem stepH_6 {H : He} {o : OpL} (h : o.kd = 6) : stepH H o = closeH H o.o := by unfold stepH; rw [h]; rfl
theorem stepS_6 {S : List So} {o : OpL} (h : o.kd = 6) : stepS S o = shutG S o.o := by unfold stepS; rw [h]; rfl
theorem stepT_6 {ts : List ByteArray} {o : OpL} (h : o.kd = 6) : stepT ts o = ts := by unfold stepT; rw [h]; rfl
theorem stepH_7 {H : He} {o : OpL} (h : o.kd = 7) : stepH H o = innF H o.o o.w.xs := by unfold stepH; rw [h]; rfl
theorem stepS_7 {S : List So} {o : OpL} (h : o.kd = 7) : stepS S o = innG S o.o o.w.xs := by unfold stepS; rw [h]; rfl
theorem stepT_7 {ts : List ByteArray} {o : OpL} (h : o.kd = 7) : stepT ts o = ts := by unfold stepT; rw [h]; rfl
theorem stepH_8 {H : He} {o : OpL} (h : o.kd = 8) : stepH H o = (textF H o.k).1 := by unfold stepH; rw [h]; rfl
theorem stepS_8 {S : List So} {o : OpL} (h : o.kd = 8) : stepS S o = S := by unfold stepS; rw [h]; rfl
theorem stepT_8 {ts : List ByteArray} {o : OpL} (h : o.kd = 8) : stepT ts o = (textG ts o.k).1 := by unfold stepT; rw [h]; rfl
theorem stepH_9 {H : He} {o : OpL} (h : o.kd = 9) : stepH H o = (guardH H o.p).1 := by unfold stepH; rw [h]; rfl
theorem stepS_9 {S : List So} {o : OpL} (h : o.kd = 9) : stepS S o = S := by unfold stepS; rw [h]; rfl
theorem stepT_9 {ts : List ByteArray} {o : OpL} (h : o.kd = 9) : stepT ts o = ts := by unfold stepT; rw [h]; rfl
theorem stepH_10 {H : He} {o : OpL} (h : o.kd = 10) : stepH H o = writeH H o.o o.n o.fst := by unfold stepH; rw [h]; rfl
theorem stepS_10 {S : List So} {o : OpL} (h : o.kd = 10) : stepS S o = writeG S o.o o.n o.fst := by unfold stepS; rw [h]; rfl
theorem stepT_10 {ts : List ByteArray} {o : OpL} (h : o.kd = 10) : stepT ts o = ts := by unfold stepT; rw [h]; rfl
theorem stepH_no {H : He} {o : OpL} (h : ∀ j : Int, 0 ≤ j → j ≤ 10 → ¬ o.kd = j) : stepH H o = H := by unfold stepH; rw [if_neg (h 0 (by omega) (by omega)), if_neg (h 1 (by omega) (by omega)), if_neg (h 2 (by omega) (by omega)), if_neg (h 3 (by omega) (by omega)), if_neg (h 4 (by omega) (by omega)), if_neg (h 5 (by omega) (by omega)), if_neg (h 6 (by omega) (by omega)), if_neg (h 7 (by omega) (by omega)), if_neg (h 8 (by omega) (by omega)), if_neg (h 9 (by omega) (by omega)), if_neg (h 10 (by omega) (by omega))]
theorem stepS_no {S : List So} {o : OpL} (h : ∀ j : Int, 0 ≤ j → j ≤ 10 → ¬ o.kd = j) : stepS S o = S := by unfold stepS; rw [if_neg (h 0 (by omega) (by omega)), if_neg (h 1 (by omega) (by omega)), if_neg (h 2 (by omega) (by omega)), if_neg (h 3 (by omega) (by omega)), if_neg (h 4 (by omega) (by omega)), if_neg (h 5 (by omega) (by omega)), if_neg (h 6 (by omega) (by omega)), if_neg (h 7 (by omega) (by omega)), if_neg (h 8 (by omega) (by omega)), if_neg (h 9 (by omega) (by omega)), if_neg (h 10 (by omega) (by omega))]
theorem stepT_no {ts : List ByteArray} {o : OpL} (h : ∀ j : Int, 0 ≤ j → j ≤ 10 → ¬ o.kd = j) : stepT ts o = ts := by unfold stepT; rw [if_neg (h 8 (by omega) (by omega))]
theorem kinds (k : Int) : k = 0 ∨ k = 1 ∨ k = 2 ∨ k = 3 ∨ k = 4 ∨ k = 5 ∨ k = 6 ∨ k = 7 ∨ k = 8 ∨ k = 9 ∨ k = 10 ∨ (∀ j : Int, 0 ≤ j → j ≤ 10 → ¬ k = j) := by
  by_cases c : 0 ≤ k ∧ k ≤ 10
  · omega
  · exact Or.inr (Or.inr (Or.inr (Or.inr (Or.inr (Or.inr (Or.inr (Or.inr (Or.inr (Or.inr (Or.inr (fun j a b e => c ⟨by omega, by omega⟩)))))))))))
/-- in order, behind n calls -/
structure Ord (H : He) (S : List So) (ts : List ByteArray) (n : Nat) : Prop where
  rel : RelG H S ts
  inv : H.inv (n : Int)
  kd : ∀ x ∈ S, ∀ d ∈ x.ds, keptI d.fl = d.fl
  cl : H.C.length ≤ 65536 * n
section
variable {H H' : He} {S : List So} {ts : List ByteArray} {n : Nat}
theorem kept_kept (f : Int) : keptI (keptI f) = keptI f := by
  unfold keptI
  split <;> split <;> omega
/-! ## Cells -/
theorem valid_made (C : List Ce.Cel) (c : Int) (hc : c = -1 ∨ Ce.validD C c = true) : Ce.validD (Ce.makeD C c) (C.length : Int) = true := by
  unfold Ce.validD Ce.makeD Ce.okAt Ce.validOn
  simp only [Int.toNat_natCast]
  rw [List.getElem?_append_right (Nat.le_refl _), Nat.sub_self]
  unfold Ce.validD Ce.okAt at hc
  rcases hc with rfl | hc
  · simp
  · simp only [Bool.and_eq_true, decide_eq_true_eq] at hc
    simp [hc.1, hc.2]
theorem cells_valid {H : He} {c : Int} (hc : c = -1 ∨ Ce.validD H.C c = true) : ∀ l : List Nat, ((l.foldr cellH (H, c)).2 = -1 ∨ Ce.validD (l.foldr cellH (H, c)).1.C (l.foldr cellH (H, c)).2 = true) ∧ (l ≠ [] → 0 ≤ (l.foldr cellH (H, c)).2)
  | [] => ⟨hc, fun h => absurd rfl h⟩
  | i :: l => by
    rw [List.foldr_cons]
    have ih := (cells_valid hc l).1
    generalize l.foldr cellH (H, c) = s at *
    unfold cellH
    split
    · exact ⟨Or.inr (valid_made _ _ ih), fun _ => by simp⟩
    · exact ⟨Or.inr (valid_made _ _ ih), fun _ => by simp⟩
theorem bare_end {H : He} : ∀ (n : Nat) (p : Int), (bareF H n p).2 = -1 ∨ Ce.validD H.C (bareF H n p).2 = true
  | 0, p => Or.inl rfl
  | n + 1, p => by
    cases hq : obO H p with
    | none => rw [bare_none hq]; exact Or.inl rfl
    | some ob =>
      obtain ⟨j, hj, hob⟩ := obO_some hq
      rw [bare_step hj hob]
      split
      · exact Or.inr (by assumption)
      · exact bare_end n ob.proto
theorem valid_pos {C : List Ce.Cel} {c : Int} (h : Ce.validD C c = true) : 0 ≤ c := by
  unfold Ce.validD at h
  simp only [Bool.and_eq_true, decide_eq_true_eq] at h
  exact h.1
/-- what Guard answers -/
theorem guard_says (H : He) (p : Int) : ((guardH H p).2 = -1 ↔ obI H p = none) ∧ (¬ (guardH H p).2 = -1 → Ce.validD (guardH H p).1.C (guardH H p).2 = true) := by
  unfold guardH
  have hc := bare_end (H := H) H.obs.length p
  have hv := cells_valid hc (bareF H H.obs.length p).1
  refine ⟨⟨fun e => ?_, fun e => ?_⟩, fun e => hv.1.resolve_left e⟩
  · cases hq : obI H p with
    | none => rfl
    | some i =>
      exfalso
      obtain ⟨ob, hi⟩ := obI_at hq
      have hil := (List.getElem?_eq_some_iff.1 hi).1
      obtain ⟨N, hN⟩ : ∃ N, H.obs.length = N + 1 := ⟨H.obs.length - 1, by omega⟩
      rw [hN] at e hv
      rw [bare_step hq hi] at e hv
      split at e
      · rename_i c
        rw [if_pos c] at hv
        have := valid_pos c
        have e : ob.cell = -1 := e
        omega
      · rename_i c
        rw [if_neg c] at hv
        have := hv.2 (by simp)
        simp only at this e
        omega
  · have : obO H p = none := by unfold obO; rw [e]; rfl
    rw [bare_none this]
    rfl
theorem RelG.cell (h : RelG H S ts) (i : Nat) (c : Int) : RelG (cellH i (H, c)).1 S ts := by
  unfold cellH
  simp only
  cases hi : H.obs[i]? with
  | none => exact h.obs rfl rfl
  | some ob =>
    simp only
    have hjl := (List.getElem?_eq_some_iff.1 hi).1
    have hsl : i < S.length := by rw [← h.len]; exact hjl
    have e2 : S[i]? = some S[i] := List.getElem?_eq_getElem hsl
    have hb := h.ob i _ _ hi e2
    have := h.set' (H' := { H with C := Ce.makeD H.C c, obs := H.obs.set i { ob with cell := (H.C.length : Int) } }) (i := i) (ob := { ob with cell := (H.C.length : Int) }) (x := S[i]) ⟨hb.kd, hb.pr, hb.sh, hb.nm, hb.ds, hb.el, hb.inn⟩ rfl rfl
    rw [List.set_getElem_self] at this
    exact this
theorem RelG.cells (h : RelG H S ts) (c : Int) : ∀ l : List Nat, RelG (l.foldr cellH (H, c)).1 S ts
  | [] => h
  | i :: l => by
    rw [List.foldr_cons]
    have := RelG.cells h c l
    generalize l.foldr cellH (H, c) = s at *
    obtain ⟨SH, sc⟩ := s
    exact this.cell i sc
theorem RelG.guard (h : RelG H S ts) (p : Int) : RelG (guardH H p).1 S ts := h.cells _ _
/-! ## Write -/
theorem RelG.slot (h : RelG H S ts) (o m : Int) : slotO H o m = none ∧ ((soO S o).bind (fun x => if m < 0 then none else x.nm[m.toNat]?) = none) ∨ ∃ p x, slotO H o m = some p ∧ soO S o = some x ∧ ¬ m < 0 ∧ x.nm[m.toNat]? = some p.key ∧ x.ds[m.toNat]? = some p.de := by
  rcases h.io o with ⟨e1, e2⟩ | ⟨i, ob, x, e1, e2, e3, e4, e5⟩
  · have q1 : obO H o = none := by unfold obO; rw [e1]; rfl
    have q2 : soO S o = none := by unfold soO; rw [e2]; rfl
    refine Or.inl ⟨?_, ?_⟩
    · unfold slotO; rw [q1]; rfl
    · rw [q2]; rfl
  · have q1 : obO H o = some ob := by unfold obO; rw [e1]; exact e3
    have q2 : soO S o = some x := soO_of e2 e4
    unfold slotO
    rw [q1, q2]
    simp only [Option.bind_some]
    by_cases c : m < 0
    · rw [if_pos c, if_neg (by omega)]
      exact Or.inl ⟨rfl, rfl⟩
    · rw [if_neg c, if_pos (by omega), e5.nm, List.getElem?_map]
      cases hp : ob.ps[m.toNat]? with
      | none => exact Or.inl ⟨rfl, rfl⟩
      | some p => exact Or.inr ⟨p, x, rfl, rfl, c, by rw [e5.nm, List.getElem?_map, hp]; rfl, by rw [e5.ds, List.getElem?_map, hp]; rfl⟩
theorem RelG.write (h : RelG H S ts) (hn : H.neat) (hk : ∀ x ∈ S, ∀ d ∈ x.ds, keptI d.fl = d.fl) (o m v : Int) : RelG (writeH H o m v) (writeG S o m v) ts := by
  rcases h.io o with ⟨e1, e2⟩ | ⟨i, ob, x, e1, e2, e3, e4, e5⟩
  · have q2 : soO S o = none := by unfold soO; rw [e2]; rfl
    unfold writeH writeG
    rw [e1, q2]
    exact h
  · have q2 : soO S o = some x := soO_of e2 e4
    have hw : writeH H o m v = match slotO H o m with
      | none => H
      | some p => { touchH H ob.cell with obs := H.obs.set i { ob with ps := setD ob.ps m.toNat p ⟨v, p.de.se, p.de.fl⟩ } } := by unfold writeH; rw [e1]; simp only [e3]; cases slotO H o m <;> rfl
    rw [hw]
    unfold writeG
    rw [q2]
    simp only
    rcases h.slot o m with ⟨s1, s2⟩ | ⟨p, x', s1, s2, s3, s4, s5⟩
    · rw [s1]
      rw [q2] at s2
      simp only [Option.bind_some] at s2
      by_cases c : m < 0
      · rw [if_pos c]; exact h
      · rw [if_neg c] at s2 ⊢
        rw [s2]
        exact h
    · rw [q2] at s2
      obtain rfl := Option.some.inj s2
      rw [s1, if_neg s3, s4, s5]
      simp only
      have hps : ob.ps[m.toNat]? = some p := by
        unfold slotO obO at s1
        rw [e1] at s1
        simp only [Option.bind_some, e3] at s1
        rw [if_pos (by omega)] at s1
        exact s1
      have hnt := hn ob (List.mem_of_getElem? e3)
      have hpl : plS x.nm p.key = some m.toNat := by
        rw [e5.nm, plc_plS]
        refine plc_at hps rfl (fun j q hj hq e => ?_)
        have h1 : (ob.ps.map Pr.key)[j]? = some p.key := by rw [List.getElem?_map, hq]; simp [e]
        have h2 : (ob.ps.map Pr.key)[m.toNat]? = some p.key := by rw [List.getElem?_map, hps]; rfl
        have hl : j < (ob.ps.map Pr.key).length := (List.getElem?_eq_some_iff.1 h1).1
        have := (List.getElem?_inj hl hnt.kn).1 (h1.trans h2.symm)
        omega
      unfold putG putS
      rw [onS_at e2 e4, hpl]
      simp only
      have hfl : keptI p.de.fl = p.de.fl := hk x (List.mem_of_getElem? e4) p.de (List.mem_of_getElem? s5)
      have hkd : keptD ⟨v, p.de.se, p.de.fl⟩ = ⟨v, p.de.se, p.de.fl⟩ := by unfold keptD; simp only; rw [hfl]
      rw [hkd]
      exact h.set' (e5.put (ob' := { ob with ps := setD ob.ps m.toNat p ⟨v, p.de.se, p.de.fl⟩ }) (d := ⟨v, p.de.se, p.de.fl⟩) hps rfl rfl rfl rfl rfl rfl) rfl rfl
/-! ## The order is kept -/
theorem onS_kd {f : So → So} (h : ∀ x ∈ S, ∀ d ∈ x.ds, keptI d.fl = d.fl) (hf : ∀ x ∈ S, ∀ d ∈ (f x).ds, keptI d.fl = d.fl) (o : Int) : ∀ x ∈ onS S o f, ∀ d ∈ x.ds, keptI d.fl = d.fl := by
  unfold onS
  split
  · exact h
  · split
    · exact h
    · rename_i i x hi
      intro y hy
      rcases List.mem_or_eq_of_mem_set hy with q | q
      · exact h y q
      · rw [q]
        exact hf x (List.mem_of_getElem? hi)
theorem put_kd (h : ∀ x ∈ S, ∀ d ∈ x.ds, keptI d.fl = d.fl) (o : Int) (k : ByteArray) (d : De) : ∀ x ∈ putG S o k d, ∀ d ∈ x.ds, keptI d.fl = d.fl := by
  refine onS_kd h (fun x hx e he => ?_) o
  have hkk : keptI (keptD d).fl = (keptD d).fl := kept_kept d.fl
  unfold putS at he
  split at he
  · rcases List.mem_or_eq_of_mem_set he with q | q
    · exact h x hx e q
    · rw [q]; exact hkk
  · rcases List.mem_append.1 he with q | q
    · exact h x hx e q
    · rw [List.mem_singleton.1 q]; exact hkk
theorem del_kd (h : ∀ x ∈ S, ∀ d ∈ x.ds, keptI d.fl = d.fl) (o : Int) (k : ByteArray) : ∀ x ∈ onS S o (fun x => delS x k), ∀ d ∈ x.ds, keptI d.fl = d.fl := by
  refine onS_kd h (fun x hx e he => ?_) o
  unfold delS at he
  split at he
  · exact h x hx e he
  · exact h x hx e (List.mem_of_mem_eraseIdx he)
theorem stepS_kd (h : ∀ x ∈ S, ∀ d ∈ x.ds, keptI d.fl = d.fl) (o : OpL) : ∀ x ∈ stepS S o, ∀ d ∈ x.ds, keptI d.fl = d.fl := by
  rcases kinds o.kd with k | k | k | k | k | k | k | k | k | k | k | k
  · rw [stepS_0 k]
    unfold makeG
    split
    · exact h
    · intro x hx
      rcases List.mem_append.1 hx with q | q
      · exact h x q
      · rw [List.mem_singleton.1 q]
        intro d hd
        cases hd
  · rw [stepS_1 k]
    exact put_kd h _ _ _
  · rw [stepS_2 k]
    exact del_kd h _ _
  · rw [stepS_3 k]
    unfold protoG
    split
    · exact h
    · exact onS_kd h (by intro x hx; exact h x hx) _
  · rw [stepS_4 k]
    unfold elemG
    split
    · exact h
    · exact onS_kd h (by intro x hx; exact h x hx) _
  · rw [stepS_5 k]
    unfold lenG
    split
    · exact h
    · exact onS_kd h (by intro x hx; exact h x hx) _
  · rw [stepS_6 k]
    exact onS_kd h (by intro x hx; exact h x hx) _
  · rw [stepS_7 k]
    exact onS_kd h (by intro x hx; exact h x hx) _
  · rw [stepS_8 k]
    exact h
  · rw [stepS_9 k]
    exact h
  · rw [stepS_10 k]
    unfold writeG
    split
    · exact h
    · split
      · exact h
      · split
        · exact put_kd h _ _ _
        · exact h
  · rw [stepS_no k]
    exact h
theorem touch_cl (H : He) (c : Int) : (touchH H c).C.length = H.C.length := (break_cnt H.C c).2
theorem raise_cl (H : He) (p : Int) : (raiseH H p).C = H.C := by
  unfold raiseH
  split
  · rfl
  · split <;> rfl
theorem stepH_cl (hl : H.obs.length ≤ 65536) (o : OpL) : (stepH H o).C.length ≤ H.C.length + 65536 := by
  rcases kinds o.kd with k | k | k | k | k | k | k | k | k | k | k | k
  · rw [stepH_0 k]
    unfold makeF
    split
    · omega
    · show (raiseH H o.p).C.length ≤ _
      rw [raise_cl]
      omega
  · rw [stepH_1 k]
    unfold putF
    cases ho : obI H o.o with
    | none => simp
    | some i =>
      simp only
      cases hi : H.obs[i]? with
      | none => simp
      | some ob =>
        simp only
        have : (putH H i ob o.k o.d).C.length = H.C.length := by
          unfold putH
          split
          · unfold replH
            split <;> exact touch_cl _ _
          · split <;> exact touch_cl _ _
        omega
  · rw [stepH_2 k]
    unfold dropF
    split
    · simp
    · split
      · simp
      · split
        · simp
        · show (touchH H _).C.length ≤ _
          rw [touch_cl]
          omega
  · rw [stepH_3 k]
    unfold setPF
    cases ho : obI H o.o with
    | none => simp
    | some i =>
      simp only
      cases hi : H.obs[i]? with
      | none => simp
      | some ob =>
        simp only
        split
        · simp
        · have hp : (preH H i ob o.p).C.length = H.C.length := by
            show (raiseH (touchH H ob.cell) o.p).C.length = _
            rw [raise_cl, touch_cl]
          have : (setPH H i ob o.p).C.length = H.C.length := by
            unfold setPH
            split
            · exact hp
            · exact hp
          omega
  · rw [stepH_4 k]
    unfold elemF
    split
    · simp
    · split
      · simp
      · split
        · simp
        · show (touchH H _).C.length ≤ _
          rw [touch_cl]
          omega
  · rw [stepH_5 k]
    unfold lenF
    split
    · simp
    · split
      · simp
      · split
        · simp
        · show (touchH H _).C.length ≤ _
          rw [touch_cl]
          omega
  · rw [stepH_6 k]
    unfold closeH
    split
    · simp
    · split <;> simp [He.setO]
  · rw [stepH_7 k]
    unfold innF
    split
    · simp
    · split <;> simp [He.setO]
  · rw [stepH_8 k]
    unfold textF
    split
    · simp
    · split
      · simp
      · split <;> simp
  · rw [stepH_9 k]
    unfold guardH
    rw [(fold_len _).1]
    have := bare_len (H := H) H.obs.length o.p
    omega
  · rw [stepH_10 k]
    unfold writeH
    split
    · simp
    · split
      · simp
      · split
        · simp
        · show (touchH H _).C.length ≤ _
          rw [touch_cl]
          omega
  · rw [stepH_no k]
    omega
theorem stepH_inv (h : H.inv (n : Int)) (o : OpL) : (stepH H o).inv ((n + 1 : Nat) : Int) := by
  have hm : ∀ {X : He}, X.inv (n : Int) → X.inv ((n + 1 : Nat) : Int) := fun q => q.mono (by omega)
  rcases kinds o.kd with k | k | k | k | k | k | k | k | k | k | k | k
  · rw [stepH_0 k]
    exact hm (inv_make h (by omega) _ _)
  · rw [stepH_1 k]
    have := inv_put h o.o o.k o.d
    rw [show (((n + 1 : Nat)) : Int) = (n : Int) + 1 by omega]
    exact this
  · rw [stepH_2 k]
    exact hm (inv_drop h _ _)
  · rw [stepH_3 k]
    exact hm (inv_proto h _ _)
  · rw [stepH_4 k]
    exact hm (inv_elem h _ _ _)
  · rw [stepH_5 k]
    exact hm (inv_len h _ _)
  · rw [stepH_6 k]
    exact hm (inv_close h _)
  · rw [stepH_7 k]
    exact hm (inv_inn h _ _)
  · rw [stepH_8 k]
    exact hm (inv_text h _)
  · rw [stepH_9 k]
    exact hm (inv_guard h _)
  · rw [stepH_10 k]
    exact hm (inv_write h _ _ _)
  · rw [stepH_no k]
    exact hm h
theorem step_rel (h : RelG H S ts) (hw : H.wf) (hn : H.neat) (hk : ∀ x ∈ S, ∀ d ∈ x.ds, keptI d.fl = d.fl) (o : OpL) : RelG (stepH H o) (stepS S o) (stepT ts o) := by
  rcases kinds o.kd with k | k | k | k | k | k | k | k | k | k | k | k
  · rw [stepH_0 k, stepS_0 k, stepT_0 k]
    exact h.make _ _
  · rw [stepH_1 k, stepS_1 k, stepT_1 k]
    exact h.put _ _ _
  · rw [stepH_2 k, stepS_2 k, stepT_2 k]
    exact (h.drop _ _).1
  · rw [stepH_3 k, stepS_3 k, stepT_3 k]
    exact h.proto _ _
  · rw [stepH_4 k, stepS_4 k, stepT_4 k]
    exact (h.elem _ _ _).1
  · rw [stepH_5 k, stepS_5 k, stepT_5 k]
    exact (h.lens _ _).1
  · rw [stepH_6 k, stepS_6 k, stepT_6 k]
    exact h.close _
  · rw [stepH_7 k, stepS_7 k, stepT_7 k]
    exact h.inner _ _
  · rw [stepH_8 k, stepS_8 k, stepT_8 k]
    exact (h.text hw.ts _).1
  · rw [stepH_9 k, stepS_9 k, stepT_9 k]
    exact h.guard _
  · rw [stepH_10 k, stepS_10 k, stepT_10 k]
    exact h.write hn hk _ _ _
  · rw [stepH_no k, stepS_no k, stepT_no k]
    exact h
theorem Ord.step (h : Ord H S ts n) (hw : H.wf) (o : OpL) : Ord (stepH H o) (stepS S o) (stepT ts o) (n + 1) :=
  ⟨step_rel h.rel hw h.inv.neat h.kd o, stepH_inv h.inv o, stepS_kd h.kd o, by have := stepH_cl hw.ol o; have := h.cl; omega⟩
/-- what the document's contracts ask -/
theorem Ord.nm (h : Ord H S ts n) (hn : n ≤ 1000000) : ∀ x ∈ S, x.nm.length ≤ 1000000 := by
  intro x hx
  obtain ⟨i, hi⟩ := List.mem_iff_getElem?.1 hx
  have hil : i < H.obs.length := by rw [h.rel.len]; exact (List.getElem?_eq_some_iff.1 hi).1
  have e1 : H.obs[i]? = some H.obs[i] := List.getElem?_eq_getElem hil
  have hb := h.rel.ob i _ _ e1 hi
  have hm := List.mem_of_getElem? e1
  have h1 := (h.inv.neat _ hm).pl
  have h2 := h.inv.nx _ hm
  rw [hb.nm, List.length_map]
  omega
theorem Ord.wfs (h : Ord H S ts n) (hw : H.wf) : (∀ x ∈ S, 0 ≤ x.proto ∧ x.proto < 18446744073709551616) ∧ (∀ x ∈ S, x.el.length ≤ 4096) ∧ ts.length ≤ 16384 := by
  have key : ∀ x ∈ S, ∃ ob ∈ H.obs, RelB ob x := fun x hx => by
    obtain ⟨i, hi⟩ := List.mem_iff_getElem?.1 hx
    have hil : i < H.obs.length := by rw [h.rel.len]; exact (List.getElem?_eq_some_iff.1 hi).1
    have e1 : H.obs[i]? = some H.obs[i] := List.getElem?_eq_getElem hil
    exact ⟨_, List.mem_of_getElem? e1, h.rel.ob i _ _ e1 hi⟩
  refine ⟨fun x hx => ?_, fun x hx => ?_, by rw [← h.rel.tx]; exact hw.tl⟩
  · obtain ⟨ob, h1, h2⟩ := key x hx
    rw [← h2.pr]
    exact (hw.ob ob h1).pr
  · obtain ⟨ob, h1, h2⟩ := key x hx
    rw [← h2.el]
    exact (hw.ob ob h1).el
end
end Go.Proofs.YtkpdpdllbnihgaaGreat.Hp
