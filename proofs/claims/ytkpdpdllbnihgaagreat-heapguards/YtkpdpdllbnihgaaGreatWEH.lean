/- WE, WF, WG, WI, WH -/
import Derived.Test.YtkpdpdllbnihgaaGreatUN
import Derived.Test.YtkpdpdllbnihgaaGreatB42
import Derived.Deep.CutBlock
import Derived.Deep.CutRange
namespace Go.Proofs.YtkpdpdllbnihgaaGreat.Hp
open Go.RowKit
set_option linter.unusedVariables false
def onAt (C : List Ce.Cel) (c : Int) : Int := ((C[c.toNat]?).map Ce.Cel.on).getD (-1)
theorem valid_cel {C : List Ce.Cel} {c : Int} (h : Ce.validD C c = true) : 0 ≤ c ∧ ∃ x, C[c.toNat]? = some x ∧ x.ok = true := by
  unfold Ce.validD Ce.okAt at h
  simp only [Bool.and_eq_true, decide_eq_true_eq] at h
  obtain ⟨h1, h2⟩ := h
  cases hx : C[c.toNat]? with
  | none => rw [hx] at h2; cases h2
  | some x => rw [hx] at h2; exact ⟨h1, x, rfl, h2⟩
theorem valid_lt {C : List Ce.Cel} {c : Int} (h : Ce.validD C c = true) : c < (C.length : Int) := by
  obtain ⟨h1, x, hx, _⟩ := valid_cel h
  have := (List.getElem?_eq_some_iff.1 hx).1
  omega
theorem break_ok {C : List Ce.Cel} (hI : Ce.Inv C) (c x : Int) : Ce.validD (Ce.breakD C c).1 x = (Ce.validD C x && !(Ce.validD C c && Ce.hit C c.toNat x.toNat)) := by
  cases hc : Ce.validD C c with
  | false =>
    have : ¬ (0 ≤ c ∧ Ce.okAt C c.toNat = true) := fun q => by
      unfold Ce.validD at hc
      rw [decide_eq_true q.1, q.2] at hc
      cases hc
    rw [Ce.break_none this]
    simp
  | true =>
    have hc' := hc
    unfold Ce.validD at hc
    simp only [Bool.and_eq_true, decide_eq_true_eq] at hc
    obtain ⟨m, rfl⟩ : ∃ m : Nat, c = m := ⟨c.toNat, by omega⟩
    rw [Int.toNat_natCast] at hc ⊢
    obtain ⟨_, hl, hk⟩ := Ce.break_spec hI hc.2
    unfold Ce.validD Ce.okAt
    cases hx : C[x.toNat]? with
    | none =>
      have : (Ce.breakD C (m : Int)).1[x.toNat]? = none := List.getElem?_eq_none (by rw [hl]; exact List.getElem?_eq_none_iff.1 hx)
      rw [this]
      simp
    | some y =>
      rw [hk _ _ hx]
      simp only [Option.map_some, Option.getD_some, Bool.true_and]
      cases decide (0 ≤ x) <;> simp
theorem break_onAt {C : List Ce.Cel} (hI : Ce.Inv C) (c x : Int) : onAt (Ce.breakD C c).1 x = onAt C x := by
  unfold onAt
  rw [Ce.break_on hI]
structure Gd (H : He) : Prop where
  inv : Ce.Inv H.C
  on : ∀ (i : Nat) ob, H.obs[i]? = some ob → Ce.validD H.C ob.cell = true → (obO H ob.proto = none ∧ onAt H.C ob.cell = -1) ∨ ∃ ob2, obO H ob.proto = some ob2 ∧ onAt H.C ob.cell = ob2.cell ∧ Ce.validD H.C ob2.cell = true
  un : ∀ (i j : Nat) ob ob', H.obs[i]? = some ob → H.obs[j]? = some ob' → Ce.validD H.C ob.cell = true → ob.cell = ob'.cell → i = j
  lt : ∀ ob ∈ H.obs, ob.cell < (H.C.length : Int)
section
variable {H H' : He} {o p : Int} {i : Nat} {ob ob' : Ob}
theorem obO_of (h : obI H o = some i) (hi : H.obs[i]? = some ob) : obO H o = some ob := by unfold obO; rw [h]; exact hi
theorem hit_step {C : List Ce.Cel} (hI : Ce.Inv C) {n k : Int} (hk : Ce.validD C k = true) (h2 : Ce.validD C (onAt C k) = true) : Ce.hit C n.toNat k.toNat = (decide (k.toNat = n.toNat) || Ce.hit C n.toNat (onAt C k).toNat) := by
  obtain ⟨k0, x, hx, hok⟩ := valid_cel hk
  have he : onAt C k = x.on := by unfold onAt; rw [hx]; rfl
  rw [he] at h2 ⊢
  have hp := (valid_cel h2).1
  rw [Ce.hit_eq, hx]
  simp only
  rcases hI _ x hx hok with e | ⟨e1, e2, _⟩
  · omega
  · rw [show decide (0 ≤ x.on ∧ x.on < (k.toNat : Int)) = true from decide_eq_true ⟨e1, e2⟩, Bool.true_and]
theorem hit_end {C : List Ce.Cel} {n k : Int} (hk : Ce.validD C k = true) (h2 : onAt C k = -1) : Ce.hit C n.toNat k.toNat = decide (k.toNat = n.toNat) := by
  obtain ⟨k0, x, hx, hok⟩ := valid_cel hk
  have he : onAt C k = x.on := by unfold onAt; rw [hx]; rfl
  rw [he] at h2
  rw [Ce.hit_eq, hx]
  simp only
  rw [show decide (0 ≤ x.on ∧ x.on < (k.toNat : Int)) = false from decide_eq_false (by omega), Bool.false_and, Bool.or_false]
theorem Gd.touch (h : Gd H) (c : Int) : Gd (touchH H c) := by
  have hv : ∀ x, Ce.validD (touchH H c).C x = (Ce.validD H.C x && !(Ce.validD H.C c && Ce.hit H.C c.toNat x.toNat)) := fun x => break_ok h.inv c x
  have hon : ∀ x, onAt (touchH H c).C x = onAt H.C x := fun x => break_onAt h.inv c x
  refine ⟨Ce.inv_break h.inv c, fun i ob hi hval => ?_, fun i j ob ob' hi hj hval he => ?_, fun ob hm => by have := h.lt ob hm; have e : (touchH H c).C.length = H.C.length := (break_cnt H.C c).2; omega⟩
  · rw [hv] at hval
    simp only [Bool.and_eq_true, Bool.not_eq_true'] at hval
    rw [hon]
    rcases h.on i ob hi hval.1 with ⟨e1, e2⟩ | ⟨ob2, e1, e2, e3⟩
    · exact Or.inl ⟨e1, e2⟩
    · refine Or.inr ⟨ob2, e1, e2, ?_⟩
      rw [hv, e3, Bool.true_and]
      have hs := hit_step (n := c) h.inv hval.1 (by rw [e2]; exact e3)
      rw [e2] at hs
      cases hc : Ce.validD H.C c with
      | false => rfl
      | true =>
        have hh := hval.2
        rw [hc, Bool.true_and, hs] at hh
        simp only [Bool.or_eq_false_iff] at hh
        rw [hh.2]
        rfl
  · rw [hv] at hval
    simp only [Bool.and_eq_true] at hval
    exact h.un i j ob ob' hi hj hval.1 he
theorem Gd.one (h : Gd H) (hi : H.obs[i]? = some ob) (hC : H'.C = H.C) (hO : H'.obs = H.obs.set i ob') (hc : ob'.cell = ob.cell) (hp : ob'.proto = ob.proto ∨ Ce.validD H.C ob.cell = false) : Gd H' := by
  have hil := (List.getElem?_eq_some_iff.1 hi).1
  have hlen : H'.obs.length = H.obs.length := by rw [hO, List.length_set]
  have hq : ∀ q, obO H' q = if obI H q = some i then some ob' else obO H q := fun q => by
    rw [← setO_at (H := H) (ob' := ob') hil]
    exact obO_obs hO q
  have back : ∀ (j : Nat) x', H'.obs[j]? = some x' → ∃ x, H.obs[j]? = some x ∧ x'.cell = x.cell ∧ (x'.proto = x.proto ∨ Ce.validD H.C x.cell = false) := fun j x' hj => by
    rw [hO] at hj
    by_cases e : i = j
    · subst e
      rw [List.getElem?_set_self hil] at hj
      obtain rfl := Option.some.inj hj
      exact ⟨ob, hi, hc, hp⟩
    · rw [List.getElem?_set_ne e] at hj
      exact ⟨x', hj, rfl, Or.inl rfl⟩
  refine ⟨by rw [hC]; exact h.inv, fun j x' hj hval => ?_, fun j k x' y' hj hk hval he => ?_, fun x' hm => by
    obtain ⟨j, hj⟩ := List.mem_iff_getElem?.1 hm
    obtain ⟨x, hx, e1, _⟩ := back j x' hj
    rw [e1, hC]
    exact h.lt x (List.mem_of_getElem? hx)⟩
  · rw [hC] at hval ⊢
    obtain ⟨x, hx, e1, e2⟩ := back j x' hj
    rw [e1] at hval ⊢
    have e2 : x'.proto = x.proto := by
      rcases e2 with e | e
      · exact e
      · rw [e] at hval; cases hval
    rw [e2]
    rcases h.on j x hx hval with ⟨f1, f2⟩ | ⟨ob2, f1, f2, f3⟩
    · refine Or.inl ⟨?_, f2⟩
      rw [hq, if_neg (fun q => by
        have := obO_of q hi
        rw [f1] at this
        cases this)]
      exact f1
    · by_cases q : obI H x.proto = some i
      · have hb : ob2 = ob := by
          have := obO_of q hi
          rw [f1] at this
          exact Option.some.inj this
        exact Or.inr ⟨ob', by rw [hq, if_pos q], by rw [hc, ← hb]; exact f2, by rw [hc, ← hb]; exact f3⟩
      · exact Or.inr ⟨ob2, by rw [hq, if_neg q]; exact f1, f2, f3⟩
  · rw [hC] at hval
    obtain ⟨x, hx, e1, _⟩ := back j x' hj
    obtain ⟨y, hy, e3, _⟩ := back k y' hk
    rw [e1] at hval he
    rw [e3] at he
    exact h.un j k x y hx hy hval he
theorem Gd.obs (h : Gd H) (hC : H'.C = H.C) (hO : H'.obs = H.obs) : Gd H' := by
  refine ⟨by rw [hC]; exact h.inv, fun j x' hj hval => ?_, fun j k x' y' hj hk hval he => ?_, fun x hm => by rw [hC]; rw [hO] at hm; exact h.lt x hm⟩
  · rw [hC] at hval ⊢
    rw [hO] at hj
    rw [obO_obs hO]
    exact h.on j x' hj hval
  · rw [hC] at hval
    rw [hO] at hj hk
    exact h.un j k x' y' hj hk hval he
theorem Gd.push (h : Gd H) (hm : ∀ x ∈ H.obs, mayB H x.proto = true) {x : Ob} (hC : H'.C = H.C) (hO : H'.obs = H.obs ++ [x]) (hx : x.cell = -1) : Gd H' := by
  have hno : Ce.validD H.C (-1) = false := by unfold Ce.validD; rfl
  have hlen : H'.obs.length = H.obs.length + 1 := by rw [hO]; simp
  have hI : ∀ q, mayB H q = true → obO H' q = obO H q := fun q hq => by
    unfold mayB at hq
    rw [Bool.or_eq_true] at hq
    rcases hq with e | e
    · have e : q = nulW := by simpa using e
      have z : ∀ X : He, obI X nulW = none := fun X => by
        unfold obI
        rw [if_neg (by
          intro c
          have : isT nulW 65530 = false := by decide
          rw [this] at c
          exact absurd c.1 (by decide))]
      unfold obO
      rw [e, z, z]
      rfl
    · obtain ⟨j, hj⟩ := Option.isSome_iff_exists.1 e
      have hj' : obI H' q = some j := by
        have hj2 := hj
        unfold obI at hj ⊢
        split at hj
        · rename_i c
          rw [if_pos ⟨c.1, by rw [hlen]; have := c.2; omega⟩]
          exact hj
        · cases hj
      unfold obO
      rw [hj, hj', hO]
      simp only [Option.bind_some]
      rw [List.getElem?_append_left (obI_some hj).2.2.1]
  have back : ∀ (j : Nat) y, H'.obs[j]? = some y → Ce.validD H.C y.cell = true → H.obs[j]? = some y := fun j y hj hv => by
    rw [hO] at hj
    rcases Nat.lt_or_ge j H.obs.length with c | c
    · rw [List.getElem?_append_left c] at hj
      exact hj
    · rw [List.getElem?_append_right c] at hj
      cases hk : j - H.obs.length with
      | zero =>
        rw [hk] at hj
        obtain rfl := Option.some.inj hj
        rw [hx, hno] at hv
        cases hv
      | succ n => rw [hk] at hj; simp at hj
  refine ⟨by rw [hC]; exact h.inv, fun j y hj hval => ?_, fun j k y z hj hk hval he => ?_, fun y hm => by
    rw [hC]
    rw [hO] at hm
    rcases List.mem_append.1 hm with q | q
    · exact h.lt y q
    · rw [List.mem_singleton.1 q, hx]; omega⟩
  · rw [hC] at hval ⊢
    have hy := back j y hj hval
    rw [hI _ (hm y (List.mem_of_getElem? hy))]
    exact h.on j y hy hval
  · rw [hC] at hval
    exact h.un j k y z (back j y hj hval) (back k z hk (by rw [← he]; exact hval)) hval he
def upG (H : He) (o : Int) : Nat → Int → Bool
  | 0, _ => false
  | n + 1, p => match obO H p with
    | none => false
    | some ob => if p = o then true else upG H o n ob.proto
theorem up_none (h : obO H p = none) : ∀ n, upG H o n p = false
  | 0 => rfl
  | n + 1 => by unfold upG; rw [h]
theorem up_step {n : Nat} (h : obO H p = some ob) : upG H o (n + 1) p = if p = o then true else upG H o n ob.proto := by rw [upG, h]
theorem obI_inj {q : Int} (h1 : obI H p = some i) (h2 : obI H q = some i) : p = q := by rw [(obI_some h1).2.2.2, (obI_some h2).2.2.2]
theorem up_hit (h : Gd H) {oo : Ob} (ho : obO H o = some oo) : ∀ (n : Nat) (p : Int) ob, obO H p = some ob → Ce.validD H.C ob.cell = true → upG H o n p = true → Ce.hit H.C oo.cell.toNat ob.cell.toNat = true ∧ Ce.validD H.C oo.cell = true
  | 0, p, ob, _, _, hu => by cases hu
  | n + 1, p, ob, hp, hv, hu => by
    rw [up_step hp] at hu
    by_cases c : p = o
    · subst c
      rw [ho] at hp
      obtain rfl := Option.some.inj hp
      exact ⟨Ce.hit_self _ _, hv⟩
    · rw [if_neg c] at hu
      obtain ⟨i, hi1, hi2⟩ := obO_some hp
      rcases h.on i ob hi2 hv with ⟨e1, _⟩ | ⟨ob2, e1, e2, e3⟩
      · rw [up_none e1] at hu
        cases hu
      · obtain ⟨q1, q2⟩ := up_hit h ho n ob.proto ob2 e1 e3 hu
        refine ⟨?_, q2⟩
        rw [hit_step h.inv hv (by rw [e2]; exact e3), e2, q1, Bool.or_true]
theorem up_off (h : Gd H) {oo : Ob} (ho : obO H o = some oo) (hvo : Ce.validD H.C oo.cell = true) : ∀ (n : Nat) (p : Int) ob, EndsH H n p → obO H p = some ob → Ce.validD H.C ob.cell = true → upG H o (n + 1) p = false → Ce.hit H.C oo.cell.toNat ob.cell.toNat = false
  | n, p, ob, he, hp, hv, hu => by
    rw [up_step hp] at hu
    have hne : ¬ p = o := fun e => by rw [if_pos e] at hu; cases hu
    rw [if_neg hne] at hu
    obtain ⟨i, hi1, hi2⟩ := obO_some hp
    obtain ⟨j, hj1, hj2⟩ := obO_some ho
    have h1 : decide (ob.cell.toNat = oo.cell.toNat) = false := decide_eq_false (fun e => by
      have e2 : ob.cell = oo.cell := by have := (valid_cel hv).1; have := (valid_cel hvo).1; omega
      have := h.un i j ob oo hi2 hj2 hv e2
      subst this
      exact hne (obI_inj hi1 hj1))
    rcases h.on i ob hi2 hv with ⟨e1, e2⟩ | ⟨ob2, e1, e2, e3⟩
    · rw [hit_end hv e2, h1]
    · rw [hit_step h.inv hv (by rw [e2]; exact e3), e2, h1, Bool.false_or]
      obtain ⟨g, rfl, h2⟩ := ends_step he hp
      exact up_off h ho hvo g ob.proto ob2 h2 e1 e3 hu
structure Gk (H : He) (p g : Int) : Prop where
  g0 : 0 ≤ g
  g1 : g < (H.C.length : Int)
  at' : Ce.validD H.C g = true → ∃ ob, obO H p = some ob ∧ ob.cell = g
theorem Gk.hits {g : Int} {oo : Ob} {n : Nat} (hk : Gk H p g) (h : Gd H) (ho : obO H o = some oo) (hu : upG H o n p = true) : Ce.validD (Ce.breakD H.C oo.cell).1 g = false := by
  rw [break_ok h.inv]
  cases hv : Ce.validD H.C g with
  | false => rfl
  | true =>
    obtain ⟨ob, e1, e2⟩ := hk.at' hv
    rw [← e2] at hv ⊢
    obtain ⟨q1, q2⟩ := up_hit h ho n p ob e1 hv hu
    rw [q1, q2]
    rfl
theorem Gk.off {g : Int} {oo : Ob} (hk : Gk H p g) (h : Gd H) (hac : Acy H) (ho : obO H o = some oo) (hu : upG H o (H.obs.length + 1) p = false) : Ce.validD (Ce.breakD H.C oo.cell).1 g = Ce.validD H.C g := by
  rw [break_ok h.inv]
  cases hv : Ce.validD H.C g with
  | false => rfl
  | true =>
    obtain ⟨ob, e1, e2⟩ := hk.at' hv
    rw [← e2] at hv ⊢
    cases hc : Ce.validD H.C oo.cell with
    | false => rfl
    | true =>
      rw [up_off h ho hc _ p ob (hac p) e1 hv hu]
      rfl
end
end Go.Proofs.YtkpdpdllbnihgaaGreat.Hp
namespace Go.Proofs.YtkpdpdllbnihgaaGreat.Hp
open Go.RowKit
set_option linter.unusedVariables false
theorem valid_app {C L : List Ce.Cel} {c : Int} (h : c < (C.length : Int)) : Ce.validD (C ++ L) c = Ce.validD C c := by
  unfold Ce.validD Ce.okAt
  by_cases c0 : 0 ≤ c
  · rw [List.getElem?_append_left (by omega)]
  · rw [decide_eq_false c0, Bool.false_and, Bool.false_and]
theorem onAt_app {C L : List Ce.Cel} {c : Int} (h0 : 0 ≤ c) (h : c < (C.length : Int)) : onAt (C ++ L) c = onAt C c := by
  unfold onAt
  rw [List.getElem?_append_left (by omega)]
section
variable {H H' : He} {o p : Int} {i : Nat} {ob ob' : Ob}
theorem self_gone {C : List Ce.Cel} (hI : Ce.Inv C) (c : Int) : Ce.validD (Ce.breakD C c).1 c = false := by
  rw [break_ok hI]
  rw [Ce.hit_self]
  cases Ce.validD C c <;> rfl
theorem Gd.tch (h : Gd H) (hi : H.obs[i]? = some ob) (hC : H'.C = (Ce.breakD H.C ob.cell).1) (hO : H'.obs = H.obs.set i ob') (hc : ob'.cell = ob.cell) : Gd H' :=
  (h.touch ob.cell).one (H := touchH H ob.cell) hi hC hO hc (Or.inr (self_gone h.inv ob.cell))
theorem Gd.raise (h : Gd H) (p : Int) : Gd (raiseH H p) := by
  unfold raiseH
  cases hq : obI H p with
  | none => exact h
  | some j =>
    simp only
    cases hj : H.obs[j]? with
    | none => exact h
    | some ob => exact h.one (H' := { H with obs := H.obs.set j { ob with above := true } }) hj rfl rfl rfl (Or.inl rfl)
structure St (H H' : He) (o : Int) : Prop where
  ce : ∀ p ob, obO H p = some ob → Ce.validD H'.C ob.cell = true → ∃ ob', obO H' p = some ob' ∧ ob'.cell = ob.cell
  cl : H.C.length ≤ H'.C.length
  cs : (∀ g : Int, g < (H.C.length : Int) → Ce.validD H'.C g = Ce.validD H.C g) ∨ ∃ oo, obO H o = some oo ∧ H'.C = (Ce.breakD H.C oo.cell).1
theorem St.obs (hC : H'.C = H.C) (hO : H'.obs = H.obs) : St H H' o :=
  ⟨fun p ob h _ => ⟨ob, by rw [obO_obs hO]; exact h, rfl⟩, by rw [hC]; exact Nat.le_refl _, Or.inl (fun g _ => by rw [hC])⟩
theorem ce_set (hi : H.obs[i]? = some ob) (hO : H'.obs = H.obs.set i ob') (hc : ob'.cell = ob.cell) : ∀ p x, obO H p = some x → ∃ x', obO H' p = some x' ∧ x'.cell = x.cell := fun p x h => by
  have hq : obO H' p = if obI H p = some i then some ob' else obO H p := by
    rw [← setO_at (H := H) (ob' := ob') (List.getElem?_eq_some_iff.1 hi).1]
    exact obO_obs hO p
  by_cases c : obI H p = some i
  · rw [if_pos c] at hq
    have := obO_of c hi
    rw [h] at this
    exact ⟨ob', hq, by rw [hc, Option.some.inj this]⟩
  · rw [if_neg c] at hq
    exact ⟨x, hq.trans h, rfl⟩
theorem St.one (hi : H.obs[i]? = some ob) (hC : H'.C = H.C) (hO : H'.obs = H.obs.set i ob') (hc : ob'.cell = ob.cell) : St H H' o :=
  ⟨fun p x h _ => ce_set hi hO hc p x h, by rw [hC]; exact Nat.le_refl _, Or.inl (fun g _ => by rw [hC])⟩
theorem St.tch (ho : obI H o = some i) (hi : H.obs[i]? = some ob) (hC : H'.C = (Ce.breakD H.C ob.cell).1) (hO : H'.obs = H.obs.set i ob') (hc : ob'.cell = ob.cell) : St H H' o :=
  ⟨fun p x h _ => ce_set hi hO hc p x h, by rw [hC, (break_cnt H.C ob.cell).2]; exact Nat.le_refl _, Or.inr ⟨ob, obO_of ho hi, hC⟩⟩
theorem putH_is (H : He) (i : Nat) (ob : Ob) (k : ByteArray) (d : De) : ∃ ob', (putH H i ob k d).obs = H.obs.set i ob' ∧ ob'.cell = ob.cell ∧ (putH H i ob k d).C = (Ce.breakD H.C ob.cell).1 := by
  unfold putH
  split
  · unfold replH
    split
    · exact ⟨_, rfl, rfl, rfl⟩
    · exact ⟨_, rfl, rfl, rfl⟩
  · split
    · exact ⟨layO (touchH H ob.cell) ob k (keptD d), rfl, rfl, rfl⟩
    · refine ⟨ob.bare k (keptD d), rfl, ?_, rfl⟩
      unfold Ob.bare Ob.plus
      split
      · split <;> rfl
      · split <;> rfl
theorem put_gd (h : Gd H) (o : Int) (k : ByteArray) (d : De) : Gd (putF H o k d) ∧ St H (putF H o k d) o ∧ (∀ oo, obO H o = some oo → (putF H o k d).C = (Ce.breakD H.C oo.cell).1) := by
  cases hq : obO H o with
  | none => rw [putF_no hq]; exact ⟨h, St.obs rfl rfl, fun oo e => by cases e⟩
  | some ob =>
    obtain ⟨i, ho, hi⟩ := obO_some hq
    rw [putF_at ho hi]
    obtain ⟨ob', e1, e2, e3⟩ := putH_is H i ob k d
    exact ⟨h.tch hi e3 e1 e2, St.tch ho hi e3 e1 e2, fun oo e => by rw [← Option.some.inj e]; exact e3⟩
theorem drop_gd (h : Gd H) (o : Int) (k : ByteArray) : Gd (dropF H o k).1 ∧ St H (dropF H o k).1 o ∧ ((dropF H o k).2 = true → ∃ oo, obO H o = some oo ∧ (dropF H o k).1.C = (Ce.breakD H.C oo.cell).1) := by
  cases hq : obO H o with
  | none => rw [dropF_no hq]; exact ⟨h, St.obs rfl rfl, fun e => by cases e⟩
  | some ob =>
    obtain ⟨i, ho, hi⟩ := obO_some hq
    rw [dropF_at ho hi]
    cases hp : plc ob.ps k with
    | none => exact ⟨h, St.obs rfl rfl, fun e => by cases e⟩
    | some n => exact ⟨h.tch hi (H' := dropH H i ob n) (ob' := (ob.less n).lost) rfl rfl rfl, St.tch ho hi (H' := dropH H i ob n) (ob' := (ob.less n).lost) rfl rfl rfl, fun _ => ⟨ob, rfl, rfl⟩⟩
theorem el_gd (h : Gd H) (ho : obI H o = some i) (hi : H.obs[i]? = some ob) (el : List Int) : Gd (elH H i ob el) ∧ St H (elH H i ob el) o :=
  ⟨h.tch hi (H' := elH H i ob el) (ob' := { ob with el := el }) rfl rfl rfl, St.tch ho hi (H' := elH H i ob el) (ob' := { ob with el := el }) rfl rfl rfl⟩
theorem write_gd (h : Gd H) (o m v : Int) : Gd (writeH H o m v) ∧ St H (writeH H o m v) o := by
  unfold writeH
  cases ho : obI H o with
  | none => exact ⟨h, St.obs rfl rfl⟩
  | some i =>
    simp only
    cases hi : H.obs[i]? with
    | none => exact ⟨h, St.obs rfl rfl⟩
    | some ob =>
      simp only
      cases hs : slotO H o m with
      | none => exact ⟨h, St.obs rfl rfl⟩
      | some p => exact ⟨h.tch hi (ob' := { ob with ps := setD ob.ps m.toNat p ⟨v, p.de.se, p.de.fl⟩ }) rfl rfl rfl, St.tch ho hi (ob' := { ob with ps := setD ob.ps m.toNat p ⟨v, p.de.se, p.de.fl⟩ }) rfl rfl rfl⟩
theorem raise_cell (H : He) (p q : Int) : (obO (raiseH H p) q).map Ob.cell = (obO H q).map Ob.cell := by
  unfold raiseH
  cases hp : obI H p with
  | none => rfl
  | some j =>
    simp only
    cases hj : H.obs[j]? with
    | none => rfl
    | some ob =>
      simp only
      have := setO_at (H := H) (ob' := { ob with above := true }) (o := q) (List.getElem?_eq_some_iff.1 hj).1
      show (obO (H.setO j { ob with above := true }) q).map Ob.cell = _
      rw [this]
      by_cases c : obI H q = some j
      · rw [if_pos c, obO_of c hj]; rfl
      · rw [if_neg c]
theorem raise_C (H : He) (p : Int) : (raiseH H p).C = H.C := raise_cl H p
theorem make_gd (h : Gd H) (hm : ∀ x ∈ H.obs, mayB H x.proto = true) (kind p o : Int) : Gd (makeF H kind p) ∧ St H (makeF H kind p) o := by
  unfold makeF
  split
  · exact ⟨h, St.obs rfl rfl⟩
  · have hr := h.raise p
    have hm' : ∀ x ∈ (raiseH H p).obs, mayB (raiseH H p) x.proto = true := fun x hx => by
      rw [mayB_len (raise_len H p).1]
      unfold raiseH at hx
      split at hx
      · exact hm x hx
      · split at hx
        · exact hm x hx
        · rcases List.mem_or_eq_of_mem_set hx with q | q
          · exact hm x q
          · have hh := hm _ (List.mem_of_getElem? (by assumption))
            rw [q]
            exact hh
    refine ⟨hr.push hm' (H' := makeH H kind p) rfl rfl rfl, ⟨fun q x hx hv => ?_, by show _ ≤ (raiseH H p).C.length; rw [raise_C]; exact Nat.le_refl _, Or.inl (fun g _ => by show Ce.validD (raiseH H p).C g = _; rw [raise_C])⟩⟩
    obtain ⟨j, hj1, hj2⟩ := obO_some hx
    have hc := raise_cell H p q
    rw [hx] at hc
    cases hy : obO (raiseH H p) q with
    | none => rw [hy] at hc; cases hc
    | some y =>
      rw [hy] at hc
      obtain ⟨k, hk1, hk2⟩ := obO_some hy
      have hk3 : obI (makeH H kind p) q = some k := by
        have h2 := hk1
        unfold obI at hk1 ⊢
        split at hk1
        · rename_i c
          have hl : (makeH H kind p).obs.length = (raiseH H p).obs.length + 1 := by show ((raiseH H p).obs ++ [_]).length = _; simp
          rw [if_pos ⟨c.1, by rw [hl]; have := c.2; omega⟩]
          exact hk1
        · cases hk1
      refine ⟨y, ?_, by simpa using hc⟩
      refine obO_of hk3 ?_
      show ((raiseH H p).obs ++ [_])[k]? = some y
      rw [List.getElem?_append_left (List.getElem?_eq_some_iff.1 hk2).1]
      exact hk2
theorem proto_gd (h : Gd H) (o p : Int) : Gd (setPF H o p) ∧ St H (setPF H o p) o ∧ (¬ setPF H o p = H → ∃ oo, obO H o = some oo ∧ (setPF H o p).C = (Ce.breakD H.C oo.cell).1) := by
  unfold setPF
  cases ho : obI H o with
  | none => exact ⟨h, St.obs rfl rfl, fun e => absurd rfl e⟩
  | some i =>
    simp only
    cases hi : H.obs[i]? with
    | none => exact ⟨h, St.obs rfl rfl, fun e => absurd rfl e⟩
    | some ob =>
      simp only
      split
      · exact ⟨h, St.obs rfl rfl, fun e => absurd rfl e⟩
      · rename_i c
        have hs : saB H o p = false := by
          cases q : saB H o p with
          | false => rfl
          | true => exact absurd (Or.inr (Or.inr q)) c
        have hne : ¬ p = o := fun e => by
          unfold saB at hs
          rw [decide_eq_true e] at hs
          cases hs
        have hpo : obI H p ≠ some i := fun e => hne (obI_inj e ho)
        have hi3 : (raiseH (touchH H ob.cell) p).obs[i]? = some ob := raise_other (H := touchH H ob.cell) hi hpo
        have hC3 : (raiseH (touchH H ob.cell) p).C = (Ce.breakD H.C ob.cell).1 := raise_C _ p
        have hg := (h.touch ob.cell).raise p
        have hinv : Ce.validD (raiseH (touchH H ob.cell) p).C ob.cell = false := by rw [hC3]; exact self_gone h.inv ob.cell
        have ce3 : ∀ q x, obO H q = some x → ∃ x', obO (raiseH (touchH H ob.cell) p) q = some x' ∧ x'.cell = x.cell := fun q x hx => by
          have hc := raise_cell (touchH H ob.cell) p q
          rw [show obO (touchH H ob.cell) q = obO H q from rfl, hx] at hc
          cases hy : obO (raiseH (touchH H ob.cell) p) q with
          | none => rw [hy] at hc; cases hc
          | some y => rw [hy] at hc; exact ⟨y, rfl, by simpa using hc⟩
        have key : ∀ (X : He) (ob' : Ob), X.C = (Ce.breakD H.C ob.cell).1 → X.obs = (raiseH (touchH H ob.cell) p).obs.set i ob' → ob'.cell = ob.cell → Gd X ∧ St H X o ∧ (¬ X = H → ∃ oo, obO H o = some oo ∧ X.C = (Ce.breakD H.C oo.cell).1) := fun X ob' e1 e2 e3 => by
          refine ⟨hg.one hi3 (e1.trans hC3.symm) e2 e3 (Or.inr hinv), ⟨fun q x hx _ => ?_, by rw [e1, (break_cnt H.C ob.cell).2]; exact Nat.le_refl _, Or.inr ⟨ob, obO_of ho hi, e1⟩⟩, fun _ => ⟨ob, obO_of ho hi, e1⟩⟩
          obtain ⟨y, y1, y2⟩ := ce3 q x hx
          obtain ⟨z, z1, z2⟩ := ce_set hi3 e2 e3 q y y1
          exact ⟨z, z1, z2.trans y2⟩
        unfold setPH
        split
        · refine key _ { ob with proto := p, shape := (mvD H ob p).2.1, shaped := (mvD H ob p).2.2 } hC3 ?_ rfl
          show ((raiseH (touchH H ob.cell) p).obs.set i { ob with proto := p }).set i _ = _
          rw [List.set_set]
        · exact key _ { ob with proto := p } hC3 rfl rfl
theorem bare_dep {M : Nat} : ∀ (n : Nat) (p : Int), n ≤ M → EndsH H n p → ∀ j ∈ (bareF H n p).1, ∃ q, obI H q = some j ∧ depF H M q ≤ depF H n p
  | 0, p, _, _, j, hj => by cases hj
  | n + 1, p, hn, he, j, hj => by
    cases hq : obO H p with
    | none => rw [bare_none hq] at hj; cases hj
    | some ob =>
      obtain ⟨i, ho, hi⟩ := obO_some hq
      rw [bare_step ho hi] at hj
      obtain ⟨g, e, h2⟩ := ends_step he hq
      obtain rfl : n = g := by omega
      split at hj
      · cases hj
      · rcases List.mem_cons.1 hj with rfl | hj
        · exact ⟨p, ho, by rw [dep_ends (n + 1) M p he hn]; exact Nat.le_refl _⟩
        · obtain ⟨q, q1, q2⟩ := bare_dep (M := M) n ob.proto (by omega) h2 j hj
          exact ⟨q, q1, by rw [dep_step hq]; omega⟩
structure Ga (H : He) (p : Int) (l : List Nat) (s : He × Int) : Prop where
  gd : Gd s.1
  len : s.1.obs.length = H.obs.length
  app : ∃ L, s.1.C = H.C ++ L
  top : (obO H p = none ∧ s.2 = -1) ∨ ∃ ob', obO s.1 p = some ob' ∧ ob'.cell = s.2 ∧ Ce.validD s.1.C s.2 = true
  ob : ∀ (j : Nat) x, H.obs[j]? = some x → ∃ x', s.1.obs[j]? = some x' ∧ x'.proto = x.proto ∧ (x'.cell = x.cell ∨ (Ce.validD H.C x.cell = false ∧ j ∈ l))
theorem Ga.nil (h : Gd H) {s : Int} (ht : (obO H p = none ∧ s = -1) ∨ ∃ ob', obO H p = some ob' ∧ ob'.cell = s ∧ Ce.validD H.C s = true) : Ga H p [] (H, s) :=
  ⟨h, rfl, ⟨[], by simp⟩, ht, fun j x hx => ⟨x, hx, rfl, Or.inl rfl⟩⟩
theorem cells_gd (h : Gd H) : ∀ (n : Nat) (p : Int), EndsH H n p → Ga H p (bareF H n p).1 ((bareF H n p).1.foldr cellH (H, (bareF H n p).2))
  | 0, p, he => by
    have he : obO H p = none := he
    exact Ga.nil h (Or.inl ⟨he, rfl⟩)
  | n + 1, p, he => by
    cases hq : obO H p with
    | none =>
      rw [bare_none hq]
      exact Ga.nil h (Or.inl ⟨hq, rfl⟩)
    | some ob =>
      obtain ⟨i, ho, hi⟩ := obO_some hq
      obtain ⟨g, e, h2⟩ := ends_step he hq
      obtain rfl : n = g := by omega
      rw [bare_step ho hi]
      by_cases hv : Ce.validD H.C ob.cell = true
      · rw [if_pos hv]
        exact Ga.nil h (Or.inr ⟨ob, hq, rfl, hv⟩)
      · rw [if_neg hv]
        simp only [List.foldr_cons]
        have ih := cells_gd h n ob.proto h2
        have hd := bare_dep (M := n + 1) n ob.proto (by omega) h2
        have hnot : i ∉ (bareF H n ob.proto).1 := fun hm => by
          obtain ⟨q, q1, q2⟩ := hd i hm
          rw [obI_inj q1 ho, dep_step hq] at q2
          omega
        have hpi : ¬ obI H ob.proto = some i := fun e => by
          have e2 := obI_inj e ho
          have h3 : depF H (n + 1) p = 1 + depF H n ob.proto := dep_step hq
          rw [e2] at h3 h2
          rw [dep_ends n (n + 1) p h2 (by omega)] at h3
          omega
        have hv : Ce.validD H.C ob.cell = false := by simpa using hv
        generalize (bareF H n ob.proto).1 = l at *
        generalize l.foldr cellH (H, (bareF H n ob.proto).2) = s at *
        obtain ⟨sH, sc⟩ := s
        obtain ⟨g1, g2, ⟨L, g3⟩, g4, g5⟩ := ih
        simp only at g1 g2 g3 g4 g5
        obtain ⟨ob1, f1, f2, f3⟩ := g5 i ob hi
        have f3 : ob1.cell = ob.cell := f3.resolve_right (fun q => hnot q.2)
        have hlt := h.lt ob (List.mem_of_getElem? hi)
        have hv1 : Ce.validD sH.C ob1.cell = false := by rw [f3, g3, valid_app hlt]; exact hv
        have hIs : ∀ q, obI sH q = obI H q := fun q => obI_len g2 q
        have hon : sc = -1 ∨ Ce.validD sH.C sc = true := by
          rcases g4 with q | ⟨_, _, _, q⟩
          · exact Or.inl q.2
          · exact Or.inr q
        have hval := valid_made sH.C sc hon
        have hsci : (sH.obs.set i { ob1 with cell := (sH.C.length : Int) }).length = H.obs.length := by rw [List.length_set]; exact g2
        have hil := (List.getElem?_eq_some_iff.1 f1).1
        have hcell : cellH i (sH, sc) = ({ sH with C := Ce.makeD sH.C sc, obs := sH.obs.set i { ob1 with cell := (sH.C.length : Int) } }, (sH.C.length : Int)) := by
          unfold cellH
          simp only [f1]
        rw [hcell]
        have hmk : Ce.makeD sH.C sc = sH.C ++ [⟨Ce.validOn sH.C sc, sc⟩] := rfl
        have hlen2 : (Ce.makeD sH.C sc).length = sH.C.length + 1 := by rw [hmk]; simp
        have oq : ∀ q, obO { sH with C := Ce.makeD sH.C sc, obs := sH.obs.set i { ob1 with cell := (sH.C.length : Int) } } q = if obI H q = some i then some { ob1 with cell := (sH.C.length : Int) } else obO sH q := fun q => by
          rw [← hIs q, ← setO_at (H := sH) (ob' := { ob1 with cell := (sH.C.length : Int) }) hil]
          exact obO_obs rfl q
        have back : ∀ (j : Nat) x', (sH.obs.set i { ob1 with cell := (sH.C.length : Int) })[j]? = some x' → (j = i ∧ x' = { ob1 with cell := (sH.C.length : Int) }) ∨ (j ≠ i ∧ sH.obs[j]? = some x') := fun j x' hj => by
          by_cases c : i = j
          · subst c
            rw [List.getElem?_set_self hil] at hj
            exact Or.inl ⟨rfl, (Option.some.inj hj).symm⟩
          · rw [List.getElem?_set_ne c] at hj
            exact Or.inr ⟨fun e => c e.symm, hj⟩
        refine ⟨⟨Ce.inv_make g1.inv sc, fun j x' hj hvx => ?_, fun j k x' y' hj hk hvx hxy => ?_, fun x' hm => ?_⟩, hsci, ⟨L ++ [⟨Ce.validOn sH.C sc, sc⟩], by rw [hmk, g3, List.append_assoc]⟩, Or.inr ⟨{ ob1 with cell := (sH.C.length : Int) }, by rw [oq, if_pos ho], rfl, hval⟩, fun j x hx => ?_⟩
        · simp only at hj hvx ⊢
          rcases back j x' hj with ⟨rfl, rfl⟩ | ⟨hne, hx⟩
          · simp only
            have honc : onAt (Ce.makeD sH.C sc) (sH.C.length : Int) = sc := by
              unfold onAt
              rw [hmk, Int.toNat_natCast, List.getElem?_append_right (Nat.le_refl _), Nat.sub_self]
              rfl
            rw [honc, oq, if_neg (by rw [f2]; exact hpi), f2]
            rcases g4 with ⟨q1, q2⟩ | ⟨y, q1, q2, q3⟩
            · refine Or.inl ⟨?_, q2⟩
              have : obI H ob.proto = none := obO_none q1
              unfold obO
              rw [hIs, this]
              rfl
            · refine Or.inr ⟨y, q1, q2.symm, ?_⟩
              rw [q2, hmk, valid_app (valid_lt q3)]
              exact q3
          · have hltx := g1.lt x' (List.mem_of_getElem? hx)
            rw [hmk, valid_app hltx] at hvx
            have hx0 := (valid_cel hvx).1
            rw [oq, hmk, onAt_app hx0 hltx]
            rcases g1.on j x' hx hvx with ⟨q1, q2⟩ | ⟨y, q1, q2, q3⟩
            · refine Or.inl ⟨?_, q2⟩
              rw [if_neg (fun e => by
                have := obO_of (H := sH) (by rw [hIs]; exact e) f1
                rw [q1] at this
                cases this)]
              exact q1
            · have hne2 : ¬ obI H x'.proto = some i := fun e => by
                have := obO_of (H := sH) (by rw [hIs]; exact e) f1
                rw [q1] at this
                rw [Option.some.inj this, hv1] at q3
                cases q3
              rw [if_neg hne2]
              exact Or.inr ⟨y, q1, q2, by rw [valid_app (valid_lt q3)]; exact q3⟩
        · simp only at hj hk hvx
          rcases back j x' hj with ⟨rfl, rfl⟩ | ⟨hne, hx⟩ <;> rcases back k y' hk with ⟨rfl, rfl⟩ | ⟨hne2, hy⟩
          · rfl
          · have := g1.lt y' (List.mem_of_getElem? hy)
            simp only at hxy
            omega
          · have := g1.lt x' (List.mem_of_getElem? hx)
            simp only at hxy
            omega
          · have hltx := g1.lt x' (List.mem_of_getElem? hx)
            rw [hmk, valid_app hltx] at hvx
            exact g1.un j k x' y' hx hy hvx hxy
        · simp only at hm ⊢
          rw [hlen2]
          rcases List.mem_or_eq_of_mem_set hm with q | q
          · have := g1.lt x' q
            omega
          · rw [q]
            simp only
            omega
        · simp only
          by_cases c : i = j
          · subst c
            rw [List.getElem?_set_self hil]
            rw [hi] at hx
            obtain rfl := Option.some.inj hx
            exact ⟨_, rfl, f2, Or.inr ⟨hv, by simp⟩⟩
          · rw [List.getElem?_set_ne c]
            obtain ⟨x', x1, x2, x3⟩ := g5 j x hx
            exact ⟨x', x1, x2, x3.imp id (fun q => ⟨q.1, by simp [q.2]⟩)⟩
theorem guard_gd (h : Gd H) (hac : Acy H) (p o : Int) : Gd (guardH H p).1 ∧ St H (guardH H p).1 o ∧ (∀ i, obI H p = some i → Gk (guardH H p).1 p (guardH H p).2) := by
  have hg := cells_gd h _ p (hac p)
  unfold guardH
  generalize (bareF H H.obs.length p).1.foldr cellH (H, (bareF H H.obs.length p).2) = s at *
  obtain ⟨g1, g2, ⟨L, g3⟩, g4, g5⟩ := hg
  refine ⟨g1, ⟨fun q x hx hv => ?_, by rw [g3]; simp, Or.inl (fun g hg => by rw [g3, valid_app hg])⟩, fun i hi => ?_⟩
  · obtain ⟨j, hj1, hj2⟩ := obO_some hx
    obtain ⟨x', x1, x2, x3⟩ := g5 j x hj2
    have hlt := h.lt x (List.mem_of_getElem? hj2)
    rw [g3, valid_app hlt] at hv
    refine ⟨x', obO_of (by rw [obI_len g2]; exact hj1) x1, x3.resolve_right (fun e => by rw [hv] at e; cases e.1)⟩
  · rcases g4 with ⟨e, _⟩ | ⟨ob', e1, e2, e3⟩
    · obtain ⟨ob, hob⟩ := obI_at hi
      have := obO_of hi hob
      rw [e] at this
      cases this
    · exact ⟨(valid_cel e3).1, valid_lt e3, fun _ => ⟨ob', e1, e2⟩⟩
theorem Gk.kept {g : Int} (hk : Gk H p g) (h : Gd H) (hs : St H H' o) : Gk H' p g := by
  refine ⟨hk.g0, by have := hk.g1; have := hs.cl; omega, fun hv => ?_⟩
  have hv0 : Ce.validD H.C g = true := by
    rcases hs.cs with e | ⟨oo, _, e⟩
    · rw [← e g hk.g1]; exact hv
    · rw [e, break_ok h.inv] at hv
      simp only [Bool.and_eq_true] at hv
      exact hv.1
  obtain ⟨ob, e1, e2⟩ := hk.at' hv0
  obtain ⟨ob', f1, f2⟩ := hs.ce p ob e1 (by rw [e2]; exact hv)
  exact ⟨ob', f1, f2.trans e2⟩
theorem Gk.quiet {g : Int} (hk : Gk H p g) (h : Gd H) (hac : Acy H) (hs : St H H' o) (hu : upG H o (H.obs.length + 1) p = false) : Ce.validD H'.C g = Ce.validD H.C g := by
  rcases hs.cs with e | ⟨oo, e1, e2⟩
  · exact e g hk.g1
  · rw [e2]
    exact hk.off h hac e1 hu
theorem step_gd {n : Nat} (h : Gd H) (hI : H.inv (n : Int)) (o : OpL) : Gd (stepH H o) ∧ St H (stepH H o) o.o := by
  have set1 : ∀ {i : Nat} {ob : Ob}, H.obs[i]? = some ob → ∀ ob' : Ob, ob'.cell = ob.cell → ob'.proto = ob.proto → Gd (H.setO i ob') ∧ St H (H.setO i ob') o.o := fun hi ob' e1 e2 => ⟨h.one (H' := H.setO _ ob') hi rfl rfl e1 (Or.inl e2), St.one (H' := H.setO _ ob') hi rfl rfl e1⟩
  rcases kinds o.kd with k | k | k | k | k | k | k | k | k | k | k | k
  · rw [stepH_0 k]; exact make_gd h hI.pr _ _ _
  · rw [stepH_1 k]; exact ⟨(put_gd h _ _ _).1, (put_gd h _ _ _).2.1⟩
  · rw [stepH_2 k]; exact ⟨(drop_gd h _ _).1, (drop_gd h _ _).2.1⟩
  · rw [stepH_3 k]; exact ⟨(proto_gd h _ _).1, (proto_gd h _ _).2.1⟩
  · rw [stepH_4 k]
    unfold elemF
    cases ho : obI H o.o with
    | none => exact ⟨h, St.obs rfl rfl⟩
    | some i =>
      simp only
      cases hi : H.obs[i]? with
      | none => exact ⟨h, St.obs rfl rfl⟩
      | some ob =>
        simp only
        split
        · exact ⟨h, St.obs rfl rfl⟩
        · exact el_gd h ho hi _
  · rw [stepH_5 k]
    unfold lenF
    cases ho : obI H o.o with
    | none => exact ⟨h, St.obs rfl rfl⟩
    | some i =>
      simp only
      cases hi : H.obs[i]? with
      | none => exact ⟨h, St.obs rfl rfl⟩
      | some ob =>
        simp only
        split
        · exact ⟨h, St.obs rfl rfl⟩
        · exact el_gd h ho hi _
  · rw [stepH_6 k]
    unfold closeH
    cases ho : obI H o.o with
    | none => exact ⟨h, St.obs rfl rfl⟩
    | some i =>
      simp only
      cases hi : H.obs[i]? with
      | none => exact ⟨h, St.obs rfl rfl⟩
      | some ob => exact set1 hi { ob with shut := true } rfl rfl
  · rw [stepH_7 k]
    unfold innF
    cases ho : obI H o.o with
    | none => exact ⟨h, St.obs rfl rfl⟩
    | some i =>
      simp only
      cases hi : H.obs[i]? with
      | none => exact ⟨h, St.obs rfl rfl⟩
      | some ob => exact set1 hi { ob with inn := o.w.xs } rfl rfl
  · rw [stepH_8 k]
    unfold textF
    split
    · exact ⟨h, St.obs rfl rfl⟩
    · split
      · exact ⟨h, St.obs rfl rfl⟩
      · split
        · exact ⟨h, St.obs rfl rfl⟩
        · exact ⟨h.obs rfl rfl, St.obs rfl rfl⟩
  · rw [stepH_9 k]; exact ⟨(guard_gd h hI.acy _ o.o).1, (guard_gd h hI.acy _ o.o).2.1⟩
  · rw [stepH_10 k]; exact write_gd h _ _ _
  · rw [stepH_no k]; exact ⟨h, St.obs rfl rfl⟩
theorem step_still {n : Nat} {g : Int} (hk : Gk H p g) (h : Gd H) (hI : H.inv (n : Int)) (o : OpL) (hq : o.kd = 0 ∨ o.kd = 6 ∨ o.kd = 7 ∨ o.kd = 8 ∨ o.kd = 9) : Ce.validD (stepH H o).C g = Ce.validD H.C g := by
  rcases hq with k | k | k | k | k
  · rw [stepH_0 k]
    unfold makeF
    split
    · rfl
    · show Ce.validD (raiseH H o.p).C g = _
      rw [raise_C]
  · rw [stepH_6 k]
    unfold closeH
    split
    · rfl
    · split <;> rfl
  · rw [stepH_7 k]
    unfold innF
    split
    · rfl
    · split <;> rfl
  · rw [stepH_8 k]
    unfold textF
    split
    · rfl
    · split
      · rfl
      · split <;> rfl
  · rw [stepH_9 k]
    obtain ⟨L, e⟩ := (cells_gd h _ o.p (hI.acy o.p)).app
    show Ce.validD ((bareF H H.obs.length o.p).1.foldr cellH (H, (bareF H H.obs.length o.p).2)).1.C g = _
    rw [e, valid_app hk.g1]
theorem Gd.start (m : Int) : Gd (He.new m) :=
  ⟨fun i c h => by simp [He.new] at h, fun i ob h => by simp [He.new] at h, fun i j ob ob' h => by simp [He.new] at h, fun ob h => by simp [He.new] at h⟩
end
end Go.Proofs.YtkpdpdllbnihgaaGreat.Hp
namespace Go.Proofs.YtkpdpdllbnihgaaGreat.Hp
open Go.RowKit
set_option linter.unusedVariables false
def upD (S : List So) (q : Int) : Nat → Int → Bool
  | 0, _ => false
  | n + 1, o => match soO S o with
    | none => false
    | some x => if o = q then true else upD S q n x.proto
theorem upD_none {S : List So} {q o : Int} (h : soO S o = none) : ∀ n, upD S q n o = false
  | 0 => rfl
  | n + 1 => by unfold upD; rw [h]
theorem upD_step {S : List So} {q o : Int} {x : So} (n : Nat) (h : soO S o = some x) : upD S q (n + 1) o = if o = q then true else upD S q n x.proto := by rw [upD, h]
section
variable {w0 w W : World} {X : Nat → Prop} {hb : Nat} {H H' : He} {S S' : List So} {vo vt : SV} {ts ts' : List ByteArray} {n : Nat} {q o p : Int}
theorem RelG.up (h : RelG H S ts) (q : Int) : ∀ (n : Nat) (o : Int), upG H q n o = upD S q n o
  | 0, _ => rfl
  | n + 1, o => by
    rcases h.oo o with ⟨e1, e2⟩ | ⟨ob, x, e1, e2, e3⟩
    · rw [up_none e1, upD_none e2]
    · rw [up_step e1, upD_step n e2, h.up q n, e3.pr]
def prS (S : List So) (o : Int) : Int := ((soO S o).map So.proto).getD 18445336698825998337
theorem RelG.prs (h : RelG H S ts) (o : Int) : ((obO H o).map Ob.proto).getD 18445336698825998337 = prS S o := by
  unfold prS
  rcases h.oo o with ⟨e1, e2⟩ | ⟨ob, x, e1, e2, e3⟩
  · rw [e1, e2]; rfl
  · rw [e1, e2]
    exact e3.pr
def hadS (S : List So) (o : Int) (k : ByteArray) : Bool := ((soO S o).bind (fun x => getS x k)).isSome
theorem had_drop (h : RelG H S ts) {k : ByteArray} (hh : hadS S o k = true) : (dropF H o k).2 = true := by
  rw [(h.drop o k).2]
  unfold hadS at hh
  unfold dropG
  simp only
  cases hq : soO S o with
  | none => rw [hq] at hh; cases hh
  | some x =>
    rw [hq] at hh
    simp only [Option.bind_some] at hh ⊢
    unfold getS at hh
    cases hp : plS x.nm k with
    | none => rw [hp] at hh; cases hh
    | some m => rfl
theorem guard_says2 {g : Int} {n : Nat} (hG : Gd H) (hI : H.inv (n : Int)) (hk : Gk H p g) (hR : RelG H S ts) (c : OpL) (hR' : RelG (stepH H c) (stepS S c) ts') :
    ((upD S c.o (S.length + 1) p = false ∨ c.kd = 0 ∨ c.kd = 6 ∨ c.kd = 7 ∨ c.kd = 8 ∨ c.kd = 9) → Ce.validD (stepH H c).C g = Ce.validD H.C g) ∧
    (upD S c.o (S.length + 1) p = true → (c.kd = 1 ∨ (c.kd = 2 ∧ hadS S c.o c.k = true) ∨ (c.kd = 3 ∧ ¬ prS (stepS S c) c.o = prS S c.o)) → Ce.validD (stepH H c).C g = false) := by
  have hs := step_gd hG hI c
  rw [← hR.up, ← hR.len]
  refine ⟨fun h => ?_, fun hu h => ?_⟩
  · rcases h with e | e
    · exact hk.quiet hG hI.acy hs.2 e
    · exact step_still hk hG hI c e
  · have hoo : ∃ oo, obO H c.o = some oo := by
      have key : ∀ (m : Nat) (r : Int), upG H c.o m r = true → ∃ oo, obO H c.o = some oo := by
        intro m
        induction m with
        | zero => intro r e; cases e
        | succ m ih =>
          intro r e
          cases hq : obO H r with
          | none => rw [up_none hq] at e; cases e
          | some ob =>
            rw [up_step hq] at e
            by_cases d : r = c.o
            · exact ⟨ob, d ▸ hq⟩
            · rw [if_neg d] at e
              exact ih _ e
      exact key _ _ hu
    obtain ⟨oo, ho⟩ := hoo
    have fin : (stepH H c).C = (Ce.breakD H.C oo.cell).1 → Ce.validD (stepH H c).C g = false := fun e => by
      rw [e]
      exact hk.hits hG ho hu
    rcases h with k | ⟨k, hh⟩ | ⟨k, hh⟩
    · refine fin ?_
      rw [stepH_1 k]
      exact (put_gd hG _ _ _).2.2 oo ho
    · refine fin ?_
      rw [stepH_2 k]
      obtain ⟨oo', h1, h2⟩ := (drop_gd hG c.o c.k).2.2 (had_drop hR hh)
      rw [ho] at h1
      rw [Option.some.inj h1]
      exact h2
    · refine fin ?_
      have hne : ¬ setPF H c.o c.p = H := fun e => by
        apply hh
        rw [← hR'.prs, ← hR.prs, stepH_3 k, e]
      rw [stepH_3 k]
      obtain ⟨oo', h1, h2⟩ := (proto_gd hG c.o c.p).2.2 hne
      rw [ho] at h1
      rw [Option.some.inj h1]
      exact h2
theorem rproto'_e (h : TwoE w0 w X hb H S vo vt ts) (o : Int) (o0 : 0 ≤ o) (o1 : o < 18446744073709551616) :
    Calls Tryz.prog 16 #[stV vo vt, .int .u64 o] w fun e w' => e = .returned (.int .u64 (prS S o)) ∧ Below w.heap.size w w' := by
  obtain ⟨tgH, tgS, M, qs, h⟩ := h
  exact rproto_o h.st vt o o0 o1
theorem rget'_e (h : TwoE w0 w X hb H S vo vt ts) (o : Int) (o0 : 0 ≤ o) (o1 : o < 18446744073709551616) (k : ByteArray) :
    Calls Tryz.prog 17 #[stV vo vt, .int .u64 o, .string k] w fun e w' => e = .returned (.tuple #[deV (((soO S o).bind (fun x => getS x k)).getD zDe), .bool (hadS S o k)]) ∧ Below w.heap.size w w' := by
  obtain ⟨tgH, tgS, M, qs, h⟩ := h
  exact rget_o h.st vt o o0 o1 k
theorem rat'_e (h : TwoE w0 w X hb H S vo vt ts) (o : Int) (o0 : 0 ≤ o) (o1 : o < 18446744073709551616) :
    Calls Tryz.prog 13 #[stV vo vt, .int .u64 o] w fun e w' => e = .returned (.int .i64 (atI S o)) ∧ Below w.heap.size w w' := by
  obtain ⟨tgH, tgS, M, qs, h⟩ := h
  exact rat_o h.st vt o o0 o1
theorem valid'_e (h : TwoE w0 w X hb H S vo vt ts) (n : Int) :
    Calls Tryz.prog 14 #[.pointer (some ⟨hb, 0, none⟩), .int .i64 n] w fun e w' => e = .returned (.bool (Ce.validD H.C n)) ∧ w' = w := by
  obtain ⟨tgH, tgS, M, qs, h⟩ := h
  exact valid_heap h.hp n
end
end Go.Proofs.YtkpdpdllbnihgaaGreat.Hp
namespace Go.Proofs.YtkpdpdllbnihgaaGreat.Hp
open Go.RowKit
set_option linter.unusedVariables false
section
variable {w0 w W : World} {X : Nat → Prop} {hb : Nat} {H H' : He} {S S' : List So} {vo vt : SV} {ts ts' : List ByteArray} {n : Nat} {q o p : Int}
set_option maxRecDepth 100000 in
set_option maxHeartbeats 4000000 in
theorem up_any (h : TwoE w0 w X hb H S vo vt ts) (hpr : ∀ x ∈ S, 0 ≤ x.proto ∧ x.proto < 18446744073709551616) (o q : Int) (o0 : 0 ≤ o) (o1 : o < 18446744073709551616) :
    Calls Tryz.prog 15 #[stV vo vt, .int .u64 o, .int .u64 q] w fun e w' => e = .returned (.bool (upD S q (S.length + 1) o)) ∧ Below w.heap.size w w' := by
  obtain ⟨oa, ol, oc⟩ := vo
  obtain ⟨ta, tl, tc⟩ := vt
  have hol : ol = S.length ∧ S.length ≤ 65536 := by
    obtain ⟨tgH, tgS, M, qs, h⟩ := h
    obtain ⟨ad, cap, hv, _, _⟩ := h.st.vol
    injection hv with a b c
    exact ⟨b, h.st.big⟩
  obtain ⟨rfl, hS⟩ := hol
  obtain ⟨wb, hwb⟩ : ∃ wb, wb = w.alloc (.cells #[.slice oa S.length oc, .slice ta tl tc] 28) := ⟨_, rfl⟩
  have hB : Below w.heap.size w wb := by rw [hwb]; exact (Below.refl _ _).alloc (Nat.le_refl _) _
  have hbx : BxS wb w.heap.size ⟨oa, S.length, oc⟩ ⟨ta, tl, tc⟩ := by rw [hwb]; exact BxS.new w ⟨oa, S.length, oc⟩ ⟨ta, tl, tc⟩
  have h2 := h.below hB
  have HT : Hid (∀ W, Below wb.heap.size wb W → TwoE w0 W X hb H S ⟨oa, S.length, oc⟩ ⟨ta, tl, tc⟩ ts ∧ (W.cell? ⟨w.heap.size, 0, none⟩ = some (.slice oa S.length oc) ∧ W.cell? ⟨w.heap.size, 1, none⟩ = some (.slice ta tl tc)) ∧ Below w.heap.size w W) := fun W q => ⟨h2.below q, (hbx.below q).ce, hB.trans (q.mono hB.size)⟩
  have HPR : Hid (∀ x ∈ S, 0 ≤ x.proto ∧ x.proto < 18446744073709551616) := hpr
  obtain ⟨R, hR⟩ : ∃ R, R = upD S q (S.length + 1) o := ⟨_, rfl⟩
  rw [← hR]
  have HR : Hid (R = upD S q (S.length + 1) o) := hR
  have HO : Hid (0 ≤ o ∧ o < 18446744073709551616) := ⟨o0, o1⟩
  have hsl : (S.length : Int) ≤ 65536 := by omega
  unfold stV
  rw [show (SV.mk oa S.length oc).val = .slice oa S.length oc from rfl, show (SV.mk ta tl tc).val = .slice ta tl tc from rfl]
  have HB0 : Hid (Below wb.heap.size wb wb) := Below.refl _ _
  clear h h2 hB hbx hpr hR hS o0 o1
  go_enter Tryz.func15, Tryz.ntmps15
  go_upto_region 1 with fail
  rw [← hwb]
  clear hwb
  go_wp2_with fail
  go_loopw [7, 1] (fun iv ov wr => ∃ (i : Nat) (u : Int), i ≤ S.length + 1 ∧ Hid ((0 ≤ u ∧ u < 18446744073709551616) ∧ R = upD S q (S.length + 1 - i) u ∧ Below wb.heap.size wb wr) ∧ iv = .int .i64 (i : Int) ∧ ov = .int .u64 u) (fun iv ov wr => ((S.length : Int) + 1 - intOf iv).toNat)
  case atStart => exact ⟨0, o, Nat.zero_le _, ⟨HO.out, HR.out, HB0.out⟩, rfl, rfl⟩
  case round =>
    clear HB0
    obtain ⟨i, u, hi, HL, rfl, rfl⟩ := hrel
    obtain ⟨hTw, ⟨ce0, ce1⟩, hbe⟩ := HT.out _ HL.out.2.2
    have HE := (show Hid _ from hbe)
    clear hbe
    by_cases c : i ≤ S.length
    · have cil : decide ((i : Int) ≤ (S.length : Int)) = true := decide_eq_true (by omega)
      have cip : (i : Int) ≤ (S.length : Int) := by omega
      have ka := rat'_e hTw u HL.out.1.1 HL.out.1.2
      unfold stV at ka
      rw [show (SV.mk oa S.length oc).val = .slice oa S.length oc from rfl, show (SV.mk ta tl tc).val = .slice ta tl tc from rfl] at ka
      have hstep : S.length + 1 - i = (S.length - i) + 1 := by omega
      cases hq : obS S u with
      | none =>
        have hat : atI S u = -1 := by unfold atI; rw [hq]
        have hsn : soO S u = none := by unfold soO; rw [hq]; rfl
        have hRf : R = false := by rw [HL.out.2.1, upD_none hsn]
        rw [hat] at ka
        have HRF : Hid (R = false) := hRf
        clear hTw hstep hsn hRf hat hi c
        go_wp2_with fail
        refine ka.mono ?_
        rintro e w6 ⟨rfl, hb6⟩
        have HE2 := (show Hid _ from bel_sm HE.out hb6)
        clear ka hb6 ce0 ce1 HE
        go_wp2_with fail
        go_ret
        exact ⟨by rw [HRF.out]; rfl, HE2.out⟩
      | some j =>
        obtain ⟨x, hx, huj⟩ := obS_at hq HL.out.1.1 HL.out.1.2
        clear huj
        have hat : atI S u = (j : Int) := by unfold atI; rw [hq]
        have hso : soO S u = some x := soO_of hq hx
        rw [hat] at ka
        have hj0 : decide ((0 : Int) ≤ (j : Int)) = true := decide_eq_true (by omega)
        have hj1 : (0 : Int) ≤ (j : Int) := by omega
        have HPX : Hid (0 ≤ x.proto ∧ x.proto < 18446744073709551616) := HPR.out x (List.mem_of_getElem? hx)
        have kp := fun W (z : Below wb.heap.size wb W) => rproto'_e (HT.out W z).1 u HL.out.1.1 HL.out.1.2
        have hps : prS S u = x.proto := by unfold prS; rw [hso]; rfl
        rw [hps] at kp
        unfold stV at kp
        rw [show (SV.mk oa S.length oc).val = .slice oa S.length oc from rfl, show (SV.mk ta tl tc).val = .slice ta tl tc from rfl] at kp
        have hR2 : R = if u = q then true else upD S q (S.length - i) x.proto := by rw [HL.out.2.1, hstep, upD_step _ hso]
        have HR2 := (show Hid _ from hR2)
        have HBu := (show Hid _ from HL.out.2.2)
        generalize x.proto = xp at *
        clear hTw hstep hso hat hR2 hps hx hi HL hq
        by_cases d : u = q
        · have hd : (u == q) = true := by simpa using d
          have HRT : Hid (R = true) := by have := HR2.out; rw [if_pos d] at this; exact this
          clear HR2 d
          go_wp2_with fail
          refine ka.mono ?_
          rintro e w6 ⟨rfl, hb6⟩
          have HE2 := (show Hid _ from bel_sm HE.out hb6)
          clear ka hb6 ce0 ce1 HE kp
          go_wp2_with fail
          go_ret
          exact ⟨by rw [HRT.out]; rfl, HE2.out⟩
        · have hd : (u == q) = false := by simpa using d
          have HRN : Hid (R = upD S q (S.length - i) xp) := by have := HR2.out; rw [if_neg d] at this; exact this
          clear HR2 d
          go_wp2_with fail
          refine ka.mono ?_
          rintro e w6 ⟨rfl, hb6⟩
          have HB6 := (show Hid _ from bel_sm HBu.out hb6)
          obtain ⟨_, ⟨ce0, ce1⟩, _⟩ := HT.out _ HB6.out
          have kp6 := kp w6 HB6.out
          clear ka hb6 HE kp
          go_wp2_with fail
          refine kp6.mono ?_
          rintro e w7 ⟨rfl, hb7⟩
          have HB7 := (show Hid _ from bel_sm HB6.out hb7)
          clear kp6 hb7 ce0 ce1
          go_wp2_with fail
          refine ⟨⟨i + 1, xp, by omega, ⟨HPX.out, by rw [show S.length + 1 - (i + 1) = S.length - i by omega]; exact HRN.out, HB7.out⟩, by go_num, rfl⟩, ?_⟩
          simp [intOf]
          omega
    · have cil : decide ((i : Int) ≤ (S.length : Int)) = false := decide_eq_false (by omega)
      have cip : ¬ (i : Int) ≤ (S.length : Int) := by omega
      have hRf : R = false := by rw [HL.out.2.1, show S.length + 1 - i = 0 by omega]; rfl
      have HRF := (show Hid _ from hRf)
      clear hTw hRf hi c
      go_wp2_with fail
      go_ret
      exact ⟨by rw [HRF.out]; rfl, HE.out⟩
end
end Go.Proofs.YtkpdpdllbnihgaaGreat.Hp
namespace Go.Proofs.YtkpdpdllbnihgaaGreat.Hp
open Go.RowKit
set_option linter.unusedVariables false
section
variable {w wr w' : World} {hb bs : Nat} {H : He} {S : List So} {vo vt : SV} {ts : List ByteArray} {n : Nat}
theorem LawAt.guard (h : LawAt w wr hb bs H S vo vt ts n) (hn : n ≤ 1000000) (p : Int) (p0 : 0 ≤ p) (p1 : p < 18446744073709551616) :
    Calls Tryz.prog 12 #[.pointer (some ⟨hb, 0, none⟩), .int .u64 p] wr fun e w' => e = .returned (.int .i64 (guardH H p).2) ∧ LawAt w w' hb bs (guardH H p).1 S vo vt ts (n + 1) := by
  refine (guard_e h.two h.ord.inv.acy p p0 p1 (by have := h.ord.cl; unfold Ce.top; omega)).mono ?_
  rintro e w' ⟨rfl, hk⟩
  have ho := h.ord.step h.two.wf ⟨9, 0, p, ⟨#[]⟩, ⟨0, 0, 0⟩, 0, ⟨none, 0, []⟩⟩
  have hs := h.sh.step h.most ⟨9, 0, p, ⟨#[]⟩, ⟨0, 0, 0⟩, 0, ⟨none, 0, []⟩⟩
  exact ⟨rfl, hk.two, (hk.kp bs rfl).trans h.box, ho, hs, h.lo⟩
theorem LawAt.step2 {bq : Nat} (hl : LawAt w wr hb bs H S vo vt ts n) (h2 : TwoE w wr (fun b => b = bs ∨ b = bq) hb H S vo vt ts) (hne : bq ≠ bs) (hn : n ≤ 1000000) (o : OpL) (ho : o.wf) (hw : o.w.ok wC 1 w) :
    Calls Tryz.prog 8 #[.pointer (some ⟨hb, 0, none⟩), stV vo vt, o.val] wr fun e w' => ∃ vo' vt', e = .returned (.tuple #[stV vo' vt', .bool true]) ∧ BxS w' bs vo vt ∧ LawAt w ((w'.setCell ⟨bs, 0, none⟩ vo'.val).setCell ⟨bs, 1, none⟩ vt'.val) hb bs (stepH H o) (stepS S o) vo' vt' (stepT ts o) (n + 1) ∧ ((w'.setCell ⟨bs, 0, none⟩ vo'.val).setCell ⟨bs, 1, none⟩ vt'.val).heap[bq]? = wr.heap[bq]? := by
  refine (step_any h2 hl.ord hn o ho (fun W q => hw.kept (cells_below q))).mono ?_
  rintro e w' ⟨vo', vt', rfl, hk⟩
  have hbx : BxS w' bs vo vt := (hk.kp bs (Or.inl rfl)).trans hl.box
  have z0 := heap_setCell_same _ bs 0 _ _ vo'.val hbx
  have z1 := heap_setCell_same _ bs 1 _ _ vt'.val z0
  have hc : Chg (fun b => b = bs) w' ((w'.setCell ⟨bs, 0, none⟩ vo'.val).setCell ⟨bs, 1, none⟩ vt'.val) :=
    (Chg.set (S := fun b => b = bs) w' ⟨bs, 0, none⟩ vo'.val rfl).trans (Chg.set (S := fun b => b = bs) _ ⟨bs, 1, none⟩ vt'.val rfl) (fun _ _ e => e)
  refine ⟨vo', vt', rfl, hbx, ⟨((hk.two.mono (fun b q => Or.inl q)).set (b := bs) rfl hl.lo 0 _).set (b := bs) rfl hl.lo 1 _, z1, hl.ord.step hl.two.wf o, hl.sh.step hl.most o, hl.lo⟩, ?_⟩
  rw [hc.block bq (hk.two.lt (Or.inr rfl)) hne]
  exact hk.kp bq (Or.inr rfl)
end
theorem bool_two' (b : Bool) : b = true ∨ b = false := by cases b <;> simp
set_option maxRecDepth 100000 in
set_option maxHeartbeats 16000000 in
theorem guards_walk (w : World) (sc : Sli OpL) (p : Int) (mo : Sli OpL) (hsc : sc.ok opC 9 w) (hwf : ∀ o ∈ sc.xs, o.wf ∧ o.w.ok wC 1 w) (hsz : 11 * sc.xs.length ≤ 1048576) (hp : 0 ≤ p ∧ p < 18446744073709551616) (hmo : mo.ok opC 9 w) (hwf2 : ∀ o ∈ mo.xs, o.wf ∧ o.w.ok wC 1 w) (hsz2 : 11 * mo.xs.length ≤ 1048576) :
    Calls Tryz.prog 5 #[sc.val, .int .u64 p, mo.val] w fun e w' => e = .returned (.bool true) ∧ Below w.heap.size w w' := by
  obtain ⟨ca, cc, cx⟩ := sc
  obtain ⟨ma, mc, mx⟩ := mo
  unfold Sli.val
  simp only at *
  have kn := new_any w 256
  have KA : Hid (∀ w : World, Calls Tryz.prog 7 #[] w fun e w' => e = .returned (.bool true) ∧ Below w.heap.size w w') := alive_any
  have HC : Hid (∀ W, Below w.heap.size w W → Sli.ok opC 9 W ⟨ca, cc, cx⟩) := fun W hW => hsc.kept (cells_below hW)
  have HWF : Hid ((∀ o ∈ cx, o.wf ∧ o.w.ok wC 1 w) ∧ 11 * cx.length ≤ 1048576) := ⟨hwf, hsz⟩
  have HC2 : Hid (∀ W, Below w.heap.size w W → Sli.ok opC 9 W ⟨ma, mc, mx⟩) := fun W hW => hmo.kept (cells_below hW)
  have HWF2 : Hid ((∀ o ∈ mx, o.wf ∧ o.w.ok wC 1 w) ∧ 11 * mx.length ≤ 1048576) := ⟨hwf2, hsz2⟩
  have HP : Hid (0 ≤ p ∧ p < 18446744073709551616) := hp
  have hcl : (cx.length : Int) ≤ 1048576 := by omega
  have hml : (mx.length : Int) ≤ 1048576 := by omega
  clear hsc hwf hsz hmo hwf2 hsz2 hp
  go_enter Tryz.func5, Tryz.ntmps5
  go_wp2_with fail
  refine kn.mono ?_
  rintro e w1 ⟨hb, O, rfl, hT, hb1⟩
  have HS : Hid (LawAt w (w1.alloc (.cells #[.slice none 0 0, .slice none 0 0] 28)) hb w1.heap.size (He.new 256) [] .nil .nil [] 0) := LawAt.start hT hb1
  clear kn hT hb1
  go_upto_region 3 with fail
  generalize w1.alloc (.cells #[.slice none 0 0, .slice none 0 0] 28) = w2 at *
  generalize w1.heap.size = bs at *
  have kal := KA.out w2
  go_wp2_with fail
  refine kal.mono ?_
  rintro e w3 ⟨rfl, hb3⟩
  have HI : Hid (LawAt w w3 hb bs (He.new 256) [] .nil .nil [] 0 ∧ Gd (He.new 256)) := ⟨HS.out.below hb3, Gd.start 256⟩
  clear kal hb3 HS
  go_wp2_with fail
  go_loopw [31] (fun iv wr => ∃ (i : Nat) (H : He) (S : List So) (vo vt : SV) (ts : List ByteArray), (i ≤ cx.length ∧ Hid (LawAt w wr hb bs H S vo vt ts i ∧ Gd H)) ∧ iv = .int .i64 i) (fun iv wr => cx.length - (intOf iv).toNat)
  case atStart => exact ⟨0, _, _, _, _, _, ⟨Nat.zero_le _, HI⟩, rfl⟩
  case round =>
    clear HI
    obtain ⟨i, H, S, ⟨oa, ol, oc⟩, ⟨ta, tl, tc⟩, ts, ⟨ple, HL⟩, rfl⟩ := hrel
    rcases Nat.lt_or_ge i cx.length with c | c
    · have hex : ∃ o, cx[i]? = some o := ⟨_, List.getElem?_eq_getElem c⟩
      obtain ⟨o, ho⟩ := hex
      obtain ⟨b, off, e1, hc⟩ := (HC.out wr HL.out.1.two.bel).cells (by intro e; have e : cx = [] := e; rw [e] at c; simp at c)
      simp only at e1
      subst e1
      have d0 := hc i o ho 0 _ rfl
      have d1 := hc i o ho 1 _ rfl
      have d2 := hc i o ho 2 _ rfl
      have d3 := hc i o ho 3 _ rfl
      have d4 := hc i o ho 4 _ rfl
      have d5 := hc i o ho 5 _ rfl
      have d6 := hc i o ho 6 _ rfl
      have d7 := hc i o ho 7 _ rfl
      have d8 := hc i o ho 8 _ rfl
      rw [Nat.add_zero] at d0
      have hmem := HWF.out.1 o (List.mem_of_getElem? ho)
      have cil : (i : Int) < cx.length := by omega
      obtain ⟨kd, oo, op, kk, ⟨va, se, fl⟩, on, ⟨wa, wc, wl⟩⟩ := o
      unfold Sli.val at d8
      simp only at d0 d1 d2 d3 d4 d5 d6 d7 d8
      obtain ⟨wq, hwq⟩ : ∃ wq, wq = wr.alloc (.cells #[.int .i64 kd, .int .u64 oo, .int .u64 op, .string kk, .int .u64 va, .int .u64 se, .int .i64 fl, .int .i64 on, .slice wa wl.length wc] 38) := ⟨_, rfl⟩
      have hbq : Below wr.heap.size wr wq := by rw [hwq]; exact (Below.refl _ _).alloc (Nat.le_refl _) _
      have hxq : wq.heap[wr.heap.size]? = some (.cells #[.int .i64 kd, .int .u64 oo, .int .u64 op, .string kk, .int .u64 va, .int .u64 se, .int .i64 fl, .int .i64 on, .slice wa wl.length wc] 38 (0, 0)) := by rw [hwq]; exact at_new _ _
      have hlq := HL.out.1.below hbq
      have ks := hlq.step (by have := HWF.out.2; omega) _ hmem.1 hmem.2
      obtain ⟨r0, r1⟩ := hlq.box.ce
      rw [show (SV.mk oa ol oc).val = .slice oa ol oc from rfl] at r0
      rw [show (SV.mk ta tl tc).val = .slice ta tl tc from rfl] at r1
      unfold stV OpL.val OpL.cells at ks
      rw [show (SV.mk oa ol oc).val = .slice oa ol oc from rfl, show (SV.mk ta tl tc).val = .slice ta tl tc from rfl] at ks
      unfold Sli.val at ks
      simp only at ks
      have hcq : ∀ j, wq.cell? ⟨wr.heap.size, j, none⟩ = _ := fun j => cell_of_row wq wr.heap.size j _ _ (0, 0) hxq
      have g0 := hcq 0
      have g1 := hcq 1
      have g2 := hcq 2
      have g3 := hcq 3
      have g4 := hcq 4
      have g5 := hcq 5
      have g6 := hcq 6
      have g7 := hcq 7
      have g8 := hcq 8
      have HGG := (show Hid _ from And.intro (step_gd HL.out.2 HL.out.1.ord.inv ⟨kd, oo, op, kk, ⟨va, se, fl⟩, on, ⟨wa, wc, wl⟩⟩).1 hmem)
      clear hc ho hmem hbq hxq hlq hcq HL
      go_upto_region 8 with fail
      rw [← hwq]
      clear hwq d0 d1 d2 d3 d4 d5 d6 d7 d8
      generalize wr.heap.size = bq at *
      simp only [List.getElem?_toArray, List.getElem?_cons_zero, List.getElem?_cons_succ] at g0 g1 g2 g3 g4 g5 g6 g7 g8
      go_wp2_with fail
      refine ks.mono ?_
      rintro e w5 ⟨⟨za, zl, zc⟩, ⟨ua, ul, uc⟩, rfl, bx5, hl5⟩
      have HX := (show Hid _ from hl5)
      obtain ⟨m0, m1⟩ := bx5.ce
      obtain ⟨n0, n1⟩ := bx5.fz
      rw [show (SV.mk oa ol oc).val = .slice oa ol oc from rfl] at m0
      rw [show (SV.mk ta tl tc).val = .slice ta tl tc from rfl] at m1
      rw [show (SV.mk za zl zc).val = .slice za zl zc from rfl, show (SV.mk ua ul uc).val = .slice ua ul uc from rfl] at HX ⊢
      clear hl5 bx5 ks g0 g1 g2 g3 g4 g5 g6 g7 g8 r0 r1
      go_wp2_with fail
      refine ⟨⟨i + 1, _, _, ⟨za, zl, zc⟩, ⟨ua, ul, uc⟩, _, ⟨c, ⟨HX.out, HGG.out.1⟩⟩, by go_num⟩, ?_⟩
      simp [intOf]
      omega
    · have hil : ¬ (i : Int) < cx.length := by omega
      have HQ : Hid (LawAt w wr hb bs H S ⟨oa, ol, oc⟩ ⟨ta, tl, tc⟩ ts i ∧ Gd H ∧ i ≤ 100000) := ⟨HL.out.1, HL.out.2, by have := HWF.out.2; omega⟩
      have kg := HQ.out.1.guard (by have := HQ.out.2.2; omega) p HP.out.1 HP.out.2
      have hgs := (guard_says H p).1
      have hgk := guard_gd HQ.out.2.1 HQ.out.1.ord.inv.acy p 0
      clear HL ple c HWF HC KA
      cases hq : obI H p with
      | none =>
        have e1 : (guardH H p).2 = -1 := hgs.2 hq
        have hat : atI S p = -1 := by unfold atI; rw [← HQ.out.1.ord.rel.at, hq]
        rw [e1] at kg
        generalize (guardH H p).1 = H2 at *
        clear hgs hgk e1 hq
        go_wp2_with fail
        refine kg.mono ?_
        rintro e w4 ⟨rfl, hl4⟩
        have ka := rat'_e hl4.two p HP.out.1 HP.out.2
        rw [hat] at ka
        unfold stV at ka
        rw [show (SV.mk oa ol oc).val = .slice oa ol oc from rfl, show (SV.mk ta tl tc).val = .slice ta tl tc from rfl] at ka
        obtain ⟨r0, r1⟩ := hl4.box.ce
        rw [show (SV.mk oa ol oc).val = .slice oa ol oc from rfl] at r0
        rw [show (SV.mk ta tl tc).val = .slice ta tl tc from rfl] at r1
        have HE := (show Hid _ from hl4.two.bel)
        clear kg hl4 hat
        go_wp2_with fail
        refine ka.mono ?_
        rintro e w5 ⟨rfl, hb5⟩
        have HE2 := (show Hid _ from HE.out.trans (hb5.mono HE.out.size))
        clear ka hb5 r0 r1 HE
        go_wp2_with fail
        go_ret
        exact ⟨rfl, HE2.out⟩
      | some q =>
        have hne : ((guardH H p).2 == -1) = false := by rw [beq_eq_false_iff_ne]; intro e; rw [hgs.1 e] at hq; cases hq
        have hK := hgk.2.2 q hq
        have HGK : Hid (Gd (guardH H p).1 ∧ Gk (guardH H p).1 p (guardH H p).2) := ⟨hgk.1, hK⟩
        clear hgs hgk hq hK
        generalize (guardH H p).1 = H2 at *
        generalize (guardH H p).2 = g at *
        go_wp2_with fail
        refine kg.mono ?_
        rintro e w4 ⟨rfl, hl4⟩
        have HI : Hid (LawAt w w4 hb bs H2 S ⟨oa, ol, oc⟩ ⟨ta, tl, tc⟩ ts (i + 1) ∧ Gd H2 ∧ Gk H2 p g) := ⟨hl4, HGK.out.1, HGK.out.2⟩
        have HN : Hid (i ≤ 100000) := HQ.out.2.2
        clear kg hl4 HGK HQ
        go_wp2_with fail
        go_loopw [54] (fun iv W => ∃ (j : Nat) (H : He) (S : List So) (vo vt : SV) (ts : List ByteArray), (j ≤ mx.length ∧ Hid (LawAt w W hb bs H S vo vt ts (i + 1 + j) ∧ Gd H ∧ Gk H p g)) ∧ iv = .int .i64 j) (fun iv W => mx.length - (intOf iv).toNat)
        case atStart => exact ⟨0, _, _, _, _, _, ⟨Nat.zero_le _, HI⟩, rfl⟩
        case round =>
          clear HI
          obtain ⟨j, H, S, ⟨oa, ol, oc⟩, ⟨ta, tl, tc⟩, ts, ⟨ple, HL⟩, rfl⟩ := hrel
          rcases Nat.lt_or_ge j mx.length with c | c
          · obtain ⟨o, ho⟩ : ∃ o, mx[j]? = some o := ⟨_, List.getElem?_eq_getElem c⟩
            obtain ⟨b, off, e1, hc⟩ := (HC2.out wr HL.out.1.two.bel).cells (by intro e; have e : mx = [] := e; rw [e] at c; simp at c)
            simp only at e1
            subst e1
            have d0 := hc j o ho 0 _ rfl
            have d1 := hc j o ho 1 _ rfl
            have d2 := hc j o ho 2 _ rfl
            have d3 := hc j o ho 3 _ rfl
            have d4 := hc j o ho 4 _ rfl
            have d5 := hc j o ho 5 _ rfl
            have d6 := hc j o ho 6 _ rfl
            have d7 := hc j o ho 7 _ rfl
            have d8 := hc j o ho 8 _ rfl
            rw [Nat.add_zero] at d0
            have hmem := HWF2.out.1 o (List.mem_of_getElem? ho)
            have cil : (j : Int) < mx.length := by omega
            have hn5 : i + 1 + j ≤ 1000000 := by have := HN.out; have := HWF2.out.2; omega
            obtain ⟨kd, oo, op, kk, ⟨va, se, fl⟩, on, ⟨wa, wc, wl⟩⟩ := o
            unfold Sli.val at d8
            simp only at d0 d1 d2 d3 d4 d5 d6 d7 d8
            obtain ⟨wq, hwq⟩ : ∃ wq, wq = wr.alloc (.cells #[.int .i64 kd, .int .u64 oo, .int .u64 op, .string kk, .int .u64 va, .int .u64 se, .int .i64 fl, .int .i64 on, .slice wa wl.length wc] 38) := ⟨_, rfl⟩
            have hbq : Below wr.heap.size wr wq := by rw [hwq]; exact (Below.refl _ _).alloc (Nat.le_refl _) _
            have hxq : wq.heap[wr.heap.size]? = some (.cells #[.int .i64 kd, .int .u64 oo, .int .u64 op, .string kk, .int .u64 va, .int .u64 se, .int .i64 fl, .int .i64 on, .slice wa wl.length wc] 38 (0, 0)) := by rw [hwq]; exact at_new _ _
            obtain ⟨bq, hbqe⟩ : ∃ bq, bq = wr.heap.size := ⟨_, rfl⟩
            rw [← hbqe] at hxq
            have hlq := HL.out.1.below hbq
            have hq2 : TwoE w wq (fun b => b = bs ∨ b = bq) hb H S ⟨oa, ol, oc⟩ ⟨ta, tl, tc⟩ ts := (HL.out.1.two.box hbq).mono (fun b q => q.imp id (fun q => ⟨by omega, by have := (Array.getElem?_eq_some_iff.1 hxq).1; omega⟩))
            have HBS : Hid (bq ≠ bs) := by show bq ≠ bs; have := HL.out.1.box.lt; omega
            have HT2 : Hid (∀ W, Below wq.heap.size wq W → TwoE w W (fun b => b = bs ∨ b = bq) hb H S ⟨oa, ol, oc⟩ ⟨ta, tl, tc⟩ ts) := fun W z => hq2.below z
            have HT : Hid (∀ W, Below wq.heap.size wq W → LawAt w W hb bs H S ⟨oa, ol, oc⟩ ⟨ta, tl, tc⟩ ts (i + 1 + j) ∧ (W.cell? ⟨bs, 0, none⟩ = some (.slice oa ol oc) ∧ W.cell? ⟨bs, 1, none⟩ = some (.slice ta tl tc)) ∧ W.heap[bq]? = some (.cells #[.int .i64 kd, .int .u64 oo, .int .u64 op, .string kk, .int .u64 va, .int .u64 se, .int .i64 fl, .int .i64 on, .slice wa wl.length wc] 38 (0, 0))) := fun W z => ⟨hlq.below z, (hlq.below z).box.ce, (z.block bq (Array.getElem?_eq_some_iff.1 hxq).1).trans hxq⟩
            have HOP : Hid ((OpL.mk kd oo op kk ⟨va, se, fl⟩ on ⟨wa, wc, wl⟩).wf ∧ Sli.ok wC 1 w ⟨wa, wc, wl⟩) := hmem
            have HG : Hid (Gd H ∧ Gk H p g) := HL.out.2
            have HN5 : Hid (i + 1 + j ≤ 1000000) := hn5
            have HJ : Hid (j < mx.length) := c
            clear hc ho hmem hbq hlq hxq hq2 HL hn5 c ple
            go_upto_region 16 with fail
            rw [← hwq, ← hbqe]
            clear hwq hbqe d0 d1 d2 d3 d4 d5 d6 d7 d8
            obtain ⟨hl0, ⟨r0, r1⟩, hx0⟩ := HT.out wq (Below.refl _ _)
            have kv := valid'_e hl0.two g
            obtain ⟨v0, hv0⟩ : ∃ v0, v0 = Ce.validD H.C g := ⟨_, rfl⟩
            rw [← hv0] at kv
            have g1 := cell_of_row wq bq 1 _ _ (0, 0) hx0
            simp only [List.getElem?_toArray, List.getElem?_cons_zero, List.getElem?_cons_succ] at g1
            have ku := up_any hl0.two (hl0.ord.wfs hl0.two.wf).1 p oo HP.out.1 HP.out.2
            obtain ⟨ob1, hob1⟩ : ∃ ob1, ob1 = upD S oo (S.length + 1) p := ⟨_, rfl⟩
            rw [← hob1] at ku
            unfold stV at ku
            rw [show (SV.mk oa ol oc).val = .slice oa ol oc from rfl, show (SV.mk ta tl tc).val = .slice ta tl tc from rfl] at ku
            have HV0 : Hid (v0 = Ce.validD H.C g) := hv0
            have HOB : Hid (ob1 = upD S oo (S.length + 1) p) := hob1
            clear hl0 hx0 hv0 hob1
            go_wp2_with fail
            refine kv.mono ?_
            rintro e wv ⟨rfl, rfl⟩
            clear kv
            go_wp2_with fail
            refine ku.mono ?_
            rintro e w6 ⟨rfl, hb6⟩
            have HB6 := (show Hid _ from hb6)
            clear ku hb6 r0 r1 g1
            obtain ⟨hl6, ⟨r0, r1⟩, hx6⟩ := HT.out w6 HB6.out
            have g1 := cell_of_row w6 bq 1 _ _ (0, 0) hx6
            simp only [List.getElem?_toArray, List.getElem?_cons_zero, List.getElem?_cons_succ] at g1
            have kp := rproto'_e hl6.two oo HOP.out.1.o0 HOP.out.1.o1
            obtain ⟨pa, hpa⟩ : ∃ pa, pa = prS S oo := ⟨_, rfl⟩
            rw [← hpa] at kp
            have HPA : Hid (pa = prS S oo) := hpa
            unfold stV at kp
            rw [show (SV.mk oa ol oc).val = .slice oa ol oc from rfl, show (SV.mk ta tl tc).val = .slice ta tl tc from rfl] at kp
            clear hl6 hx6 hpa
            go_wp2_with fail
            refine kp.mono ?_
            rintro e w7 ⟨rfl, hb7⟩
            have HB7 := (show Hid _ from bel_sm HB6.out hb7)
            clear kp hb7 r0 r1 g1
            obtain ⟨hl7, ⟨r0, r1⟩, hx7⟩ := HT.out w7 HB7.out
            have g1 := cell_of_row w7 bq 1 _ _ (0, 0) hx7
            have g3 := cell_of_row w7 bq 3 _ _ (0, 0) hx7
            simp only [List.getElem?_toArray, List.getElem?_cons_zero, List.getElem?_cons_succ] at g1 g3
            have kt := rget'_e hl7.two oo HOP.out.1.o0 HOP.out.1.o1 kk
            obtain ⟨hd1, hhd⟩ : ∃ hd1, hd1 = hadS S oo kk := ⟨_, rfl⟩
            rw [← hhd] at kt
            have HHD : Hid (hd1 = hadS S oo kk) := hhd
            generalize ((soO S oo).bind (fun x => getS x kk)).getD zDe = D at *
            obtain ⟨dv, ds, df⟩ := D
            unfold stV deV at kt
            simp only at kt
            rw [show (SV.mk oa ol oc).val = .slice oa ol oc from rfl, show (SV.mk ta tl tc).val = .slice ta tl tc from rfl] at kt
            clear hl7 hx7 hhd
            go_wp2_with fail
            refine kt.mono ?_
            rintro e w8 ⟨rfl, hb8⟩
            obtain ⟨w9, hw9⟩ : ∃ w9, w9 = w8.alloc (.cells #[.int .u64 dv, .int .u64 ds, .int .i64 df] 35) := ⟨_, rfl⟩
            have hb9 : Below wv.heap.size wv w9 := by rw [hw9]; exact bel_sm (bel_sm HB7.out hb8) ((Below.refl _ _).alloc (Nat.le_refl _) _)
            have HB9 := (show Hid _ from hb9)
            clear kt hb8 hb9 r0 r1 g1 g3
            go_upto_region 20 with fail
            rw [← hw9]
            clear hw9
            obtain ⟨hl9, ⟨r0, r1⟩, hx9⟩ := HT.out w9 HB9.out
            have hcq : ∀ j, w9.cell? ⟨bq, j, none⟩ = _ := fun j => cell_of_row w9 bq j _ _ (0, 0) hx9
            have g0 := hcq 0
            have g1 := hcq 1
            have g2 := hcq 2
            have g3 := hcq 3
            have g4 := hcq 4
            have g5 := hcq 5
            have g6 := hcq 6
            have g7 := hcq 7
            have g8 := hcq 8
            simp only [List.getElem?_toArray, List.getElem?_cons_zero, List.getElem?_cons_succ] at g0 g1 g2 g3 g4 g5 g6 g7 g8
            have ks := hl9.step2 (HT2.out w9 HB9.out) HBS.out HN5.out _ HOP.out.1 HOP.out.2
            rw [hx9] at ks
            have HSG : Hid (∀ ts', RelG (stepH H ⟨kd, oo, op, kk, ⟨va, se, fl⟩, on, ⟨wa, wc, wl⟩⟩) (stepS S ⟨kd, oo, op, kk, ⟨va, se, fl⟩, on, ⟨wa, wc, wl⟩⟩) ts' → (Gd (stepH H ⟨kd, oo, op, kk, ⟨va, se, fl⟩, on, ⟨wa, wc, wl⟩⟩) ∧ Gk (stepH H ⟨kd, oo, op, kk, ⟨va, se, fl⟩, on, ⟨wa, wc, wl⟩⟩) p g) ∧ ((ob1 = false ∨ kd = 0 ∨ kd = 6 ∨ kd = 7 ∨ kd = 8 ∨ kd = 9) → Ce.validD (stepH H ⟨kd, oo, op, kk, ⟨va, se, fl⟩, on, ⟨wa, wc, wl⟩⟩).C g = v0) ∧ (ob1 = true → (kd = 1 ∨ (kd = 2 ∧ hd1 = true) ∨ (kd = 3 ∧ ¬ prS (stepS S ⟨kd, oo, op, kk, ⟨va, se, fl⟩, on, ⟨wa, wc, wl⟩⟩) oo = pa)) → Ce.validD (stepH H ⟨kd, oo, op, kk, ⟨va, se, fl⟩, on, ⟨wa, wc, wl⟩⟩).C g = false)) := fun ts' hr => by
              have k1 := guard_says2 HG.out.1 hl9.ord.inv HG.out.2 hl9.ord.rel ⟨kd, oo, op, kk, ⟨va, se, fl⟩, on, ⟨wa, wc, wl⟩⟩ hr
              have k2 := step_gd HG.out.1 hl9.ord.inv ⟨kd, oo, op, kk, ⟨va, se, fl⟩, on, ⟨wa, wc, wl⟩⟩
              rw [HOB.out, HV0.out, HHD.out, HPA.out]
              exact ⟨⟨k2.1, HG.out.2.kept HG.out.1 k2.2⟩, k1.1, k1.2⟩
            unfold stV OpL.val OpL.cells at ks
            rw [show (SV.mk oa ol oc).val = .slice oa ol oc from rfl, show (SV.mk ta tl tc).val = .slice ta tl tc from rfl] at ks
            unfold Sli.val at ks
            simp only at ks
            have HSZ : Hid (0 ≤ oo ∧ oo < 18446744073709551616) := ⟨HOP.out.1.o0, HOP.out.1.o1⟩
            generalize hH2 : stepH H ⟨kd, oo, op, kk, ⟨va, se, fl⟩, on, ⟨wa, wc, wl⟩⟩ = H3 at *
            generalize hS2 : stepS S ⟨kd, oo, op, kk, ⟨va, se, fl⟩, on, ⟨wa, wc, wl⟩⟩ = S3 at *
            generalize stepT ts ⟨kd, oo, op, kk, ⟨va, se, fl⟩, on, ⟨wa, wc, wl⟩⟩ = ts3 at *
            clear hl9 hx9 hcq HT HT2 HG HOP HOB HV0 HHD HPA HB6 HB7 HB9 hH2 hS2 HN5 HBS
            go_wp2_with fail
            refine ks.mono ?_
            rintro e w5 ⟨⟨za, zl, zc⟩, ⟨ua, ul, uc⟩, rfl, bx5, hl5, hxb⟩
            obtain ⟨m0, m1⟩ := bx5.ce
            obtain ⟨n0, n1⟩ := bx5.fz
            rw [show (SV.mk oa ol oc).val = .slice oa ol oc from rfl] at m0
            rw [show (SV.mk ta tl tc).val = .slice ta tl tc from rfl] at m1
            rw [show (SV.mk za zl zc).val = .slice za zl zc from rfl, show (SV.mk ua ul uc).val = .slice ua ul uc from rfl] at hl5 hxb ⊢
            have HX := (show Hid _ from And.intro hl5 hxb)
            clear hl5 hxb bx5 ks g0 g1 g2 g3 g4 g5 g6 g7 g8 r0 r1
            go_upto_region 21 with fail
            clear m0 m1 n0 n1
            generalize ((w5.setCell ⟨bs, 0, none⟩ (.slice za zl zc)).setCell ⟨bs, 1, none⟩ (.slice ua ul uc)) = w6' at *
            obtain ⟨hl6, hx6⟩ := HX.out
            obtain ⟨⟨hgd, hgk⟩, hquiet, hhits⟩ := HSG.out _ hl6.ord.rel
            have HGK : Hid (Gd H3 ∧ Gk H3 p g) := ⟨hgd, hgk⟩
            have kv := fun W (z : Below w6'.heap.size w6' W) => valid'_e (hl6.two.below z) g
            have kp := rproto'_e hl6.two oo HSZ.out.1 HSZ.out.2
            generalize Ce.validD H3.C g = v1 at *
            generalize prS S3 oo = pb at *
            unfold stV at kp
            rw [show (SV.mk za zl zc).val = .slice za zl zc from rfl, show (SV.mk ua ul uc).val = .slice ua ul uc from rfl] at kp
            obtain ⟨r0, r1⟩ := hl6.box.ce
            rw [show (SV.mk za zl zc).val = .slice za zl zc from rfl] at r0
            rw [show (SV.mk ua ul uc).val = .slice ua ul uc from rfl] at r1
            have g0 := cell_of_row w6' bq 0 _ _ (0, 0) hx6
            have g1 := cell_of_row w6' bq 1 _ _ (0, 0) hx6
            simp only [List.getElem?_toArray, List.getElem?_cons_zero, List.getElem?_cons_succ] at g0 g1
            have HL6 := (show Hid _ from hl6)
            have HQU := (show Hid _ from hquiet)
            have HHI := (show Hid _ from hhits)
            have HX6 : Hid (∀ W, Below w6'.heap.size w6' W → W.cell? ⟨bq, 0, none⟩ = some (.int .i64 kd)) := fun W z => cells_below z _ _ g0
            clear HX HSG hl6 hx6 hgd hgk hquiet hhits
            generalize w6' = wd at *
            go_cut [19] from 86 to 112 (fun hv wx => ∃ h : Bool, hv = .bool h ∧ (h = true → v1 = false) ∧ Hid (Below wd.heap.size wd wx))
            case first =>
              clear kv HGK
              rcases bool_two' ob1 with hob | hob
              · subst hob
                by_cases k1 : kd = 1
                · subst k1
                  have hv : v1 = false := HHI.out rfl (Or.inl rfl)
                  clear kp HQU HHI
                  go_wp2_with fail
                  go_meet
                  exact ⟨true, rfl, fun _ => hv, Below.refl _ _⟩
                by_cases k2 : kd = 2
                · subst k2
                  rcases bool_two' hd1 with hh | hh
                  · subst hh
                    have hv : v1 = false := HHI.out rfl (Or.inr (Or.inl ⟨rfl, rfl⟩))
                    clear kp HQU HHI
                    go_wp2_with fail
                    go_meet
                    exact ⟨true, rfl, fun _ => hv, Below.refl _ _⟩
                  · subst hh
                    clear kp HQU HHI
                    go_wp2_with fail
                    go_meet
                    exact ⟨false, rfl, fun e => (by cases e), Below.refl _ _⟩
                by_cases k3 : kd = 3
                · subst k3
                  by_cases hpp : pb = pa
                  · subst hpp
                    have hpe : (pb != pb) = false := by simp
                    clear HQU HHI
                    go_wp2_with fail
                    refine kp.mono ?_
                    rintro e wz ⟨rfl, hbz⟩
                    have HBZ := (show Hid _ from hbz)
                    clear kp hbz r0 r1 g1 g0
                    go_wp2_with fail
                    go_meet
                    exact ⟨false, by first | rfl | (rw [hpe]), fun e => (by cases e), HBZ.out⟩
                  · have hpn : (pb != pa) = true := bne_iff_ne.mpr hpp
                    have hpd : (pb == pa) = false := by rw [beq_eq_false_iff_ne]; exact hpp
                    have hv : v1 = false := HHI.out rfl (Or.inr (Or.inr ⟨rfl, hpp⟩))
                    clear HQU HHI hpp
                    go_wp2_with fail
                    refine kp.mono ?_
                    rintro e wz ⟨rfl, hbz⟩
                    have HBZ := (show Hid _ from hbz)
                    clear kp hbz r0 r1 g1 g0
                    go_wp2_with fail
                    go_meet
                    exact ⟨_, rfl, fun _ => hv, HBZ.out⟩
                · have z1 : (kd == 1) = false := by rw [beq_eq_false_iff_ne]; exact k1
                  have z2 : (kd == 2) = false := by rw [beq_eq_false_iff_ne]; exact k2
                  have z3 : (kd == 3) = false := by rw [beq_eq_false_iff_ne]; exact k3
                  clear kp HQU HHI k1 k2 k3
                  go_wp2_with fail
                  go_meet
                  exact ⟨false, rfl, fun e => (by cases e), Below.refl _ _⟩
              · subst hob
                clear kp HQU HHI
                go_wp2_with fail
                go_meet
                exact ⟨false, rfl, fun e => (by cases e), Below.refl _ _⟩
            case rest =>
              obtain ⟨h, rfl, hh1, HBC⟩ := hcut
              clear kp r0 r1 g0 g1 HHI
              have g0 := HX6.out wc HBC.out
              have kvc := kv wc HBC.out
              have HLC := (show Hid _ from HL6.out.below HBC.out)
              clear kv HX6 HL6 HBC
              generalize wc = we at *
              go_upto_region 22 with fail
              go_cut [20] from 113 to 139 (fun qv wx => wx = we ∧ ∃ q : Bool, qv = .bool q ∧ (q = true → v1 = v0))
              case first =>
                by_cases k0 : kd = 0
                · subst k0
                  have hv : v1 = v0 := HQU.out (by omega)
                  clear HQU kvc
                  go_wp2_with fail
                  go_meet
                  exact ⟨rfl, true, rfl, fun _ => hv⟩
                by_cases k6 : kd = 6
                · subst k6
                  have hv : v1 = v0 := HQU.out (by omega)
                  clear HQU kvc k0
                  go_wp2_with fail
                  go_meet
                  exact ⟨rfl, true, rfl, fun _ => hv⟩
                by_cases k7 : kd = 7
                · subst k7
                  have hv : v1 = v0 := HQU.out (by omega)
                  clear HQU kvc k0 k6
                  go_wp2_with fail
                  go_meet
                  exact ⟨rfl, true, rfl, fun _ => hv⟩
                by_cases k8 : kd = 8
                · subst k8
                  have hv : v1 = v0 := HQU.out (by omega)
                  clear HQU kvc k0 k6 k7
                  go_wp2_with fail
                  go_meet
                  exact ⟨rfl, true, rfl, fun _ => hv⟩
                by_cases k9 : kd = 9
                · subst k9
                  have hv : v1 = v0 := HQU.out (by omega)
                  clear HQU kvc k0 k6 k7 k8
                  go_wp2_with fail
                  go_meet
                  exact ⟨rfl, true, rfl, fun _ => hv⟩
                have z0 : (kd == 0) = false := by rw [beq_eq_false_iff_ne]; exact k0
                have z6 : (kd == 6) = false := by rw [beq_eq_false_iff_ne]; exact k6
                have z7 : (kd == 7) = false := by rw [beq_eq_false_iff_ne]; exact k7
                have z8 : (kd == 8) = false := by rw [beq_eq_false_iff_ne]; exact k8
                have z9 : (kd == 9) = false := by rw [beq_eq_false_iff_ne]; exact k9
                rcases bool_two' ob1 with hob | hob
                · subst hob
                  clear HQU kvc k0 k6 k7 k8 k9
                  go_wp2_with fail
                  go_meet
                  exact ⟨rfl, false, rfl, fun e => (by cases e)⟩
                · subst hob
                  have hv : v1 = v0 := HQU.out (Or.inl rfl)
                  clear HQU kvc k0 k6 k7 k8 k9
                  go_wp2_with fail
                  go_meet
                  exact ⟨rfl, true, rfl, fun _ => hv⟩
              case rest =>
                obtain ⟨rfl, q, rfl, hq1⟩ := hcut
                rcases bool_two' h with hh | hh
                · subst hh
                  have hv := hh1 rfl
                  subst hv
                  rcases bool_two' q with hq | hq
                  · subst hq
                    have hv0 := hq1 rfl
                    clear hh1 hq1 HQU g0
                    subst hv0
                    go_wp2_with fail
                    refine kvc.mono ?_
                    rintro e wz ⟨rfl, rfl⟩
                    go_wp2_with fail
                    refine kvc.mono ?_
                    rintro e wz ⟨rfl, rfl⟩
                    clear kvc
                    go_wp2_with fail
                    refine ⟨⟨j + 1, _, _, ⟨za, zl, zc⟩, ⟨ua, ul, uc⟩, _, ⟨HJ.out, ⟨HLC.out, HGK.out.1, HGK.out.2⟩⟩, by go_num⟩, ?_⟩
                    have := HJ.out
                    simp [intOf]
                    omega
                  · subst hq
                    clear hh1 hq1 HQU g0
                    go_wp2_with fail
                    refine kvc.mono ?_
                    rintro e wz ⟨rfl, rfl⟩
                    clear kvc
                    go_wp2_with fail
                    refine ⟨⟨j + 1, _, _, ⟨za, zl, zc⟩, ⟨ua, ul, uc⟩, _, ⟨HJ.out, ⟨HLC.out, HGK.out.1, HGK.out.2⟩⟩, by go_num⟩, ?_⟩
                    have := HJ.out
                    simp [intOf]
                    omega
                · subst hh
                  rcases bool_two' q with hq | hq
                  · subst hq
                    have hv0 := hq1 rfl
                    clear hh1 hq1 HQU g0
                    subst hv0
                    go_wp2_with fail
                    refine kvc.mono ?_
                    rintro e wz ⟨rfl, rfl⟩
                    clear kvc
                    go_wp2_with fail
                    refine ⟨⟨j + 1, _, _, ⟨za, zl, zc⟩, ⟨ua, ul, uc⟩, _, ⟨HJ.out, ⟨HLC.out, HGK.out.1, HGK.out.2⟩⟩, by go_num⟩, ?_⟩
                    have := HJ.out
                    simp [intOf]
                    omega
                  · subst hq
                    clear hh1 hq1 HQU g0 kvc
                    go_wp2_with fail
                    refine ⟨⟨j + 1, _, _, ⟨za, zl, zc⟩, ⟨ua, ul, uc⟩, _, ⟨HJ.out, ⟨HLC.out, HGK.out.1, HGK.out.2⟩⟩, by go_num⟩, ?_⟩
                    have := HJ.out
                    simp [intOf]
                    omega
          · have hil : ¬ (j : Int) < mx.length := by omega
            have HE := (show Hid _ from HL.out.1.two.bel)
            clear HL
            go_wp2_with fail
            go_ret
            exact ⟨rfl, HE.out⟩
end Go.Proofs.YtkpdpdllbnihgaaGreat.Hp
