/- MQ, VA, VP, VC, PI -/
import Derived.Test.YtkpdpdllbnihgaaGreatB26
import Derived.Test.YtkpdpdllbnihgaaGreatB28
import Derived.Test.YtkpdpdllbnihgaaGreatB21
import Derived.Test.YtkpdpdllbnihgaaGreatB19
import Derived.Deep.LoopGhost
import Derived.Test.YtkpdpdllbnihgaaGreatB4
import Derived.OwnWalk
set_option linter.unusedVariables false
set_option linter.unusedSimpArgs false
set_option maxRecDepth 100000
set_option maxHeartbeats 40000000
/- Put on either side: plain. -/
namespace Go.Proofs.YtkpdpdllbnihgaaGreat.Hp
open Go.RowKit
section
variable {H : He} {S : List So} {ob ob' : Ob} {x : So} {k : ByteArray} {d : De}
theorem RelO.add (h : RelO ob x) (hx : ob.kind = 1 → k ≠ lenS ∧ ixI k = none) (c : Int) (e1 : ob'.kind = ob.kind) (e2 : ob'.proto = ob.proto) (e3 : ob'.shut = ob.shut) (e4 : ob'.ps = ob.ps ++ [⟨k, c, d⟩]) (e5 : ob'.el = ob.el) (e6 : ob'.inn = ob.inn) :
    RelO ob' { x with nm := x.nm ++ [k], ds := x.ds ++ [d] } := by
  refine ⟨e1.trans h.kd, e2.trans h.pr, e3.trans h.sh, ?_, ?_, e5.trans h.el, e6.trans h.inn, fun hk p hp => ?_⟩
  · show x.nm ++ [k] = _
    rw [e4, List.map_append, h.nm]; rfl
  · show x.ds ++ [d] = _
    rw [e4, List.map_append, h.ds]; rfl
  · rw [e1] at hk
    rw [e4] at hp
    rcases List.mem_append.1 hp with q | q
    · exact h.ix hk p q
    · rw [List.mem_singleton.1 q]
      exact hx hk
theorem RelO.put (h : RelO ob x) {n : Nat} {p : Pr} (hp : ob.ps[n]? = some p) (e1 : ob'.kind = ob.kind) (e2 : ob'.proto = ob.proto) (e3 : ob'.shut = ob.shut) (e4 : ob'.ps = setD ob.ps n p d) (e5 : ob'.el = ob.el) (e6 : ob'.inn = ob.inn) :
    RelO ob' { x with ds := x.ds.set n d } := by
  refine ⟨e1.trans h.kd, e2.trans h.pr, e3.trans h.sh, ?_, ?_, e5.trans h.el, e6.trans h.inn, fun hk q hq => ?_⟩
  · show x.nm = _
    rw [e4, h.nm]
    unfold setD
    rw [List.map_set]
    apply List.ext_getElem?
    intro j
    by_cases c : n = j
    · subst c
      have hl : n < (ob.ps.map Pr.key).length := by rw [List.length_map]; exact (List.getElem?_eq_some_iff.1 hp).1
      rw [List.getElem?_set_self hl, List.getElem?_map, hp]
      rfl
    · rw [List.getElem?_set_ne c]
  · show x.ds.set n d = _
    rw [e4, h.ds]
    unfold setD
    rw [List.map_set]
  · rw [e1] at hk
    rw [e4] at hq
    unfold setD at hq
    rcases List.mem_or_eq_of_mem_set hq with r | r
    · exact h.ix hk q r
    · rw [r]
      exact h.ix hk p (List.mem_of_getElem? hp)
/-- Put does the same on either side -/
theorem RelO.putH (h : RelO ob x) (i : Nat) (hx : ob.kind = 1 → k ≠ lenS ∧ ixI k = none) (d : De) : ∃ ob', (Hp.putH H i ob k d).obs = H.obs.set i ob' ∧ RelO ob' (putS x k d) := by
  unfold Hp.putH putS
  rw [h.nm, plc_plS]
  cases hp : plc ob.ps k with
  | none =>
    simp only
    rw [← h.nm]
    split
    · exact ⟨layO (touchH H ob.cell) ob k (keptD d), rfl, h.add hx ob.next rfl rfl rfl rfl rfl rfl⟩
    · refine ⟨ob.bare k (keptD d), rfl, ?_⟩
      unfold Ob.bare Ob.plus
      split
      · split
        · exact h.add hx ob.next rfl rfl rfl rfl rfl rfl
        · exact h.add hx ob.next rfl rfl rfl rfl rfl rfl
      · split
        · exact h.add hx ob.next rfl rfl rfl rfl rfl rfl
        · exact h.add hx ob.next rfl rfl rfl rfl rfl rfl
  | some n =>
    simp only
    obtain ⟨⟨p, hn, hk⟩, _⟩ := plc_some hp
    have hpa : prAt ob.ps n = p := by unfold prAt; rw [hn]; rfl
    rw [hpa, ← h.nm]
    unfold replH
    split
    · refine ⟨_, rfl, ?_⟩
      exact h.put hn rfl rfl rfl rfl rfl rfl
    · refine ⟨_, rfl, ?_⟩
      exact h.put hn rfl rfl rfl rfl rfl rfl
end
end Go.Proofs.YtkpdpdllbnihgaaGreat.Hp
/- Valid, Shapes, Close, Slot, Write. -/
namespace Go.Proofs.YtkpdpdllbnihgaaGreat.Hp
open Go.RowKit
section
variable {w w' w1 : World} {B hb : Nat} {O S : Nat → Prop} {H H' : He} {M M' : HV} {tg : Nat → Nat}
set_option maxRecDepth 100000 in
theorem valid_heap (h : HeapAt w B hb tg H M) (n : Int) :
    Calls Tryz.prog 14 #[.pointer (some ⟨hb, 0, none⟩), .int .i64 n] w fun e w' => e = .returned (.bool (Ce.validD H.C n)) ∧ w' = w := by
  have km := made_at h
  obtain ⟨c0, c1, c2, c3, c4, c5, fz⟩ := h.box
  obtain ⟨Oc, hcs, hOc⟩ := h.prt 6
  have kv := Ce.valid_any w B M.cb Oc H.C hcs n
  generalize Ce.validD H.C n = R at *
  generalize M.cb = cb at *
  clear h hcs hOc c0 c1 c2 c3 c5 fz
  go_enter Tryz.func14, Tryz.ntmps14
  go_wp2_with fail
  refine km.mono ?_
  rintro e w2 ⟨rfl, rfl⟩
  clear km
  go_wp2_with fail
  refine kv.mono ?_
  rintro e w2 ⟨rfl, rfl⟩
  clear kv
  go_wp2_with fail
  go_ret
  exact ⟨rfl, rfl⟩
set_option maxRecDepth 100000 in
theorem shapes_heap (h : HeapAt w B hb tg H M) :
    Calls Tryz.prog 43 #[.pointer (some ⟨hb, 0, none⟩)] w fun e w' => e = .returned (.int .i64 (H.L.length : Int)) ∧ w' = w := by
  have km := made_at h
  obtain ⟨c0, c1, c2, c3, c4, c5, fz⟩ := h.box
  obtain ⟨Ot, hts, hOt⟩ := h.prt 5
  have kv := Sp.count_any w B M.tb Ot H.most H.L hts
  generalize M.tb = tb at *
  clear h hts hOt c0 c1 c2 c4 c5 fz
  go_enter Tryz.func43, Tryz.ntmps43
  go_wp2_with fail
  refine km.mono ?_
  rintro e w2 ⟨rfl, rfl⟩
  clear km
  go_wp2_with fail
  refine kv.mono ?_
  rintro e w2 ⟨rfl, rfl⟩
  clear kv
  go_wp2_with fail
  go_ret
  exact ⟨rfl, rfl⟩
def closeH (H : He) (o : Int) : He := match obI H o with
  | none => H
  | some i => match H.obs[i]? with
    | none => H
    | some ob => H.setO i { ob with shut := true }
set_option maxRecDepth 100000 in
theorem close_any (h : HeapAt w B hb tg H M) (o : Int) (o0 : 0 ≤ o) (o1 : o < 18446744073709551616) :
    Calls Tryz.prog 36 #[.pointer (some ⟨hb, 0, none⟩), .int .u64 o] w fun e w' => e = .returned (.tuple #[]) ∧ WentM w B hb tg (closeH H o) M w' := by
  cases hq : obO H o with
  | none =>
    have ka := at_miss h o o0 o1 (obO_none hq)
    have e : closeH H o = H := by unfold closeH; rw [obO_none hq]
    rw [e]
    have HW : Hid (WentM w B hb tg H M w) := WentM.same h (Below.refl _ _)
    clear h hq e
    go_enter Tryz.func36, Tryz.ntmps36
    go_wp2_with fail
    refine ka.mono ?_
    rintro e w2 ⟨rfl, rfl⟩
    clear ka
    go_wp2_with fail
    go_end0
    exact ⟨rfl, HW.out⟩
  | some ob =>
    obtain ⟨i, ho, hi⟩ := obO_some hq
    obtain ⟨g, cap, ov, hvo, hov, t4, hne, hgl, hcell, hfz, hl1, hl2, hrow⟩ := h.obj hi
    have ka := at_hit h o o0 o1 i g cap ho hvo
    have e : closeH H o = H.setO i { ob with shut := true } := by unfold closeH; rw [ho]; simp only; rw [hi]
    rw [e]
    have hwf := h.wf.ob ob (List.mem_of_getElem? hi)
    have hf := h.fld hi hov hvo { ob with shut := true } (j := 2) (u := .bool true) (by omega) rfl rfl rfl rfl ⟨hwf.kd, hwf.pr, hwf.ks, hwf.fl, hwf.nx, hwf.el, hwf.inn⟩
    have HW : Hid (WentM w B hb tg (H.setO i { ob with shut := true }) M (w.setCell ⟨g, i * 12 + 2, none⟩ (.bool true))) := HeapAt.wentF h hf.2 (fun b q => by omega) hf.1
    have d2 := hcell 2 _ rfl
    have f2 := hfz (i * 12 + 2)
    simp only at d2
    generalize H.setO i { ob with shut := true } = HN at *
    generalize ob.shut = sh at *
    clear h hi ho hvo hov t4 hne hgl hcell hfz hl1 hl2 hrow hq hwf hf e
    go_enter Tryz.func36, Tryz.ntmps36
    go_wp2_with fail
    refine ka.mono ?_
    rintro e w2 ⟨rfl, rfl⟩
    clear ka
    go_wp2_with fail
    go_end0
    exact ⟨rfl, HW.out⟩
end
end Go.Proofs.YtkpdpdllbnihgaaGreat.Hp
/- Prototypes never come round: plain. -/
namespace Go.Proofs.YtkpdpdllbnihgaaGreat.Hp
open Go.RowKit
theorem ends_mono {H : He} : ∀ (N M : Nat) (o : Int), EndsH H N o → N ≤ M → EndsH H M o
  | 0, 0, o, h, _ => h
  | 0, M + 1, o, h, _ => Or.inl h
  | N + 1, 0, o, h, hm => by omega
  | N + 1, M + 1, o, h, hm => by
    have h : obO H o = none ∨ ∃ ob, obO H o = some ob ∧ EndsH H N ob.proto := h
    rcases h with h | ⟨ob, h1, h2⟩
    · exact Or.inl h
    · exact Or.inr ⟨ob, h1, ends_mono N M ob.proto h2 (by omega)⟩
theorem abv_ends {H : He} {o : Int} : ∀ (N M : Nat) (p : Int), EndsH H N p → N ≤ M → abvF H o N p = abvF H o M p
  | 0, M, p, he, _ => by
    have he : obO H p = none := he
    rw [abv_none he, abv_none he]
  | N + 1, 0, p, _, hm => by omega
  | N + 1, M + 1, p, he, hm => by
    cases hq : obO H p with
    | none => rw [abv_none hq, abv_none hq]
    | some ob =>
      obtain ⟨g', e, h2⟩ := ends_step he hq
      obtain rfl : N = g' := by omega
      rw [abv_step hq, abv_step hq, abv_ends N M ob.proto h2 (by omega)]
/-- how many objects there are from a word on -/
def depF (H : He) : Nat → Int → Nat
  | 0, _ => 0
  | n + 1, o => match obO H o with
    | none => 0
    | some ob => 1 + depF H n ob.proto
theorem dep_none {H : He} {o : Int} (h : obO H o = none) : ∀ n, depF H n o = 0
  | 0 => rfl
  | n + 1 => by unfold depF; rw [h]
theorem dep_step {H : He} {o : Int} {n : Nat} {ob : Ob} (h : obO H o = some ob) : depF H (n + 1) o = 1 + depF H n ob.proto := by rw [depF, h]
theorem dep_ends {H : He} : ∀ (N M : Nat) (p : Int), EndsH H N p → N ≤ M → depF H N p = depF H M p
  | 0, M, p, he, _ => by
    have he : obO H p = none := he
    rw [dep_none he, dep_none he]
  | N + 1, 0, p, _, hm => by omega
  | N + 1, M + 1, p, he, hm => by
    cases hq : obO H p with
    | none => rw [dep_none hq, dep_none hq]
    | some ob =>
      obtain ⟨g', e, h2⟩ := ends_step he hq
      obtain rfl : N = g' := by omega
      rw [dep_step hq, dep_step hq, dep_ends N M ob.proto h2 (by omega)]
theorem ends_dep {H : He} : ∀ (N : Nat) (p : Int), EndsH H N p → EndsH H (depF H N p) p
  | 0, p, he => he
  | N + 1, p, he => by
    cases hq : obO H p with
    | none => rw [dep_none hq]; exact hq
    | some ob =>
      obtain ⟨g', e, h2⟩ := ends_step he hq
      obtain rfl : N = g' := by omega
      rw [dep_step hq, Nat.add_comm]
      exact Or.inr ⟨ob, hq, ends_dep N ob.proto h2⟩
/-- as many unlike places as there are below a number, at most -/
theorem few_places : ∀ (n : Nat) (l : List Nat), l.Nodup → (∀ x ∈ l, x < n) → l.length ≤ n
  | 0, [], _, _ => Nat.le_refl _
  | 0, x :: l, _, h => by have := h x (List.mem_cons_self ..); omega
  | n + 1, l, hn, h => by
    by_cases c : n ∈ l
    · have h1 := few_places n (l.erase n) (hn.erase n) (fun x hx => by
        obtain ⟨a, b⟩ := (List.Nodup.mem_erase_iff hn).1 hx
        have := h x b
        omega)
      rw [List.length_erase_of_mem c] at h1
      omega
    · have := few_places n l hn (fun x hx => by
        have := h x hx
        have hne : x ≠ n := fun e => c (e ▸ hx)
        omega)
      omega
theorem chain_ex {H : He} {M : Nat} : ∀ (N : Nat) (o : Int), N ≤ M → EndsH H N o → ∃ l : List Nat, l.length = depF H N o ∧ l.Nodup ∧ ∀ i ∈ l, ∃ ob, H.obs[i]? = some ob ∧ 1 + depF H M ob.proto ≤ depF H N o
  | 0, o, _, he => ⟨[], rfl, List.nodup_nil, fun i hi => by cases hi⟩
  | N + 1, o, hm, he => by
    cases hq : obO H o with
    | none => exact ⟨[], by rw [dep_none hq]; rfl, List.nodup_nil, fun i hi => by cases hi⟩
    | some ob =>
      obtain ⟨g', e, h2⟩ := ends_step he hq
      obtain rfl : N = g' := by omega
      obtain ⟨l, l1, l2, l3⟩ := chain_ex (M := M) N ob.proto (by omega) h2
      obtain ⟨i, ho, hi⟩ := obO_some hq
      have hd := dep_ends N M ob.proto h2 (by omega)
      rw [dep_step hq]
      refine ⟨i :: l, by rw [List.length_cons, l1]; omega, List.nodup_cons.2 ⟨fun hin => ?_, l2⟩, fun j hj => ?_⟩
      · obtain ⟨ob2, q1, q2⟩ := l3 i hin
        rw [hi] at q1
        cases q1
        omega
      · rcases List.mem_cons.1 hj with rfl | hj
        · exact ⟨ob, hi, by omega⟩
        · obtain ⟨ob2, q1, q2⟩ := l3 j hj
          exact ⟨ob2, q1, by omega⟩
/-- an end is reached within as many steps as there are objects -/
theorem ends_len {H : He} {N : Nat} {o : Int} (h : EndsH H N o) : EndsH H H.obs.length o := by
  obtain ⟨l, l1, l2, l3⟩ := chain_ex (M := N) N o (Nat.le_refl _) h
  have := few_places H.obs.length l l2 (fun i hi => by
    obtain ⟨ob, q, _⟩ := l3 i hi
    exact (List.getElem?_eq_some_iff.1 q).1)
  exact ends_mono _ _ _ (ends_dep N o h) (by omega)
/-- no row of prototypes comes round -/
def Acy (H : He) : Prop := ∀ o, EndsH H H.obs.length o
theorem setO_I (H : He) (i : Nat) (ob : Ob) (o : Int) : obI (H.setO i ob) o = obI H o := by
  unfold obI He.setO
  simp only [List.length_set]
theorem setO_at {H : He} {i : Nat} {ob' : Ob} {o : Int} (hi : i < H.obs.length) : obO (H.setO i ob') o = if obI H o = some i then some ob' else obO H o := by
  unfold obO
  rw [setO_I]
  cases hq : obI H o with
  | none => rw [if_neg (by simp)]; rfl
  | some j =>
    simp only [Option.bind_some]
    by_cases c : j = i
    · subst c
      rw [if_pos rfl]
      exact List.getElem?_set_self hi
    · rw [if_neg (by simpa using c)]
      exact List.getElem?_set_ne (fun e => c e.symm)
/-- the same prototype: the same ends -/
theorem ends_same {H H' : He} (hs : ∀ o, (obO H' o).map Ob.proto = (obO H o).map Ob.proto) : ∀ (N : Nat) (o : Int), EndsH H N o → EndsH H' N o
  | 0, o, h => by
    have h : obO H o = none := h
    have := hs o
    rw [h] at this
    show obO H' o = none
    simpa using this
  | N + 1, o, h => by
    have h : obO H o = none ∨ ∃ ob, obO H o = some ob ∧ EndsH H N ob.proto := h
    have hh := hs o
    rcases h with h | ⟨ob, h1, h2⟩
    · rw [h] at hh
      exact Or.inl (by simpa using hh)
    · rw [h1] at hh
      cases hq : obO H' o with
      | none => exact Or.inl hq
      | some ob' =>
        rw [hq] at hh
        have e : ob'.proto = ob.proto := by simpa using hh
        exact Or.inr ⟨ob', hq, by rw [e]; exact ends_same hs N ob.proto h2⟩
/-- under another prototype, which does not stand above .. -/
theorem acy_proto {H : He} {o p : Int} {i : Nat} {ob : Ob} (ha : Acy H) (ho : obI H o = some i) (hi : H.obs[i]? = some ob) (huniq : ∀ q, obI H q = some i → q = o) (hne : ¬ p = o) (hab : abvF H o H.obs.length p = false) : Acy (H.setO i { ob with proto := p }) := by
  have hil := (List.getElem?_eq_some_iff.1 hi).1
  have hp : ∀ (N : Nat) (q : Int), ¬ q = o → EndsH H N q → abvF H o N q = false → EndsH (H.setO i { ob with proto := p }) N q := by
    intro N
    induction N with
    | zero =>
      intro q hq he _
      have he : obO H q = none := he
      show obO _ q = none
      rw [setO_at hil, if_neg (fun e => hq (huniq q e))]
      exact he
    | succ N ih =>
      intro q hq he hb
      have he : obO H q = none ∨ ∃ ob, obO H q = some ob ∧ EndsH H N ob.proto := he
      rcases he with h | ⟨ob2, h1, h2⟩
      · refine Or.inl ?_
        rw [setO_at hil, if_neg (fun e => hq (huniq q e))]
        exact h
      · rw [abv_step h1] at hb
        by_cases c : ob2.proto = o
        · rw [if_pos c] at hb; cases hb
        · rw [if_neg c] at hb
          refine Or.inr ⟨ob2, ?_, ih ob2.proto c h2 hb⟩
          rw [setO_at hil, if_neg (fun e => hq (huniq q e))]
          exact h1
  have hpe := hp H.obs.length p hne (ha p) hab
  have hall : ∀ (N : Nat) (q : Int), EndsH H N q → EndsH (H.setO i { ob with proto := p }) (N + (H.obs.length + 1)) q := by
    intro N
    induction N with
    | zero =>
      intro q he
      have he : obO H q = none := he
      refine ends_mono 0 _ q ?_ (by omega)
      show obO _ q = none
      rw [setO_at hil, if_neg (fun e => by
        unfold obO at he
        rw [e] at he
        have he : H.obs[i]? = none := he
        rw [hi] at he
        cases he)]
      exact he
    | succ N ih =>
      intro q he
      have he : obO H q = none ∨ ∃ ob, obO H q = some ob ∧ EndsH H N ob.proto := he
      by_cases c : obI H q = some i
      · have : EndsH (H.setO i { ob with proto := p }) (H.obs.length + 1) q := Or.inr ⟨{ ob with proto := p }, by rw [setO_at hil, if_pos c], hpe⟩
        exact ends_mono _ _ _ this (by omega)
      · rcases he with h | ⟨ob2, h1, h2⟩
        · refine ends_mono 0 _ q ?_ (by omega)
          show obO _ q = none
          rw [setO_at hil, if_neg c]
          exact h
        · rw [show N + 1 + (H.obs.length + 1) = (N + (H.obs.length + 1)) + 1 by omega]
          refine Or.inr ⟨ob2, ?_, ih ob2.proto h2⟩
          rw [setO_at hil, if_neg c]
          exact h1
  intro q
  exact ends_len (hall _ q (ha q))
end Go.Proofs.YtkpdpdllbnihgaaGreat.Hp
/- standsAbove. -/
namespace Go.Proofs.YtkpdpdllbnihgaaGreat.Hp
open Go.RowKit
section
variable {w w' w1 : World} {B hb : Nat} {O S : Nat → Prop} {H H' : He} {M M' : HV} {tg : Nat → Nat}
/-- on the way up from p: whether o is met is told by what is left -/
structure SaAt (w W : World) (H : He) (o : Int) (R : Bool) (p : Int) (g : Nat) : Prop where
  o0 : 0 ≤ p
  o1 : p < 18446744073709551616
  same : W = w
  en : EndsH H g p
  lk : R = abvF H o g p
set_option maxRecDepth 100000 in
set_option maxHeartbeats 1000000 in
theorem above_loop (h : HeapAt w B hb tg H M) (o p : Int) (o0 : 0 ≤ o) (o1 : o < 18446744073709551616) (p0 : 0 ≤ p) (p1 : p < 18446744073709551616) (hne : ¬ p = o) {i : Nat} {ob : Ob} (ho : obI H o = some i) (hi : H.obs[i]? = some ob) (hab : ob.above = true) (N : Nat) (he : EndsH H N p) :
    Calls Tryz.prog 76 #[.pointer (some ⟨hb, 0, none⟩), .int .u64 o, .int .u64 p] w fun e w' => e = .returned (.bool (abvF H o N p)) ∧ w' = w := by
  generalize hR : abvF H o N p = R at *
  obtain ⟨g, cap, ov, hvo, hov, t4, hne2, hgl, hcell, hfz, hl1, hl2, hrow⟩ := h.obj hi
  have ka := at_hit h o o0 o1 i g cap ho hvo
  have d3 := hcell 3 _ rfl
  simp only at d3
  rw [hab] at d3
  have HS : Hid (SaAt w w H o R p N) := ⟨p0, p1, rfl, he, hR.symm⟩
  have HH : Hid (HeapAt w B hb tg H M) := h
  have hp : (p == o) = false := by simpa using hne
  have kp := fun (p' : Int) (q0 : 0 ≤ p') (q1 : p' < 18446744073709551616) => at_any h p' q0 q1
  clear h hi ho hvo hov t4 hne2 hgl hcell hfz hl1 hl2 hrow hR he hab hne
  have kq := kp p p0 p1
  go_enter Tryz.func76, Tryz.ntmps76
  go_wp2_with fail
  refine ka.mono ?_
  rintro e w2 ⟨rfl, rfl⟩
  clear ka
  go_wp2_with fail
  refine kq.mono ?_
  rintro e w2 ⟨rfl, rfl⟩
  clear kq
  go_wp2_with fail
  go_loopg [7] N (fun g s1 W0 => ∃ p', s1 = atV H M p' ∧ Hid (SaAt w2 W0 H o R p' g))
  case atStart => exact ⟨p, rfl, HS⟩
  case round =>
    clear HS
    obtain ⟨p', rfl, HL⟩ := hrel
    obtain rfl := HL.out.same
    have hl0 := HL.out.o0
    have hl1 := HL.out.o1
    cases hq : obO H p' with
    | none =>
      have HR : Hid (R = false) := by show R = _; rw [HL.out.lk]; exact abv_none hq _
      have hv : atV H M p' = .pointer none := by unfold atV; rw [obO_none hq]
      rw [hv]
      clear HL kp HH hq hv d3
      go_wp2_with fail
      go_ret
      rw [HR.out]
      exact ⟨rfl, rfl⟩
    | some ob2 =>
      obtain ⟨j, hj, hob⟩ := obO_some hq
      obtain ⟨g2, cap2, ov2, hvo2, _, _, _, _, hcell2, _⟩ := HH.out.obj hob
      have hv : atV H M p' = .pointer (some ⟨g2, j * 12, none⟩) := by unfold atV; rw [hj]; simp only [hvo2, Option.map_some]
      rw [hv]
      have d1 := hcell2 1 _ rfl
      simp only at d1
      obtain ⟨g', rfl, hen⟩ := ends_step HL.out.en hq
      have hlk := HL.out.lk
      rw [abv_step hq] at hlk
      have hpr := (HH.out.wf.ob ob2 (List.mem_of_getElem? hob)).pr
      have ka := kp ob2.proto hpr.1 hpr.2
      by_cases c : ob2.proto = o
      · rw [if_pos c] at hlk
        have HR : Hid (R = true) := hlk
        have hc : (ob2.proto == o) = true := by simpa using c
        generalize ob2.proto = q at *
        clear HL kp HH hq hv d3 hj hob hvo2 hcell2 hen hlk hpr ka c
        go_wp2_with fail
        go_ret
        rw [HR.out]
        exact ⟨rfl, rfl⟩
      · rw [if_neg c] at hlk
        have hc : (ob2.proto == o) = false := by simpa using c
        have HNX : Hid (SaAt wr wr H o R ob2.proto g') := ⟨hpr.1, hpr.2, rfl, hen, hlk⟩
        generalize ob2.proto = q at *
        clear HL hq hv d3 hj hob hvo2 hcell2 hen hlk hpr c
        go_wp2_with fail
        refine ka.mono ?_
        rintro e w3 ⟨rfl, rfl⟩
        clear ka
        go_wp2_with fail
        go_roundg g'
        case measure => omega
        case rel => exact ⟨q, rfl, HNX⟩
/-- does o stand above p, or is it p? -/
def saB (H : He) (o p : Int) : Bool := decide (p = o) || abvF H o H.obs.length p
/-- who has something below is known -/
def AbvOk (H : He) : Prop := ∀ ob ∈ H.obs, ∀ ob2, obO H ob.proto = some ob2 → ob2.above = true
theorem abv_not {H : He} {o : Int} {ob : Ob} (ha : AbvOk H) (hq : obO H o = some ob) (hb : ob.above = false) : ∀ (N : Nat) (p : Int), abvF H o N p = false
  | 0, p => rfl
  | N + 1, p => by
    cases hp : obO H p with
    | none => exact abv_none hp _
    | some ob2 =>
      rw [abv_step hp]
      by_cases c : ob2.proto = o
      · obtain ⟨i, _, hi⟩ := obO_some hp
        have := ha ob2 (List.mem_of_getElem? hi) ob (by rw [c]; exact hq)
        rw [hb] at this
        cases this
      · rw [if_neg c]
        exact abv_not ha hq hb N ob2.proto
set_option maxRecDepth 100000 in
theorem stands_any (h : HeapAt w B hb tg H M) (hac : Acy H) (hab : AbvOk H) (o p : Int) (o0 : 0 ≤ o) (o1 : o < 18446744073709551616) (p0 : 0 ≤ p) (p1 : p < 18446744073709551616) {ob : Ob} (hq : obO H o = some ob) :
    Calls Tryz.prog 76 #[.pointer (some ⟨hb, 0, none⟩), .int .u64 o, .int .u64 p] w fun e w' => e = .returned (.bool (saB H o p)) ∧ w' = w := by
  obtain ⟨i, ho, hi⟩ := obO_some hq
  by_cases c : p = o
  · have e : saB H o p = true := by unfold saB; rw [decide_eq_true c]; rfl
    rw [e]
    have hp : (p == o) = true := by simpa using c
    clear h hac hab hq ho hi e c
    go_enter Tryz.func76, Tryz.ntmps76
    go_wp2_with fail
    go_ret
    exact ⟨rfl, rfl⟩
  · have e : saB H o p = abvF H o H.obs.length p := by unfold saB; rw [decide_eq_false c]; rfl
    rw [e]
    cases hb2 : ob.above with
    | true => exact above_loop h o p o0 o1 p0 p1 c ho hi hb2 _ (hac p)
    | false =>
      rw [abv_not hab hq hb2]
      obtain ⟨g, cap, ov, hvo, hov, t4, hne2, hgl, hcell, hfz, hl1, hl2, hrow⟩ := h.obj hi
      have ka := at_hit h o o0 o1 i g cap ho hvo
      have d3 := hcell 3 _ rfl
      simp only at d3
      rw [hb2] at d3
      have hp : (p == o) = false := by simpa using c
      clear h hac hab hq ho hi e c hvo hov t4 hne2 hgl hcell hfz hl1 hl2 hrow hb2
      go_enter Tryz.func76, Tryz.ntmps76
      go_wp2_with fail
      refine ka.mono ?_
      rintro e w2 ⟨rfl, rfl⟩
      clear ka
      go_wp2_with fail
      go_ret
      exact ⟨rfl, rfl⟩
end
end Go.Proofs.YtkpdpdllbnihgaaGreat.Hp
/- Rows of properties; properties. -/
namespace Go.Proofs.YtkpdpdllbnihgaaGreat.Sp
open Go.RowKit Go.Proofs.YtkpdpdllbnihgaaGreat.Hp
structure Pr where
  ke : ByteArray
  fl : Int
  la : Bool
def prC (p : Pr) : List Value := [.string p.ke, .int .i64 p.fl, .bool p.la]
theorem prC_len (p : Pr) : (prC p).length = 3 := rfl
/-- a row of properties in a block -/
def PrAt (w : World) (g : Nat) (ps : List Pr) : Prop := ∃ cur, w.heap[g]? = some (.cells cur 156 (0, 0)) ∧ cur.toList = ps.flatMap prC
theorem flat_set : ∀ (ps : List Pr) (i : Nat) (p : Pr), i < ps.length → (((ps.flatMap prC).set (i * 3) (.string p.ke)).set (i * 3 + 1) (.int .i64 p.fl)).set (i * 3 + 2) (.bool p.la) = (ps.set i p).flatMap prC
  | [], i, p, h => by simp at h
  | x :: ps, 0, p, h => by simp [prC]
  | x :: ps, i + 1, p, h => by
    have ih := flat_set ps i p (by simpa using h)
    rw [List.set_cons_succ, List.flatMap_cons, List.flatMap_cons, ← ih]
    rw [List.set_append_right _ _ (by rw [prC_len]; omega), List.set_append_right _ _ (by rw [prC_len]; omega), List.set_append_right _ _ (by rw [prC_len]; omega), prC_len]
    rw [show (i + 1) * 3 - 3 = i * 3 by omega, show (i + 1) * 3 + 1 - 3 = i * 3 + 1 by omega, show (i + 1) * 3 + 2 - 3 = i * 3 + 2 by omega]
theorem PrAt.put {w : World} {g : Nat} {ps : List Pr} (h : PrAt w g ps) (i : Nat) (p : Pr) (hi : i < ps.length) :
    PrAt (((w.setCell ⟨g, i * 3, none⟩ (.string p.ke)).setCell ⟨g, i * 3 + 1, none⟩ (.int .i64 p.fl)).setCell ⟨g, i * 3 + 2, none⟩ (.bool p.la)) g (ps.set i p) := by
  obtain ⟨cur, h1, h2⟩ := h
  refine ⟨_, heap_setCell_same _ g _ _ 156 _ (heap_setCell_same _ g _ _ 156 _ (heap_setCell_same w g _ cur 156 _ h1)), ?_⟩
  simp only [Array.toList_setIfInBounds, h2]
  exact flat_set ps i p hi
theorem PrAt.cell {w : World} {g : Nat} {ps : List Pr} (h : PrAt w g ps) (i : Nat) (p : Pr) (hp : ps[i]? = some p) (j : Nat) (u : Value) (hu : (prC p)[j]? = some u) : w.cell? ⟨g, i * 3 + j, none⟩ = some u ∧ w.frozen? ⟨g, i * 3 + j, none⟩ = false := by
  obtain ⟨cur, h1, h2⟩ := h
  refine ⟨?_, frozen_of_row w g _ cur 156 h1⟩
  rw [cell_of_row w g _ cur 156 (0, 0) h1]
  have := flat_at prC_len ps i p hp j u hu
  rw [← h2] at this
  simpa using this
theorem PrAt.kept {w w' : World} {g : Nat} {ps : List Pr} {S : Nat → Prop} (h : PrAt w g ps) (hc : Chg S w w') (hs : ¬ S g) : PrAt w' g ps := by
  obtain ⟨cur, h1, h2⟩ := h
  exact ⟨cur, by rw [hc.block g (Array.getElem?_eq_some_iff.1 h1).1 hs]; exact h1, h2⟩
theorem PrAt.lt {w : World} {g : Nat} {ps : List Pr} (h : PrAt w g ps) : g < w.heap.size := by
  obtain ⟨cur, h1, h2⟩ := h
  exact (Array.getElem?_eq_some_iff.1 h1).1
theorem made_flat (n : Nat) : (madeCells (Value.agg #[.string ⟨#[]⟩, .int .i64 0, .bool false]).cells (n * 3)).toList = (List.replicate n (⟨⟨#[]⟩, 0, false⟩ : Pr)).flatMap prC := by
  apply List.ext_getElem?
  intro i
  have hz : (Value.agg #[.string ⟨#[]⟩, .int .i64 0, .bool false]).cells = #[.string ⟨#[]⟩, .int .i64 0, .bool false] := rfl
  rw [hz]
  rcases Nat.lt_or_ge i (n * 3) with c | c
  · have e1 : (List.replicate n (⟨⟨#[]⟩, 0, false⟩ : Pr))[i / 3]? = some ⟨⟨#[]⟩, 0, false⟩ := by rw [List.getElem?_replicate, if_pos (by omega)]
    have hi : i = i / 3 * 3 + i % 3 := by omega
    have h3 : i % 3 < 3 := Nat.mod_lt _ (by omega)
    have : (madeCells #[.string ⟨#[]⟩, .int .i64 0, .bool false] (n * 3)).toList[i]? = (prC ⟨⟨#[]⟩, 0, false⟩)[i % 3]? := by
      simp only [madeCells, Array.toList_map, Array.toList_range, List.getElem?_map, List.getElem?_range c, Option.map_some]
      show some (#[Value.string ⟨#[]⟩, .int .i64 0, .bool false][i % 3]!) = _
      generalize i % 3 = r at h3
      match r, h3 with
      | 0, _ => rfl
      | 1, _ => rfl
      | 2, _ => rfl
    rw [this]
    have hl : i % 3 < (prC ⟨⟨#[]⟩, 0, false⟩).length := h3
    have e2 := flat_at prC_len _ (i / 3) _ e1 (i % 3) _ (List.getElem?_eq_getElem hl)
    rw [← hi] at e2
    rw [e2]
    exact List.getElem?_eq_getElem hl
  · rw [List.getElem?_eq_none (by rw [Array.length_toList, size_madeCells]; exact c), List.getElem?_eq_none (by rw [flat_len prC_len, List.length_replicate]; exact c)]
theorem prAt_made {w' : World} {B g n : Nat} (h : w'.ownsRow B 156 3 (.slice (some ⟨g, 0, none⟩) n n) n (madeCells (Value.agg #[.string ⟨#[]⟩, .int .i64 0, .bool false]).cells (n * 3)).toList) : PrAt w' g (List.replicate n ⟨⟨#[]⟩, 0, false⟩) := by
  rcases h.2 with ⟨h0, _⟩ | ⟨g', cap, cur, hv, _, hg, _, _, hs, ht⟩
  · cases h0
  · cases hv
    refine ⟨cur, hg, ?_⟩
    rw [← made_flat, ← ht, List.take_of_length_le (by rw [Array.length_toList, hs]; exact Nat.le_refl _)]
/-- the properties of a shape, as they come to be known, at one of the shapes from which it came -/
structure PrInv (ps : List Pr) (y S : Sh) : Prop where
  len : ps.length = S.ks.length
  le : y.ks.length ≤ S.ks.length
  all : ∀ (i : Nat) (p : Pr), ps[i]? = some p → (p.la = true ∧ S.ks[i]? = some p.ke ∧ S.fs[i]? = some p.fl) ∨ (p.la = false ∧ y.ks[i]? = S.ks[i]? ∧ y.fs[i]? = S.fs[i]?)
theorem PrInv.start (S : Sh) : PrInv (List.replicate S.ks.length ⟨⟨#[]⟩, 0, false⟩) S S := by
  refine ⟨by simp, Nat.le_refl _, fun i p h => ?_⟩
  rw [List.getElem?_replicate] at h
  split at h
  · cases h
    exact Or.inr ⟨rfl, rfl, rfl⟩
  · cases h
/-- they are all known at the end -/
def propsOf (S : Sh) : List Pr := (S.ks.zip S.fs).map fun x => ⟨x.1, x.2, true⟩
theorem PrInv.done {ps : List Pr} {y S : Sh} (h : PrInv ps y S) (hf : S.fs.length = S.ks.length) (hy : y.ks = []) : ps = propsOf S := by
  apply List.ext_getElem?
  intro i
  unfold propsOf
  rw [List.getElem?_map]
  cases hp : ps[i]? with
  | none =>
    have : ps.length ≤ i := List.getElem?_eq_none_iff.1 hp
    rw [List.getElem?_eq_none (by rw [List.length_zip]; have := h.len; omega)]
    rfl
  | some p =>
    have hil : i < ps.length := (List.getElem?_eq_some_iff.1 hp).1
    rcases h.all i p hp with ⟨a, b, c⟩ | ⟨a, b, c⟩
    · have : (S.ks.zip S.fs)[i]? = some (p.ke, p.fl) := List.getElem?_zip_eq_some.2 ⟨b, c⟩
      rw [this]
      obtain ⟨pk, pf, pl⟩ := p
      simp only at a
      subst a
      rfl
    · rw [hy] at b
      have hil2 : i < S.ks.length := by rw [← h.len]; exact hil
      rw [List.getElem?_eq_getElem hil2] at b
      simp at b
/-- a step back -/
theorem PrInv.step {T : List Ly} {L : List Sh} (hr : Rel T L) {j : Nat} {x : Ly} {y S : Sh} (hx : T[j]? = some x) (hy : L[j]? = some y) {ps : List Pr} (h : PrInv ps y S) :
    (x.kd = 0 ∧ y.ks = []) ∨ (x.kd ≠ 0 ∧ x.sl < ps.length ∧ ∃ p q, ps[x.sl]? = some p ∧ x.fr < j ∧ L[x.fr]? = some q ∧ ((p.la = true ∧ PrInv ps q S) ∨ (p.la = false ∧ PrInv (ps.set x.sl ⟨x.ke, x.fl, true⟩) q S))) := by
  rcases prop_step hr hx hy with a | ⟨a1, a2, a3, a4, q, a5, a6, a7, a8⟩
  · exact Or.inl a
  · have hl : x.sl < ps.length := by have := h.len; have := h.le; omega
    refine Or.inr ⟨a1, hl, ps[x.sl], q, List.getElem?_eq_getElem hl, a5, a6, ?_⟩
    have hp := List.getElem?_eq_getElem hl
    generalize ps[x.sl] = p at hp
    have hle : q.ks.length ≤ S.ks.length := Nat.le_trans a7 h.le
    rcases h.all _ _ hp with ⟨b1, b2, b3⟩ | ⟨b1, b2, b3⟩
    · refine Or.inl ⟨b1, ⟨h.len, hle, fun i p' hi => ?_⟩⟩
      by_cases c : i = x.sl
      · subst c
        rw [hp] at hi
        cases hi
        exact Or.inl ⟨b1, b2, b3⟩
      · rcases h.all i p' hi with d | ⟨d1, d2, d3⟩
        · exact Or.inl d
        · exact Or.inr ⟨d1, by rw [← (a8 i c).1]; exact d2, by rw [← (a8 i c).2]; exact d3⟩
    · refine Or.inr ⟨b1, ⟨by rw [List.length_set]; exact h.len, hle, fun i p' hi => ?_⟩⟩
      by_cases c : i = x.sl
      · subst c
        rw [List.getElem?_set_self hl] at hi
        cases hi
        exact Or.inl ⟨rfl, by rw [← b2]; exact a3, by rw [← b3]; exact a4⟩
      · rw [List.getElem?_set_ne (fun e => c e.symm)] at hi
        rcases h.all i p' hi with d | ⟨d1, d2, d3⟩
        · exact Or.inl d
        · exact Or.inr ⟨d1, by rw [← (a8 i c).1]; exact d2, by rw [← (a8 i c).2]; exact d3⟩
end Go.Proofs.YtkpdpdllbnihgaaGreat.Sp
