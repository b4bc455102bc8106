/- ScopeUses, plain: each function's slots are met once. -/
import Derived.Test.YtihmdcdifakepaaB23
import Derived.Test.YtihmdcdifakepaaB25
namespace Go.Proofs.Ytihmdcdifakepaa.Rv
open Go.RowKit Go.Proofs.Ytihmdcdifakepaa.Sc Go.Proofs.Ytihmdcdifakepaa.Rz
set_option linter.unusedVariables false
set_option linter.unusedSimpArgs false

/-- what ScopeUses asks -/
structure UsF (sc : List Rz.Scp) (vr : List Rz.Vr) (us : List Rz.Us) : Prop where
  par : ∀ (i : Nat) (x : Rz.Scp), sc[i]? = some x → x.parent < (i : Int) ∧ (x.parent < 0 ↔ i = 0)
  pms : ∀ (i : Nat) (x : Rz.Scp), sc[i]? = some x → x.params ≤ x.vars
  slo : ∀ (i : Nat) (x : Rz.Scp), sc[i]? = some x → (slotsOf (vr.map pr) i).Perm (List.range x.vars)
  use : ∀ u ∈ us, -1 ≤ u.var ∧ u.var < (vr.length : Int)

theorem UsF.nil : UsF [] [] [] := ⟨fun i x h => by simp at h, fun i x h => by simp at h, fun i x h => by simp at h, fun u h => by cases h⟩
theorem UsF.of {s : Rz.RS} (h : Inv s [] false) : UsF s.scopes s.vars s.uses :=
  ⟨h.par, fun i x e => h.pms i x e (Or.inr rfl), fun i x e => by
    have := h.slo i x e
    simpa using this, h.use⟩

/-- which slots were met -/
def mkB (vr : List Rz.Vr) (i m k : Nat) : List Bool := (List.range m).map (fun j => decide (j ∈ slotsOf ((vr.take k).map pr) i))

theorem mk_len (vr : List Rz.Vr) (i m k : Nat) : (mkB vr i m k).length = m := by unfold mkB; simp
theorem mk_get (vr : List Rz.Vr) (i k : Nat) {m j : Nat} (hj : j < m) : (mkB vr i m k)[j]? = some (decide (j ∈ slotsOf ((vr.take k).map pr) i)) := by
  unfold mkB
  rw [List.getElem?_map, List.getElem?_range hj]
  rfl
theorem mk_zero (vr : List Rz.Vr) (i m : Nat) : mkB vr i m 0 = List.replicate m false := by
  unfold mkB
  rw [List.take_zero, List.map_nil]
  apply List.ext_getElem
  · simp
  · intro j h1 h2
    simp [slotsOf]

theorem take_slots {vr : List Rz.Vr} {k : Nat} {v : Rz.Vr} (hv : vr[k]? = some v) (i : Nat) : slotsOf ((vr.take (k + 1)).map pr) i = slotsOf ((vr.take k).map pr) i ++ (if v.fn = i then [v.slot] else []) := by
  rw [List.take_add_one, hv]
  simp only [Option.toList_some, List.map_append, List.map_cons, List.map_nil]
  exact slots_app _ _ i

theorem mk_skip {vr : List Rz.Vr} {k : Nat} {v : Rz.Vr} (hv : vr[k]? = some v) {i : Nat} (hn : v.fn ≠ i) (m : Nat) : mkB vr i m (k + 1) = mkB vr i m k := by
  unfold mkB
  rw [take_slots hv, if_neg hn, List.append_nil]

theorem slots_split {vr : List Rz.Vr} {k : Nat} {v : Rz.Vr} (hv : vr[k]? = some v) {i : Nat} (hn : v.fn = i) : ∃ r, slotsOf (vr.map pr) i = slotsOf ((vr.take k).map pr) i ++ v.slot :: r := by
  have hk : k < vr.length := (List.getElem?_eq_some_iff.1 hv).1
  have e : vr = vr.take (k + 1) ++ vr.drop (k + 1) := (List.take_append_drop _ _).symm
  refine ⟨slotsOf ((vr.drop (k + 1)).map pr) i, ?_⟩
  have h1 : slotsOf (vr.map pr) i = slotsOf ((vr.take (k + 1)).map pr) i ++ slotsOf ((vr.drop (k + 1)).map pr) i := by
    unfold slotsOf
    rw [← List.map_append, ← List.filter_append, ← List.map_append, ← e]
  rw [h1, take_slots hv, if_pos hn, List.append_assoc]
  rfl

theorem mk_step {vr : List Rz.Vr} {k : Nat} {v : Rz.Vr} (hv : vr[k]? = some v) {i : Nat} (hn : v.fn = i) {m : Nat} (hp : (slotsOf (vr.map pr) i).Perm (List.range m)) :
    v.slot < m ∧ (mkB vr i m k)[v.slot]? = some false ∧ mkB vr i m (k + 1) = (mkB vr i m k).set v.slot true := by
  obtain ⟨r, hr⟩ := slots_split hv hn
  have hm : v.slot ∈ slotsOf (vr.map pr) i := by rw [hr]; simp
  have hlt : v.slot < m := by
    have := hp.mem_iff.1 hm
    simpa using this
  have hnd : (slotsOf (vr.map pr) i).Nodup := hp.nodup_iff.2 List.nodup_range
  have hnot : v.slot ∉ slotsOf ((vr.take k).map pr) i := by
    rw [hr] at hnd
    intro hin
    exact (List.nodup_append.1 hnd).2.2 _ hin _ (List.mem_cons_self ..) rfl
  refine ⟨hlt, ?_, ?_⟩
  · rw [mk_get _ _ _ hlt, decide_eq_false hnot]
  · apply List.ext_getElem?
    intro j
    rcases Nat.lt_or_ge j m with c | c
    · rw [mk_get _ _ _ c, List.getElem?_set, mk_get _ _ _ c, take_slots hv, if_pos hn, mk_len]
      by_cases d : v.slot = j
      · subst d
        rw [if_pos rfl, if_pos c]
        simp
      · rw [if_neg d]
        simp [Ne.symm d]
    · rw [List.getElem?_eq_none (by rw [mk_len]; omega), List.getElem?_eq_none (by rw [List.length_set, mk_len]; omega)]

theorem mk_end {vr : List Rz.Vr} {i m k : Nat} (hk : vr.length ≤ k) (hp : (slotsOf (vr.map pr) i).Perm (List.range m)) {j : Nat} (hj : j < m) : (mkB vr i m k)[j]? = some true := by
  rw [mk_get _ _ _ hj, List.take_of_length_le hk]
  have : j ∈ slotsOf (vr.map pr) i := hp.mem_iff.2 (List.mem_range.2 hj)
  rw [decide_eq_true this]

/-- a row of truths in a block -/
structure SnAt (wq : World) (sb : Nat) (bs : List Bool) (wr : World) : Prop where
  ch : Chg (fun b => b = sb) wq wr
  bx : wr.heap[sb]? = some (.cells (bs.map Value.bool).toArray 4 (0, 0))

theorem SnAt.below {wq wr wb : World} {sb : Nat} {bs : List Bool} (h : SnAt wq sb bs wr) (hb : Below wr.heap.size wr wb) : SnAt wq sb bs wb :=
  ⟨h.ch.trans (Chg.of_below hb) (fun _ _ (q : _ = sb) => q), (hb.block sb (Array.getElem?_eq_some_iff.1 h.bx).1).trans h.bx⟩
theorem SnAt.read {wq wr : World} {sb : Nat} {bs : List Bool} (h : SnAt wq sb bs wr) {j : Nat} {b : Bool} (hj : bs[j]? = some b) : wr.cell? ⟨sb, j, none⟩ = some (.bool b) ∧ wr.frozen? ⟨sb, j, none⟩ = false := by
  refine ⟨?_, frozen_of_row wr sb j _ 4 h.bx⟩
  rw [cell_of_row wr sb j _ 4 (0, 0) h.bx]
  simp [hj]
theorem SnAt.put {wq wr : World} {sb : Nat} {bs : List Bool} (h : SnAt wq sb bs wr) (j : Nat) (b : Bool) : SnAt wq sb (bs.set j b) (wr.setCell ⟨sb, j, none⟩ (.bool b)) := by
  refine ⟨h.ch.trans (Chg.set (S := fun b => b = sb) wr ⟨sb, j, none⟩ _ rfl) (fun _ _ q => q), ?_⟩
  rw [heap_setCell_same wr sb j _ 4 (.bool b) h.bx]
  simp [List.map_set]

/-- what Resolve tells of whatever tree, as ScopeUses wants it -/
def UsO (w : World) (e : Ending) (w' : World) : Prop :=
  Below w.heap.size w w' ∧ ∃ sc vr us v0 v1 v2 a c, e = .returned (.tuple #[.agg #[v0, v1, v2], .int .i64 a, .int .i64 c]) ∧ OwnR scpC 4 42 w.heap.size w' v0 sc ∧ OwnR vrC 6 45 w.heap.size w' v1 vr ∧ OwnR usC 2 47 w.heap.size w' v2 us ∧ UsF sc vr us ∧ sc.length ≤ 2000000 ∧ vr.length ≤ 2000000 ∧ us.length ≤ 2000000 ∧ (∀ x ∈ sc, x.vars ≤ 2000000) ∧ (c ≠ 0 → sc = [] ∧ vr = [] ∧ us = [])

theorem uses_resolve (w : World) (n : Nat) (t : Tr n) (hok : okT n w t) : Calls Try.prog 15 #[valT n t] w (UsO w) := by
  cases hr : rootP n t with
  | false =>
    cases n with
    | zero => exact nomatch (t : Empty)
    | succ n =>
      obtain ⟨x, sl⟩ := t
      refine (resolve_wrong w n x sl hok hr).mono ?_
      rintro e w' ⟨hb, he⟩
      exact ⟨hb, [], [], [], _, _, _, _, _, he, OwnR.nil _ _, OwnR.nil _ _, OwnR.nil _ _, UsF.nil, by simp, by simp, by simp, by simp, fun _ => ⟨rfl, rfl, rfl⟩⟩
  | true =>
    obtain ⟨u, hv, _, hok2, hr2, hsz⟩ := cut_root w n t hok hr
    rw [← hv]
    obtain ⟨x, sl⟩ := u
    refine (resolve_right w 299 x sl hok2 hr2 hsz (by omega)).mono ?_
    rintro e w' ⟨hb, he⟩
    cases hR : resolveP bi 300 ((x, sl) : Nd × Sli (Tr 299)) with
    | error er =>
      rw [hR] at he
      exact ⟨hb, [], [], [], _, _, _, _, _, he, OwnR.nil _ _, OwnR.nil _ _, OwnR.nil _ _, UsF.nil, by simp, by simp, by simp, by simp, fun _ => ⟨rfl, rfl, rfl⟩⟩
    | ok s =>
      rw [hR] at he
      obtain ⟨v0, v1, v2, rfl, r0, r1, r2, _⟩ := he
      have hcr : cr s ≤ 1 + 8 * (sl.xs.map (szT 299)).sum := by
        have := cr_block (ndR 299) (szT 299) (cr_res bi 299).1 sl.xs (startP x.pl) s hR
        have e1 : cr (startP x.pl) = 1 := rfl
        omega
      have hsum : szT 300 ((x, sl) : Nd × Sli (Tr 299)) = 1 + (sl.xs.map (szT 299)).sum := rfl
      have hc2 : cr s ≤ 1048577 := by omega
      unfold cr at hc2
      refine ⟨hb, s.scopes, s.vars, s.uses, v0, v1, v2, 0, 0, rfl, r0, r1, r2, UsF.of (uses_plain bi 300 _ s hR), by omega, by omega, by omega, fun y hy => ?_, fun h => absurd rfl h⟩
      have := le_sum (List.mem_map.2 ⟨y, hy, rfl⟩ : y.vars ∈ s.scopes.map Rz.Scp.vars)
      omega
end Go.Proofs.Ytihmdcdifakepaa.Rv
