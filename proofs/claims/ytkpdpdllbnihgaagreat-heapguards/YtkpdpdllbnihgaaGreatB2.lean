/- PA, PB -/
import Derived.Below
import Derived.Test.YtkpdpdllbnihgaaGreatB1
import Derived.WalkKit
import Derived.WalkSpells
import Derived.WalkLawsBesides
import Derived.BigQuiet
import Derived.Laws.Rows
import Derived.Laws.AppendOwn
import Derived.Maps.OwnSet
import Derived.DeepKeys5
import Derived.Deep.AppendLies
import Derived.Deep.RegionHeldLaw
import Derived.Deep.RegionLaw
set_option linter.unusedVariables false
set_option linter.unusedSimpArgs false
set_option maxRecDepth 100000
set_option maxHeartbeats 40000000
/- Shapes, plain: a tree as the document has it, and the layouts of the program. -/
namespace Go.Proofs.YtkpdpdllbnihgaaGreat.Sp
/-- a shape of the document: its prototype, keys, flags, and the steps that led to it -/
structure Sh where
  pr : Int
  ks : List ByteArray
  fs : List Int
  st : List (Bool × ByteArray × Int)
/-- a layout of the program -/
structure Ly where
  kd : Nat
  pr : Int
  fr : Nat
  ke : ByteArray
  fl : Int
  sl : Nat
  sz : Nat
def hit (L : List Sh) (s : Sh) : Option Nat := L.findIdx? (fun x => decide (x.pr = s.pr ∧ x.st = s.st))
def layD (most : Int) (L : List Sh) (s : Sh) : List Sh × Int × Bool :=
  match hit L s with
  | some i => (L, (i : Int), true)
  | none => if most ≤ L.length then (L, 0, false) else (L ++ [s], (L.length : Int), true)
def shOf (L : List Sh) (n : Int) : Option Sh := if 0 ≤ n then L[n.toNat]? else none
def idx (ks : List ByteArray) (k : ByteArray) : Option Nat := ks.findIdx? (fun x => decide (x = k))
def grow (s : Sh) (k : ByteArray) (f : Int) : Sh := ⟨s.pr, s.ks ++ [k], s.fs ++ [f], s.st ++ [(false, k, f)]⟩
def chg (s : Sh) (i : Nat) (k : ByteArray) (f : Int) : Sh := ⟨s.pr, s.ks, s.fs.set i f, s.st ++ [(true, k, f)]⟩
def rootD (most : Int) (L : List Sh) (p : Int) : List Sh × Int × Bool := layD most L ⟨p, [], [], []⟩
def addD (most : Int) (L : List Sh) (n : Int) (k : ByteArray) (f : Int) : List Sh × Int × Bool :=
  match shOf L n with
  | none => (L, 0, false)
  | some s => match idx s.ks k with
    | some _ => (L, 0, false)
    | none => layD most L (grow s k f)
def changeD (most : Int) (L : List Sh) (n : Int) (k : ByteArray) (f : Int) : List Sh × Int × Bool :=
  match shOf L n with
  | none => (L, 0, false)
  | some s => match idx s.ks k with
    | none => (L, 0, false)
    | some i => if s.fs[i]? = some f then (L, n, true) else layD most L (chg s i k f)
def movD (most : Int) : List (ByteArray × Int) → List Sh × Int × Bool → List Sh × Int × Bool
  | [], r => r
  | x :: l, r => if r.2.2 then movD most l (addD most r.1 r.2.1 x.1 x.2) else r
def moveD (most : Int) (L : List Sh) (n : Int) (p : Int) : List Sh × Int × Bool :=
  match shOf L n with
  | none => (L, 0, false)
  | some s => movD most (s.ks.zip s.fs) (rootD most L p)
/-- a layout and a shape that came about alike, from one of the first n -/
def Pair (L : List Sh) (n : Nat) (l : Ly) (s : Sh) : Prop :=
  (l = ⟨0, s.pr, 0, ByteArray.empty, 0, 0, 0⟩ ∧ s = ⟨s.pr, [], [], []⟩) ∨
  (∃ q, l.fr < n ∧ L[l.fr]? = some q ∧ l.kd = 1 ∧ l.pr = q.pr ∧ l.sl = q.ks.length ∧ l.sz = q.ks.length + 1 ∧ idx q.ks l.ke = none ∧ s = grow q l.ke l.fl) ∨
  (∃ q, l.fr < n ∧ L[l.fr]? = some q ∧ l.kd = 2 ∧ l.pr = q.pr ∧ idx q.ks l.ke = some l.sl ∧ l.sz = q.ks.length ∧ s = chg q l.sl l.ke l.fl)
structure Rel (T : List Ly) (L : List Sh) : Prop where
  len : T.length = L.length
  pair : ∀ (i : Nat) (l : Ly) (s : Sh), T[i]? = some l → L[i]? = some s → Pair L i l s
  once : ∀ (i j : Nat) (a b : Sh), L[i]? = some a → L[j]? = some b → a.pr = b.pr → a.st = b.st → i = j
theorem idx_some {ks : List ByteArray} {k : ByteArray} {i : Nat} (h : idx ks k = some i) : ks[i]? = some k ∧ ∀ j, j < i → ks[j]? ≠ some k := by
  unfold idx at h
  rw [List.findIdx?_eq_some_iff_getElem] at h
  obtain ⟨h1, h2, h3⟩ := h
  refine ⟨by rw [List.getElem?_eq_getElem h1]; simpa using h2, fun j hj e => ?_⟩
  have := h3 j hj
  rw [List.getElem?_eq_getElem (by omega)] at e
  simp at this
  exact this (Option.some.inj e)
theorem idx_none {ks : List ByteArray} {k : ByteArray} (h : idx ks k = none) : ∀ j : Nat, ks[j]? ≠ some k := by
  intro j e
  unfold idx at h
  rw [List.findIdx?_eq_none_iff] at h
  have := h k (List.mem_of_getElem? e)
  simp at this
theorem idx_of {ks : List ByteArray} {k : ByteArray} {i : Nat} (h1 : ks[i]? = some k) (h2 : ∀ j, j < i → ks[j]? ≠ some k) : idx ks k = some i := by
  cases h : idx ks k with
  | none => exact absurd h1 (idx_none h i)
  | some j =>
    obtain ⟨a, b⟩ := idx_some h
    rcases Nat.lt_trichotomy i j with c | c | c
    · exact absurd h1 (b i c)
    · rw [c]
    · exact absurd a (h2 j c)
theorem idx_no {ks : List ByteArray} {k : ByteArray} (h : ∀ j : Nat, ks[j]? ≠ some k) : idx ks k = none := by
  cases e : idx ks k with
  | none => rfl
  | some j => exact absurd (idx_some e).1 (h j)
theorem idx_lt {ks : List ByteArray} {k : ByteArray} {i : Nat} (h : idx ks k = some i) : i < ks.length := by
  have := (idx_some h).1
  exact (List.getElem?_eq_some_iff.1 this).1
/-- a key more behind the others -/
theorem idx_push (ks : List ByteArray) (x k : ByteArray) : idx (ks ++ [x]) k = match idx ks k with
    | some i => some i
    | none => if x = k then some ks.length else none := by
  cases h : idx ks k with
  | some i =>
    obtain ⟨a, b⟩ := idx_some h
    have hl := idx_lt h
    refine idx_of (by rw [List.getElem?_append_left hl]; exact a) (fun j hj => by rw [List.getElem?_append_left (by omega)]; exact b j hj)
  | none =>
    have hn := idx_none h
    simp only
    split
    · rename_i e
      subst e
      refine idx_of (by rw [List.getElem?_append_right (Nat.le_refl _)]; simp) (fun j hj => by rw [List.getElem?_append_left hj]; exact hn j)
    · rename_i e
      refine idx_no (fun j hj => ?_)
      rcases Nat.lt_or_ge j ks.length with c | c
      · rw [List.getElem?_append_left c] at hj
        exact hn j hj
      · rw [List.getElem?_append_right c, List.getElem?_singleton] at hj
        split at hj
        · exact e (Option.some.inj hj)
        · cases hj
/-- what every shape of a tree is -/
structure Fine (s : Sh) (n : Nat) : Prop where
  fl : s.fs.length = s.ks.length
  kl : s.ks.length ≤ n
  sl : s.st.length ≤ n
  own : ∀ (j : Nat) (k : ByteArray), s.ks[j]? = some k → idx s.ks k = some j
theorem pair_fine {L : List Sh} {n : Nat} {l : Ly} {s : Sh} (h : Pair L n l s) (ih : ∀ j q, j < n → L[j]? = some q → Fine q j) : Fine s n ∧ l.sz = s.ks.length := by
  rcases h with ⟨rfl, h2⟩ | ⟨q, h1, h2, _, _, _, hz, h5, rfl⟩ | ⟨q, h1, h2, _, _, h5, hz, rfl⟩
  · rw [h2]
    exact ⟨⟨rfl, Nat.zero_le _, Nat.zero_le _, fun j k h => by simp at h⟩, rfl⟩
  · obtain ⟨a, b, c, d⟩ := ih _ _ h1 h2
    refine ⟨⟨by simp [grow, a], by simp [grow]; omega, by simp [grow]; omega, ?_⟩, by simp [grow, hz]⟩
    intro j k h
    unfold grow at h ⊢
    simp only at h ⊢
    rw [idx_push]
    rcases Nat.lt_or_ge j q.ks.length with e | e
    · rw [List.getElem?_append_left e] at h
      rw [d j k h]
    · rw [List.getElem?_append_right e, List.getElem?_singleton] at h
      split at h
      · have : l.ke = k := Option.some.inj h
        subst this
        rw [h5]
        simp
        omega
      · cases h
  · obtain ⟨a, b, c, d⟩ := ih _ _ h1 h2
    refine ⟨⟨by simp [chg, a], by simp only [chg]; omega, by simp [chg]; omega, d⟩, by simp [chg, hz]⟩
theorem Rel.fine {T : List Ly} {L : List Sh} (h : Rel T L) : ∀ n j s, j < n → L[j]? = some s → Fine s j
  | 0, j, s, hj, _ => by omega
  | n + 1, j, s, hj, hs => by
    have hl : j < T.length := by rw [h.len]; exact (List.getElem?_eq_some_iff.1 hs).1
    have hp := h.pair j _ s (List.getElem?_eq_getElem hl) hs
    exact (pair_fine hp (fun i q hi hq => Rel.fine h n i q (by omega) hq)).1
theorem Rel.fin {T : List Ly} {L : List Sh} (h : Rel T L) {j : Nat} {s : Sh} (hs : L[j]? = some s) : Fine s j := h.fine (j + 1) j s (by omega) hs
theorem Rel.at' {T : List Ly} {L : List Sh} (h : Rel T L) {j : Nat} {s : Sh} (hs : L[j]? = some s) : ∃ l, T[j]? = some l ∧ Pair L j l s ∧ l.sz = s.ks.length ∧ j < T.length := by
  have hl : j < T.length := by rw [h.len]; exact (List.getElem?_eq_some_iff.1 hs).1
  have hp := h.pair j _ s (List.getElem?_eq_getElem hl) hs
  exact ⟨_, List.getElem?_eq_getElem hl, hp, (pair_fine hp (fun i q _ hq => h.fin hq)).2, hl⟩
/-- one step -/
def sameStep (x l : Ly) : Prop := x.kd = l.kd ∧ x.pr = l.pr ∧ x.fr = l.fr ∧ x.ke = l.ke ∧ x.fl = l.fl
theorem step_iff {T : List Ly} {L : List Sh} (h : Rel T L) {l : Ly} {s : Sh} {n : Nat} (hn : n ≤ L.length) (hp : Pair L n l s) {i : Nat} {x : Ly} {y : Sh} (hx : T[i]? = some x) (hy : L[i]? = some y) :
    (sameStep x l ↔ (y.pr = s.pr ∧ y.st = s.st)) ∧ (sameStep x l → y = s) := by
  have hq := h.pair i x y hx hy
  rcases hq with ⟨rfl, e2⟩ | ⟨q', a1, a2, a3, a4, a5, a6, a7, a8⟩ | ⟨q', a1, a2, a3, a4, a5, a6, a8⟩ <;>
    rcases hp with ⟨rfl, g2⟩ | ⟨q, b1, b2, b3, b4, b5, b6, b7, b8⟩ | ⟨q, b1, b2, b3, b4, b5, b6, b8⟩
  · rw [e2, g2]
    refine ⟨⟨fun e => ⟨e.2.1, rfl⟩, fun e => ⟨rfl, e.1, rfl, rfl, rfl⟩⟩, fun e => ?_⟩
    have := e.2.1
    simp only at this
    rw [this]
  · refine ⟨⟨fun e => ?_, fun e => ?_⟩, fun e => ?_⟩
    · have := e.1; simp only at this; omega
    · have := e.2; rw [e2, b8] at this; simp [grow] at this
    · have := e.1; simp only at this; omega
  · refine ⟨⟨fun e => ?_, fun e => ?_⟩, fun e => ?_⟩
    · have := e.1; simp only at this; omega
    · have := e.2; rw [e2, b8] at this; simp [chg] at this
    · have := e.1; simp only at this; omega
  · refine ⟨⟨fun e => ?_, fun e => ?_⟩, fun e => ?_⟩
    · have := e.1; simp only at this; omega
    · have := e.2; rw [g2, a8] at this; simp [grow] at this
    · have := e.1; simp only at this; omega
  · have key : sameStep x l → y = s := fun ⟨e1, e2, e3, e4, e5⟩ => by
      rw [e3, b2] at a2
      cases a2
      rw [a8, b8, e4, e5]
    refine ⟨⟨fun e => by rw [key e]; exact ⟨rfl, rfl⟩, fun e => ?_⟩, key⟩
    obtain ⟨f1, f2⟩ := e
    rw [a8, b8] at f1 f2
    simp only [grow] at f1 f2
    obtain ⟨c1, c2⟩ := List.append_inj' f2 rfl
    have c3 := h.once _ _ _ _ a2 b2 f1 c1
    simp at c2
    exact ⟨by omega, by rw [a4, b4, f1], c3, c2.1, c2.2⟩
  · refine ⟨⟨fun e => ?_, fun e => ?_⟩, fun e => ?_⟩
    · have := e.1; omega
    · have := e.2; rw [a8, b8] at this
      simp only [grow, chg] at this
      have := (List.append_inj' this rfl).2
      simp at this
    · have := e.1; omega
  · refine ⟨⟨fun e => ?_, fun e => ?_⟩, fun e => ?_⟩
    · have := e.1; simp only at this; omega
    · have := e.2; rw [g2, a8] at this; simp [chg] at this
    · have := e.1; simp only at this; omega
  · refine ⟨⟨fun e => ?_, fun e => ?_⟩, fun e => ?_⟩
    · have := e.1; omega
    · have := e.2; rw [a8, b8] at this
      simp only [grow, chg] at this
      have := (List.append_inj' this rfl).2
      simp at this
    · have := e.1; omega
  · have key : sameStep x l → y = s := fun ⟨e1, e2, e3, e4, e5⟩ => by
      rw [e3, b2] at a2
      cases a2
      rw [e4, b5] at a5
      rw [a8, b8, e4, e5, Option.some.inj a5]
    refine ⟨⟨fun e => by rw [key e]; exact ⟨rfl, rfl⟩, fun e => ?_⟩, key⟩
    obtain ⟨f1, f2⟩ := e
    rw [a8, b8] at f1 f2
    simp only [chg] at f1 f2
    obtain ⟨c1, c2⟩ := List.append_inj' f2 rfl
    have c3 := h.once _ _ _ _ a2 b2 f1 c1
    simp at c2
    exact ⟨by omega, by rw [a4, b4, f1], c3, c2.1, c2.2⟩
theorem hit_some {L : List Sh} {s : Sh} {i : Nat} (h : hit L s = some i) : ∃ y, L[i]? = some y ∧ y.pr = s.pr ∧ y.st = s.st ∧ ∀ j z, j < i → L[j]? = some z → ¬ (z.pr = s.pr ∧ z.st = s.st) := by
  unfold hit at h
  rw [List.findIdx?_eq_some_iff_getElem] at h
  obtain ⟨h1, h2, h3⟩ := h
  have h2' := of_decide_eq_true h2
  refine ⟨_, List.getElem?_eq_getElem h1, h2'.1, h2'.2, fun j z hj hz => ?_⟩
  have h4 := h3 j hj
  have hz' := (List.getElem?_eq_some_iff.1 hz)
  obtain ⟨k1, k2⟩ := hz'
  rw [k2] at h4
  intro e
  exact h4 (decide_eq_true e)
theorem hit_none {L : List Sh} {s : Sh} (h : hit L s = none) : ∀ (j : Nat) (z : Sh), L[j]? = some z → ¬ (z.pr = s.pr ∧ z.st = s.st) := by
  intro j z hz e
  unfold hit at h
  rw [List.findIdx?_eq_none_iff] at h
  have := h z (List.mem_of_getElem? hz)
  exact absurd e (of_decide_eq_false this)
theorem pair_mono {L : List Sh} {n : Nat} {l : Ly} {s : Sh} (h : Pair L n l s) (R : List Sh) (hn : n ≤ L.length) : Pair (L ++ R) n l s := by
  rcases h with h | ⟨q, h1, h2, h3⟩ | ⟨q, h1, h2, h3⟩
  · exact Or.inl h
  · exact Or.inr (Or.inl ⟨q, h1, by rw [List.getElem?_append_left (by omega)]; exact h2, h3⟩)
  · exact Or.inr (Or.inr ⟨q, h1, by rw [List.getElem?_append_left (by omega)]; exact h2, h3⟩)
theorem rel_push {T : List Ly} {L : List Sh} (h : Rel T L) {l : Ly} {s : Sh} (hp : Pair L L.length l s) (hh : hit L s = none) : Rel (T ++ [l]) (L ++ [s]) := by
  have hl := h.len
  have hn := hit_none hh
  refine ⟨by simp [hl], fun i x y hx hy => ?_, fun i j a b ha hb e1 e2 => ?_⟩
  · rcases Nat.lt_or_ge i L.length with c | c
    · rw [List.getElem?_append_left (by omega)] at hx hy
      exact pair_mono (h.pair i x y hx hy) _ (by omega)
    · rw [List.getElem?_append_right (by omega), List.getElem?_singleton] at hx hy
      split at hy
      · rw [if_pos (by omega)] at hx
        cases hx
        cases hy
        have : i = L.length := by omega
        subst this
        exact pair_mono hp _ (Nat.le_refl _)
      · cases hy
  · rcases Nat.lt_or_ge i L.length with c | c <;> rcases Nat.lt_or_ge j L.length with d | d
    · rw [List.getElem?_append_left (by omega)] at ha hb
      exact h.once i j a b ha hb e1 e2
    · rw [List.getElem?_append_left (by omega)] at ha
      rw [List.getElem?_append_right (by omega), List.getElem?_singleton] at hb
      split at hb
      · cases hb
        exact absurd ⟨e1, e2⟩ (hn i a ha)
      · cases hb
    · rw [List.getElem?_append_left (by omega)] at hb
      rw [List.getElem?_append_right (by omega), List.getElem?_singleton] at ha
      split at ha
      · cases ha
        exact absurd ⟨e1.symm, e2.symm⟩ (hn j b hb)
      · cases ha
    · rw [List.getElem?_append_right (by omega), List.getElem?_singleton] at ha hb
      split at ha
      · split at hb
        · omega
        · cases hb
      · cases ha
/-- a step back, looking for a key -/
theorem find_step {T : List Ly} {L : List Sh} (h : Rel T L) {j : Nat} {x : Ly} {y : Sh} (hx : T[j]? = some x) (hy : L[j]? = some y) (k : ByteArray) :
    (x.kd = 0 ∧ idx y.ks k = none) ∨ (x.kd ≠ 0 ∧ x.ke = k ∧ idx y.ks k = some x.sl ∧ y.fs[x.sl]? = some x.fl) ∨
    (x.kd ≠ 0 ∧ x.ke ≠ k ∧ ∃ q, x.fr < j ∧ L[x.fr]? = some q ∧ idx y.ks k = idx q.ks k ∧ ∀ i, idx y.ks k = some i → y.fs[i]? = q.fs[i]?) := by
  rcases h.pair j x y hx hy with ⟨rfl, e2⟩ | ⟨q', a1, a2, a3, a4, a5, a6, a7, a8⟩ | ⟨q', a1, a2, a3, a4, a5, a6, a8⟩
  · refine Or.inl ⟨rfl, ?_⟩
    rw [e2]
    rfl
  · have fq := h.fin a2
    refine Or.inr ?_
    by_cases c : x.ke = k
    · refine Or.inl ⟨by omega, c, ?_, ?_⟩
      · rw [a8]
        simp only [grow]
        rw [idx_push, ← c, a7, a5]
        simp
      · rw [a8, a5]
        simp only [grow]
        rw [List.getElem?_append_right (by rw [fq.fl]; exact Nat.le_refl _), fq.fl]
        simp
    · refine Or.inr ⟨by omega, c, q', a1, a2, ?_, ?_⟩
      · rw [a8]
        simp only [grow]
        rw [idx_push]
        cases idx q'.ks k <;> simp [c]
      · intro i hi
        rw [a8] at hi ⊢
        simp only [grow] at hi ⊢
        rw [idx_push] at hi
        cases e : idx q'.ks k with
        | none => rw [e] at hi; simp [c] at hi
        | some m =>
          rw [e] at hi
          simp at hi
          subst hi
          rw [List.getElem?_append_left (by rw [fq.fl]; exact idx_lt e)]
  · have fq := h.fin a2
    have hlt := idx_lt a5
    refine Or.inr ?_
    by_cases c : x.ke = k
    · refine Or.inl ⟨by omega, c, ?_, ?_⟩
      · rw [a8, ← c]
        exact a5
      · rw [a8]
        simp only [chg]
        rw [List.getElem?_set_self (by rw [fq.fl]; exact hlt)]
    · refine Or.inr ⟨by omega, c, q', a1, a2, by rw [a8]; rfl, ?_⟩
      intro i hi
      rw [a8] at hi ⊢
      simp only [chg] at hi ⊢
      rw [List.getElem?_set_ne]
      intro e
      subst e
      have h1 := (idx_some hi).1
      have h2 := (idx_some a5).1
      rw [h1] at h2
      exact c (Option.some.inj h2).symm
/-- a step back, gathering the keys -/
theorem prop_step {T : List Ly} {L : List Sh} (h : Rel T L) {j : Nat} {x : Ly} {y : Sh} (hx : T[j]? = some x) (hy : L[j]? = some y) :
    (x.kd = 0 ∧ y.ks = []) ∨ (x.kd ≠ 0 ∧ x.sl < y.ks.length ∧ y.ks[x.sl]? = some x.ke ∧ y.fs[x.sl]? = some x.fl ∧ ∃ q, x.fr < j ∧ L[x.fr]? = some q ∧ q.ks.length ≤ y.ks.length ∧
      ∀ i, i ≠ x.sl → y.ks[i]? = q.ks[i]? ∧ y.fs[i]? = q.fs[i]?) := by
  rcases h.pair j x y hx hy with ⟨rfl, e2⟩ | ⟨q', a1, a2, a3, a4, a5, a6, a7, a8⟩ | ⟨q', a1, a2, a3, a4, a5, a6, a8⟩
  · exact Or.inl ⟨rfl, by rw [e2]⟩
  · have fq := h.fin a2
    refine Or.inr ⟨by omega, ?_, ?_, ?_, q', a1, a2, ?_, ?_⟩
    · rw [a8, a5]; simp [grow]
    · rw [a8, a5]; simp [grow]
    · rw [a8, a5]; simp only [grow]; rw [← fq.fl]; simp
    · rw [a8]; simp [grow]
    · intro i hi
      rw [a8]
      simp only [grow]
      rcases Nat.lt_or_ge i q'.ks.length with c | c
      · rw [List.getElem?_append_left c, List.getElem?_append_left (by rw [fq.fl]; exact c)]
        exact ⟨rfl, rfl⟩
      · rw [List.getElem?_eq_none (by simp; omega), List.getElem?_eq_none (by omega), List.getElem?_eq_none (by simp; have := fq.fl; omega), List.getElem?_eq_none (by have := fq.fl; omega)]
        exact ⟨rfl, rfl⟩
  · have fq := h.fin a2
    have hlt := idx_lt a5
    refine Or.inr ⟨by omega, ?_, ?_, ?_, q', a1, a2, ?_, ?_⟩
    · rw [a8]; exact hlt
    · rw [a8]; exact (idx_some a5).1
    · rw [a8]; simp only [chg]; rw [List.getElem?_set_self (by rw [fq.fl]; exact hlt)]
    · rw [a8]; exact Nat.le_refl _
    · intro i hi
      rw [a8]
      simp only [chg]
      rw [List.getElem?_set_ne (fun e => hi e.symm)]
      first | exact ⟨rfl, rfl⟩ | simp
end Go.Proofs.YtkpdpdllbnihgaaGreat.Sp
/- The program's tree in memory: keys of its map. -/
namespace Go.Proofs.YtkpdpdllbnihgaaGreat.Sp
open Go.RowKit Go.Proofs.YtkpdpdllbnihgaaGreat.Hp
theorem laidOut : laidOutB Tryz.prog = true := by kernel_rfl
theorem key_law : WideMaps.KeyLaw Tryz.prog 133 := deep_law_gate laidOut (by decide +kernel) (by decide +kernel) (by kernel_rfl) (by kernel_rfl)
/-- the numbers of a layout are numbers of their kinds; its key is a text -/
structure Ly.wf (l : Ly) : Prop where
  kd : l.kd ≤ 2
  pr1 : 0 ≤ l.pr
  pr2 : l.pr ≤ 18446744073709551615
  fr : l.fr ≤ 1700000000000
  ke : l.ke.size ≤ maxLen
  fl1 : -9223372036854775808 ≤ l.fl
  fl2 : l.fl ≤ 9223372036854775807
  sl : l.sl ≤ 1700000000000
  sz : l.sz ≤ 1700000000000
/-- a step as a key of the map -/
def stV (l : Ly) : Value := .agg #[.int .i64 l.kd, .int .u64 l.pr, .int .i64 l.fr, .string l.ke, .int .i64 l.fl]
theorem keyType66 : Tryz.prog.keyType 133 = true := by kernel_rfl
theorem wf_i {k : Int} (h1 : -9223372036854775808 ≤ k) (h2 : k ≤ 9223372036854775807) : (Lit.int .i64 k).wf = true := by
  unfold Lit.wf
  rw [Bool.and_eq_true]
  exact ⟨decide_eq_true h1, decide_eq_true h2⟩
theorem wf_u {k : Int} (h1 : 0 ≤ k) (h2 : k ≤ 18446744073709551615) : (Lit.int .u64 k).wf = true := by
  unfold Lit.wf
  rw [Bool.and_eq_true]
  exact ⟨decide_eq_true h1, decide_eq_true h2⟩
theorem types_some : ∃ m, Tryz.prog.types.size = m + 1 := ⟨Tryz.prog.types.size - 1, by decide +kernel⟩
theorem key_lits (m : Nat) (l : Ly) (h : l.wf) : ∃ ls, Tryz.prog.keyLits (m + 2) 133 [.int .i64 l.kd, .int .u64 l.pr, .int .i64 l.fr, .string l.ke, .int .i64 l.fl] = some ls := by
  have c3 : Tryz.prog.cellsOf 3 = 1 := by kernel_rfl
  have c31 : Tryz.prog.cellsOf 32 = 1 := by kernel_rfl
  have c9 : Tryz.prog.cellsOf 9 = 1 := by kernel_rfl
  have c66 : Tryz.prog.cellsOf 133 = 5 := by kernel_rfl
  have w0 : (Lit.int .i64 (l.kd : Int)).wf = true := wf_i (by omega) (by have := h.kd; omega)
  have w1 := wf_u h.pr1 h.pr2
  have w2 : (Lit.int .i64 (l.fr : Int)).wf = true := wf_i (by omega) (by have := h.fr; omega)
  have w3 := h.ke
  have w4 := wf_i h.fl1 h.fl2
  unfold Program.keyLits
  simp [Tryz.underlying133, Program.keyLits, Tryz.underlying3, Tryz.underlying32, Tryz.underlying9, c3, c31, c9, c66, w0, w1, w2, w3, w4]
theorem key_of (l : Ly) (h : l.wf) : ∃ z, keyOf Tryz.prog 133 (stV l) = some z := by
  obtain ⟨m, hm⟩ := types_some
  obtain ⟨ls, hls⟩ := key_lits m l h
  have c66 : Tryz.prog.cellsOf 133 = 5 := by kernel_rfl
  unfold keyOf
  rw [Tryz.underlying133]
  simp only [keyType66, hm]
  unfold stV
  simp [Value.formed, Tryz.underlying133, c66, Value.cells, hls]
theorem stV_inj {x l : Ly} : stV x = stV l ↔ sameStep x l := by
  unfold stV sameStep
  simp only [Value.agg.injEq, Array.mk.injEq, List.cons.injEq, Value.int.injEq, Value.string.injEq, true_and, and_true]
  constructor <;> rintro ⟨a, b, c, d, e⟩ <;> exact ⟨by omega, b, by omega, d, e⟩
/-- the map of a tree: the number of each layout, by its step -/
def MapAt (w : World) (mb : Nat) (T : List Ly) : Prop :=
  ∃ es clock, w.heap[mb]? = some (.map es clock) ∧ es.toList.map (fun e => (e.key, e.val)) = T.zipIdx.map (fun p => (stV p.1, Value.int .i64 (p.2 : Int)))
theorem MapAt.at' {T : List Ly} {es : List MapEntry} (h : es.map (fun e => (e.key, e.val)) = T.zipIdx.map (fun p => (stV p.1, Value.int .i64 (p.2 : Int)))) (j : Nat) (e : MapEntry) (he : es[j]? = some e) :
    ∃ x, T[j]? = some x ∧ e.key = stV x ∧ e.val = .int .i64 (j : Int) := by
  have h1 := congrArg (·[j]?) h
  simp only [List.getElem?_map, he, Option.map_some, List.getElem?_zipIdx] at h1
  cases hx : T[j]? with
  | none => rw [hx] at h1; simp at h1
  | some x =>
    rw [hx] at h1
    simp at h1
    exact ⟨x, rfl, h1.1, h1.2⟩
theorem MapAt.keys {T : List Ly} {es : List MapEntry} (h : es.map (fun e => (e.key, e.val)) = T.zipIdx.map (fun p => (stV p.1, Value.int .i64 (p.2 : Int)))) (hw : ∀ x ∈ T, x.wf) : ∀ e ∈ es, ∃ l, keyOf Tryz.prog 133 e.key = some l := by
  intro e he
  obtain ⟨j, hj⟩ := List.mem_iff_getElem?.1 he
  obtain ⟨x, h1, h2, _⟩ := MapAt.at' h j e hj
  rw [h2]
  exact key_of x (hw x (List.mem_of_getElem? h1))
theorem zero3 (w : World) : (zeroValue 3).run Tryz.prog w = .ok (.int .i64 0) w := by
  obtain ⟨i, hi, hz⟩ := Option.map_eq_some_iff.1 (show (Tryz.prog.info? 3).map (fun i => i.zero) = some (some (.int .i64 0)) by kernel_rfl)
  simp [zeroValue, typeInfo, hi, hz]
/-- where a step is known, or not -/
theorem MapAt.look {w : World} {mb : Nat} {T : List Ly} (h : MapAt w mb T) (hw : ∀ x ∈ T, x.wf) (l : Ly) (hl : l.wf) :
    (((Instr.lookup 137 (.map (some mb)) (stV l) true).run Tryz.prog w = .ok (.tuple #[.int .i64 0, .bool false]) w) ∧ ∀ x ∈ T, ¬ sameStep x l) ∨
    ∃ j x, (Instr.lookup 137 (.map (some mb)) (stV l) true).run Tryz.prog w = .ok (.tuple #[.int .i64 (j : Nat), .bool true]) w ∧ T[j]? = some x ∧ sameStep x l := by
  obtain ⟨es, clock, hb, he⟩ := h
  obtain ⟨z, hz⟩ := key_of l hl
  rcases key_law.find w hz es.toList (MapAt.keys he hw) with ⟨f1, f2⟩ | ⟨j, e, f1, f2, f3⟩
  · refine Or.inl ⟨?_, fun x hx hs => ?_⟩
    · simp [Instr.lookup, run_underlying Tryz.underlying137, MapKept.run_getObj_map hb, key_law.check w _ hz, f1, Result.andThen]
    · obtain ⟨j, hj⟩ := List.mem_iff_getElem?.1 hx
      have h1 := congrArg (·[j]?) he
      simp only [List.getElem?_map, hj, Option.map_some, List.getElem?_zipIdx] at h1
      cases hq : es.toList[j]? with
      | none => rw [hq] at h1; simp at h1
      | some e =>
        rw [hq] at h1
        simp at h1
        exact f2 e (List.mem_of_getElem? hq) (by rw [h1.1]; exact stV_inj.2 hs)
  · obtain ⟨x, h1, h2, h3⟩ := MapAt.at' he j e f2
    refine Or.inr ⟨j, x, ?_, h1, stV_inj.1 (by rw [← h2, f3])⟩
    simp [Instr.lookup, run_underlying Tryz.underlying137, MapKept.run_getObj_map hb, key_law.check w _ hz, f1, h3, Result.andThen]
/-- a step more -/
theorem MapAt.put {w : World} {mb : Nat} {T : List Ly} (h : MapAt w mb T) (hw : ∀ x ∈ T, x.wf) (l : Ly) (hl : l.wf) (hn : ∀ x ∈ T, ¬ sameStep x l) :
    ∃ w', (Instr.mapUpdate 137 (.map (some mb)) (stV l) (.int .i64 (T.length : Int))).run Tryz.prog w = .ok () w' ∧ MapAt w' mb (T ++ [l]) ∧ w.grownBy w' (some mb) ∧ w'.heap.size = w.heap.size := by
  obtain ⟨es, clock, hb, he⟩ := h
  obtain ⟨z, hz⟩ := key_of l hl
  rcases key_law.find w hz es.toList (MapAt.keys he hw) with ⟨f1, f2⟩ | ⟨j, e, f1, f2, f3⟩
  · have hlen : es.toList.length = T.length := by
      have := congrArg List.length he
      simpa using this
    refine ⟨ChangeMaps.setBlock w mb (.map (es.push ⟨stV l, .int .i64 (T.length : Int), clock⟩) (clock + 1)), ?_, ⟨_, _, ChangeMaps.heap_setBlock_same hb _, ?_⟩, ⟨rfl, rfl, rfl, by simp [ChangeMaps.setBlock], fun i _ hi => ChangeMaps.heap_setBlock_other hb _ (fun e => hi (by rw [e]))⟩, by simp [ChangeMaps.setBlock]⟩
    · simp [Instr.mapUpdate, run_underlying Tryz.underlying137, MapKept.run_getObj_map hb, key_law.check w _ hz, f1, MapKept.run_setObj_map _ hb, Result.andThen, ChangeMaps.setBlock]
    · simp [he, List.zipIdx_append]
  · obtain ⟨x, h1, h2, h3⟩ := MapAt.at' he j e f2
    exact absurd (stV_inj.1 (by rw [← h2, f3])) (hn x (List.mem_of_getElem? h1))
end Go.Proofs.YtkpdpdllbnihgaaGreat.Sp
