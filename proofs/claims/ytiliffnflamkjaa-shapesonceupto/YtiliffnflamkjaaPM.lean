/- Move, New. -/
import Derived.Test.YtiliffnflamkjaaPL
namespace Go.Proofs.Ytiliffnflamkjaa.Sp
open Go.RowKit
set_option linter.unusedVariables false

theorem lay_false (most : Int) (L : List Sh) (s : Sh) (h : (layD most L s).2.2 = false) : (layD most L s).2.1 = 0 := by
  unfold layD at *
  cases e : hit L s with
  | some i => rw [e] at h; simp at h
  | none =>
    rw [e] at h
    simp only at *
    split
    · rfl
    · rename_i c
      rw [if_neg c] at h
      simp at h

theorem lay_len (most : Int) (L : List Sh) (s : Sh) : (layD most L s).1.length ≤ L.length + 1 ∧ L.length ≤ (layD most L s).1.length := by
  unfold layD
  cases hit L s with
  | some i => simp
  | none =>
    simp only
    split <;> simp

theorem lay_at {T : List Ly} {L : List Sh} (h : Rel T L) {l : Ly} {s : Sh} (hp : Pair L L.length l s) (most : Int) (ho : (layD most L s).2.2 = true) : ∃ m : Nat, (layD most L s).2.1 = (m : Int) ∧ (layD most L s).1[m]? = some s := by
  unfold layD at *
  cases e : hit L s with
  | some i =>
    obtain ⟨y, g1, g2, g3, _⟩ := hit_some e
    obtain ⟨x, k1, _⟩ := h.at' g1
    have hs := (step_iff h (Nat.le_refl _) hp k1 g1)
    have := hs.2 (hs.1.2 ⟨g2, g3⟩)
    exact ⟨i, rfl, by simp only; rw [g1, this]⟩
  | none =>
    rw [e] at ho
    simp only at *
    by_cases c : most ≤ (L.length : Int)
    · rw [if_pos c] at ho
      simp at ho
    · rw [if_neg c]
      exact ⟨L.length, rfl, by simp⟩

theorem mov_stop (most : Int) (l : List (ByteArray × Int)) (r : List Sh × Int × Bool) (h : r.2.2 = false) : movD most l r = r := by
  cases l with
  | nil => rfl
  | cons x l => rw [movD, h]; rfl

theorem add_lay {L : List Sh} {m : Nat} {q : Sh} (hq : L[m]? = some q) {k : ByteArray} (hn : idx q.ks k = none) (most : Int) (f : Int) : addD most L m k f = layD most L (grow q k f) := by
  have hs : shOf L (m : Int) = some q := by unfold shOf; rw [if_pos (by omega), Int.toNat_natCast]; exact hq
  unfold addD
  rw [hs]
  simp only
  rw [hn]

/-- on the way, at key i: r, and the shape that it comes to -/
structure MvP (most : Int) (L : List Sh) (S : Sh) (R : List Sh × Int × Bool) (i : Nat) (r : List Sh × Int × Bool) : Prop where
  le : i ≤ S.ks.length
  val : R = movD most ((S.ks.zip S.fs).drop i) r
  len : r.1.length ≤ L.length + 1 + i
  no : r.2.2 = false → r.2.1 = 0
  yes : r.2.2 = true → ∃ (m : Nat) (q : Sh), r.2.1 = (m : Int) ∧ r.1[m]? = some q ∧ q.ks = S.ks.take i

theorem zip_drop {S : Sh} {i : Nat} {k : ByteArray} {f : Int} (h1 : S.ks[i]? = some k) (h2 : S.fs[i]? = some f) : (S.ks.zip S.fs).drop i = (k, f) :: (S.ks.zip S.fs).drop (i + 1) := by
  have h3 : (S.ks.zip S.fs)[i]? = some (k, f) := List.getElem?_zip_eq_some.2 ⟨h1, h2⟩
  obtain ⟨h4, h5⟩ := List.getElem?_eq_some_iff.1 h3
  rw [List.drop_eq_getElem_cons h4, h5]

/-- a key that stands behind others is none of them -/
theorem key_new {S : Sh} {n : Nat} (hf : Fine S n) {i : Nat} {k : ByteArray} (h : S.ks[i]? = some k) : idx (S.ks.take i) k = none := by
  refine idx_no (fun j hj => ?_)
  rw [List.getElem?_take] at hj
  split at hj
  · rename_i c
    have := (idx_some (hf.own i k h)).2 j c
    exact this hj
  · cases hj

theorem MvP.next {T : List Ly} {most : Int} {L : List Sh} {S : Sh} {R r : List Sh × Int × Bool} {i n : Nat} (h : MvP most L S R i r) (hf : Fine S n) (hr : Rel T r.1) {m : Nat} {q : Sh} {k : ByteArray} {f : Int} (ho : r.2.2 = true) (hm : r.2.1 = (m : Int)) (hq : r.1[m]? = some q) (hqk : q.ks = S.ks.take i) (h1 : S.ks[i]? = some k) (h2 : S.fs[i]? = some f) :
    idx q.ks k = none ∧ MvP most L S R (i + 1) (layD most r.1 (grow q k f)) := by
  have hn : idx q.ks k = none := by rw [hqk]; exact key_new hf h1
  have hl : m < r.1.length := (List.getElem?_eq_some_iff.1 hq).1
  have hp : Pair r.1 r.1.length ⟨1, q.pr, m, k, f, q.ks.length, q.ks.length + 1⟩ (grow q k f) := Or.inr (Or.inl ⟨q, hl, hq, rfl, rfl, rfl, rfl, hn, rfl⟩)
  refine ⟨hn, ⟨(List.getElem?_eq_some_iff.1 h1).1, ?_, ?_, lay_false _ _ _, ?_⟩⟩
  · rw [h.val, zip_drop h1 h2, movD, if_pos ho, hm, add_lay hq hn]
  · have := (lay_len most r.1 (grow q k f)).1
    have := h.len
    omega
  · intro ho2
    obtain ⟨m', g1, g2⟩ := lay_at hr hp most ho2
    refine ⟨m', _, g1, g2, ?_⟩
    show q.ks ++ [k] = _
    rw [hqk, take_at _ _ _ h1]

theorem MvP.start {T : List Ly} {most : Int} {L : List Sh} (S : Sh) (p : Int) (hr : Rel T L) : MvP most L S (movD most (S.ks.zip S.fs) (rootD most L p)) 0 (rootD most L p) := by
  refine ⟨Nat.zero_le _, by rw [List.drop_zero], ?_, lay_false _ _ _, ?_⟩
  · have := (lay_len most L ⟨p, [], [], []⟩).1
    unfold rootD
    omega
  · intro ho
    obtain ⟨m, g1, g2⟩ := lay_at (l := ⟨0, p, 0, ByteArray.empty, 0, 0, 0⟩) hr (Or.inl ⟨rfl, rfl⟩) most ho
    exact ⟨m, _, g1, g2, by simp⟩

structure MvAt (w wr : World) (B tb : Nat) (O : Nat → Prop) (most : Int) (L : List Sh) (S : Sh) (R : List Sh × Int × Bool) (g i : Nat) (n : Int) (ok : Bool) : Prop where
  at' : ∃ r O', r.2.1 = n ∧ r.2.2 = ok ∧ MvP most L S R i r ∧ Tree wr B tb O' most r.1 ∧ ¬ O' g ∧ (∀ b, O' b → O b ∨ w.heap.size ≤ b)
  pr : PrAt wr g (propsOf S)
  chg : Chg O w wr

/-- the world and the tree behind a call, seen from the beginning -/
theorem MvAt.went {w wr : World} {B tb : Nat} {O : Nat → Prop} {most : Int} {L : List Sh} {S : Sh} {R : List Sh × Int × Bool} {g i : Nat} {n : Int} {ok : Bool} (h : MvAt w wr B tb O most L S R g i n ok) (he : ok = false ∨ i = S.ks.length) (hf : S.fs.length = S.ks.length) : R.2.1 = n ∧ R.2.2 = ok ∧ Went w B tb O most R.1 wr := by
  obtain ⟨r, O', h1, h2, h3, h4, h5, h6⟩ := h.at'
  have e : R = r := by
    rw [h3.val]
    rcases he with q | q
    · exact mov_stop _ _ _ (by rw [h2, q])
    · rw [List.drop_eq_nil_of_le (by rw [List.length_zip]; omega)]
      rfl
  rw [e]
  exact ⟨h1, h2, O', h4, h.chg, h6⟩

theorem MvAt.zero {w wr : World} {B tb : Nat} {O : Nat → Prop} {most : Int} {L : List Sh} {S : Sh} {R : List Sh × Int × Bool} {g i : Nat} {n : Int} (h : MvAt w wr B tb O most L S R g i n false) : n = 0 := by
  obtain ⟨r, O', h1, h2, h3, h4, h5, h6⟩ := h.at'
  rw [← h1]
  exact h3.no h2

end Go.Proofs.Ytiliffnflamkjaa.Sp
