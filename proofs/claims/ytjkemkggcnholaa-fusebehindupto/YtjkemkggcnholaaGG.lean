/- Plain: what holds of groups one behind the other. -/
import Derived.Test.YtjkemkggcnholaaGE
namespace Go.Proofs.Ytjkemkggcnholaa.Fu
open Go.RowKit
set_option linter.unusedVariables false

/-- what is so of a group of some code -/
structure GrpOk (cx : List Ins) (st : List Int) (g : Grp) : Prop where
  lt : g.p < cx.length
  n : g.n = (firstI (segI cx st g.p)).2
  k : g.k = (firstI (segI cx st g.p)).1

theorem from_ok (cx : List Ins) (st : List Int) : ∀ m p, cx.length - p = m → ∀ g ∈ from' cx st p, GrpOk cx st g := by
  intro m
  induction m using Nat.strongRecOn with
  | _ m ih =>
    intro p hm g hg
    rcases Nat.lt_or_ge p cx.length with c | c
    · rw [from_step cx st p c] at hg
      rcases List.mem_cons.1 hg with rfl | hg
      · exact ⟨c, rfl, rfl⟩
      · have h1 := first_pos (segI cx st p)
        exact ih _ (by omega) _ rfl g hg
    · rw [from_end cx st p c] at hg
      cases hg

theorem groups_ok (cx : List Ins) (st : List Int) : ∀ g ∈ groupsI cx st, GrpOk cx st g := by
  rw [groups_from]
  exact from_ok cx st _ 0 rfl

theorem GrpOk.three {cx : List Ins} {st : List Int} {g : Grp} (h : GrpOk cx st g) : 1 ≤ g.n ∧ g.n ≤ 3 := by
  rw [h.n]
  exact ⟨first_pos _, (first_kind _).2.2.1⟩

theorem groups_sm (cx : List Ins) (st : List Int) (hc : cx.length ≤ 17592186044416) : GrpSm (groupsI cx st) := fun g hg => by
  have h := groups_ok cx st g hg
  have := h.lt
  exact ⟨by omega, h.three.2⟩

/-- the groups up to one are those of the code ahead of it -/
theorem groups_at (cx : List Ins) (st : List Int) : ∀ i g, (groupsI cx st)[i]? = some g → (groupsI cx st).drop i = from' cx st g.p := by
  have key : ∀ i p g, (from' cx st p)[i]? = some g → (from' cx st p).drop i = from' cx st g.p := by
    intro i
    induction i with
    | zero =>
      intro p g h
      rcases Nat.lt_or_ge p cx.length with c | c
      · rw [from_step cx st p c] at h ⊢
        simp at h
        subst h
        rw [List.drop_zero]
        exact (from_step cx st p c).symm
      · rw [from_end cx st p c] at h
        simp at h
    | succ i ih =>
      intro p g h
      rcases Nat.lt_or_ge p cx.length with c | c
      · rw [from_step cx st p c] at h ⊢
        simp at h
        rw [List.drop_succ_cons]
        exact ih _ g h
      · rw [from_end cx st p c] at h
        simp at h
  intro i g h
  exact key i 0 g h

/-- a place in the code is in a group -/
theorem where_in (cx : List Ins) (st : List Int) (x : Nat) (hx : x < cx.length) : ∀ m p i, cx.length - p = m → p ≤ x →
    ∃ j g, (from' cx st p)[j]? = some g ∧ g.p ≤ x ∧ x < g.p + g.n ∧ whereF x i (from' cx st p) = (((i + j : Nat) : Int), (x : Int) - g.p, true) := by
  intro m
  induction m using Nat.strongRecOn with
  | _ m ih =>
    intro p i hm hp
    have c : p < cx.length := by omega
    have h1 := first_pos (segI cx st p)
    rw [from_step cx st p c]
    by_cases d : x < p + (firstI (segI cx st p)).2
    · refine ⟨0, _, rfl, hp, d, ?_⟩
      rw [whereF, if_pos ⟨by simp only; omega, by simp only; omega⟩]
      rfl
    · obtain ⟨j, g, e1, e2, e3, e4⟩ := ih (cx.length - (p + (firstI (segI cx st p)).2)) (by omega) (p + (firstI (segI cx st p)).2) (i + 1) rfl (by omega)
      refine ⟨j + 1, g, by simpa using e1, e2, e3, ?_⟩
      rw [whereF, if_neg (fun h => by simp only at h; omega), e4]
      rw [show i + 1 + j = i + (j + 1) by omega]

/-- no other place is -/
theorem where_out (cx : List Ins) (st : List Int) (hs : st.Pairwise (· < ·)) (x : Int) (hx : x < 0 ∨ (cx.length : Int) ≤ x) : ∀ (gs : List Grp), (∀ g ∈ gs, GrpOk cx st g) → ∀ i, whereF x i gs = (0, 0, false)
  | [], _, i => rfl
  | g :: gs, h, i => by
    have hg := h g (by simp)
    have h1 := step_in cx st g.p hs hg.lt
    have h2 := hg.n
    rw [whereF, if_neg (fun hh => by omega)]
    exact where_out cx st hs x hx gs (fun y hy => h y (by simp [hy])) (i + 1)

end Go.Proofs.Ytjkemkggcnholaa.Fu
