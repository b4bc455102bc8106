/- How many shapes there are at most. -/
import Derived.Test.YtiliffnflamkjaaQJ
namespace Go.Proofs.Ytiliffnflamkjaa.Sp
set_option linter.unusedVariables false

def Fits (most : Int) (L : List Sh) (i : Nat) : Prop := most ≤ top ∨ (L.length ≤ i * (i + 1) ∧ ∀ s ∈ L, s.ks.length ≤ i)

theorem Fits.room {most : Int} {L : List Sh} {i : Nat} (h : Fits most L i) (hi : i ≤ 1048576) : Room most L := by
  rcases h with h | ⟨h1, h2⟩
  · exact Or.inl h
  · have h3 : i * (i + 1) ≤ 1048576 * 1048577 := Nat.mul_le_mul hi (by omega)
    refine Or.inr ⟨by unfold top; omega, fun s hs => ?_⟩
    have := h2 s hs
    unfold top
    omega

theorem lay_keys {most : Int} {L : List Sh} {s : Sh} {K : Nat} (hL : ∀ s ∈ L, s.ks.length ≤ K) (hs : s.ks.length ≤ K) : ∀ x ∈ (layD most L s).1, x.ks.length ≤ K := by
  unfold layD
  cases hit L s with
  | some i => exact hL
  | none =>
    simp only
    split
    · exact hL
    · intro x hx
      simp only [List.mem_append, List.mem_singleton] at hx
      rcases hx with hx | hx
      · exact hL x hx
      · rw [hx]; exact hs

theorem mov_fits {most : Int} {L : List Sh} {S : Sh} {R : List Sh × Int × Bool} {n K : Nat} (hf : Fine S n) (hSK : S.ks.length ≤ K) : ∀ (d i : Nat) (r : List Sh × Int × Bool), S.ks.length - i = d → MvP most L S R i r → (∃ T, Rel T r.1) → (∀ s ∈ r.1, s.ks.length ≤ K) → R.1.length ≤ L.length + 1 + S.ks.length ∧ ∀ s ∈ R.1, s.ks.length ≤ K := by
  intro d
  induction d with
  | zero =>
    intro i r hd h hT hk
    have hi : i = S.ks.length := by have := h.le; omega
    have e : R = r := by
      rw [h.val, List.drop_eq_nil_of_le (by rw [List.length_zip]; omega)]
      rfl
    rw [e]
    exact ⟨by have := h.len; omega, hk⟩
  | succ d ih =>
    intro i r hd h hT hk
    cases ho : r.2.2 with
    | false =>
      have e : R = r := by rw [h.val]; exact mov_stop _ _ _ ho
      rw [e]
      exact ⟨by have := h.len; have := h.le; omega, hk⟩
    | true =>
      have hil : i < S.ks.length := by omega
      obtain ⟨m, q, h1, h2, h3⟩ := h.yes ho
      obtain ⟨T, hT⟩ := hT
      have e1 := List.getElem?_eq_getElem hil
      have e2 := List.getElem?_eq_getElem (show i < S.fs.length by rw [hf.fl]; exact hil)
      obtain ⟨n1, n2⟩ := h.next hf hT ho h1 h2 h3 e1 e2
      refine ih (i + 1) _ (by omega) n2 (rel_lay hT (pair_grow h2 n1 _) most) (lay_keys hk ?_)
      show (q.ks ++ [S.ks[i]]).length ≤ K
      rw [h3, List.length_append, List.length_take, List.length_singleton]
      omega

theorem sh_mem {L : List Sh} {n : Int} {s : Sh} (h : shOf L n = some s) : s ∈ L := by
  unfold shOf at h
  split at h
  · exact List.mem_of_getElem? h
  · cases h

theorem Fits.next {T : List Ly} {most : Int} {L : List Sh} {i : Nat} (hT : Rel T L) (h : Fits most L i) (o : Cl) : Fits most (opD most L o).1 (i + 1) := by
  rcases h with h | ⟨h1, h2⟩
  · exact Or.inl h
  · have hm : i * (i + 1) + (i + 1) ≤ (i + 1) * (i + 1 + 1) := by
      rw [Nat.add_mul, Nat.mul_add i (i + 1) 1]
      omega
    have h2' : ∀ s ∈ L, s.ks.length ≤ i + 1 := fun s hs => Nat.le_succ_of_le (h2 s hs)
    have one : ∀ s : Sh, s.ks.length ≤ i + 1 → (layD most L s).1.length ≤ (i + 1) * (i + 1 + 1) ∧ ∀ x ∈ (layD most L s).1, x.ks.length ≤ i + 1 := fun s hs => ⟨by have := (lay_len most L s).1; omega, lay_keys h2' hs⟩
    have same : L.length ≤ (i + 1) * (i + 1 + 1) ∧ ∀ x ∈ L, x.ks.length ≤ i + 1 := ⟨by omega, h2'⟩
    refine Or.inr ?_
    unfold opD
    split
    · exact one _ (by simp)
    split
    · unfold addD
      cases hs : shOf L o.sh with
      | none => exact same
      | some s =>
        simp only
        cases idx s.ks o.ke with
        | some j => exact same
        | none => exact one _ (by have := h2 s (sh_mem hs); simp [grow]; omega)
    split
    · unfold changeD
      cases hs : shOf L o.sh with
      | none => exact same
      | some s =>
        simp only
        cases idx s.ks o.ke with
        | none => exact same
        | some j =>
          simp only
          split
          · exact same
          · exact one _ (by have := h2 s (sh_mem hs); simp [chg]; omega)
    split
    · unfold moveD
      cases hs : shOf L o.sh with
      | none => exact same
      | some s =>
        simp only
        have hsm := sh_mem hs
        obtain ⟨j, hj⟩ := List.mem_iff_getElem?.1 hsm
        have hk := h2 s hsm
        have := mov_fits (K := i + 1) (hT.fin hj) (by omega) _ 0 _ rfl (MvP.start s o.pr hT) (rel_lay (l := ⟨0, o.pr, 0, ByteArray.empty, 0, 0, 0⟩) hT (Or.inl ⟨rfl, rfl⟩) most) (lay_keys h2' (by simp))
        exact ⟨by have := this.1; omega, this.2⟩
    · exact same

theorem Fits.start (most : Int) : Fits most [] 0 := Or.inr ⟨by simp, fun s hs => by simp at hs⟩

end Go.Proofs.Ytiliffnflamkjaa.Sp
