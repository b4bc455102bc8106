/- Cells, plain: what the document's Break comes to. -/
import Derived.Test.YtkpdpdllbnihgabCA
namespace Go.Proofs.Ytkpdpdllbnihgab.Ce
set_option linter.unusedVariables false

/-- how many valid ones below i are hit -/
def cnt (l : List Cel) (n : Nat) : Nat → Nat
  | 0 => 0
  | i + 1 => cnt l n i + (if okAt l i = true ∧ hit l n i = true then 1 else 0)

theorem cnt_low (l : List Cel) (n : Nat) : ∀ i, i ≤ n → cnt l n i = 0
  | 0, _ => rfl
  | i + 1, h => by
    rw [cnt, cnt_low l n i (by omega), if_neg]
    rintro ⟨_, q⟩
    rw [hit_low l n (i + 1) i (by omega) (by omega)] at q
    cases q

theorem hit_self (l : List Cel) (n : Nat) : hit l n n = true := by rw [hit_eq, decide_eq_true rfl, Bool.true_or]

theorem way_start {l : List Cel} {n : Nat} {c : Cel} (hc : l[n]? = some c) : Way l n (n + 1) (l.set n ⟨false, c.on⟩, 1) := by
  refine ⟨by simp, fun k d hk => ?_⟩
  by_cases e : k = n
  · subst e
    rw [hc] at hk
    cases hk
    rw [List.getElem?_set_self (List.getElem?_eq_some_iff.1 hc).1, decide_eq_true (by omega), Bool.true_and, hit_self]
    simp
  · rw [List.getElem?_set_ne (fun q => e q.symm), hk]
    congr 1
    by_cases q : k < n
    · rw [hit_low l n (k + 1) k (by omega) q, Bool.and_false, Bool.not_false, Bool.and_true]
    · rw [decide_eq_false (by omega), Bool.false_and, Bool.not_false, Bool.and_true]

theorem way_rounds {l : List Cel} (hI : Inv l) {n : Nat} : ∀ (m i : Nat) (r : List Cel × Nat), n < i → Way l n i r → r.2 = cnt l n i → Way l n (i + m) (roundsD i m r) ∧ (roundsD i m r).2 = cnt l n (i + m)
  | 0, i, r, _, h, hc => ⟨h, hc⟩
  | m + 1, i, r, hi, h, hc => by
    obtain ⟨h1, h2⟩ := way_round hI h hi
    have := way_rounds hI m (i + 1) (roundD i r) (by omega) h1 (by rw [h2, hc, cnt])
    rw [roundsD, show i + (m + 1) = i + 1 + m by omega]
    exact this

/-- Break, in one sentence: of each cell whether it stays valid; how many do not -/
theorem break_spec {l : List Cel} (hI : Inv l) {n : Nat} (hn : okAt l n = true) : (breakD l n).2 = cnt l n l.length ∧ (breakD l n).1.length = l.length ∧ ∀ (k : Nat) (c : Cel), l[k]? = some c → (breakD l n).1[k]? = some ⟨c.ok && !hit l n k, c.on⟩ := by
  have hex : ∃ c, l[n]? = some c := by
    unfold okAt at hn
    cases hc : l[n]? with
    | none => rw [hc] at hn; cases hn
    | some c => exact ⟨c, rfl⟩
  obtain ⟨c, hc⟩ := hex
  have hl := (List.getElem?_eq_some_iff.1 hc).1
  have e : breakD l n = roundsD (n + 1) (l.length - (n + 1)) (l.set n ⟨false, c.on⟩, 1) := by
    unfold breakD
    rw [if_pos ⟨by omega, by rw [Int.toNat_natCast]; exact hn⟩, Int.toNat_natCast, hc]
  rw [e]
  have h0 : (1 : Nat) = cnt l n (n + 1) := by
    rw [cnt, cnt_low l n n (Nat.le_refl _), if_pos ⟨hn, hit_self l n⟩]
  obtain ⟨h1, h2⟩ := way_rounds hI (l.length - (n + 1)) (n + 1) _ (by omega) (way_start hc) h0
  rw [show n + 1 + (l.length - (n + 1)) = l.length by omega] at h1 h2
  refine ⟨h2, h1.len, fun k d hk => ?_⟩
  rw [h1.at' k d hk, decide_eq_true (List.getElem?_eq_some_iff.1 hk).1, Bool.true_and]

theorem break_none {l : List Cel} {n : Int} (h : ¬ (0 ≤ n ∧ okAt l n.toNat = true)) : breakD l n = (l, 0) := by
  unfold breakD
  rw [if_neg h]

theorem inv_break {l : List Cel} (hI : Inv l) (n : Int) : Inv (breakD l n).1 := by
  by_cases h : 0 ≤ n ∧ okAt l n.toNat = true
  · obtain ⟨m, rfl⟩ : ∃ m : Nat, n = m := ⟨n.toNat, by omega⟩
    rw [Int.toNat_natCast] at h
    obtain ⟨_, hl, hk⟩ := break_spec hI h.2
    intro i c hc hok
    have hil : i < l.length := by rw [← hl]; exact (List.getElem?_eq_some_iff.1 hc).1
    have h1 := hk i _ (List.getElem?_eq_getElem hil)
    rw [hc] at h1
    have h2 := Option.some.inj h1
    rw [h2] at hok ⊢
    simp only [Bool.and_eq_true] at hok
    rcases hI i _ (List.getElem?_eq_getElem hil) hok.1 with q | ⟨q1, q2, q3⟩
    · exact Or.inl q
    · refine Or.inr ⟨q1, q2, ?_⟩
      have hex : ∃ d, l[(l[i]).on.toNat]? = some d := by
        unfold okAt at q3
        cases hd : l[(l[i]).on.toNat]? with
        | none => rw [hd] at q3; cases q3
        | some d => exact ⟨d, rfl⟩
      obtain ⟨d, hd⟩ := hex
      have hdk : d.ok = true := by unfold okAt at q3; rw [hd] at q3; exact q3
      unfold okAt
      simp only
      rw [hk _ d hd]
      simp only [Option.map_some, Option.getD_some, hdk, Bool.true_and]
      have hh := hok.2
      rw [hit_eq, List.getElem?_eq_getElem hil] at hh
      simp only [decide_eq_true (show 0 ≤ (l[i]).on ∧ (l[i]).on < (i : Int) from ⟨q1, q2⟩), Bool.true_and] at hh
      cases hx : hit l m (l[i]).on.toNat with
      | false => rfl
      | true => rw [hx, Bool.or_true] at hh; cases hh
  · rw [break_none h]
    exact hI

theorem inv_nil : Inv [] := fun i c h => by simp at h

end Go.Proofs.Ytkpdpdllbnihgab.Ce
