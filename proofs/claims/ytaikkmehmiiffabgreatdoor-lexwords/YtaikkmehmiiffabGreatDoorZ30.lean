/- The document's Kept, of a word that is kept. -/
import Derived.Test.YtaikkmehmiiffabGreatDoorZ19
import Derived.Test.YtaikkmehmiiffabGreatDoorLW
namespace Go.Proofs.YtaikkmehmiiffabGreatDoor.Lx
open Go.RowKit
set_option linter.unusedVariables false

def keptV : Array Value := (keptL.map fun t => Value.string (bs t)).toArray

theorem words_any (w : World) : Calls Tryz.prog 11 #[] w fun e w' => e = .returned (.slice (some ⟨w.heap.size, 0, none⟩) 26 26) ∧ w' = w.alloc (.cells keptV 9) := by
  go_enter Tryz.func11, Tryz.ntmps11
  go_wp2_with fail
  go_ret
  exact ⟨rfl, rfl⟩

theorem keptV_at (k : Nat) (t : List UInt8) (h : keptL[k]? = some t) : keptV[k]? = some (.string (bs t)) := by
  unfold keptV
  simp [h]

set_option maxRecDepth 100000 in
theorem kept_yes (T : List UInt8) (j : Nat) (hj : keptL[j]? = some T) (hne : ∀ i, i < j → ∀ u, keptL[i]? = some u → u ≠ T) (w : World) :
    Calls Tryz.prog 6 #[.string (bs T)] w fun e w' => e = .returned (.bool true) ∧ Below w.heap.size w w' := by
  have cw := words_any w
  have hrow := heap_alloc_new w (.cells keptV 9)
  have B1 := (Below.refl w.heap.size w).alloc (Nat.le_refl _) (.cells keptV 9)
  have j26 : j < 26 := by
    rcases Nat.lt_or_ge j 26 with k | k
    · exact k
    · rw [List.getElem?_eq_none (by exact k)] at hj
      exact absurd hj (by simp)
  generalize w.alloc (.cells keptV 9) = w1 at *
  have H1 : Hid (∀ i t, keptL[i]? = some t → w1.cell? ⟨w.heap.size, i, none⟩ = some (.string (bs t))) := by
    intro i t hi
    rw [cell_of_row w1 w.heap.size i keptV 9 (0, 0) hrow]
    exact keptV_at i t hi
  have H2 : Hid (keptL[j]? = some T ∧ ∀ i, i < j → ∀ u, keptL[i]? = some u → u ≠ T) := ⟨hj, hne⟩
  clear hrow hj hne
  go_enter Tryz.func6, Tryz.ntmps6
  go_wp2_with fail
  refine cw.mono ?_
  rintro e w2 ⟨rfl, rfl⟩
  go_wp2_with fail
  go_loopw [4] (fun i wr => ∃ k : Nat, k ≤ j ∧ i = .int .i64 k ∧ wr = w2) (fun i wr => 26 - (intOf i).toNat)
  case atStart => exact ⟨0, Nat.zero_le _, rfl, rfl⟩
  case round =>
    obtain ⟨k, hk, rfl, rfl⟩ := hrel
    rcases Nat.lt_or_eq_of_le hk with c | c
    · obtain ⟨u, hu⟩ : ∃ u, keptL[k]? = some u := ⟨_, List.getElem?_eq_getElem (by show k < 26; omega)⟩
      have hc := H1.out k u hu
      have hn := H2.out.2 k c u hu
      have hb : ((bs u).toList == (bs T).toList) = false := by
        rw [bs_toList, bs_toList]
        simpa using hn
      clear hu hn
      generalize bs u = U at *
      generalize bs T = TT at *
      go_wp2_with fail
      refine ⟨⟨k + 1, by omega, by go_num, by first | rfl | trivial⟩, ?_⟩
      simp [intOf]
      omega
    · subst c
      have hc := H1.out k T H2.out.1
      generalize bs T = TT at *
      go_wp2_with fail
      go_ret
      exact ⟨rfl, B1⟩

theorem first_at (L : List (List UInt8)) (T : List UInt8) (h : T ∈ L) : ∃ j : Nat, L[j]? = some T ∧ ∀ i, i < j → ∀ u, L[i]? = some u → u ≠ T := by
  induction L with
  | nil => simp at h
  | cons a r ih =>
    by_cases e : a = T
    · exact ⟨0, by simp [e], fun i hi => absurd hi (by omega)⟩
    · have h' : T ∈ r := by
        rcases List.mem_cons.1 h with rfl | h'
        · exact absurd rfl e
        · exact h'
      obtain ⟨j, h1, h2⟩ := ih h'
      refine ⟨j + 1, by simpa using h1, ?_⟩
      intro i hi u hu
      cases i with
      | zero =>
        simp at hu
        rw [← hu]
        exact e
      | succ i => exact h2 i (by omega) u (by simpa using hu)

theorem kept_mem (T : List UInt8) (h : T ∈ keptL) (w : World) : Calls Tryz.prog 6 #[.string (bs T)] w fun e w' => e = .returned (.bool true) ∧ Below w.heap.size w w' := by
  obtain ⟨j, h1, h2⟩ := first_at keptL T h
  exact kept_yes T j h1 h2 w

end Go.Proofs.YtaikkmehmiiffabGreatDoor.Lx
