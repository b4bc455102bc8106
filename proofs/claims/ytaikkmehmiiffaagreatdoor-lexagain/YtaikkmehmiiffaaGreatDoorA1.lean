/- Words in memory; the walk of trimmed. -/
import Derived.Test.YtaikkmehmiiffaaGreatDoorProg
import Derived.Test.YtaikkmehmiiffaaGreatDoorMN
import Derived.WalkKit
import Derived.WalkSpells
import Derived.WalkLawsBesides
import Derived.BigQuiet
namespace Go.Proofs.YtaikkmehmiiffaaGreatDoor
open Go.RowKit
set_option linter.unusedVariables false

/-- a word as a value -/
def wordV (x : Nat) : Value := .int .u64 (x : Int)

/-- v holds the words xs, in block g -/
def Holds (w : World) (v : Value) (g : Nat) (xs : List Nat) : Prop :=
  ∃ cap, v = .slice (some ⟨g, 0, none⟩) xs.length cap ∧ w.ownsRow g 29 1 (.slice (some ⟨g, 0, none⟩) xs.length cap) xs.length (xs.map wordV)

theorem owns_cell {w : World} {g n cap : Nat} {xs : List Nat} (h : w.ownsRow g 29 1 (.slice (some ⟨g, 0, none⟩) n cap) n (xs.map wordV)) {j x : Nat} (hj : xs[j]? = some x) :
    w.cell? ⟨g, j, none⟩ = some (.int .u64 (x : Int)) := by
  have hl := h.1
  have hjl : j < xs.length := (List.getElem?_eq_some_iff.1 hj).1
  rw [h.cellAt j (by simp at hl; omega), List.getElem?_map, hj]; rfl

theorem owns_bound {w : World} {g n cap : Nat} {xs : List Value} (h : w.ownsRow g 29 1 (.slice (some ⟨g, 0, none⟩) n cap) n xs) : n ≤ cap ∧ cap ≤ maxLen ∧ g < w.heap.size := by
  rcases h.2 with ⟨h', _⟩ | ⟨g', cap', cur, h', hb, hg, hnc, hcm, _⟩
  · simp at h'
  · simp only [Value.slice.injEq, Option.some.injEq, Addr.mk.injEq, and_true, true_and] at h'
    obtain ⟨rfl, rfl⟩ := h'
    exact ⟨hnc, hcm, (Array.getElem?_eq_some_iff.1 hg).1⟩

theorem owns_take {w : World} {g n cap : Nat} {xs : List Value} (h : w.ownsRow g 29 1 (.slice (some ⟨g, 0, none⟩) n cap) n xs) (k : Nat) (hk : k ≤ n) :
    w.ownsRow g 29 1 (.slice (some ⟨g, 0, none⟩) k cap) k (xs.take k) := by
  have hl := h.1
  rcases h.2 with ⟨h', _⟩ | ⟨g', cap', cur, h', hb, hg, hnc, hcm, hcs, ht⟩
  · simp at h'
  · simp only [Value.slice.injEq, Option.some.injEq, Addr.mk.injEq, and_true, true_and] at h'
    obtain ⟨rfl, rfl⟩ := h'
    refine ⟨by simp; omega, .inr ⟨g, cap, cur, rfl, Nat.le_refl _, hg, by omega, hcm, hcs, ?_⟩⟩
    rw [← ht, List.take_take]
    congr 1
    omega

/-- the same number in fewer words -/
theorem drop_top (xs : List Nat) (k : Nat) (hk : 0 < k) (hl : k ≤ xs.length) (h : wval (xs.take k) = wval xs) (h0 : xs[k - 1]? = some 0) : wval (xs.take (k - 1)) = wval xs := by
  obtain ⟨j, rfl⟩ : ∃ j, k = j + 1 := ⟨k - 1, by omega⟩
  simp only [Nat.add_sub_cancel] at h0 ⊢
  rw [wval_take_next xs j 0 h0] at h
  omega

theorem trim_done (xs : List Nat) (k : Nat) (hl : k ≤ xs.length) (fx : Fit xs) (h : wval (xs.take k) = wval xs) (ht : k = 0 ∨ ∃ x, xs[k - 1]? = some x ∧ x ≠ 0) : xs.take k = wds (wval xs) := by
  rw [← h]
  refine (wds_of _ (fit_take fx k) ?_).symm
  intro x hx
  rcases ht with rfl | ⟨y, hy, hy0⟩
  · simp at hx
  · rw [List.getLast?_eq_getElem?, List.length_take, Nat.min_eq_left hl] at hx
    have : k - 1 < k := by
      rcases Nat.eq_zero_or_pos k with h | h
      · subst h; simp at hx
      · omega
    rw [List.getElem?_take, if_pos this, hy] at hx
    simp at hx; omega

theorem holds_take {w : World} {g cap : Nat} {xs ys : List Nat} (h : w.ownsRow g 29 1 (.slice (some ⟨g, 0, none⟩) xs.length cap) xs.length (xs.map wordV)) (k : Nat) (hk : k ≤ xs.length) (he : xs.take k = ys) :
    Holds w (.slice (some ⟨g, 0, none⟩) k cap) g ys := by
  have hl : ys.length = k := by rw [← he, List.length_take, Nat.min_eq_left hk]
  refine ⟨cap, by rw [hl], ?_⟩
  have := owns_take h k hk
  rw [← List.map_take, he] at this
  rw [hl]
  exact this

theorem trimmed_any (w : World) (v : Value) (g : Nat) (xs : List Nat) (hv : Holds w v g xs) (fx : Fit xs) :
    Calls Tryz.prog 111 #[v] w fun e w' => w' = w ∧ ∃ v', e = .returned v' ∧ Holds w v' g (wds (wval xs)) := by
  obtain ⟨cap, rfl, hown⟩ := hv
  obtain ⟨b0, b1, b2⟩ := owns_bound hown
  unfold maxLen at b1
  go_enter Tryz.func111, Tryz.ntmps111
  go_wp2_with fail
  go_loop [0] (fun s => ∃ k : Nat, k ≤ xs.length ∧ s = .slice (some ⟨g, 0, none⟩) k cap ∧ wval (xs.take k) = wval xs) (fun s => match s with | .slice _ k _ => k | _ => 0)
  case atStart => exact ⟨xs.length, Nat.le_refl _, rfl, by rw [List.take_length]⟩
  case round =>
    obtain ⟨k, hk, rfl, hkv⟩ := hrel
    have HK : Hid (wval (xs.take k) = wval xs) := hkv
    clear hkv
    rcases Nat.eq_zero_or_pos k with c | c
    · subst c
      go_wp2
      go_ret
      exact ⟨rfl, _, rfl, holds_take hown 0 (by omega) (trim_done xs 0 (by omega) fx HK.out (.inl rfl))⟩
    · obtain ⟨x, hx⟩ : ∃ x, xs[k - 1]? = some x := ⟨_, List.getElem?_eq_getElem (by omega)⟩
      have hc := owns_cell hown hx
      by_cases hx0 : x = 0
      · subst hx0
        go_wp2
        refine ⟨⟨k - 1, by omega, rfl, drop_top xs k c hk HK.out hx⟩, ?_⟩
        simp only
        omega
      · go_wp2
        go_ret
        exact ⟨rfl, _, rfl, holds_take hown k hk (trim_done xs k hk fx HK.out (.inr ⟨x, hx, hx0⟩))⟩

end Go.Proofs.YtaikkmehmiiffaaGreatDoor
