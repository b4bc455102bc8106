/- LexWords and LexStrings: plain. -/
import Derived.Test.YtaikkmehmiiffabGreatDoorLP
namespace Go.Proofs.YtaikkmehmiiffabGreatDoor.Lx
set_option linter.unusedVariables false

theorem words_plain (lit : List UInt8 → Nat × Bool) (t : List UInt8) (ht : t ∈ keptL) : scanI lit (t ++ [95]) = ([⟨1, 0, t ++ [95], 0⟩, ⟨0, t.length + 1, [], 0⟩], 0, 0) := by
  simp only [keptL, List.mem_cons, List.not_mem_nil, or_false] at ht
  rcases ht with rfl | rfl | rfl | rfl | rfl | rfl | rfl | rfl | rfl | rfl | rfl | rfl | rfl | rfl | rfl | rfl | rfl | rfl | rfl | rfl | rfl | rfl | rfl | rfl | rfl | rfl
  all_goals rfl

theorem signF_kind (ts : List (List UInt8)) (l : List UInt8) : (signF ts l).1.kind ≠ 2 := by
  induction ts with
  | nil => simp [signF, zt]
  | cons t ts ih =>
    rw [signF]
    split
    · simp
    · exact ih

theorem tok_word (lit : List UInt8 → Nat × Bool) (l : List UInt8) (h : (tokI lit l).1.kind = 2) : (tokI lit l).1.text ∈ keptL := by
  unfold tokI at h ⊢
  split at h
  · rename_i c
    rw [if_pos c]
    unfold numI at h
    split at h <;> simp [zt] at h
  · rename_i c
    rw [if_neg c]
    split at h
    · rename_i c2
      rw [if_pos c2]
      unfold nameI at h ⊢
      split at h
      · simp [zt] at h
      · rename_i c3
        rw [if_neg c3]
        split at h
        · rename_i c4
          rw [if_pos c4]
          unfold keptI at c4
          simpa using c4
        · simp at h
    · rename_i c2
      rw [if_neg c2]
      split at h
      · unfold quoI at h
        split at h
        · simp [zt] at h
        · split at h
          · split at h <;> simp [zt] at h
          · simp [zt] at h
      · exact absurd h (signF_kind _ _)

theorem scanF_word (lit : List UInt8 → Nat × Bool) (k p : Nat) (l : List UInt8) (t : Tok) (ts : List Tok) (h : (scanF lit k p l).1 = t :: ts) (hk : t.kind = 2) : t.text ∈ keptL := by
  cases k with
  | zero => simp [scanF] at h
  | succ k =>
    rw [scanF] at h
    split at h
    · simp at h
    · split at h
      · simp at h
        obtain ⟨rfl, _⟩ := h
        simp at hk
      · split at h
        · simp at h
        · split at h
          · simp only [List.cons.injEq] at h
            obtain ⟨rfl, _⟩ := h
            exact tok_word lit _ hk
          · simp at h

theorem scanI_word (lit : List UInt8 → Nat × Bool) (l : List UInt8) (t : Tok) (ts : List Tok) (h : (scanI lit l).1 = t :: ts) (hk : t.kind = 2) : t.text ∈ keptL := by
  unfold scanI at h
  split at h
  · simp at h
  · split at h
    · simp at h
    · exact scanF_word lit _ _ _ t ts h hk

end Go.Proofs.YtaikkmehmiiffabGreatDoor.Lx
