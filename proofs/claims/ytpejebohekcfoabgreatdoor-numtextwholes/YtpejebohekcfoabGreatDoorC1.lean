/- Plain: the digits of a number, by its interval. -/
import Derived.Test.YtpejebohekcfoabGreatDoorA12
import Derived.Test.YtpejebohekcfoabGreatDoorA13
namespace Go.Proofs.YtpejebohekcfoabGreatDoor
open Go.RowKit
set_option linter.unusedVariables false

def inN (V L : Nat) (cl : Bool) : Bool := decide (V < L) || (decide (V = L) && cl)

theorem inI_cmp (V L : Nat) (cl : Bool) : inI (cmpI V L) cl = inN V L cl := by
  obtain ⟨h1, h2⟩ := cmpI_is V L
  unfold inI inN
  rw [decide_eq_decide.2 h1, decide_eq_decide.2 h2]

def upN (V T k : Nat) : Bool := decide (T < V + V) || (decide (V + V = T) && decide (k % 2 = 1))

theorem upI_cmp (V T k : Nat) : upI (cmpI (V + V) T) (48 + (k : Int)) = upN V T k := by
  obtain ⟨h1, h2⟩ := cmpI_is (V + V) T
  unfold upI upN
  have e1 : (0 < cmpI (V + V) T) ↔ T < V + V := by omega
  have e2 : ((48 + (k : Int)) % 2 = 1) ↔ k % 2 = 1 := by omega
  rw [decide_eq_decide.2 h2, decide_eq_decide.2 e1, decide_eq_decide.2 e2]

/-- the digits -/
def digsF : Nat → Nat → Nat → Nat → Nat → Bool → List Nat
  | 0, _, _, _, _, _ => []
  | f + 1, V, L, U, T, cl =>
    if inN (V * 10 % T) (L * 10) cl || inN T (V * 10 % T + U * 10) cl then
      [if !inN (V * 10 % T) (L * 10) cl || (inN T (V * 10 % T + U * 10) cl && upN (V * 10 % T) T (V * 10 / T)) then V * 10 / T + 1 else V * 10 / T]
    else (V * 10 / T) :: digsF f (V * 10 % T) (L * 10) (U * 10) T cl

theorem not_in {T S : Nat} {cl : Bool} (h : inN T S cl = false) : S ≤ T := by
  unfold inN at h
  rw [Bool.or_eq_false_iff] at h
  have := h.1
  rw [decide_eq_false_iff_not] at this
  omega

/-- a round of the digits' loop: where it stands -/
structure DigAt (F V0 L0 U0 T : Nat) (cl : Bool) (pre : List Nat) (V L U f : Nat) : Prop where
  same : pre ++ digsF f V L U T cl = digsF F V0 L0 U0 T cl
  fuel : T < U + f
  below : V + U ≤ T
  pos : 0 < U
  small : ∀ d ∈ pre, d ≤ 9

theorem DigAt.start {V L U T : Nat} {cl : Bool} (h : inN T (V + U) cl = false) (hU : 0 < U) : DigAt (T + 1) V L U T cl [] V L U (T + 1) :=
  ⟨by simp, by omega, not_in h, hU, by simp⟩

theorem DigAt.lt {F V0 L0 U0 T : Nat} {cl : Bool} {pre : List Nat} {V L U f : Nat} (h : DigAt F V0 L0 U0 T cl pre V L U f) : V < T := by
  have := h.below; have := h.pos; omega

theorem DigAt.more {F V0 L0 U0 T : Nat} {cl : Bool} {pre : List Nat} {V L U f k : Nat} (h : DigAt F V0 L0 U0 T cl pre V L U f) (hk : k * T ≤ V * 10) (hk1 : V * 10 - k * T < T)
    (hd : inN (V * 10 - k * T) (L * 10) cl = false) (hu : inN T (V * 10 - k * T + U * 10) cl = false) :
    ∃ f', DigAt F V0 L0 U0 T cl (pre ++ [k]) (V * 10 - k * T) (L * 10) (U * 10) f' ∧ T - U * 10 < T - U := by
  have hb := h.below; have hp := h.pos; have hf := h.fuel; have hl := h.lt
  obtain ⟨f, rfl⟩ : ∃ g, f = g + 1 := ⟨f - 1, by omega⟩
  have ek : V * 10 / T = k := by
    refine Nat.div_eq_of_lt_le (by rw [Nat.mul_comm]; rw [Nat.mul_comm] at hk; omega) ?_
    rw [Nat.succ_mul]; omega
  have em : V * 10 % T = V * 10 - k * T := by
    have := Nat.div_add_mod (V * 10) T
    rw [ek, Nat.mul_comm] at this; omega
  have hn := not_in hu
  have k9 : k ≤ 9 := by
    rcases Nat.lt_or_ge k 10 with c | c
    · omega
    · have := Nat.mul_le_mul_right T c; omega
  refine ⟨f, ⟨?_, by omega, by omega, by omega, ?_⟩, by omega⟩
  · rw [← h.same]
    conv => rhs; rw [digsF]
    rw [em, ek, hd, hu]
    simp
  · intro d hd
    rcases List.mem_append.1 hd with c | c
    · exact h.small d c
    · rw [List.mem_singleton] at c; omega

theorem DigAt.last {F V0 L0 U0 T : Nat} {cl : Bool} {pre : List Nat} {V L U f k : Nat} (h : DigAt F V0 L0 U0 T cl pre V L U f) (hk : k * T ≤ V * 10) (hk1 : V * 10 - k * T < T)
    (hd : (inN (V * 10 - k * T) (L * 10) cl || inN T (V * 10 - k * T + U * 10) cl) = true) :
    pre ++ [if !inN (V * 10 - k * T) (L * 10) cl || (inN T (V * 10 - k * T + U * 10) cl && upN (V * 10 - k * T) T k) then k + 1 else k] = digsF F V0 L0 U0 T cl := by
  have hb := h.below; have hp := h.pos; have hf := h.fuel; have hl := h.lt
  obtain ⟨f, rfl⟩ : ∃ g, f = g + 1 := ⟨f - 1, by omega⟩
  have ek : V * 10 / T = k := by
    refine Nat.div_eq_of_lt_le (by rw [Nat.mul_comm]; rw [Nat.mul_comm] at hk; omega) ?_
    rw [Nat.succ_mul]; omega
  have em : V * 10 % T = V * 10 - k * T := by
    have := Nat.div_add_mod (V * 10) T
    rw [ek, Nat.mul_comm] at this; omega
  rw [← h.same]
  conv => rhs; rw [digsF]
  rw [em, ek, if_pos hd]

end Go.Proofs.YtpejebohekcfoabGreatDoor
