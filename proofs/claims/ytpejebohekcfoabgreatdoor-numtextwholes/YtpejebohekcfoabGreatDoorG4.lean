/- The contract of shortest. -/
import Derived.Test.YtpejebohekcfoabGreatDoorG3
namespace Go.Proofs.YtpejebohekcfoabGreatDoor
open Go.RowKit
set_option linter.unusedVariables false

/-- how many times more ten the whole takes -/
def scF : Nat → Nat → Nat → Bool → Nat
  | 0, _, _, _ => 0
  | f + 1, T, S, cl => if inN T S cl then scF f (T * 10) S cl + 1 else 0

theorem scF_eq (S : Nat) (cl : Bool) : ∀ (j f T : Nat), inN (T * 10 ^ j) S cl = false → (∀ i < j, inN (T * 10 ^ i) S cl = true) → j < f → scF f T S cl = j := by
  intro j
  induction j with
  | zero =>
    intro f T hn al hf
    obtain ⟨f, rfl⟩ : ∃ g, f = g + 1 := ⟨f - 1, by omega⟩
    rw [Nat.pow_zero, Nat.mul_one] at hn
    rw [scF, hn]
    rfl
  | succ j ih =>
    intro f T hn al hf
    obtain ⟨f, rfl⟩ : ∃ g, f = g + 1 := ⟨f - 1, by omega⟩
    have h0 := al 0 (by omega)
    rw [Nat.pow_zero, Nat.mul_one] at h0
    have e : ∀ i, T * 10 ^ (i + 1) = T * 10 * 10 ^ i := by
      intro i; rw [Nat.pow_succ, Nat.mul_comm (10 ^ i) 10, Nat.mul_assoc]
    rw [scF, h0, if_pos rfl]
    rw [ih f (T * 10) (by rw [← e]; exact hn) (fun i hi => by rw [← e]; exact al (i + 1) (by omega)) (by omega)]

def shV (a : Nat) : Nat := 4 * arM a * 2 ^ (arX a).toNat
def shL (a : Nat) : Nat := arB a * 2 ^ (arX a).toNat
def shU (a : Nat) : Nat := 2 * 2 ^ (arX a).toNat
def shT (a : Nat) : Nat := 4 * 2 ^ (-arX a).toNat
def shC (a : Nat) : Bool := decide (arM a % 2 = 0)
def shG (a : Nat) : Int := ((bitl (shV a) : Int) - (bitl (shT a) : Int) - 1) * 78913 / 262144
def shV1 (a : Nat) : Nat := shV a * 10 ^ (-shG a).toNat
def shL1 (a : Nat) : Nat := shL a * 10 ^ (-shG a).toNat
def shU1 (a : Nat) : Nat := shU a * 10 ^ (-shG a).toNat
def shT0 (a : Nat) : Nat := shT a * 10 ^ (shG a).toNat
def shJ (a : Nat) : Nat := scF (shV1 a + shU1 a + 2) (shT0 a) (shV1 a + shU1 a) (shC a)
def shT1 (a : Nat) : Nat := shT0 a * 10 ^ shJ a
/-- the digits -/
def shD (a : Nat) : List Nat := digsF (shT1 a + 1) (shV1 a) (shL1 a) (shU1 a) (shT1 a) (shC a)
/-- the point -/
def shP (a : Nat) : Int := shG a + (shJ a : Int)

theorem two_lt {x c u K : Nat} (hx : x < 2 ^ c) (h : c + u ≤ K) : x * 2 ^ u < 2 ^ K := by
  have h1 : x * 2 ^ u < 2 ^ c * 2 ^ u := Nat.mul_lt_mul_of_pos_right hx (Nat.two_pow_pos u)
  rw [← Nat.pow_add] at h1
  exact Nat.lt_of_lt_of_le h1 (Nat.pow_le_pow_right (by decide) h)

theorem arM_bd (a : Nat) (h0 : 0 < a) : 0 < arM a ∧ arM a < 9007199254740992 := by
  unfold arM; split <;> omega

theorem arX_bd (a : Nat) (h1 : a < 9218868437227405312) : -1074 ≤ arX a ∧ arX a ≤ 971 := by
  unfold arX; split <;> omega

theorem arB_bd (a : Nat) : 0 < arB a ∧ arB a ≤ 2 := by
  unfold arB; split <;> omega

theorem sh_bd (a K : Nat) (h0 : 0 < a) (h1 : a < 9218868437227405312) (hK : 1100 ≤ K) : shV a < 2 ^ K ∧ shL a < 2 ^ K ∧ shU a < 2 ^ K ∧ shT a < 2 ^ K ∧ 0 < shU a ∧ 0 < shT a ∧ shL a ≤ shU a := by
  have m := arM_bd a h0
  have x := arX_bd a h1
  have b := arB_bd a
  refine ⟨two_lt (c := 55) (by omega) (by omega), two_lt (c := 2) (by omega) (by omega), two_lt (c := 2) (by decide) (by omega), two_lt (c := 3) (by decide) (by omega), ?_, ?_, ?_⟩
  · exact Nat.mul_pos (by decide) (Nat.two_pow_pos _)
  · exact Nat.mul_pos (by decide) (Nat.two_pow_pos _)
  · exact Nat.mul_le_mul_right _ b.2

theorem sh_bits (a : Nat) (h0 : 0 < a) (h1 : a < 9218868437227405312) : bitl (shV a) ≤ 1100 ∧ bitl (shT a) ≤ 1100 := by
  obtain ⟨q1, _, _, q4, _⟩ := sh_bd a 1100 h0 h1 (by omega)
  exact ⟨bitl_le.2 q1, bitl_le.2 q4⟩

theorem shG_bd (a : Nat) (h0 : 0 < a) (h1 : a < 9218868437227405312) : -400 ≤ shG a ∧ shG a ≤ 400 := by
  have h := sh_bits a h0 h1
  unfold shG
  omega

theorem slice_of {w : World} {v : Value} {g N : Nat} (h : Num w v g N) : ∃ l p : Nat, v = .slice (some ⟨g, 0, none⟩) l p := by
  obtain ⟨cap, rfl, _⟩ := h
  exact ⟨_, _, rfl⟩

/-- scale, as a function -/
theorem scale_fun (a K : Nat) (w : World) (B b : Nat) (h0 : 0 < a) (h1 : a < 9218868437227405312) (hK : 1100 ≤ K) (hK1 : K ≤ 100000) (h : Iv w B b (shV a) (shL a) (shU a) (shT a) (shC a)) :
    Calls Tryz.prog 45 #[.pointer (some ⟨b, 0, none⟩), .int .i64 (shG a)] w fun e w' => e = .returned (.int .i64 (shP a)) ∧ Hid (Iv w' B b (shV1 a) (shL1 a) (shU1 a) (shT1 a) (shC a) ∧ Below B w w') ∧ inN (shT1 a) (shV1 a + shU1 a) (shC a) = false := by
  obtain ⟨q1, q2, q3, q4, q5, q6, q7⟩ := sh_bd a K h0 h1 hK
  have g := shG_bd a h0 h1
  refine (scale_any w B b _ _ _ _ K (shC a) (shG a) h (by omega) (by omega) q6 q4 q1 q2 q3 hK1).mono ?_
  rintro e w' ⟨j, rfl, i, hn, al, tm, bl⟩
  have ej : shJ a = j := by
    refine scF_eq _ _ j _ _ hn al ?_
    rcases Nat.eq_zero_or_pos j with c | c
    · omega
    · have h2 := in_le (al (j - 1) (by omega))
      have h3 : j - 1 < 10 ^ (j - 1) := Nat.lt_pow_self (by decide)
      have h4 : 10 ^ (j - 1) ≤ shT a * 10 ^ (shG a).toNat * 10 ^ (j - 1) := Nat.le_mul_of_pos_left _ (Nat.mul_pos q6 (Nat.pow_pos (by decide)))
      show j < shV1 a + shU1 a + 2
      have h5 : shV a * 10 ^ (-shG a).toNat + shU a * 10 ^ (-shG a).toNat = shV1 a + shU1 a := rfl
      omega
  have eT : shT a * 10 ^ (shG a).toNat * 10 ^ j = shT1 a := by unfold shT1 shT0; rw [ej]
  rw [eT] at i hn
  refine ⟨?_, ⟨i, bl⟩, hn⟩
  unfold shP
  rw [ej]

end Go.Proofs.YtpejebohekcfoabGreatDoor
