/- The walk of around: all of it. -/
import Derived.Test.YtpejebohekcfoabGreatDoorE2
namespace Go.Proofs.YtpejebohekcfoabGreatDoor
open Go.RowKit
set_option linter.unusedVariables false

def arM (a : Nat) : Nat := if a / 4503599627370496 = 0 then a else a % 4503599627370496 + 4503599627370496
def arX (a : Nat) : Int := if a / 4503599627370496 = 0 then -1074 else ((a / 4503599627370496 : Nat) : Int) - 1075
def arB (a : Nat) : Nat := if a % 4503599627370496 = 0 ∧ 1 < a / 4503599627370496 then 1 else 2

theorem mask52 (a : Nat) (ha : a < 18446744073709551616) : bits .and .u64 (a : Int) 4503599627370495 = ((a % 4503599627370496 : Nat) : Int) := by
  have h := bits_and_u64_nat a 4503599627370495 ha (by omega)
  have e : a &&& 4503599627370495 = a % 4503599627370496 := Nat.and_two_pow_sub_one_eq_mod a 52
  rw [e] at h; exact h

theorem or52 (f : Nat) (hf : f < 4503599627370496) : bits .or .u64 (f : Int) 4503599627370496 = ((f + 4503599627370496 : Nat) : Int) := by
  rw [u64_or _ _ (by omega) (by omega) (by omega) (by omega)]
  have e := nat_join 52 4503599627370496 f (by omega) hf
  rw [show ((f : Int)).toNat = f from by omega, show (4503599627370496 : Int).toNat = 4503599627370496 from rfl, Nat.or_comm, e]
  omega

theorem makes (X C : Int) (x c N : Nat) (hX : X = x) (hC : C = c) (hx : 0 < x) (hx1 : x < 18446744073709551616) (hc : c ≤ 5000) (hN : Hid (x * 2 ^ c = N)) : Makes X C N := by
  intro w k hk
  subst hk
  exact made_any X C x c N w hX hC hx hx1 hc hN

theorem hid_rfl (N : Nat) : Hid (N = N) := Eq.refl N

theorem around_any (a : Nat) (w : World) (h0 : 0 < a) (h1 : a < 9218868437227405312) :
    Calls Tryz.prog 44 #[.int .u64 a] w fun e w' => ∃ v1 v2 v3 v4, e = .returned (.agg #[v1, v2, v3, v4, .bool (decide (arM a % 2 = 0))]) ∧
      Around w w' v1 v2 v3 v4 (4 * arM a * 2 ^ (arX a).toNat) (arB a * 2 ^ (arX a).toNat) (2 * 2 ^ (arX a).toNat) (4 * 2 ^ (-arX a).toNat) := by
  have e1 := mask52 a (by omega)
  by_cases z : a / 4503599627370496 = 0
  · obtain ⟨N4, hq⟩ : ∃ N4 : Nat, Hid (4 * 2 ^ 1074 = N4) := ⟨_, hid_rfl _⟩
    have M0 : arM a = a := by unfold arM; rw [if_pos z]
    have X0 : arX a = -1074 := by unfold arX; rw [if_pos z]
    have B0 : arB a = 2 := by unfold arB; rw [if_neg (by omega)]
    rw [M0, X0, B0, show (-(-1074 : Int)).toNat = 1074 from rfl, show (-1074 : Int).toNat = 0 from rfl, hq.out]
    have e3 : ((a % 4503599627370496 : Nat) : Int) = a := by omega
    rw [e3] at e1
    refine around_sub (a : Int) (4 * a) w _ _ _ _ ?_ e1 (by omega) (by rw [IntKind.wrap_u64]; omega) ?_ ?_ ?_
    · rw [Bool.eq_iff_iff, beq_iff_eq, decide_eq_true_eq]; omega
    · intro w k hk; subst hk; exact made_any (4 * (a : Int)) 0 (4 * a) 0 _ w (by omega) rfl (by omega) (by omega) (by omega) rfl
    · intro w k hk; subst hk; exact made_any 2 0 2 0 _ w rfl rfl (by omega) (by omega) (by omega) rfl
    · intro w k hk; subst hk; exact made_any 4 1074 4 1074 N4 w rfl rfl (by omega) (by omega) (by omega) hq
  · have M0 : arM a = a % 4503599627370496 + 4503599627370496 := by unfold arM; rw [if_neg z]
    have X0 : arX a = ((a / 4503599627370496 : Nat) : Int) - 1075 := by unfold arX; rw [if_neg z]
    have e3 := or52 (a % 4503599627370496) (by omega)
    have e2 : (a : Int) / 4503599627370496 = ((a / 4503599627370496 : Nat) : Int) := by omega
    rw [← M0] at e3
    have Mb : arM a < 9007199254740992 := by omega
    have Mp : 0 < arM a := by omega
    have e4 : IntKind.u64.wrap (4 * ((arM a : Nat) : Int)) = ((4 * arM a : Nat) : Int) := by rw [IntKind.wrap_u64]; omega
    have hcl : ((((arM a : Nat) : Int)).tmod 2 == 0) = decide (arM a % 2 = 0) := by
      rw [Int.tmod_eq_emod_of_nonneg (by omega), Bool.eq_iff_iff, beq_iff_eq, decide_eq_true_eq]; omega
    have hE : 0 < ((a / 4503599627370496 : Nat) : Int) := by omega
    have hE1 : ((a / 4503599627370496 : Nat) : Int) < 2047 := by omega
    have mk1 : ∀ (C : Int) (c : Nat), C = c → c ≤ 5000 → Makes ((4 * arM a : Nat) : Int) C (4 * arM a * 2 ^ c) := fun C c h h' => makes _ C (4 * arM a) c _ rfl h (by omega) (by omega) h' rfl
    have mk2 : ∀ (C : Int) (c : Nat), C = c → c ≤ 5000 → Makes 2 C (2 * 2 ^ c) := fun C c h h' => makes 2 C 2 c _ rfl h (by omega) (by omega) h' rfl
    have mk4 : ∀ (C : Int) (c : Nat), C = c → c ≤ 5000 → Makes 4 C (4 * 2 ^ c) := fun C c h h' => makes 4 C 4 c _ rfl h (by omega) (by omega) h' rfl
    have mk0 : ∀ (C : Int) (c : Nat), C = c → c ≤ 5000 → Makes 1 C (1 * 2 ^ c) := fun C c h h' => makes 1 C 1 c _ rfl h (by omega) (by omega) h' rfl
    have X1 : -1074 + (((a / 4503599627370496 : Nat) : Int) - 1) = arX a := by omega
    have xb : -1074 ≤ arX a ∧ arX a ≤ 971 := by omega
    have lo : arX a < 0 → (0 : Int) = ((arX a).toNat : Nat) ∧ -(-1074 + (((a / 4503599627370496 : Nat) : Int) - 1)) = (((-arX a).toNat : Nat) : Int) := by omega
    have mid : arX a = 0 → (0 : Int) = ((arX a).toNat : Nat) ∧ (0 : Int) = (((-arX a).toNat : Nat) : Int) := by omega
    have hi : 0 < arX a → -1074 + (((a / 4503599627370496 : Nat) : Int) - 1) = ((arX a).toNat : Nat) ∧ (0 : Int) = (((-arX a).toNat : Nat) : Int) := by omega
    have c1 : (arX a).toNat ≤ 5000 := by omega
    have c2 : (-arX a).toNat ≤ 5000 := by omega
    rcases Int.lt_trichotomy (arX a) 0 with c | c | c
    · obtain ⟨q1, q2⟩ := lo c
      by_cases f : a % 4503599627370496 = 0
      · have hf : ((((a % 4503599627370496 : Nat) : Int)) == 0) = true := by rw [f]; rfl
        by_cases g : 1 < a / 4503599627370496
        · have B0 : arB a = 1 := by unfold arB; rw [if_pos ⟨f, g⟩]
          rw [B0]
          exact around_pow_lo _ _ _ _ _ _ w _ _ _ _ _ hcl e1 e2 hE hE1 e3 e4 hf (by omega) (by omega) q2 (mk1 _ _ q1 c1) (mk0 _ _ q1 c1) (mk2 _ _ q1 c1) (mk4 _ _ rfl c2)
        · have B0 : arB a = 2 := by unfold arB; rw [if_neg (by omega)]
          rw [B0]
          exact around_one_lo _ _ _ _ _ _ w _ _ _ _ _ hcl e1 e2 hE hE1 e3 e4 hf (by omega) (by omega) q2 (mk1 _ _ q1 c1) (mk2 _ _ q1 c1) (mk2 _ _ q1 c1) (mk4 _ _ rfl c2)
      · have hf : ((((a % 4503599627370496 : Nat) : Int)) == 0) = false := by rw [beq_eq_false_iff_ne]; omega
        have B0 : arB a = 2 := by unfold arB; rw [if_neg (by omega)]
        rw [B0]
        exact around_nz_lo _ _ _ _ _ _ w _ _ _ _ _ hcl e1 e2 hE hE1 e3 e4 hf (by omega) q2 (mk1 _ _ q1 c1) (mk2 _ _ q1 c1) (mk2 _ _ q1 c1) (mk4 _ _ rfl c2)
    · obtain ⟨q1, q2⟩ := mid c
      by_cases f : a % 4503599627370496 = 0
      · have hf : ((((a % 4503599627370496 : Nat) : Int)) == 0) = true := by rw [f]; rfl
        have B0 : arB a = 1 := by unfold arB; rw [if_pos ⟨f, by omega⟩]
        rw [B0]
        exact around_pow_mid _ _ _ _ _ 0 w _ _ _ _ _ hcl e1 e2 hE hE1 e3 e4 hf (by omega) (by omega) (mk1 _ _ q1 c1) (mk0 _ _ q1 c1) (mk2 _ _ q1 c1) (mk4 _ _ q2 c2)
      · have hf : ((((a % 4503599627370496 : Nat) : Int)) == 0) = false := by rw [beq_eq_false_iff_ne]; omega
        have B0 : arB a = 2 := by unfold arB; rw [if_neg (by omega)]
        rw [B0]
        exact around_nz_mid _ _ _ _ _ 0 w _ _ _ _ _ hcl e1 e2 hE hE1 e3 e4 hf (by omega) (mk1 _ _ q1 c1) (mk2 _ _ q1 c1) (mk2 _ _ q1 c1) (mk4 _ _ q2 c2)
    · obtain ⟨q1, q2⟩ := hi c
      by_cases f : a % 4503599627370496 = 0
      · have hf : ((((a % 4503599627370496 : Nat) : Int)) == 0) = true := by rw [f]; rfl
        have B0 : arB a = 1 := by unfold arB; rw [if_pos ⟨f, by omega⟩]
        rw [B0]
        exact around_pow_hi _ _ _ _ _ _ w _ _ _ _ _ hcl e1 e2 hE hE1 e3 e4 hf (by omega) (by omega) q1 (mk1 _ _ rfl c1) (mk0 _ _ rfl c1) (mk2 _ _ rfl c1) (mk4 _ _ q2 c2)
      · have hf : ((((a % 4503599627370496 : Nat) : Int)) == 0) = false := by rw [beq_eq_false_iff_ne]; omega
        have B0 : arB a = 2 := by unfold arB; rw [if_neg (by omega)]
        rw [B0]
        exact around_nz_hi _ _ _ _ _ _ w _ _ _ _ _ hcl e1 e2 hE hE1 e3 e4 hf (by omega) q1 (mk1 _ _ rfl c1) (mk2 _ _ rfl c1) (mk2 _ _ rfl c1) (mk4 _ _ q2 c2)

end Go.Proofs.YtpejebohekcfoabGreatDoor
