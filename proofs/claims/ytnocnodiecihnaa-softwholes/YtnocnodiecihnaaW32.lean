/- math.Mod of two finite numbers that are not 0. -/
import Derived.Test.YtnocnodiecihnaaW31
namespace Go.Proofs.Ytnocnodiecihnaa
open Go.RowKit

theorem abs_word (a : Int) (h0 : 0 ≤ a) (h1 : a < 18446744073709551616) (k : kindI a < 2) : (a % 9223372036854775808).toNat = wd (magI a) ∧ Rep (magI a) := by
  have K := (kind_fld a h0 h1).1.1 k
  obtain ⟨F, hF⟩ : ∃ F : Int, a % 9223372036854775808 = F := ⟨_, rfl⟩
  have f0 : 0 ≤ F := by omega
  have f1 : F < 9218868437227405312 := by
    unfold rankI at K
    split at K <;> omega
  obtain ⟨r, e⟩ := fin_rep F f0 f1
  have v := val_mag a h0 h1 k
  have m : magI a = valN F.toNat := by
    unfold valI at v
    unfold withS negB at v
    by_cases c : a < 9223372036854775808
    · rw [if_pos c, show decide (9223372036854775808 ≤ a.toNat) = false from decide_eq_false (by omega), if_neg (by decide)] at v
      have : a = F := by omega
      rw [← this]
      exact (Int.ofNat.inj v).symm
    · rw [if_neg c, show decide (9223372036854775808 ≤ a.toNat) = true from decide_eq_true (by omega), if_pos rfl] at v
      have : a - 9223372036854775808 = F := by omega
      rw [this] at v
      have v2 : ((valN F.toNat : Nat) : Int) = ((magI a : Nat) : Int) := by omega
      exact (Int.ofNat.inj v2).symm
  rw [hF, m]
  exact ⟨e.symm, r⟩

/-- a float's size, in units of the smallest -/
def flN : Value → Nat
  | .float _ n => valN n
  | _ => 0

set_option maxHeartbeats 1000000 in
theorem mod_w (x y r0 : Nat) (neg : Bool) (X Y gy : Nat) (cy : Int) (w : World)
    (hz : (FloatKind.f64.format.order y 0 == some Ordering.eq) = false)
    (ci : ∀ w : World, Calls Try.prog 23 #[.float .f64 x, .int .i64 0] w fun e w' => e = .returned (.bool false) ∧ w' = w)
    (cn : ∀ w : World, Calls Try.prog 67 #[.float .f64 x] w fun e w' => e = .returned (.bool false) ∧ w' = w)
    (cm : ∀ w : World, Calls Try.prog 67 #[.float .f64 y] w fun e w' => e = .returned (.bool false) ∧ w' = w)
    (cab : ∀ w : World, Calls Try.prog 50 #[.float .f64 y] w fun e w' => e = .returned (.float .f64 (wd Y)) ∧ w' = w)
    (hl : (FloatKind.f64.format.order x 0 == some Ordering.lt) = neg)
    (hx : neg = false → x = wd X) (hx2 : neg = true → Op.negFloat .f64 x = wd X)
    (RX : Rep X) (RY : Rep Y) (Y0 : 0 < Y)
    (g0 : 4503599627370496 ≤ gy) (g1 : gy < 9007199254740992) (_c0 : -51 ≤ cy) (_c1 : cy ≤ 2046) (HY : Hid (Y * 4503599627370496 = gy * 2 ^ (cy + 51).toNat))
    (cf : ∀ w : World, Calls Try.prog 69 #[.float .f64 (wd Y)] w fun e w' => e = .returned (.tuple #[.float .f64 (4598175219545276416 + gy), .int .i64 (cy - 1022)]) ∧ w' = w)
    (hr0 : (if neg then Op.negFloat .f64 (wd (X % Y)) else wd (X % Y)) = r0) :
    Calls Try.prog 59 #[.float .f64 x, .float .f64 y] w fun e w' => e = .returned (.float .f64 r0) ∧ w' = w := by
  have hu : ∀ (n : Nat) (w : World), (Op.unary .neg (.float .f64 n)).run Try.prog w = .ok (.float .f64 (Op.negFloat .f64 n)) w := fun _ _ => rfl
  cases neg
  · have hx' := hx rfl
    subst hx'
    rw [if_neg (by decide)] at hr0
    go_enter Try.func59, Try.ntmps59
    go_wp2_with fail
    refine (ci _).mono ?_
    rintro e w1 ⟨rfl, hw⟩
    subst hw
    go_wp2_with fail
    refine (cn _).mono ?_
    rintro e w1 ⟨rfl, hw⟩
    subst hw
    go_wp2_with fail
    refine (cm _).mono ?_
    rintro e w1 ⟨rfl, hw⟩
    subst hw
    go_wp2_with fail
    refine (cab _).mono ?_
    rintro e w1 ⟨rfl, hw⟩
    subst hw
    go_wp2_with fail
    refine (cf _).mono ?_
    rintro e w1 ⟨rfl, hw⟩
    subst hw
    go_wp2_with fail
    go_loop [7, 8, 9] (fun r _ _ => ∃ R : Nat, Rep R ∧ r = .float .f64 (wd R) ∧ R % Y = X % Y) (fun r _ _ => flN r)
    case atStart => exact ⟨X, RX, rfl, rfl⟩
    case round =>
      obtain ⟨R, RR, rfl, hm⟩ := hrel
      have hge := wd_geq R Y RR RY
      by_cases c : Y ≤ R
      · rw [decide_eq_true c] at hge
        obtain ⟨gr, cr, q0, q1, q2, q3, hR, cfr⟩ := wd_frexp R RR (by omega)
        obtain ⟨ta, tb⟩ := mod_times R Y gr gy (cr + 51).toNat (cy + 51).toNat hR HY.out q0 q1 g0 g1 c
        have hfl := fr_less gr gy q0 q1 g0 g1
        clear hR
        by_cases d : gr < gy
        · rw [decide_eq_true d] at hfl
          obtain ⟨k, hk, k1, k2⟩ := tb d
          have hK : cr - 1022 - 1 - (cy - 1022) = ((k : Nat) : Int) := by omega
          have ld := fun w => wd_ldexp Y k RY Y0 (by omega) w
          have RZ := rep_scale Y k RY (Nat.lt_of_le_of_lt k1 RR.2)
          have hs := fun w => wd_sub_run R (Y * 2 ^ k) RR RZ k1 k2 w
          have RD := rep_sub R (Y * 2 ^ k) RR RZ k1 k2
          have md := mod_same R Y k k1
          have zp : 0 < Y * 2 ^ k := Nat.mul_pos Y0 (Nat.two_pow_pos k)
          generalize Y * 2 ^ k = Z at *
          have vv : valN (wd (R - Z)) < valN (wd R) := by rw [(rep_word R RR).1, (rep_word _ RD).1]; omega
          have HM : Hid ((R - Z) % Y = X % Y) := by show _ = _; rw [md, hm]
          clear ta tb hk k1 k2 RZ md zp hm
          go_wp2_with fail
          refine (cfr _).mono ?_
          rintro e w2 ⟨rfl, hw⟩
          subst hw
          go_wp2_with fail
          refine (ld _).mono ?_
          rintro e w2 ⟨rfl, hw⟩
          subst hw
          go_wp2_with fail
          exact ⟨⟨R - Z, RD, rfl, HM.out⟩, vv⟩
        · rw [decide_eq_false d] at hfl
          obtain ⟨k, hk, k1, k2⟩ := ta (by omega)
          have hK : cr - 1022 - (cy - 1022) = ((k : Nat) : Int) := by omega
          have ld := fun w => wd_ldexp Y k RY Y0 (by omega) w
          have RZ := rep_scale Y k RY (Nat.lt_of_le_of_lt k1 RR.2)
          have hs := fun w => wd_sub_run R (Y * 2 ^ k) RR RZ k1 k2 w
          have RD := rep_sub R (Y * 2 ^ k) RR RZ k1 k2
          have md := mod_same R Y k k1
          have zp : 0 < Y * 2 ^ k := Nat.mul_pos Y0 (Nat.two_pow_pos k)
          generalize Y * 2 ^ k = Z at *
          have vv : valN (wd (R - Z)) < valN (wd R) := by rw [(rep_word R RR).1, (rep_word _ RD).1]; omega
          have HM : Hid ((R - Z) % Y = X % Y) := by show _ = _; rw [md, hm]
          clear ta tb hk k1 k2 RZ md zp hm
          go_wp2_with fail
          refine (cfr _).mono ?_
          rintro e w2 ⟨rfl, hw⟩
          subst hw
          go_wp2_with fail
          refine (ld _).mono ?_
          rintro e w2 ⟨rfl, hw⟩
          subst hw
          go_wp2_with fail
          exact ⟨⟨R - Z, RD, rfl, HM.out⟩, vv⟩
      · rw [decide_eq_false c] at hge
        have hRY : R = X % Y := by rw [← hm, Nat.mod_eq_of_lt (by omega)]
        rw [← hRY] at hr0
        have HR : Hid _ := hr0
        clear hRY hr0 hm
        go_wp2
        go_ret
        exact ⟨congrArg Ending.returned (congrArg (Value.float .f64) HR.out), rfl⟩
  · have hx' := hx2 rfl
    rw [if_pos rfl] at hr0
    go_enter Try.func59, Try.ntmps59
    go_wp2_with fail
    refine (ci _).mono ?_
    rintro e w1 ⟨rfl, hw⟩
    subst hw
    go_wp2_with fail
    refine (cn _).mono ?_
    rintro e w1 ⟨rfl, hw⟩
    subst hw
    go_wp2_with fail
    refine (cm _).mono ?_
    rintro e w1 ⟨rfl, hw⟩
    subst hw
    go_wp2_with fail
    refine (cab _).mono ?_
    rintro e w1 ⟨rfl, hw⟩
    subst hw
    go_wp2_with fail
    refine (cf _).mono ?_
    rintro e w1 ⟨rfl, hw⟩
    subst hw
    go_wp2_with fail
    go_loop [7, 8, 9] (fun r _ _ => ∃ R : Nat, Rep R ∧ r = .float .f64 (wd R) ∧ R % Y = X % Y) (fun r _ _ => flN r)
    case atStart => exact ⟨X, RX, rfl, rfl⟩
    case round =>
      obtain ⟨R, RR, rfl, hm⟩ := hrel
      have hge := wd_geq R Y RR RY
      by_cases c : Y ≤ R
      · rw [decide_eq_true c] at hge
        obtain ⟨gr, cr, q0, q1, q2, q3, hR, cfr⟩ := wd_frexp R RR (by omega)
        obtain ⟨ta, tb⟩ := mod_times R Y gr gy (cr + 51).toNat (cy + 51).toNat hR HY.out q0 q1 g0 g1 c
        have hfl := fr_less gr gy q0 q1 g0 g1
        clear hR
        by_cases d : gr < gy
        · rw [decide_eq_true d] at hfl
          obtain ⟨k, hk, k1, k2⟩ := tb d
          have hK : cr - 1022 - 1 - (cy - 1022) = ((k : Nat) : Int) := by omega
          have ld := fun w => wd_ldexp Y k RY Y0 (by omega) w
          have RZ := rep_scale Y k RY (Nat.lt_of_le_of_lt k1 RR.2)
          have hs := fun w => wd_sub_run R (Y * 2 ^ k) RR RZ k1 k2 w
          have RD := rep_sub R (Y * 2 ^ k) RR RZ k1 k2
          have md := mod_same R Y k k1
          have zp : 0 < Y * 2 ^ k := Nat.mul_pos Y0 (Nat.two_pow_pos k)
          generalize Y * 2 ^ k = Z at *
          have vv : valN (wd (R - Z)) < valN (wd R) := by rw [(rep_word R RR).1, (rep_word _ RD).1]; omega
          have HM : Hid ((R - Z) % Y = X % Y) := by show _ = _; rw [md, hm]
          clear ta tb hk k1 k2 RZ md zp hm
          go_wp2_with fail
          refine (cfr _).mono ?_
          rintro e w2 ⟨rfl, hw⟩
          subst hw
          go_wp2_with fail
          refine (ld _).mono ?_
          rintro e w2 ⟨rfl, hw⟩
          subst hw
          go_wp2_with fail
          exact ⟨⟨R - Z, RD, rfl, HM.out⟩, vv⟩
        · rw [decide_eq_false d] at hfl
          obtain ⟨k, hk, k1, k2⟩ := ta (by omega)
          have hK : cr - 1022 - (cy - 1022) = ((k : Nat) : Int) := by omega
          have ld := fun w => wd_ldexp Y k RY Y0 (by omega) w
          have RZ := rep_scale Y k RY (Nat.lt_of_le_of_lt k1 RR.2)
          have hs := fun w => wd_sub_run R (Y * 2 ^ k) RR RZ k1 k2 w
          have RD := rep_sub R (Y * 2 ^ k) RR RZ k1 k2
          have md := mod_same R Y k k1
          have zp : 0 < Y * 2 ^ k := Nat.mul_pos Y0 (Nat.two_pow_pos k)
          generalize Y * 2 ^ k = Z at *
          have vv : valN (wd (R - Z)) < valN (wd R) := by rw [(rep_word R RR).1, (rep_word _ RD).1]; omega
          have HM : Hid ((R - Z) % Y = X % Y) := by show _ = _; rw [md, hm]
          clear ta tb hk k1 k2 RZ md zp hm
          go_wp2_with fail
          refine (cfr _).mono ?_
          rintro e w2 ⟨rfl, hw⟩
          subst hw
          go_wp2_with fail
          refine (ld _).mono ?_
          rintro e w2 ⟨rfl, hw⟩
          subst hw
          go_wp2_with fail
          exact ⟨⟨R - Z, RD, rfl, HM.out⟩, vv⟩
      · rw [decide_eq_false c] at hge
        have hRY : R = X % Y := by rw [← hm, Nat.mod_eq_of_lt (by omega)]
        rw [← hRY] at hr0
        have HR : Hid _ := hr0
        clear hRY hr0 hm
        go_wp2
        go_ret
        exact ⟨congrArg Ending.returned (congrArg (Value.float .f64) HR.out), rfl⟩

end Go.Proofs.Ytnocnodiecihnaa
