/- The walk of scale: all of it. -/
import Derived.Test.YtpejebohekcfoabGreatDoorF2
namespace Go.Proofs.YtpejebohekcfoabGreatDoor
open Go.RowKit
set_option linter.unusedVariables false

set_option maxHeartbeats 2000000 in
theorem scale_hi (w : World) (B b V L U T V' L' U' K : Nat) (cl : Bool) (g : Int) (hg : 0 < g) (hg1 : g ≤ 10000) (hT0 : 0 < T) (hTK : T < 2 ^ K) (hVK : V' < 2 ^ K) (hLK : L' < 2 ^ K) (hUK : U' < 2 ^ K) (hK : K ≤ 1000000)
    (v4 : Value) (hc : w.cell? ⟨b, 3, none⟩ = some v4)
    (ct : Calls Tryz.prog 70 #[v4, .int .i64 g] w fun e w1 => ∃ k l p : Nat, e = .returned (.slice (some ⟨k, 0, none⟩) l p) ∧ w1.cell? ⟨b, 3, none⟩ = some v4 ∧ w1.frozen? ⟨b, 3, none⟩ = false ∧
      Hid (Iv (w1.setCell ⟨b, 3, none⟩ (.slice (some ⟨k, 0, none⟩) l p)) B b V L U T cl ∧ Tame w (w1.setCell ⟨b, 3, none⟩ (.slice (some ⟨k, 0, none⟩) l p)) b ∧ Below B w (w1.setCell ⟨b, 3, none⟩ (.slice (some ⟨k, 0, none⟩) l p))))
    (cm : ∀ w1, Iv w1 B b V L U T cl → Calls Tryz.prog 50 #[.pointer (some ⟨b, 0, none⟩), .int .i64 0] w1 fun e w' => e = .returned (.tuple #[]) ∧ Hid (Iv w' B b V' L' U' T cl ∧ Tame w1 w' b ∧ Below B w1 w')) :
    Calls Tryz.prog 45 #[.pointer (some ⟨b, 0, none⟩), .int .i64 g] w fun e w' => ∃ j : Nat, e = .returned (.int .i64 (g + (j : Int))) ∧ Iv w' B b V' L' U' (T * 10 ^ j) cl ∧ inN (T * 10 ^ j) (V' + U') cl = false ∧ (∀ i < j, inN (T * 10 ^ i) (V' + U') cl = true) ∧ Tame w w' b ∧ Below B w w' := by
  have ce : ∀ (w1 : World) (T1 : Nat), Iv w1 B b V' L' U' T1 cl → T1 < 2 ^ (K + 5) → Calls Tryz.prog 52 #[.pointer (some ⟨b, 0, none⟩)] w1 fun e w' => e = .returned (.tuple #[.bool (inN V' L' cl), .bool (inN T1 (V' + U') cl)]) ∧ w1.grownBy w' none := by
    intro w1 T1 i1 h1
    have p5 : 2 ^ K ≤ 2 ^ (K + 5) := Nat.pow_le_pow_right (by decide) (by omega)
    have := canEnd_any w1 B b V' L' U' T1 cl (K + 5) i1 (by omega) (by omega) (by omega) h1 (by omega)
    rw [inI_cmp, inI_cmp] at this
    exact this
  go_enter Tryz.func45, Tryz.ntmps45
  go_wp2_with fail
  refine ct.mono ?_
  rintro e w1 ⟨k, l, p, rfl, z1, z2, H1⟩
  go_wp2_with fail
  refine (cm _ H1.out.1).mono ?_
  rintro e w2 ⟨rfl, H2⟩
  go_wp2_with fail
  refine (ce w2 T H2.out.1 (lt5 hTK)).mono ?_
  rintro e w3 ⟨rfl, gr3⟩
  have HI : Hid (Iv w3 B b V' L' U' T cl ∧ Tame w w3 b ∧ Below B w w3) := ⟨H2.out.1.kept0 gr3, (H1.out.2.1.trans H2.out.2.1).trans (Tame.of_none gr3), (H1.out.2.2.trans H2.out.2.2).trans (below_none gr3 (iv_lt H2.out.1))⟩
  clear H1 H2 gr3 ct cm
  go_wp2_with fail
  go_loopw [1, 6] (fun gv uv wr => ScaleAt w wr B b V' L' U' T cl g gv uv) (fun gv uv _ => (g + (K : Int) + 2 - intOf gv).toNat)
  case atStart => exact ⟨0, by simp, by simp, by simpa using HI.out.1, HI.out.2.1, HI.out.2.2, fun i hi => absurd hi (Nat.not_lt_zero i)⟩
  case round =>
    obtain ⟨j, rfl, rfl, iv, tm, bl, al⟩ := hrel
    have sK : V' + U' < 2 ^ (K + 1) := by rw [Nat.pow_succ]; omega
    cases hu : inN (T * 10 ^ j) (V' + U') cl with
    | false =>
      have HF : Hid (Iv wr B b V' L' U' (T * 10 ^ j) cl ∧ inN (T * 10 ^ j) (V' + U') cl = false ∧ (∀ i < j, inN (T * 10 ^ i) (V' + U') cl = true) ∧ Tame w wr b ∧ Below B w wr) := ⟨iv, hu, al, tm, bl⟩
      clear iv al tm bl hu HI
      go_wp2
      go_ret
      exact ⟨j, rfl, HF.out⟩
    | true =>
      have jb := pow_bound hT0 (in_le hu) sK
      have t1 : T * 10 ^ j < 2 ^ (K + 1) := Nat.lt_of_le_of_lt (in_le hu) sK
      obtain ⟨v5, hc5, ct5⟩ := tens_whole wr B b V' L' U' (T * 10 ^ j) 1 (K + 1) cl iv t1 (by omega)
      have e10 : T * 10 ^ j * 10 ^ 1 = T * 10 ^ (j + 1) := by rw [Nat.pow_one, Nat.pow_succ, Nat.mul_assoc]
      rw [e10] at ct5
      have t2 : T * 10 ^ (j + 1) < 2 ^ (K + 5) := by
        rw [← e10, Nat.pow_one]
        have : 2 ^ (K + 5) = 2 ^ (K + 1) * 16 := by rw [show K + 5 = K + 1 + 4 from by omega, Nat.pow_add]
        omega
      have nx : ∀ w4 w5 : World, Hid (Iv w4 B b V' L' U' (T * 10 ^ (j + 1)) cl ∧ Tame wr w4 b ∧ Below B wr w4) → w4.grownBy w5 none → ScaleAt w w5 B b V' L' U' T cl g (.int .i64 (g + (j : Int) + 1)) (.bool (inN (T * 10 ^ (j + 1)) (V' + U') cl)) := by
        intro w4 w5 h4 g5
        refine ⟨j + 1, by congr 1; omega, rfl, h4.out.1.kept0 g5, (tm.trans h4.out.2.1).trans (Tame.of_none g5), (bl.trans h4.out.2.2).trans (below_none g5 (iv_lt h4.out.1)), ?_⟩
        intro i hi
        rcases Nat.lt_or_ge i j with c | c
        · exact al i c
        · have : i = j := by omega
          subst this; exact hu
      have ce' := fun (w4 : World) (h4 : Hid (Iv w4 B b V' L' U' (T * 10 ^ (j + 1)) cl ∧ Tame wr w4 b ∧ Below B wr w4)) => ce w4 _ h4.out.1 t2
      clear iv al tm bl HI ce e10 t1 t2 sK
      go_wp2_with fail
      refine ct5.mono ?_
      rintro e w4 ⟨k4, l4, p4, rfl, y1, y2, H4⟩
      go_wp2_with fail
      refine (ce' _ H4).mono ?_
      rintro e w5 ⟨rfl, gr5⟩
      have NX := nx _ w5 H4 gr5
      go_wp2_with fail
      refine ⟨NX, ?_⟩
      simp [intOf]
      omega

set_option maxHeartbeats 2000000 in
theorem scale_zero (w : World) (B b V L U T V' L' U' K : Nat) (cl : Bool) (g : Int) (hg : 0 ≤ g) (hg1 : g ≤ 0) (hT0 : 0 < T) (hTK : T < 2 ^ K) (hVK : V' < 2 ^ K) (hLK : L' < 2 ^ K) (hUK : U' < 2 ^ K) (hK : K ≤ 1000000)
    (v4 : Value) (hc : w.cell? ⟨b, 3, none⟩ = some v4)
    (ct : Calls Tryz.prog 70 #[v4, .int .i64 g] w fun e w1 => ∃ k l p : Nat, e = .returned (.slice (some ⟨k, 0, none⟩) l p) ∧ w1.cell? ⟨b, 3, none⟩ = some v4 ∧ w1.frozen? ⟨b, 3, none⟩ = false ∧
      Hid (Iv (w1.setCell ⟨b, 3, none⟩ (.slice (some ⟨k, 0, none⟩) l p)) B b V L U T cl ∧ Tame w (w1.setCell ⟨b, 3, none⟩ (.slice (some ⟨k, 0, none⟩) l p)) b ∧ Below B w (w1.setCell ⟨b, 3, none⟩ (.slice (some ⟨k, 0, none⟩) l p))))
    (cm : ∀ w1, Iv w1 B b V L U T cl → Calls Tryz.prog 50 #[.pointer (some ⟨b, 0, none⟩), .int .i64 (-g)] w1 fun e w' => e = .returned (.tuple #[]) ∧ Hid (Iv w' B b V' L' U' T cl ∧ Tame w1 w' b ∧ Below B w1 w')) :
    Calls Tryz.prog 45 #[.pointer (some ⟨b, 0, none⟩), .int .i64 g] w fun e w' => ∃ j : Nat, e = .returned (.int .i64 (g + (j : Int))) ∧ Iv w' B b V' L' U' (T * 10 ^ j) cl ∧ inN (T * 10 ^ j) (V' + U') cl = false ∧ (∀ i < j, inN (T * 10 ^ i) (V' + U') cl = true) ∧ Tame w w' b ∧ Below B w w' := by
  have ce : ∀ (w1 : World) (T1 : Nat), Iv w1 B b V' L' U' T1 cl → T1 < 2 ^ (K + 5) → Calls Tryz.prog 52 #[.pointer (some ⟨b, 0, none⟩)] w1 fun e w' => e = .returned (.tuple #[.bool (inN V' L' cl), .bool (inN T1 (V' + U') cl)]) ∧ w1.grownBy w' none := by
    intro w1 T1 i1 h1
    have p5 : 2 ^ K ≤ 2 ^ (K + 5) := Nat.pow_le_pow_right (by decide) (by omega)
    have := canEnd_any w1 B b V' L' U' T1 cl (K + 5) i1 (by omega) (by omega) (by omega) h1 (by omega)
    rw [inI_cmp, inI_cmp] at this
    exact this
  go_enter Tryz.func45, Tryz.ntmps45
  go_wp2_with fail
  refine ct.mono ?_
  rintro e w1 ⟨k, l, p, rfl, z1, z2, H1⟩
  go_wp2_with fail
  refine (cm _ H1.out.1).mono ?_
  rintro e w2 ⟨rfl, H2⟩
  go_wp2_with fail
  refine (ce w2 T H2.out.1 (lt5 hTK)).mono ?_
  rintro e w3 ⟨rfl, gr3⟩
  have HI : Hid (Iv w3 B b V' L' U' T cl ∧ Tame w w3 b ∧ Below B w w3) := ⟨H2.out.1.kept0 gr3, (H1.out.2.1.trans H2.out.2.1).trans (Tame.of_none gr3), (H1.out.2.2.trans H2.out.2.2).trans (below_none gr3 (iv_lt H2.out.1))⟩
  clear H1 H2 gr3 ct cm
  go_wp2_with fail
  go_loopw [1, 6] (fun gv uv wr => ScaleAt w wr B b V' L' U' T cl g gv uv) (fun gv uv _ => (g + (K : Int) + 2 - intOf gv).toNat)
  case atStart => exact ⟨0, by simp, by simp, by simpa using HI.out.1, HI.out.2.1, HI.out.2.2, fun i hi => absurd hi (Nat.not_lt_zero i)⟩
  case round =>
    obtain ⟨j, rfl, rfl, iv, tm, bl, al⟩ := hrel
    have sK : V' + U' < 2 ^ (K + 1) := by rw [Nat.pow_succ]; omega
    cases hu : inN (T * 10 ^ j) (V' + U') cl with
    | false =>
      have HF : Hid (Iv wr B b V' L' U' (T * 10 ^ j) cl ∧ inN (T * 10 ^ j) (V' + U') cl = false ∧ (∀ i < j, inN (T * 10 ^ i) (V' + U') cl = true) ∧ Tame w wr b ∧ Below B w wr) := ⟨iv, hu, al, tm, bl⟩
      clear iv al tm bl hu HI
      go_wp2
      go_ret
      exact ⟨j, rfl, HF.out⟩
    | true =>
      have jb := pow_bound hT0 (in_le hu) sK
      have t1 : T * 10 ^ j < 2 ^ (K + 1) := Nat.lt_of_le_of_lt (in_le hu) sK
      obtain ⟨v5, hc5, ct5⟩ := tens_whole wr B b V' L' U' (T * 10 ^ j) 1 (K + 1) cl iv t1 (by omega)
      have e10 : T * 10 ^ j * 10 ^ 1 = T * 10 ^ (j + 1) := by rw [Nat.pow_one, Nat.pow_succ, Nat.mul_assoc]
      rw [e10] at ct5
      have t2 : T * 10 ^ (j + 1) < 2 ^ (K + 5) := by
        rw [← e10, Nat.pow_one]
        have : 2 ^ (K + 5) = 2 ^ (K + 1) * 16 := by rw [show K + 5 = K + 1 + 4 from by omega, Nat.pow_add]
        omega
      have nx : ∀ w4 w5 : World, Hid (Iv w4 B b V' L' U' (T * 10 ^ (j + 1)) cl ∧ Tame wr w4 b ∧ Below B wr w4) → w4.grownBy w5 none → ScaleAt w w5 B b V' L' U' T cl g (.int .i64 (g + (j : Int) + 1)) (.bool (inN (T * 10 ^ (j + 1)) (V' + U') cl)) := by
        intro w4 w5 h4 g5
        refine ⟨j + 1, by congr 1; omega, rfl, h4.out.1.kept0 g5, (tm.trans h4.out.2.1).trans (Tame.of_none g5), (bl.trans h4.out.2.2).trans (below_none g5 (iv_lt h4.out.1)), ?_⟩
        intro i hi
        rcases Nat.lt_or_ge i j with c | c
        · exact al i c
        · have : i = j := by omega
          subst this; exact hu
      have ce' := fun (w4 : World) (h4 : Hid (Iv w4 B b V' L' U' (T * 10 ^ (j + 1)) cl ∧ Tame wr w4 b ∧ Below B wr w4)) => ce w4 _ h4.out.1 t2
      clear iv al tm bl HI ce e10 t1 t2 sK
      go_wp2_with fail
      refine ct5.mono ?_
      rintro e w4 ⟨k4, l4, p4, rfl, y1, y2, H4⟩
      go_wp2_with fail
      refine (ce' _ H4).mono ?_
      rintro e w5 ⟨rfl, gr5⟩
      have NX := nx _ w5 H4 gr5
      go_wp2_with fail
      refine ⟨NX, ?_⟩
      simp [intOf]
      omega

theorem scale_any (w : World) (B b V L U T K : Nat) (cl : Bool) (g : Int) (h : Iv w B b V L U T cl) (g0 : -10000 ≤ g) (g1 : g ≤ 10000) (hT0 : 0 < T) (hTK : T < 2 ^ K) (hVK : V < 2 ^ K) (hLK : L < 2 ^ K) (hUK : U < 2 ^ K) (hK : K ≤ 100000) :
    Calls Tryz.prog 45 #[.pointer (some ⟨b, 0, none⟩), .int .i64 g] w fun e w' => ∃ j : Nat, e = .returned (.int .i64 (g + (j : Int))) ∧
      Iv w' B b (V * 10 ^ (-g).toNat) (L * 10 ^ (-g).toNat) (U * 10 ^ (-g).toNat) (T * 10 ^ g.toNat * 10 ^ j) cl ∧ inN (T * 10 ^ g.toNat * 10 ^ j) (V * 10 ^ (-g).toNat + U * 10 ^ (-g).toNat) cl = false ∧
      (∀ i < j, inN (T * 10 ^ g.toNat * 10 ^ i) (V * 10 ^ (-g).toNat + U * 10 ^ (-g).toNat) cl = true) ∧ Tame w w' b ∧ Below B w w' := by
  obtain ⟨v4, hc, ct⟩ := tens_whole w B b V L U T g.toNat K cl h hTK (by omega)
  have cm : ∀ w1, Iv w1 B b V L U (T * 10 ^ g.toNat) cl → Calls Tryz.prog 50 #[.pointer (some ⟨b, 0, none⟩), .int .i64 ((-g).toNat : Nat)] w1 fun e w' => e = .returned (.tuple #[]) ∧ Hid (Iv w' B b (V * 10 ^ (-g).toNat) (L * 10 ^ (-g).toNat) (U * 10 ^ (-g).toNat) (T * 10 ^ g.toNat) cl ∧ Tame w1 w' b ∧ Below B w1 w') := by
    intro w1 i1
    exact times_any w1 B b V L U _ _ K cl i1 hVK hLK hUK (by omega)
  have p1 : 0 < T * 10 ^ g.toNat := Nat.mul_pos hT0 (Nat.pow_pos (by decide))
  have q1 := tens_lt (j := g.toNat) hTK
  have q2 := tens_lt (j := (-g).toNat) hVK
  have q3 := tens_lt (j := (-g).toNat) hLK
  have q4 := tens_lt (j := (-g).toNat) hUK
  have up : ∀ X k : Nat, X < 2 ^ (K + 4 * k) → k ≤ 10000 → X < 2 ^ (K + 40000) := fun X k hx hk => Nat.lt_of_lt_of_le hx (Nat.pow_le_pow_right (by decide) (by omega))
  have r1 := up _ _ q1 (by omega)
  have r2 := up _ _ q2 (by omega)
  have r3 := up _ _ q3 (by omega)
  have r4 := up _ _ q4 (by omega)
  rcases Int.lt_trichotomy g 0 with c | c | c
  · have e0 : (((g.toNat : Nat)) : Int) = 0 := by omega
    rw [e0] at ct
    exact scale_lo w B b V L U _ _ _ _ (K + 40000) (-g).toNat cl g c (by omega) (by omega) p1 r1 r2 r3 r4 (by omega) v4 hc ct cm
  · have e0 : (((g.toNat : Nat)) : Int) = g := by omega
    have e1 : ((((-g).toNat : Nat)) : Int) = -g := by omega
    rw [e0] at ct
    rw [e1] at cm
    exact scale_zero w B b V L U _ _ _ _ (K + 40000) cl g (by omega) (by omega) p1 r1 r2 r3 r4 (by omega) v4 hc ct cm
  · have e0 : (((g.toNat : Nat)) : Int) = g := by omega
    have e1 : ((((-g).toNat : Nat)) : Int) = 0 := by omega
    rw [e0] at ct
    rw [e1] at cm
    exact scale_hi w B b V L U _ _ _ _ (K + 40000) cl g c g1 p1 r1 r2 r3 r4 (by omega) v4 hc ct cm

end Go.Proofs.YtpejebohekcfoabGreatDoor
