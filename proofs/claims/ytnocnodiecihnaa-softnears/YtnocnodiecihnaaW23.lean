/- The document's Near is the number nearest to man, and a half, times a power of two; both Nears are the same. -/
import Derived.Test.YtnocnodiecihnaaW22
import Derived.Test.YtnocnodiecihnaaM11
namespace Go.Proofs.Ytnocnodiecihnaa
open Go.RowKit

theorem kept_lt (M : Nat) (X L : Int) (C : Nat) (hL : lastPlace M X = L) (hC : L - X = C) : M / 2 ^ C ≤ 9007199254740991 := by
  have h2 := lt_two_log2 M
  have hl : X + M.log2 - 52 ≤ L := by rw [← hL]; unfold lastPlace; omega
  have a : 2 ^ (M.log2 + 1) ≤ 2 ^ (53 + C) := Nat.pow_le_pow_right (by decide) (by omega)
  have b : M < 2 ^ 53 * 2 ^ C := by rw [← Nat.pow_add]; omega
  have c : M / 2 ^ C < 2 ^ 53 := (Nat.div_lt_iff_lt_mul (Nat.two_pow_pos C)).2 b
  have d : M / 2 ^ C < 9007199254740992 := c
  omega

theorem last_form (M : Nat) (X : Int) (hM : M ≠ 0) :
    (X + ((blen M : Nat) : Int) - 53 ≤ -1074 ∧ lastPlace M X = -1074) ∨ (-1074 ≤ X + ((blen M : Nat) : Int) - 53 ∧ lastPlace M X = X + ((blen M : Nat) : Int) - 53) := by
  unfold lastPlace blen
  rw [if_neg hM]
  omega

theorem last_le (M : Nat) (X : Int) (hM : M < 18446744073709551616) (hX : X ≤ 5000) : lastPlace M X ≤ 6000 := by
  unfold lastPlace
  by_cases hz : M = 0
  · subst hz
    have : Nat.log2 0 = 0 := by decide
    rw [this]; omega
  · have := log2_64 M hM hz
    omega

theorem low_small (M : Nat) (X : Int) (h : lastPlace M X - X ≤ 0) : M ≤ 9007199254740992 := by
  have h2 := lt_two_log2 M
  have hl : M.log2 ≤ 52 := by unfold lastPlace at h; omega
  have a : 2 ^ (M.log2 + 1) ≤ 2 ^ 53 := Nat.pow_le_pow_right (by decide) (by omega)
  have b : 2 ^ (M.log2 + 1) ≤ 9007199254740992 := a
  omega

/-- what is rounded of a whole number by Ldexp -/
theorem ld_int (L : Int) (l0 : -90000 ≤ L) (l1 : L ≤ 90000) (n : Int) (w : World) (n0 : 0 ≤ n) (n1 : n ≤ 9007199254740992) :
    Calls Try.prog 55 #[.float .f64 (floatOfInt .f64 n), .int .i64 L] w fun e w' => e = .returned (.float .f64 (rung n.toNat L)) ∧ w' = w :=
  Ldexp_int n L n0 n1 l0 l1 w

theorem co_int (L n : Int) (w : World) :
    Calls Try.prog 12 #[.float .f64 (rung n.toNat L)] w fun e w' => e = .returned (.int .u64 ((rung n.toNat L : Nat) : Int)) ∧ w' = w :=
  of_rung _ (rung_le _ _) w

theorem refnear_b (man exp X : Int) (w : World) (m0 : 0 ≤ man) (m1 : man < 18446744073709551616) (hX : Brought 5000 exp X) (x0 : -5000 ≤ X) (x1 : X ≤ 5000) :
    Calls Try.prog 36 #[.int .u64 man, .int .i64 exp, .bool false] w fun e w' => e = .returned (.int .u64 ((rung man.toNat X : Nat) : Int)) ∧ w' = w := by
  obtain ⟨M, rfl⟩ := Int.eq_ofNat_of_zero_le m0
  have M1 : M < 18446744073709551616 := by omega
  have cb := fun w => refbits_any ((M : Nat) : Int) w m0 m1
  rw [Int.toNat_natCast] at cb ⊢
  have B1 := blen_le M M1
  by_cases hz : M = 0
  · subst hz
    have e : rung 0 X = 0 := rung_zero' X
    have b : blen 0 = 0 := rfl
    rw [e]
    rw [b] at cb
    by_cases c : X - 53 ≤ -1074
    · exact refnear_b_zero _ exp X _ (-1074) _ w rfl hX x0 x1 cb (by omega) (by omega) (Or.inl ⟨by omega, rfl⟩) (by omega) (by omega) rfl
    · exact refnear_b_zero _ exp X _ (X - 53) _ w rfl hX x0 x1 cb (by omega) (by omega) (Or.inr ⟨by omega, by omega⟩) (by omega) (by omega) rfl
  have HL := last_form M X hz
  have L0 := last_ge M X
  have L1 := last_le M X M1 x1
  have low := low_small M X
  have gone := fun C => rung_gone M X C M1
  have shed := fun C => rung_shed M X (lastPlace M X) C hz rfl
  have klt := fun C => kept_lt M X (lastPlace M X) C rfl
  generalize lastPlace M X = L at *
  generalize blen M = B at *
  have pos : (0 : Int) < ((M : Nat) : Int) := by omega
  by_cases c1 : 64 < L - X
  · rw [gone (L - X).toNat (by omega) (by omega)]
    exact refnear_b_far _ exp X _ L _ w m0 m1 hX x0 x1 cb (by omega) (by omega) HL L0 L1 rfl pos c1
  by_cases c2 : L - X ≤ 0
  · have ld := fun w => ld_int X (by omega) (by omega) ((M : Nat) : Int) w m0 (by have := low c2; omega)
    have co := fun w => co_int X ((M : Nat) : Int) w
    rw [Int.toNat_natCast] at ld co
    generalize rung M X = R at *
    exact refnear_b_low _ exp X _ L _ ((R : Nat) : Int) w m0 m1 hX x0 x1 cb (by omega) (by omega) HL L0 L1 rfl pos c2 ld co
  obtain ⟨C, hC⟩ : ∃ C : Nat, L - X = ((C : Nat) : Int) := ⟨(L - X).toNat, by omega⟩
  have C1 : 1 ≤ C := by omega
  have ld := fun (n : Int) (w : World) => ld_int L (by omega) (by omega) n w
  have co := fun (n : Int) (w : World) (_ : 0 ≤ n) (_ : n ≤ 9007199254740992) => co_int L n w
  rw [shed C hC]
  by_cases c3 : C < 64
  · obtain ⟨e1, e2, e3, e4⟩ := shift_parts M C M1 C1 c3
    obtain ⟨u, d⟩ := rne_by M C _ _ _ C1 rfl rfl rfl
    have kk := klt C hC
    have S1 : M % 2 ^ C ≤ M := Nat.mod_le _ _
    clear shed klt low gone
    generalize M / 2 ^ C = K at *
    generalize M % 2 ^ C = S at *
    refine refnear_b_mid _ exp X _ L _ _ (fun n => rung n.toNat L) (fun n => ((rung n.toNat L : Nat) : Int)) w m0 m1 hX x0 x1 cb (by omega) (by omega) HL L0 L1 hC pos (by omega) (by omega)
      ((K : Nat) : Int) ((K * 2 ^ C : Nat) : Int) ((S : Nat) : Int) (by rw [Int.toNat_natCast]; exact e1) (by rw [Int.toNat_natCast, IntKind.wrap_u64]; exact e2) (by omega) (by omega) e3 (by omega) (by omega) ((2 ^ (C - 1) : Nat) : Int) (by rw [Int.toNat_natCast, IntKind.wrap_u64]; exact e4) ld co ?_ ?_
    · intro h
      have := u (by omega)
      show ((rung (((K : Nat) : Int) + 1).toNat L : Nat) : Int) = _
      rw [this, show (((K : Nat) : Int) + 1).toNat = K + 1 from by omega]
    · intro h
      have := d (by omega)
      show ((rung (((K : Nat) : Int)).toNat L : Nat) : Int) = _
      rw [this, Int.toNat_natCast]
  · have C64 : C = 64 := by omega
    subst C64
    obtain ⟨u, d⟩ := rne_by M 64 _ _ _ (by omega) rfl rfl rfl
    have k0 : M / 2 ^ 64 = 0 := Nat.div_eq_of_lt (by show M < 18446744073709551616; omega)
    have s0 : M % 2 ^ 64 = M := Nat.mod_eq_of_lt (by show M < 18446744073709551616; omega)
    have d0 : 2 ^ (64 - 1) = 9223372036854775808 := rfl
    rw [k0, s0, d0] at u d
    clear shed klt low gone k0 s0 d0
    refine refnear_b_top _ exp X _ L _ _ (fun n => rung n.toNat L) (fun n => ((rung n.toNat L : Nat) : Int)) w m0 m1 hX x0 x1 cb (by omega) (by omega) HL L0 L1 hC pos rfl ld co ?_ ?_
    · intro h
      have := u (by omega)
      show ((rung ((0 : Int) + 1).toNat L : Nat) : Int) = _
      rw [this]
      rfl
    · intro h
      have := d (by omega)
      show ((rung (0 : Int).toNat L : Nat) : Int) = _
      rw [this]
      rfl

theorem refnear_a1 (man exp X : Int) (w : World) (m0 : 0 ≤ man) (m1 : man < 9223372036854775808) (hX : Brought 5000 exp X) (x0 : -5000 ≤ X) (x1 : X ≤ 5000) :
    Calls Try.prog 36 #[.int .u64 man, .int .i64 exp, .bool true] w fun e w' => e = .returned (.int .u64 ((rung (2 * man.toNat + 1) (X - 1) : Nat) : Int)) ∧ w' = w := by
  obtain ⟨N, rfl⟩ := Int.eq_ofNat_of_zero_le m0
  obtain ⟨M, hM⟩ : ∃ M : Nat, M = 2 * N + 1 := ⟨_, rfl⟩
  have M1 : M < 18446744073709551616 := by omega
  have cb := fun w => refbits_any ((M : Nat) : Int) w (by omega) (by omega)
  rw [Int.toNat_natCast] at cb ⊢
  rw [← hM]
  have hI : ((M : Nat) : Int) = 2 * ((N : Nat) : Int) + 1 := by omega
  have B1 := blen_le M M1
  have hz : M ≠ 0 := by omega
  have HL := last_form M (X - 1) hz
  have L0 := last_ge M (X - 1)
  have L1 := last_le M (X - 1) M1 (by omega)
  have low := low_small M (X - 1)
  have gone := fun C => rung_gone M (X - 1) C M1
  have shed := fun C => rung_shed M (X - 1) (lastPlace M (X - 1)) C hz rfl
  have klt := fun C => kept_lt M (X - 1) (lastPlace M (X - 1)) C rfl
  generalize lastPlace M (X - 1) = L at *
  generalize blen M = B at *
  rw [hI] at cb
  by_cases c1 : 64 < L - (X - 1)
  · rw [gone (L - (X - 1)).toNat (by omega) (by omega)]
    exact refnear_a1_far _ exp X _ L _ w m0 m1 hX x0 x1 cb (by omega) (by omega) HL L0 L1 rfl c1
  by_cases c2 : L - (X - 1) ≤ 0
  · have ld := fun w => ld_int (X - 1) (by omega) (by omega) ((M : Nat) : Int) w (by omega) (by have := low c2; omega)
    have co := fun w => co_int (X - 1) ((M : Nat) : Int) w
    rw [Int.toNat_natCast] at ld co
    generalize rung M (X - 1) = R at *
    rw [hI] at ld
    exact refnear_a1_low _ exp X _ L _ ((R : Nat) : Int) w m0 m1 hX x0 x1 cb (by omega) (by omega) HL L0 L1 rfl c2 ld co
  obtain ⟨C, hC⟩ : ∃ C : Nat, L - (X - 1) = ((C : Nat) : Int) := ⟨(L - (X - 1)).toNat, by omega⟩
  have C1 : 1 ≤ C := by omega
  have ld := fun (n : Int) (w : World) => ld_int L (by omega) (by omega) n w
  have co := fun (n : Int) (w : World) (_ : 0 ≤ n) (_ : n ≤ 9007199254740992) => co_int L n w
  rw [shed C hC]
  by_cases c3 : C < 64
  · obtain ⟨e1, e2, e3, e4⟩ := shift_parts M C M1 C1 c3
    obtain ⟨u, d⟩ := rne_by M C _ _ _ C1 rfl rfl rfl
    have kk := klt C hC
    have S1 : M % 2 ^ C ≤ M := Nat.mod_le _ _
    clear shed klt low gone
    generalize M / 2 ^ C = K at *
    generalize M % 2 ^ C = S at *
    rw [hI] at e1 e3
    refine refnear_a1_mid _ exp X _ L _ _ (fun n => rung n.toNat L) (fun n => ((rung n.toNat L : Nat) : Int)) w m0 m1 hX x0 x1 cb (by omega) (by omega) HL L0 L1 hC (by omega) (by omega)
      ((K : Nat) : Int) ((K * 2 ^ C : Nat) : Int) ((S : Nat) : Int) (by rw [Int.toNat_natCast]; exact e1) (by rw [Int.toNat_natCast, IntKind.wrap_u64]; exact e2) (by omega) (by omega) e3 (by omega) (by omega) ((2 ^ (C - 1) : Nat) : Int) (by rw [Int.toNat_natCast, IntKind.wrap_u64]; exact e4) ld co ?_ ?_
    · intro h
      have := u (by omega)
      show ((rung (((K : Nat) : Int) + 1).toNat L : Nat) : Int) = _
      rw [this, show (((K : Nat) : Int) + 1).toNat = K + 1 from by omega]
    · intro h
      have := d (by omega)
      show ((rung (((K : Nat) : Int)).toNat L : Nat) : Int) = _
      rw [this, Int.toNat_natCast]
  · have C64 : C = 64 := by omega
    subst C64
    obtain ⟨u, d⟩ := rne_by M 64 _ _ _ (by omega) rfl rfl rfl
    have k0 : M / 2 ^ 64 = 0 := Nat.div_eq_of_lt (by show M < 18446744073709551616; omega)
    have s0 : M % 2 ^ 64 = M := Nat.mod_eq_of_lt (by show M < 18446744073709551616; omega)
    have d0 : 2 ^ (64 - 1) = 9223372036854775808 := rfl
    rw [k0, s0, d0] at u d
    clear shed klt low gone k0 s0 d0
    refine refnear_a1_top _ exp X _ L _ _ (fun n => rung n.toNat L) (fun n => ((rung n.toNat L : Nat) : Int)) w m0 m1 hX x0 x1 cb (by omega) (by omega) HL L0 L1 hC rfl ld co ?_ ?_
    · intro h
      have := u (by omega)
      show ((rung ((0 : Int) + 1).toNat L : Nat) : Int) = _
      rw [this]
      rfl
    · intro h
      have := d (by omega)
      show ((rung (0 : Int).toNat L : Nat) : Int) = _
      rw [this]
      rfl

theorem refnear_a2 (man exp X : Int) (w : World) (m0 : 9223372036854775808 ≤ man) (m1 : man < 18446744073709551616) (hX : Brought 5000 exp X) (x0 : -5000 ≤ X) (x1 : X ≤ 5000) :
    Calls Try.prog 36 #[.int .u64 man, .int .i64 exp, .bool true] w fun e w' => e = .returned (.int .u64 ((rung (2 * man.toNat + 1) (X - 1) : Nat) : Int)) ∧ w' = w := by
  obtain ⟨M, rfl⟩ := Int.eq_ofNat_of_zero_le (show 0 ≤ man by omega)
  have M1 : M < 18446744073709551616 := by omega
  have cb := fun w => refbits_any ((M : Nat) : Int) w (by omega) (by omega)
  rw [Int.toNat_natCast] at cb ⊢
  have B1 := blen_le M M1
  have hz : M ≠ 0 := by omega
  have HL := last_form M X hz
  have L0 := last_ge M X
  have L1 := last_le M X M1 (by omega)
  have big : 11 ≤ lastPlace M X - X := by
    have := log2_word M (by omega) M1
    unfold lastPlace; rw [this]; omega
  have gone := fun C => rung_gone_half M X C hz M1
  have shed := fun C => rung_shed_half M X (lastPlace M X) C hz rfl
  have klt := fun C => kept_lt M X (lastPlace M X) C rfl
  generalize lastPlace M X = L at *
  generalize blen M = B at *
  by_cases c1 : 64 < L - X
  · rw [gone (L - X).toNat (by omega) (by omega)]
    exact refnear_a2_far _ exp X _ L _ w m0 m1 hX x0 x1 cb (by omega) (by omega) HL L0 L1 rfl c1
  obtain ⟨C, hC⟩ : ∃ C : Nat, L - X = ((C : Nat) : Int) := ⟨(L - X).toNat, by omega⟩
  have C1 : 1 ≤ C := by omega
  have ld := fun (n : Int) (w : World) => ld_int L (by omega) (by omega) n w
  have co := fun (n : Int) (w : World) (_ : 0 ≤ n) (_ : n ≤ 9007199254740992) => co_int L n w
  rw [shed C hC C1]
  by_cases c3 : C < 64
  · obtain ⟨e1, e2, e3, e4⟩ := shift_parts M C M1 C1 c3
    obtain ⟨u, d⟩ := rneH_by M C _ _ _ C1 rfl rfl rfl
    have kk := klt C hC
    have S1 : M % 2 ^ C ≤ M := Nat.mod_le _ _
    clear shed klt gone
    generalize M / 2 ^ C = K at *
    generalize M % 2 ^ C = S at *
    refine refnear_a2_mid _ exp X _ L _ _ (fun n => rung n.toNat L) (fun n => ((rung n.toNat L : Nat) : Int)) w m0 m1 hX x0 x1 cb (by omega) (by omega) HL L0 L1 hC (by omega) (by omega)
      ((K : Nat) : Int) ((K * 2 ^ C : Nat) : Int) ((S : Nat) : Int) (by rw [Int.toNat_natCast]; exact e1) (by rw [Int.toNat_natCast, IntKind.wrap_u64]; exact e2) (by omega) (by omega) e3 (by omega) (by omega) ((2 ^ (C - 1) : Nat) : Int) (by rw [Int.toNat_natCast, IntKind.wrap_u64]; exact e4) ld co ?_ ?_
    · intro h
      have := u (by omega)
      show ((rung (((K : Nat) : Int) + 1).toNat L : Nat) : Int) = _
      rw [this, show (((K : Nat) : Int) + 1).toNat = K + 1 from by omega]
    · intro h
      have := d (by omega)
      show ((rung (((K : Nat) : Int)).toNat L : Nat) : Int) = _
      rw [this, Int.toNat_natCast]
  · have C64 : C = 64 := by omega
    subst C64
    obtain ⟨u, _⟩ := rneH_by M 64 _ _ _ (by omega) rfl rfl rfl
    have k0 : M / 2 ^ 64 = 0 := Nat.div_eq_of_lt (by show M < 18446744073709551616; omega)
    have s0 : M % 2 ^ 64 = M := Nat.mod_eq_of_lt (by show M < 18446744073709551616; omega)
    have d0 : 2 ^ (64 - 1) = 9223372036854775808 := rfl
    rw [k0, s0, d0] at u
    clear shed klt gone k0 s0 d0
    refine refnear_a2_top _ exp X _ L _ _ (fun n => rung n.toNat L) (fun n => ((rung n.toNat L : Nat) : Int)) w m0 m1 hX x0 x1 cb (by omega) (by omega) HL L0 L1 hC rfl ld co ?_
    intro h
    have := u (by omega)
    show ((rung ((0 : Int) + 1).toNat L : Nat) : Int) = _
    rw [this]
    rfl

theorem nmag_n (man : Int) : nmag man false = man.toNat := by unfold nmag; rw [if_neg (by decide)]
theorem nmag_h (man : Int) : nmag man true = 2 * man.toNat + 1 := by unfold nmag; rw [if_pos rfl]
theorem npl_n (c e : Int) : npl c e false = clampI c e := by unfold npl; rw [if_neg (by decide)]
theorem npl_h (c e : Int) : npl c e true = clampI c e - 1 := by unfold npl; rw [if_pos rfl]

theorem refnear_any (man exp : Int) (half : Bool) (h0 : 0 ≤ man) (h1 : man < 18446744073709551616) (w : World) :
    Calls Try.prog 36 #[.int .u64 man, .int .i64 exp, .bool half] w fun e w' => e = .returned (.int .u64 (nearI 5000 man exp half)) ∧ w' = w := by
  have hX := brought 5000 exp (by omega)
  obtain ⟨b0, b1⟩ := clamp_bd 5000 exp (by omega)
  unfold nearI
  cases half
  · rw [nmag_n, npl_n]
    exact refnear_b man exp _ w h0 h1 hX b0 b1
  · rw [nmag_h, npl_h]
    by_cases c : man < 9223372036854775808
    · exact refnear_a1 man exp _ w h0 c hX b0 b1
    · exact refnear_a2 man exp _ w (by omega) h1 hX b0 b1

theorem npl_bd (c e : Int) (half : Bool) : clampI c e - 1 ≤ npl c e half ∧ npl c e half ≤ clampI c e := by
  cases half
  · rw [npl_n]; omega
  · rw [npl_h]; omega

theorem near_same (man exp : Int) (half : Bool) (h1 : man < 18446744073709551616) : nearI 5000 man exp half = nearI 2000 man exp half := by
  have hm : nmag man half < 36893488147419103232 := by unfold nmag; split <;> omega
  have c5 := brought 5000 exp (by omega)
  have c2 := brought 2000 exp (by omega)
  obtain ⟨p5, q5⟩ := npl_bd 5000 exp half
  obtain ⟨p2, q2⟩ := npl_bd 2000 exp half
  unfold Brought at c5 c2
  unfold nearI
  generalize nmag man half = M at *
  by_cases c : exp < -2000
  · rw [rung_lo M (npl 5000 exp half) hm (by omega), rung_lo M (npl 2000 exp half) hm (by omega)]
  by_cases c2 : 2000 < exp
  · by_cases z : M = 0
    · subst z; rw [rung_zero', rung_zero']
    · rw [rung_hi M (npl 5000 exp half) z (by omega), rung_hi M (npl 2000 exp half) z (by omega)]
  · have e : npl 5000 exp half = npl 2000 exp half := by
      cases half
      · rw [npl_n, npl_n]; omega
      · rw [npl_h, npl_h]; omega
    rw [e]

set_option maxHeartbeats 1000000 in
theorem nears_walk (man exp : Int) (half : Bool) (h0 : 0 ≤ man) (h1 : man < 18446744073709551616) (w : World) :
    Calls Try.prog 7 #[.int .u64 man, .int .i64 exp, .bool half] w fun e w' => e = .returned (.bool true) ∧ Below w.heap.size w w' := by
  have ca := fun w => alive_any w
  have cn := fun w => near_any man exp half h0 h1 w
  have cr := fun w => refnear_any man exp half h0 h1 w
  rw [near_same man exp half h1] at cr
  generalize nearI 2000 man exp half = R at *
  go_enter Try.func7, Try.ntmps7
  go_wp2_with fail
  refine (ca _).mono ?_
  rintro e w1 ⟨rfl, hb1⟩
  go_wp2_with fail
  refine (cn _).mono ?_
  rintro e w2 ⟨rfl, hb2⟩
  go_wp2_with fail
  refine (cr _).mono ?_
  rintro e w3 ⟨rfl, hw⟩
  subst hw
  go_wp2
  go_ret
  exact ⟨rfl, bt hb1 hb2⟩

end Go.Proofs.Ytnocnodiecihnaa
