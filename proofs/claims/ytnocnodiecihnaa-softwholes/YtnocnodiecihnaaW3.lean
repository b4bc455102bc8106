/- The walks of shrink and sum. -/
import Derived.Test.YtnocnodiecihnaaW2
namespace Go.Proofs.Ytnocnodiecihnaa
open Go.RowKit

/-- shrink: m / 2^d, what is lost marked -/
def shrinkI (m d : Int) : Int := ((stk m.toNat d.toNat : Nat) : Int)

set_option maxHeartbeats 400000 in
theorem shrink_core (m d K : Int) (t : Bool) (w : World) (_d0 : 0 ≤ d) (hK : m / 2 ^ min d.toNat 64 = K) (_k0 : 0 ≤ K) (_k1 : K < 18446744073709551616)
    (hT : (IntKind.u64.wrap (K * 2 ^ min d.toNat 64) != m) = t) :
    Calls Try.prog 56 #[.int .u64 m, .int .i64 d] w fun e w' => e = .returned (.int .u64 (stickyI K t)) ∧ w' = w := by
  go_enter Try.func56, Try.ntmps56
  go_wp2_with fail
  refine (sticky_any K t w _k0 _k1).mono ?_
  rintro e w1 ⟨rfl, rfl⟩
  go_wp2
  go_ret
  exact ⟨rfl, rfl⟩

theorem stk_zero_word (m d : Nat) (h1 : m < 18446744073709551616) : m / 2 ^ min d 64 = m / 2 ^ d ∧ (m / 2 ^ min d 64 * 2 ^ min d 64 % 18446744073709551616 = m ↔ m % 2 ^ d = 0) := by
  by_cases c : d ≤ 64
  · rw [Nat.min_eq_left c]
    have p := Nat.two_pow_pos d
    have e := Nat.div_add_mod m (2 ^ d)
    have e' : m / 2 ^ d * 2 ^ d = m - m % 2 ^ d := by rw [Nat.mul_comm]; omega
    refine ⟨rfl, ?_⟩
    rw [e', Nat.mod_eq_of_lt (by omega)]
    have := Nat.mod_le m (2 ^ d)
    omega
  · rw [Nat.min_eq_right (by omega)]
    have hp : 2 ^ 64 ≤ 2 ^ d := Nat.pow_le_pow_right (by decide) (by omega)
    have hp' : 18446744073709551616 ≤ 2 ^ d := hp
    have e1 : m / 2 ^ d = 0 := Nat.div_eq_of_lt (by omega)
    have e2 : m % 2 ^ d = m := Nat.mod_eq_of_lt (by omega)
    have e3 : m / 2 ^ 64 = 0 := Nat.div_eq_of_lt (by show m < 18446744073709551616; exact h1)
    rw [e1, e2, e3]
    refine ⟨rfl, ?_⟩
    simp
    omega

theorem shrink_any (m d : Int) (w : World) (h0 : 0 ≤ m) (h1 : m < 18446744073709551616) (d0 : 0 ≤ d) :
    Calls Try.prog 56 #[.int .u64 m, .int .i64 d] w fun e w' => e = .returned (.int .u64 (shrinkI m d)) ∧ w' = w := by
  obtain ⟨mn, rfl⟩ := Int.eq_ofNat_of_zero_le h0
  obtain ⟨dn, rfl⟩ := Int.eq_ofNat_of_zero_le d0
  obtain ⟨z1, z2⟩ := stk_zero_word mn dn (by omega)
  have hK : (mn : Int) / 2 ^ min ((dn : Int)).toNat 64 = ((mn / 2 ^ min dn 64 : Nat) : Int) := by
    rw [Int.toNat_natCast, Int.natCast_ediv, Int.natCast_pow]; rfl
  have hW : IntKind.u64.wrap (((mn / 2 ^ min dn 64 : Nat) : Int) * 2 ^ min ((dn : Int)).toNat 64) = ((mn / 2 ^ min dn 64 * 2 ^ min dn 64 % 18446744073709551616 : Nat) : Int) := by
    rw [IntKind.wrap_u64, Int.toNat_natCast, Int.natCast_emod, Int.natCast_mul, Int.natCast_pow]; rfl
  have hlt : mn / 2 ^ min dn 64 ≤ mn := Nat.div_le_self _ _
  have := shrink_core mn dn _ (decide (mn % 2 ^ dn ≠ 0)) w d0 hK (Int.natCast_nonneg _) (Int.lt_of_le_of_lt (Int.ofNat_le.2 hlt) h1) (by
    rw [hW]
    by_cases c : mn % 2 ^ dn = 0
    · rw [z2.2 c]; simp [c]
    · have : mn / 2 ^ min dn 64 * 2 ^ min dn 64 % 18446744073709551616 ≠ mn := fun h => c (z2.1 h)
      rw [decide_eq_true c, bne_iff_ne]
      exact fun hh => this (Int.ofNat.inj hh))
  have e : stickyI ((mn / 2 ^ min dn 64 : Nat) : Int) (decide (mn % 2 ^ dn ≠ 0)) = shrinkI mn dn := by
    unfold stickyI shrinkI stk
    rw [z1, Int.toNat_natCast, Int.toNat_natCast, Int.toNat_natCast]
    by_cases c : mn % 2 ^ dn = 0
    · simp [c]
    · simp [c]
  rw [e] at this
  exact this

theorem stk_lt (m d B : Nat) (h : m < 2 * B) : stk m d < 2 * B := by
  unfold stk
  have := Nat.div_le_self m (2 ^ d)
  split
  · omega
  · rw [or_one]; omega


/-- the sum of two finite ones, the first one's exponent not below the other's -/
def sumOrd (sp mp ep sq mq eq : Int) : Int :=
  if sp = sq then roundI sp (mp * 1024 + shrinkI (mq * 1024) (ep - eq)) (ep - 10)
  else if mp * 1024 = shrinkI (mq * 1024) (ep - eq) then 0
  else if mp * 1024 < shrinkI (mq * 1024) (ep - eq) then roundI sq (shrinkI (mq * 1024) (ep - eq) - mp * 1024) (ep - 10)
  else roundI sp (mp * 1024 - shrinkI (mq * 1024) (ep - eq)) (ep - 10)

def sumI (sp mp ep sq mq eq : Int) : Int := if ep < eq then sumOrd sq mq eq sp mp ep else sumOrd sp mp ep sq mq eq

theorem b2d {w : World} (a b : Obj) (n : Nat) : Below w.heap.size w (((w.alloc a).alloc b).drewN n) :=
  below_drewN (((Below.refl _ _).alloc (Nat.le_refl _) _).alloc (by simp) _) n

theorem shrink_bd (m d : Int) (h0 : 0 ≤ m) (h1 : m < 9223372036854775808) : 0 ≤ shrinkI m d ∧ shrinkI m d < 9223372036854775808 := by
  unfold shrinkI
  have := stk_lt m.toNat d.toNat 4611686018427387904 (by omega)
  omega

set_option maxHeartbeats 1000000 in
theorem sum_fit (kp sp mp ep kq sq mq eq : Int) (w : World) (hord : eq ≤ ep) (hp : sp = 0 ∨ sp = 9223372036854775808) (hq : sq = 0 ∨ sq = 9223372036854775808)
    (_p0 : 0 < mp) (_p1 : mp < 9007199254740992) (_q0 : 0 < mq) (_q1 : mq < 9007199254740992)
    (_a0 : -2000 ≤ ep) (_a1 : ep ≤ 2000) (_b0 : -2000 ≤ eq) (_b1 : eq ≤ 2000) :
    Calls Try.prog 40 #[.agg #[.int .i64 kp, .int .u64 sp, .int .u64 mp, .int .i64 ep], .agg #[.int .i64 kq, .int .u64 sq, .int .u64 mq, .int .i64 eq]] w
      fun e w' => e = .returned (.int .u64 (sumOrd sp mp ep sq mq eq)) ∧ Below w.heap.size w w' := by
  have hsh := fun w => shrink_any (mq * 1024) (ep - eq) w (by omega) (by omega) (by omega)
  obtain ⟨y0, y1⟩ := shrink_bd (mq * 1024) (ep - eq) (by omega) (by omega)
  have HS : Hid (∀ Z : Int, Z = sumOrd sp mp ep sq mq eq → Z = (if sp = sq then roundI sp (mp * 1024 + shrinkI (mq * 1024) (ep - eq)) (ep - 10)
  else if mp * 1024 = shrinkI (mq * 1024) (ep - eq) then 0
  else if mp * 1024 < shrinkI (mq * 1024) (ep - eq) then roundI sq (shrinkI (mq * 1024) (ep - eq) - mp * 1024) (ep - 10)
  else roundI sp (mp * 1024 - shrinkI (mq * 1024) (ep - eq)) (ep - 10))) := fun Z h => by rw [h]; rfl
  generalize sumOrd sp mp ep sq mq eq = Z at *
  have HZ : Hid (Z = _) := HS.out Z rfl
  clear HS
  generalize shrinkI (mq * 1024) (ep - eq) = Y at *
  have H1 : Hid (sp = 0 ∨ sp = 9223372036854775808) := hp
  have H2 : Hid (sq = 0 ∨ sq = 9223372036854775808) := hq
  clear hp hq
  go_enter Try.func40, Try.ntmps40
  go_wp2_with fail
  go_quiet ((go_at_call 56; exact Calls.quiet_of_same (hsh _)))
  go_wp2_with fail
  · refine (round_any sp _ _ _ H1.out (by omega) (by omega) (by omega) (by omega)).mono ?_
    rintro e w1 ⟨rfl, hb⟩
    go_wp2
    go_ret
    exact ⟨ret_int (by rw [HZ.out, if_pos (beq_iff_eq.1 ‹(sp == sq) = true›)]), bt (b2d _ _ _) hb⟩
  · go_ret
    exact ⟨ret_int (by rw [HZ.out, if_neg (beq_eq_false_iff_ne.1 ‹(sp == sq) = false›), if_pos (beq_iff_eq.1 ‹(mp * 1024 == Y) = true›)]), b2d _ _ _⟩
  · refine (round_any sq _ _ _ H2.out (by omega) (by omega) (by omega) (by omega)).mono ?_
    rintro e w1 ⟨rfl, hb⟩
    go_wp2
    go_ret
    exact ⟨ret_int (by rw [HZ.out, if_neg (beq_eq_false_iff_ne.1 ‹(sp == sq) = false›), if_neg (beq_eq_false_iff_ne.1 ‹(mp * 1024 == Y) = false›), if_pos ‹mp * 1024 < Y›]), bt (b2d _ _ _) hb⟩
  · refine (round_any sp _ _ _ H1.out (by omega) (by omega) (by omega) (by omega)).mono ?_
    rintro e w1 ⟨rfl, hb⟩
    go_wp2
    go_ret
    exact ⟨ret_int (by rw [HZ.out, if_neg (beq_eq_false_iff_ne.1 ‹(sp == sq) = false›), if_neg (beq_eq_false_iff_ne.1 ‹(mp * 1024 == Y) = false›), if_neg (by omega)]), bt (b2d _ _ _) hb⟩

set_option maxHeartbeats 1000000 in
theorem sum_swap (kp sp mp ep kq sq mq eq : Int) (w : World) (hord : ep < eq) (hp : sp = 0 ∨ sp = 9223372036854775808) (hq : sq = 0 ∨ sq = 9223372036854775808)
    (_p0 : 0 < mp) (_p1 : mp < 9007199254740992) (_q0 : 0 < mq) (_q1 : mq < 9007199254740992)
    (_a0 : -2000 ≤ ep) (_a1 : ep ≤ 2000) (_b0 : -2000 ≤ eq) (_b1 : eq ≤ 2000) :
    Calls Try.prog 40 #[.agg #[.int .i64 kp, .int .u64 sp, .int .u64 mp, .int .i64 ep], .agg #[.int .i64 kq, .int .u64 sq, .int .u64 mq, .int .i64 eq]] w
      fun e w' => e = .returned (.int .u64 (sumOrd sq mq eq sp mp ep)) ∧ Below w.heap.size w w' := by
  have hsh := fun w => shrink_any (mp * 1024) (eq - ep) w (by omega) (by omega) (by omega)
  obtain ⟨y0, y1⟩ := shrink_bd (mp * 1024) (eq - ep) (by omega) (by omega)
  have HS : Hid (∀ Z : Int, Z = sumOrd sq mq eq sp mp ep → Z = (if sq = sp then roundI sq (mq * 1024 + shrinkI (mp * 1024) (eq - ep)) (eq - 10)
  else if mq * 1024 = shrinkI (mp * 1024) (eq - ep) then 0
  else if mq * 1024 < shrinkI (mp * 1024) (eq - ep) then roundI sp (shrinkI (mp * 1024) (eq - ep) - mq * 1024) (eq - 10)
  else roundI sq (mq * 1024 - shrinkI (mp * 1024) (eq - ep)) (eq - 10))) := fun Z h => by rw [h]; rfl
  generalize sumOrd sq mq eq sp mp ep = Z at *
  have HZ : Hid (Z = _) := HS.out Z rfl
  clear HS
  generalize shrinkI (mp * 1024) (eq - ep) = Y at *
  have H1 : Hid (sq = 0 ∨ sq = 9223372036854775808) := hq
  have H2 : Hid (sp = 0 ∨ sp = 9223372036854775808) := hp
  clear hp hq
  go_enter Try.func40, Try.ntmps40
  go_wp2_with fail
  go_quiet ((go_at_call 56; exact Calls.quiet_of_same (hsh _)))
  go_wp2_with fail
  · refine (round_any sq _ _ _ H1.out (by omega) (by omega) (by omega) (by omega)).mono ?_
    rintro e w1 ⟨rfl, hb⟩
    go_wp2
    go_ret
    exact ⟨ret_int (by rw [HZ.out, if_pos (beq_iff_eq.1 ‹(sq == sp) = true›)]), bt (b2d _ _ _) hb⟩
  · go_ret
    exact ⟨ret_int (by rw [HZ.out, if_neg (beq_eq_false_iff_ne.1 ‹(sq == sp) = false›), if_pos (beq_iff_eq.1 ‹(mq * 1024 == Y) = true›)]), b2d _ _ _⟩
  · refine (round_any sp _ _ _ H2.out (by omega) (by omega) (by omega) (by omega)).mono ?_
    rintro e w1 ⟨rfl, hb⟩
    go_wp2
    go_ret
    exact ⟨ret_int (by rw [HZ.out, if_neg (beq_eq_false_iff_ne.1 ‹(sq == sp) = false›), if_neg (beq_eq_false_iff_ne.1 ‹(mq * 1024 == Y) = false›), if_pos ‹mq * 1024 < Y›]), bt (b2d _ _ _) hb⟩
  · refine (round_any sq _ _ _ H1.out (by omega) (by omega) (by omega) (by omega)).mono ?_
    rintro e w1 ⟨rfl, hb⟩
    go_wp2
    go_ret
    exact ⟨ret_int (by rw [HZ.out, if_neg (beq_eq_false_iff_ne.1 ‹(sq == sp) = false›), if_neg (beq_eq_false_iff_ne.1 ‹(mq * 1024 == Y) = false›), if_neg (by omega)]), bt (b2d _ _ _) hb⟩

theorem sum_any (kp sp mp ep kq sq mq eq : Int) (w : World) (hp : sp = 0 ∨ sp = 9223372036854775808) (hq : sq = 0 ∨ sq = 9223372036854775808)
    (p0 : 0 < mp) (p1 : mp < 9007199254740992) (q0 : 0 < mq) (q1 : mq < 9007199254740992)
    (a0 : -2000 ≤ ep) (a1 : ep ≤ 2000) (b0 : -2000 ≤ eq) (b1 : eq ≤ 2000) :
    Calls Try.prog 40 #[.agg #[.int .i64 kp, .int .u64 sp, .int .u64 mp, .int .i64 ep], .agg #[.int .i64 kq, .int .u64 sq, .int .u64 mq, .int .i64 eq]] w
      fun e w' => e = .returned (.int .u64 (sumI sp mp ep sq mq eq)) ∧ Below w.heap.size w w' := by
  unfold sumI
  by_cases c : ep < eq
  · rw [if_pos c]; exact sum_swap kp sp mp ep kq sq mq eq w c hp hq p0 p1 q0 q1 a0 a1 b0 b1
  · rw [if_neg c]; exact sum_fit kp sp mp ep kq sq mq eq w (by omega) hp hq p0 p1 q0 q1 a0 a1 b0 b1
end Go.Proofs.Ytnocnodiecihnaa
