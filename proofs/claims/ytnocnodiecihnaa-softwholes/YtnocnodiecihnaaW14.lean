/- The walks of remainder and Rem. -/
import Derived.Test.YtnocnodiecihnaaW8
import Derived.Deep.RegionHeld3
namespace Go.Proofs.Ytnocnodiecihnaa
open Go.RowKit

/-- m times 2^t modulo n -/
def modI (m t n : Int) : Int := m * 2 ^ t.toNat % n

theorem mod_step (m n : Int) (j k : Nat) : m * 2 ^ j % n * 2 ^ k % n = m * 2 ^ (j + k) % n := by
  rw [Int.pow_add, ← Int.mul_assoc, Int.mul_emod, Int.emod_emod_of_dvd _ (Int.dvd_refl n), ← Int.mul_emod]

theorem pow_le_2048 (k : Nat) (h : k ≤ 11) : (2 : Int) ^ k ≤ 2048 ∧ (0 : Int) < 2 ^ k := by
  have h1 : (2 : Nat) ^ k ≤ 2 ^ 11 := Nat.pow_le_pow_right (by decide) h
  have h2 := Nat.two_pow_pos k
  have e : ((2 ^ k : Nat) : Int) = (2 : Int) ^ k := by rw [Int.natCast_pow]; rfl
  rw [← e]
  constructor
  · have h3 : (2 : Nat) ^ k ≤ 2048 := h1
    omega
  · omega

theorem mod_next (m n L t r k : Int) (hL : L = m * 2 ^ (t - r).toNat % n) (n0 : 0 < n) (n1 : n < 9007199254740992) (k0 : 0 ≤ k) (k1 : k ≤ 11) (_k2 : k ≤ r) (r1 : r ≤ t) :
    (IntKind.u64.wrap (L * 2 ^ k.toNat)).tmod n = m * 2 ^ (t - (r - k)).toNat % n := by
  have l0 : 0 ≤ L := by rw [hL]; exact Int.emod_nonneg _ (by omega)
  have l1 : L < n := by rw [hL]; exact Int.emod_lt_of_pos _ n0
  obtain ⟨p1, p2⟩ := pow_le_2048 k.toNat (by omega)
  have b0 : 0 ≤ L * 2 ^ k.toNat := Int.mul_nonneg l0 (by omega)
  have b1 : L * 2 ^ k.toNat ≤ 9007199254740991 * 2048 := Int.mul_le_mul (by omega) p1 (by omega) (by omega)
  have e : IntKind.u64.wrap (L * 2 ^ k.toNat) = L * 2 ^ k.toNat := by rw [IntKind.wrap_u64]; omega
  rw [e, Int.tmod_eq_emod_of_nonneg b0, hL, mod_step, show (t - r).toNat + k.toNat = (t - (r - k)).toNat from by omega]

theorem mod_next11 (m n L t r : Int) (hL : L = m * 2 ^ (t - r).toNat % n) (_k2 : 11 ≤ r) (r1 : r ≤ t) : L * 2048 % n = m * 2 ^ (t - (r - 11)).toNat % n := by
  have := mod_step m n (t - r).toNat 11
  rw [hL, show (2048 : Int) = 2 ^ 11 from rfl, this, show (t - r).toNat + 11 = (t - (r - 11)).toNat from by omega]

set_option maxHeartbeats 1000000 in
theorem remainder_walk (m t n : Int) (w : World) (m0 : 0 ≤ m) (m1 : m < 9007199254740992) (t0 : 0 ≤ t) (t1 : t ≤ 100000) (n0 : 0 < n) (n1 : n < 9007199254740992) :
    Calls Try.prog 47 #[.int .u64 m, .int .i64 t, .int .u64 n] w fun e w' => e = .returned (.int .u64 (modI m t n)) ∧ w' = w := by
  go_enter Try.func47, Try.ntmps47
  go_wp2_with fail
  go_loop [1, 7, 8] (fun tt l _ => ∃ (r : Int) (L : Int), 0 ≤ r ∧ r ≤ t ∧ tt = .int .i64 r ∧ L = m * 2 ^ (t - r).toNat % n ∧ l = .int .u64 L) (fun tt _ _ => (intOf tt).toNat)
  case atStart => 
    exact ⟨t, _, t0, Int.le_refl t, rfl, by rw [show t - t = 0 from by omega]; simp, rfl⟩
  case round =>
    obtain ⟨r, L, r0, r1, rfl, hL, rfl⟩ := hrel
    have l0 : 0 ≤ L := by rw [hL]; exact Int.emod_nonneg _ (by omega)
    have l1 : L < n := by rw [hL]; exact Int.emod_lt_of_pos _ n0
    have HL : Hid (L = m * 2 ^ (t - r).toNat % n) := hL
    clear hL
    by_cases c : 0 < r
    · by_cases c2 : 11 < r
      · go_wp2_with fail
        refine ⟨⟨r - 11, _, by omega, by omega, rfl, mod_next11 m n L t r HL.out (by omega) r1, rfl⟩, ?_⟩
        simp [intOf]; omega
      · go_wp2_with fail
        refine ⟨⟨0, _, by omega, by omega, ?_, ?_, rfl⟩, ?_⟩
        · first | rfl | (rw [if_neg c2]; simp)
        · first | (rw [mod_next m n L t r r HL.out n0 n1 (by omega) (by omega) (by omega) r1, show r - r = 0 from by omega]) | (rw [if_neg c2, mod_next m n L t r r HL.out n0 n1 (by omega) (by omega) (by omega) r1, show r - r = 0 from by omega])
        · first | (simp [intOf]; omega) | (rw [if_neg c2]; simp [intOf]; omega)
    · go_wp2
      go_ret
      exact ⟨ret_int (by rw [HL.out, show t - r = t by omega]; rfl), rfl⟩

set_option maxHeartbeats 1000000 in
theorem rem_nan_l (a b sa ma ea sb mb eb kb : Int) (w : World) (ca : ∀ w : World, Calls Try.prog 38 #[.int .u64 a] w fun e w' => e = .returned (.agg #[.int .i64 3, .int .u64 sa, .int .u64 ma, .int .i64 ea]) ∧ Below w.heap.size w w')
    (cb : ∀ w : World, Calls Try.prog 38 #[.int .u64 b] w fun e w' => e = .returned (.agg #[.int .i64 kb, .int .u64 sb, .int .u64 mb, .int .i64 eb]) ∧ Below w.heap.size w w')
     :
    Calls Try.prog 16 #[.int .u64 a, .int .u64 b] w fun e w' => e = .returned (.int .u64 9221120237041090560) ∧ Below w.heap.size w w' := by
  go_enter Try.func16, Try.ntmps16
  go_wp2_with fail
  refine (ca _).mono ?_
  rintro e w1 ⟨rfl, hb1⟩
  go_wp2_with fail
  refine (cb _).mono ?_
  rintro e w2 ⟨rfl, hb2⟩
  clear ca cb
  go_wp2_with fail
  refine (either_any _ _ _ _ _ _ _ _ _ _).mono ?_
  rintro e w3 ⟨rfl, hb3⟩
  have B3 := (boxes_new w2 _ _ _ _ _ _ _ _ 44).keep hb3
  have B := B3
  unfold Boxes at B
  obtain ⟨⟨x0, x1, x2, x3⟩, ⟨y0, y1, y2, y3⟩, ⟨f0, f1, f2, f3⟩, ⟨g0, g1, g2, g3⟩, hz⟩ := B
  go_wp2
  go_ret
  exact ⟨rfl, bt (bt hb1 hb2) (bt (b2 _ _) hb3)⟩

set_option maxHeartbeats 1000000 in
theorem rem_nan_r (a b sa ma ea sb mb eb ka : Int) (w : World) (ca : ∀ w : World, Calls Try.prog 38 #[.int .u64 a] w fun e w' => e = .returned (.agg #[.int .i64 ka, .int .u64 sa, .int .u64 ma, .int .i64 ea]) ∧ Below w.heap.size w w')
    (cb : ∀ w : World, Calls Try.prog 38 #[.int .u64 b] w fun e w' => e = .returned (.agg #[.int .i64 3, .int .u64 sb, .int .u64 mb, .int .i64 eb]) ∧ Below w.heap.size w w')
     :
    Calls Try.prog 16 #[.int .u64 a, .int .u64 b] w fun e w' => e = .returned (.int .u64 9221120237041090560) ∧ Below w.heap.size w w' := by
  go_enter Try.func16, Try.ntmps16
  go_wp2_with fail
  refine (ca _).mono ?_
  rintro e w1 ⟨rfl, hb1⟩
  go_wp2_with fail
  refine (cb _).mono ?_
  rintro e w2 ⟨rfl, hb2⟩
  clear ca cb
  go_wp2_with fail
  refine (either_any _ _ _ _ _ _ _ _ _ _).mono ?_
  rintro e w3 ⟨rfl, hb3⟩
  have B3 := (boxes_new w2 _ _ _ _ _ _ _ _ 44).keep hb3
  have B := B3
  unfold Boxes at B
  obtain ⟨⟨x0, x1, x2, x3⟩, ⟨y0, y1, y2, y3⟩, ⟨f0, f1, f2, f3⟩, ⟨g0, g1, g2, g3⟩, hz⟩ := B
  go_wp2
  go_ret
  exact ⟨rfl, bt (bt hb1 hb2) (bt (b2 _ _) hb3)⟩

set_option maxHeartbeats 1000000 in
theorem rem_2k (a b sa ma ea sb mb eb kb : Int) (w : World) (ca : ∀ w : World, Calls Try.prog 38 #[.int .u64 a] w fun e w' => e = .returned (.agg #[.int .i64 2, .int .u64 sa, .int .u64 ma, .int .i64 ea]) ∧ Below w.heap.size w w')
    (cb : ∀ w : World, Calls Try.prog 38 #[.int .u64 b] w fun e w' => e = .returned (.agg #[.int .i64 kb, .int .u64 sb, .int .u64 mb, .int .i64 eb]) ∧ Below w.heap.size w w')
    (k1 : (kb == 3) = false) :
    Calls Try.prog 16 #[.int .u64 a, .int .u64 b] w fun e w' => e = .returned (.int .u64 9221120237041090560) ∧ Below w.heap.size w w' := by
  go_enter Try.func16, Try.ntmps16
  go_wp2_with fail
  refine (ca _).mono ?_
  rintro e w1 ⟨rfl, hb1⟩
  go_wp2_with fail
  refine (cb _).mono ?_
  rintro e w2 ⟨rfl, hb2⟩
  clear ca cb
  go_wp2_with fail
  refine (either_any _ _ _ _ _ _ _ _ _ _).mono ?_
  rintro e w3 ⟨rfl, hb3⟩
  have B3 := (boxes_new w2 _ _ _ _ _ _ _ _ 44).keep hb3
  have B := B3
  unfold Boxes at B
  obtain ⟨⟨x0, x1, x2, x3⟩, ⟨y0, y1, y2, y3⟩, ⟨f0, f1, f2, f3⟩, ⟨g0, g1, g2, g3⟩, hz⟩ := B
  go_wp2
  go_ret
  exact ⟨rfl, bt (bt hb1 hb2) (bt (b2 _ _) hb3)⟩

set_option maxHeartbeats 1000000 in
theorem rem_k0 (a b sa ma ea sb mb eb ka : Int) (w : World) (ca : ∀ w : World, Calls Try.prog 38 #[.int .u64 a] w fun e w' => e = .returned (.agg #[.int .i64 ka, .int .u64 sa, .int .u64 ma, .int .i64 ea]) ∧ Below w.heap.size w w')
    (cb : ∀ w : World, Calls Try.prog 38 #[.int .u64 b] w fun e w' => e = .returned (.agg #[.int .i64 0, .int .u64 sb, .int .u64 mb, .int .i64 eb]) ∧ Below w.heap.size w w')
    (k1 : (ka == 3) = false) (k2 : (ka == 2) = false) :
    Calls Try.prog 16 #[.int .u64 a, .int .u64 b] w fun e w' => e = .returned (.int .u64 9221120237041090560) ∧ Below w.heap.size w w' := by
  go_enter Try.func16, Try.ntmps16
  go_wp2_with fail
  refine (ca _).mono ?_
  rintro e w1 ⟨rfl, hb1⟩
  go_wp2_with fail
  refine (cb _).mono ?_
  rintro e w2 ⟨rfl, hb2⟩
  clear ca cb
  go_wp2_with fail
  refine (either_any _ _ _ _ _ _ _ _ _ _).mono ?_
  rintro e w3 ⟨rfl, hb3⟩
  have B3 := (boxes_new w2 _ _ _ _ _ _ _ _ 44).keep hb3
  have B := B3
  unfold Boxes at B
  obtain ⟨⟨x0, x1, x2, x3⟩, ⟨y0, y1, y2, y3⟩, ⟨f0, f1, f2, f3⟩, ⟨g0, g1, g2, g3⟩, hz⟩ := B
  go_wp2
  go_ret
  exact ⟨rfl, bt (bt hb1 hb2) (bt (b2 _ _) hb3)⟩

set_option maxHeartbeats 1000000 in
theorem rem_0k (a b sa ma ea sb mb eb kb : Int) (w : World) (ca : ∀ w : World, Calls Try.prog 38 #[.int .u64 a] w fun e w' => e = .returned (.agg #[.int .i64 0, .int .u64 sa, .int .u64 ma, .int .i64 ea]) ∧ Below w.heap.size w w')
    (cb : ∀ w : World, Calls Try.prog 38 #[.int .u64 b] w fun e w' => e = .returned (.agg #[.int .i64 kb, .int .u64 sb, .int .u64 mb, .int .i64 eb]) ∧ Below w.heap.size w w')
    (k1 : (kb == 3) = false) (k2 : (kb == 0) = false) :
    Calls Try.prog 16 #[.int .u64 a, .int .u64 b] w fun e w' => e = .returned (.int .u64 a) ∧ Below w.heap.size w w' := by
  go_enter Try.func16, Try.ntmps16
  go_wp2_with fail
  refine (ca _).mono ?_
  rintro e w1 ⟨rfl, hb1⟩
  go_wp2_with fail
  refine (cb _).mono ?_
  rintro e w2 ⟨rfl, hb2⟩
  clear ca cb
  go_wp2_with fail
  refine (either_any _ _ _ _ _ _ _ _ _ _).mono ?_
  rintro e w3 ⟨rfl, hb3⟩
  have B3 := (boxes_new w2 _ _ _ _ _ _ _ _ 44).keep hb3
  have B := B3
  unfold Boxes at B
  obtain ⟨⟨x0, x1, x2, x3⟩, ⟨y0, y1, y2, y3⟩, ⟨f0, f1, f2, f3⟩, ⟨g0, g1, g2, g3⟩, hz⟩ := B
  go_wp2
  go_ret
  exact ⟨rfl, bt (bt hb1 hb2) (bt (b2 _ _) hb3)⟩

set_option maxHeartbeats 1000000 in
theorem rem_12 (a b sa ma ea sb mb eb : Int) (w : World) (ca : ∀ w : World, Calls Try.prog 38 #[.int .u64 a] w fun e w' => e = .returned (.agg #[.int .i64 1, .int .u64 sa, .int .u64 ma, .int .i64 ea]) ∧ Below w.heap.size w w')
    (cb : ∀ w : World, Calls Try.prog 38 #[.int .u64 b] w fun e w' => e = .returned (.agg #[.int .i64 2, .int .u64 sb, .int .u64 mb, .int .i64 eb]) ∧ Below w.heap.size w w')
     :
    Calls Try.prog 16 #[.int .u64 a, .int .u64 b] w fun e w' => e = .returned (.int .u64 a) ∧ Below w.heap.size w w' := by
  go_enter Try.func16, Try.ntmps16
  go_wp2_with fail
  refine (ca _).mono ?_
  rintro e w1 ⟨rfl, hb1⟩
  go_wp2_with fail
  refine (cb _).mono ?_
  rintro e w2 ⟨rfl, hb2⟩
  clear ca cb
  go_wp2_with fail
  refine (either_any _ _ _ _ _ _ _ _ _ _).mono ?_
  rintro e w3 ⟨rfl, hb3⟩
  have B3 := (boxes_new w2 _ _ _ _ _ _ _ _ 44).keep hb3
  have B := B3
  unfold Boxes at B
  obtain ⟨⟨x0, x1, x2, x3⟩, ⟨y0, y1, y2, y3⟩, ⟨f0, f1, f2, f3⟩, ⟨g0, g1, g2, g3⟩, hz⟩ := B
  go_wp2
  go_ret
  exact ⟨rfl, bt (bt hb1 hb2) (bt (b2 _ _) hb3)⟩

set_option maxHeartbeats 1000000 in
theorem rem_less (a b sa ma ea sb mb eb : Int) (w : World) (ca : ∀ w : World, Calls Try.prog 38 #[.int .u64 a] w fun e w' => e = .returned (.agg #[.int .i64 1, .int .u64 sa, .int .u64 ma, .int .i64 ea]) ∧ Below w.heap.size w w')
    (cb : ∀ w : World, Calls Try.prog 38 #[.int .u64 b] w fun e w' => e = .returned (.agg #[.int .i64 1, .int .u64 sb, .int .u64 mb, .int .i64 eb]) ∧ Below w.heap.size w w')
    (_he : ea < eb) :
    Calls Try.prog 16 #[.int .u64 a, .int .u64 b] w fun e w' => e = .returned (.int .u64 a) ∧ Below w.heap.size w w' := by
  go_enter Try.func16, Try.ntmps16
  go_wp2_with fail
  refine (ca _).mono ?_
  rintro e w1 ⟨rfl, hb1⟩
  go_wp2_with fail
  refine (cb _).mono ?_
  rintro e w2 ⟨rfl, hb2⟩
  clear ca cb
  go_wp2_with fail
  refine (either_any _ _ _ _ _ _ _ _ _ _).mono ?_
  rintro e w3 ⟨rfl, hb3⟩
  have B3 := (boxes_new w2 _ _ _ _ _ _ _ _ 44).keep hb3
  have B := B3
  unfold Boxes at B
  obtain ⟨⟨x0, x1, x2, x3⟩, ⟨y0, y1, y2, y3⟩, ⟨f0, f1, f2, f3⟩, ⟨g0, g1, g2, g3⟩, hz⟩ := B
  go_wp2
  go_ret
  exact ⟨rfl, bt (bt hb1 hb2) (bt (b2 _ _) hb3)⟩

set_option maxHeartbeats 1000000 in
theorem rem_more (a b sa ma ea sb mb eb R Z : Int) (w : World) (ca : ∀ w : World, Calls Try.prog 38 #[.int .u64 a] w fun e w' => e = .returned (.agg #[.int .i64 1, .int .u64 sa, .int .u64 ma, .int .i64 ea]) ∧ Below w.heap.size w w')
    (cb : ∀ w : World, Calls Try.prog 38 #[.int .u64 b] w fun e w' => e = .returned (.agg #[.int .i64 1, .int .u64 sb, .int .u64 mb, .int .i64 eb]) ∧ Below w.heap.size w w')
    (_he : eb ≤ ea) (_a0 : -2000 ≤ ea) (_a1 : ea ≤ 2000) (_b0 : -2000 ≤ eb) (_b1 : eb ≤ 2000)
    (rmd : ∀ w : World, Calls Try.prog 47 #[.int .u64 ma, .int .i64 (IntKind.i64.wrap (ea - eb)), .int .u64 mb] w fun e w' => e = .returned (.int .u64 R) ∧ w' = w)
    (rnd : ∀ w : World, Calls Try.prog 44 #[.int .u64 sa, .int .u64 R, .int .i64 eb] w fun e w' => e = .returned (.int .u64 Z) ∧ Below w.heap.size w w') :
    Calls Try.prog 16 #[.int .u64 a, .int .u64 b] w fun e w' => e = .returned (.int .u64 Z) ∧ Below w.heap.size w w' := by
  go_enter Try.func16, Try.ntmps16
  go_wp2_with fail
  refine (ca _).mono ?_
  rintro e w1 ⟨rfl, hb1⟩
  go_wp2_with fail
  refine (cb _).mono ?_
  rintro e w2 ⟨rfl, hb2⟩
  clear ca cb
  go_wp2_with fail
  refine (either_any _ _ _ _ _ _ _ _ _ _).mono ?_
  rintro e w3 ⟨rfl, hb3⟩
  have B3 := (boxes_new w2 _ _ _ _ _ _ _ _ 44).keep hb3
  have B := B3
  unfold Boxes at B
  obtain ⟨⟨x0, x1, x2, x3⟩, ⟨y0, y1, y2, y3⟩, ⟨f0, f1, f2, f3⟩, ⟨g0, g1, g2, g3⟩, hz⟩ := B
  have G3 : Below w.heap.size w w3 := bt (bt hb1 hb2) (bt (b2 _ _) hb3)
  clear hb1 hb2 hb3
  go_wp2_with fail
  go_region_held3 (fun w' => w'.cell? ⟨w2.heap.size, 1, none⟩ = some (.int .u64 sa) ∧ w'.cell? ⟨w2.heap.size, 2, none⟩ = some (.int .u64 ma) ∧ w'.cell? ⟨w2.heap.size, 3, none⟩ = some (.int .i64 ea) ∧ w'.cell? ⟨w2.heap.size + 1, 2, none⟩ = some (.int .u64 mb) ∧ w'.cell? ⟨w2.heap.size + 1, 3, none⟩ = some (.int .i64 eb)) (go_keep) (first | (go_at_call 47; refine (rmd _).mono ?_; rintro e w9 ⟨rfl, hw⟩; subst hw) | (go_at_call 44; refine (rnd _).mono ?_; rintro e w9 ⟨rfl, hb9⟩; have C := Boxes.keep (by exact B3) hb9; unfold Boxes at C; obtain ⟨⟨X0, X1, X2, X3⟩, ⟨Y0, Y1, Y2, Y3⟩, ⟨F0, F1, F2, F3⟩, ⟨H0, H1, H2, H3⟩, hZ⟩ := C))
  go_wp2
  go_ret
  exact ⟨rfl, bt G3.drew hb9⟩

/-- the rest, as the program reckons it -/
def remC (a b : Int) : Int :=
  if kindI a = 3 ∨ kindI b = 3 ∨ kindI a = 2 ∨ kindI b = 0 then 9221120237041090560
  else if kindI a = 0 ∨ kindI b = 2 ∨ expI a < expI b then a
  else roundI (sgnI a) (modI (manI a) (expI a - expI b) (manI b)) (expI b)

theorem mod_bd (m t n : Int) (n0 : 0 < n) : 0 ≤ modI m t n ∧ modI m t n < n := by
  unfold modI
  exact ⟨Int.emod_nonneg _ (by omega), Int.emod_lt_of_pos _ n0⟩

theorem rem_any (a b : Int) (w : World) (h0 : 0 ≤ a) (h1 : a < 18446744073709551616) (h2 : 0 ≤ b) (h3 : b < 18446744073709551616) :
    Calls Try.prog 16 #[.int .u64 a, .int .u64 b] w fun e w' => e = .returned (.int .u64 (remC a b)) ∧ Below w.heap.size w w' := by
  have ca := fun w => split_any a w h0 h1
  have cb := fun w => split_any b w h2 h3
  unfold remC
  by_cases ka3 : kindI a = 3
  · rw [if_pos (Or.inl ka3)]
    rw [ka3] at ca
    exact rem_nan_l a b _ _ _ _ _ _ _ w ca cb
  by_cases kb3 : kindI b = 3
  · rw [if_pos (Or.inr (Or.inl kb3))]
    rw [kb3] at cb
    exact rem_nan_r a b _ _ _ _ _ _ _ w ca cb
  by_cases ka2 : kindI a = 2
  · rw [if_pos (Or.inr (Or.inr (Or.inl ka2)))]
    rw [ka2] at ca
    exact rem_2k a b _ _ _ _ _ _ _ w ca cb (by simp [kb3])
  by_cases kb0 : kindI b = 0
  · rw [if_pos (Or.inr (Or.inr (Or.inr kb0)))]
    rw [kb0] at cb
    exact rem_k0 a b _ _ _ _ _ _ _ w ca cb (by simp [ka3]) (by simp [ka2])
  rw [if_neg (by simp [ka3, kb3, ka2, kb0])]
  by_cases ka0 : kindI a = 0
  · rw [if_pos (Or.inl ka0)]
    rw [ka0] at ca
    exact rem_0k a b _ _ _ _ _ _ _ w ca cb (by simp [kb3]) (by simp [kb0])
  have ka1 : kindI a = 1 := by rcases kind_cases a with c | c | c | c <;> simp_all
  by_cases kb2 : kindI b = 2
  · rw [if_pos (Or.inr (Or.inl kb2))]
    rw [ka1] at ca; rw [kb2] at cb
    exact rem_12 a b _ _ _ _ _ _ w ca cb
  have kb1 : kindI b = 1 := by rcases kind_cases b with c | c | c | c <;> simp_all
  obtain ⟨_, fa, _⟩ := read_fin a h0 h1 ka1
  obtain ⟨_, fb, _⟩ := read_fin b h2 h3 kb1
  obtain ⟨a1, a2, a3, a4, _⟩ := fa
  obtain ⟨b1, b2, b3, b4, _⟩ := fb
  by_cases he : expI a < expI b
  · rw [if_pos (Or.inr (Or.inr he))]
    rw [ka1] at ca; rw [kb1] at cb
    exact rem_less a b _ _ _ _ _ _ w ca cb he
  · rw [if_neg (by simp [ka0, kb2]; omega)]
    rw [ka1] at ca; rw [kb1] at cb
    obtain ⟨m0, m1⟩ := mod_bd (manI a) (expI a - expI b) (manI b) b1
    refine rem_more a b _ _ _ _ _ _ _ _ w ca cb (by omega) (by omega) (by omega) (by omega) (by omega) (fun w => ?_) (fun w => round_any _ _ _ w (sgn_cases a h1) m0 (by omega) (by omega) (by omega))
    rw [show IntKind.i64.wrap (expI a - expI b) = expI a - expI b from by rw [IntKind.wrap_i64]; omega]
    exact remainder_walk _ _ _ w (by omega) a2 (by omega) (by omega) b1 b2

end Go.Proofs.Ytnocnodiecihnaa
