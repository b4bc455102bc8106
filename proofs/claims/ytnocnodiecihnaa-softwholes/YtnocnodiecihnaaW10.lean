/- math/bits.Div64 at a divisor whose highest bit is set. -/
import Derived.Test.YtnocnodiecihnaaW7
import Derived.Test.YtnocnodiecihnaaM9
namespace Go.Proofs.Ytnocnodiecihnaa
open Go.RowKit

theorem start_rest (U y1 : Int) (u0 : 0 ≤ U) (u1 : U < 18446744073709551616) (hy : 0 < y1) : IntKind.u64.wrap (U - IntKind.u64.wrap (U / y1 * y1)) = U - U / y1 * y1 := by
  have hd := Int.mul_ediv_add_emod U y1
  have hm0 := Int.emod_nonneg U (show y1 ≠ 0 by omega)
  have hq0 : 0 ≤ U / y1 := Int.ediv_nonneg u0 (by omega)
  have hp : 0 ≤ U / y1 * y1 := Int.mul_nonneg hq0 (by omega)
  rw [Int.mul_comm] at hd
  rw [IntKind.wrap_u64, IntKind.wrap_u64]
  generalize U / y1 * y1 = x at *
  omega

theorem prod_digit (S y0 : Int) (s0 : 0 ≤ S) (h0 : 0 ≤ y0) (h1 : y0 < 4294967296) : ∃ P, IntKind.u64.wrap (S * y0) = P ∧ Hid (S < 4294967296 → P = S * y0) := by
  refine ⟨_, rfl, fun h => ?_⟩
  have p0 : 0 ≤ S * y0 := Int.mul_nonneg s0 h0
  have p1 : S * y0 ≤ 4294967296 * 4294967295 := Int.mul_le_mul (by omega) (by omega) h0 (by omega)
  rw [IntKind.wrap_u64]
  omega

theorem rest_digit (hi n y q : Int) (hq : q = (hi * 4294967296 + n) / y) (h0 : 0 ≤ hi) (h1 : hi < y) (_n0 : 0 ≤ n) (_n1 : n < 4294967296) (hy : y < 18446744073709551616) :
    ∃ U, IntKind.u64.wrap (IntKind.u64.wrap (IntKind.u64.wrap (hi * 4294967296) + n) - IntKind.u64.wrap (q * y)) = U ∧ 0 ≤ U ∧ U < y ∧ Hid (U = (hi * 4294967296 + n) % y) := by
  have hd := Int.mul_ediv_add_emod (hi * 4294967296 + n) y
  have hm0 := Int.emod_nonneg (hi * 4294967296 + n) (show y ≠ 0 by omega)
  have hm1 := Int.emod_lt_of_pos (hi * 4294967296 + n) (show 0 < y by omega)
  rw [← hq, Int.mul_comm] at hd
  refine ⟨(hi * 4294967296 + n) % y, ?_, hm0, hm1, rfl⟩
  rw [IntKind.wrap_u64, IntKind.wrap_u64, IntKind.wrap_u64, IntKind.wrap_u64]
  generalize (hi * 4294967296 + n) % y = r at *
  generalize q * y = x at *
  omega

set_option maxHeartbeats 4000000 in
theorem div64_walk (hi lo y y1 y0 n1 n0 A B : Int) (w : World) (_h1 : 0 < hi) (_h2 : hi < y) (_h3 : 0 ≤ lo) (_h4 : lo < 18446744073709551616) (_h5 : 9223372036854775808 ≤ y) (_h6 : y < 18446744073709551616)
    (hs : ∀ w : World, Calls Try.prog 57 #[.int .u64 y] w fun e w' => e = .returned (.int .i64 0) ∧ w' = w)
    (e1 : y / 4294967296 = y1) (e0 : bits .and .u64 y 4294967295 = y0) (f1 : lo / 4294967296 = n1) (f0 : bits .and .u64 lo 4294967295 = n0) (ho : bits .or .u64 hi (lo / 18446744073709551616) = hi)
    (H : Hid (Divisor hi n1 y y1 y0)) (_y1a : 2147483648 ≤ y1) (_y1b : y1 < 4294967296) (_y0a : 0 ≤ y0) (_y0b : y0 < 4294967296) (_n1a : 0 ≤ n1) (_n1b : n1 < 4294967296) (_n0a : 0 ≤ n0) (_n0b : n0 < 4294967296)
    (HF : Hid (∀ q U D X : Int, q = (hi * 4294967296 + n1) / y → U = (hi * 4294967296 + n1) % y → D = (U * 4294967296 + n0) / y → IntKind.u64.wrap (IntKind.u64.wrap (q * 4294967296) + D) = X →
      Ending.returned (.tuple #[.int .u64 X, .int .u64 (IntKind.u64.wrap (IntKind.u64.wrap (IntKind.u64.wrap (U * 4294967296) + n0) - IntKind.u64.wrap (D * y)))]) = .returned (.tuple #[.int .u64 A, .int .u64 B]))) :
    Calls Try.prog 46 #[.int .u64 hi, .int .u64 lo, .int .u64 y] w
      fun e w' => e = .returned (.tuple #[.int .u64 A, .int .u64 B]) ∧ w' = w := by
  have b0 : (y == 0) = false := by rw [beq_eq_false_iff_ne]; omega
  have b1 : (hi == 0) = false := by rw [beq_eq_false_iff_ne]; omega
  go_enter Try.func46, Try.ntmps46
  go_wp2_with fail
  refine (hs _).mono ?_
  rintro e w1 ⟨rfl, hw⟩
  subst hw
  go_wp2_with fail
  clear e1 e0 f1 f0 ho
  have W0 := start_rest hi y1 (by omega) (by omega) (by omega)
  go_loop [15, 16] (fun q r => ∃ Q R : Int, Guess hi n1 y y1 y0 Q R ∧ q = .int .u64 Q ∧ r = .int .u64 R) (fun q _ => (intOf q).toNat)
  case atStart => exact ⟨_, _, guess_start H.out, rfl, congrArg (Value.int IntKind.u64) W0⟩
  case round =>
    clear W0
    obtain ⟨Q, R, hG, rfl, rfl⟩ := hrel
    have q0 := hG.nonneg
    have q1 := hG.top
    have r0 := hG.r0
    have r1 := hG.r1
    have HG : Hid (Guess hi n1 y y1 y0 Q R) := hG
    clear hG
    obtain ⟨P1, hP1, HP1⟩ := prod_digit Q y0 q0 _y0a _y0b
    by_cases c1 : 4294967296 ≤ Q
    · by_cases c2 : 4294967296 ≤ R + y1
      · skip
        obtain ⟨q, hq⟩ : ∃ q, Q - 1 = q := ⟨_, rfl⟩
        have Hq : Hid (q = (hi * 4294967296 + n1) / y) := by rw [← hq]; exact guess_break H.out HG.out (Or.inl c1) c2
        obtain ⟨U, hU, u0, u1, HU⟩ := rest_digit hi n1 y q Hq.out H.out.u0 H.out.u1 H.out.n0 H.out.n1 (by omega)
        have W1 := start_rest U y1 u0 (by omega) (by omega)
        have D : Hid (Divisor U n0 y y1 y0) := ⟨u0, u1, _n0a, _n0b, H.out.hy, H.out.hi, H.out.hi2, H.out.lo, H.out.lo2⟩
        go_wp2_with fail
        go_loop [18, 16] (fun q r => ∃ Q R : Int, Guess U n0 y y1 y0 Q R ∧ q = .int .u64 Q ∧ r = .int .u64 R) (fun q _ => (intOf q).toNat)
        case atStart => exact ⟨_, _, guess_start D.out, rfl, rfl⟩
        case round =>
          obtain ⟨S, T, hG, rfl, rfl⟩ := hrel
          have s0 := hG.nonneg
          have s1 := hG.top
          have t0 := hG.r0
          have t1 := hG.r1
          have HS : Hid (Guess U n0 y y1 y0 S T) := hG
          clear hG
          obtain ⟨P, hP, HP⟩ := prod_digit S y0 s0 _y0a _y0b
          by_cases c3 : 4294967296 ≤ S
          · by_cases c4 : 4294967296 ≤ T + y1
            · go_wp2_with fail
              go_ret2
              exact ⟨HF.out q U (S - 1) _ Hq.out HU.out (guess_break D.out HS.out (Or.inl c3) c4) (by first | rfl | (simp only [IntKind.wrap_u64]; omega)), rfl⟩
            · go_wp2_with fail
              go_round
              case rel => exact ⟨S - 1, T + y1, guess_next D.out HS.out (Or.inl c3) (by omega), rfl, rfl⟩
              case measure => simp [intOf]; omega
          · by_cases c5 : 4294967296 * T + n0 < P
            · have c6 : 4294967296 * T + n0 < S * y0 := by rw [← HP.out (by omega)]; exact c5
              have s2 : 1 ≤ S := (guess_more D.out HS.out (Or.inr c6)).1
              have C6 : Hid (4294967296 * T + n0 < S * y0) := c6
              clear c6
              · by_cases c4 : 4294967296 ≤ T + y1
                · go_wp2_with fail
                  go_ret2
                  exact ⟨HF.out q U (S - 1) _ Hq.out HU.out (guess_break D.out HS.out (Or.inr C6.out) c4) (by first | rfl | (simp only [IntKind.wrap_u64]; omega)), rfl⟩
                · go_wp2_with fail
                  go_round
                  case rel => exact ⟨S - 1, T + y1, guess_next D.out HS.out (Or.inr C6.out) (by omega), rfl, rfl⟩
                  case measure => simp [intOf]; omega
            · have C6 : Hid (S * y0 ≤ 4294967296 * T + n0) := by show S * y0 ≤ _; rw [← HP.out (by omega)]; omega
              go_wp2_with fail
              go_ret2
              exact ⟨HF.out q U (S) _ Hq.out HU.out (guess_done D.out HS.out C6.out) (by first | rfl | (simp only [IntKind.wrap_u64]; omega)), rfl⟩
      · go_wp2_with fail
        go_round
        case rel => exact ⟨Q - 1, R + y1, guess_next H.out HG.out (Or.inl c1) (by omega), rfl, rfl⟩
        case measure => simp [intOf]; omega
    · by_cases d5 : 4294967296 * R + n1 < P1
      · have d6 : 4294967296 * R + n1 < Q * y0 := by rw [← HP1.out (by omega)]; exact d5
        have q2 : 1 ≤ Q := (guess_more H.out HG.out (Or.inr d6)).1
        have D6 : Hid (4294967296 * R + n1 < Q * y0) := d6
        clear d6
        by_cases c2 : 4294967296 ≤ R + y1
        · skip
          obtain ⟨q, hq⟩ : ∃ q, Q - 1 = q := ⟨_, rfl⟩
          have Hq : Hid (q = (hi * 4294967296 + n1) / y) := by rw [← hq]; exact guess_break H.out HG.out (Or.inr D6.out) c2
          obtain ⟨U, hU, u0, u1, HU⟩ := rest_digit hi n1 y q Hq.out H.out.u0 H.out.u1 H.out.n0 H.out.n1 (by omega)
          have W1 := start_rest U y1 u0 (by omega) (by omega)
          have D : Hid (Divisor U n0 y y1 y0) := ⟨u0, u1, _n0a, _n0b, H.out.hy, H.out.hi, H.out.hi2, H.out.lo, H.out.lo2⟩
          go_wp2_with fail
          go_loop [18, 16] (fun q r => ∃ Q R : Int, Guess U n0 y y1 y0 Q R ∧ q = .int .u64 Q ∧ r = .int .u64 R) (fun q _ => (intOf q).toNat)
          case atStart => exact ⟨_, _, guess_start D.out, rfl, rfl⟩
          case round =>
            obtain ⟨S, T, hG, rfl, rfl⟩ := hrel
            have s0 := hG.nonneg
            have s1 := hG.top
            have t0 := hG.r0
            have t1 := hG.r1
            have HS : Hid (Guess U n0 y y1 y0 S T) := hG
            clear hG
            obtain ⟨P, hP, HP⟩ := prod_digit S y0 s0 _y0a _y0b
            by_cases c3 : 4294967296 ≤ S
            · by_cases c4 : 4294967296 ≤ T + y1
              · go_wp2_with fail
                go_ret2
                exact ⟨HF.out q U (S - 1) _ Hq.out HU.out (guess_break D.out HS.out (Or.inl c3) c4) (by first | rfl | (simp only [IntKind.wrap_u64]; omega)), rfl⟩
              · go_wp2_with fail
                go_round
                case rel => exact ⟨S - 1, T + y1, guess_next D.out HS.out (Or.inl c3) (by omega), rfl, rfl⟩
                case measure => simp [intOf]; omega
            · by_cases c5 : 4294967296 * T + n0 < P
              · have c6 : 4294967296 * T + n0 < S * y0 := by rw [← HP.out (by omega)]; exact c5
                have s2 : 1 ≤ S := (guess_more D.out HS.out (Or.inr c6)).1
                have C6 : Hid (4294967296 * T + n0 < S * y0) := c6
                clear c6
                · by_cases c4 : 4294967296 ≤ T + y1
                  · go_wp2_with fail
                    go_ret2
                    exact ⟨HF.out q U (S - 1) _ Hq.out HU.out (guess_break D.out HS.out (Or.inr C6.out) c4) (by first | rfl | (simp only [IntKind.wrap_u64]; omega)), rfl⟩
                  · go_wp2_with fail
                    go_round
                    case rel => exact ⟨S - 1, T + y1, guess_next D.out HS.out (Or.inr C6.out) (by omega), rfl, rfl⟩
                    case measure => simp [intOf]; omega
              · have C6 : Hid (S * y0 ≤ 4294967296 * T + n0) := by show S * y0 ≤ _; rw [← HP.out (by omega)]; omega
                go_wp2_with fail
                go_ret2
                exact ⟨HF.out q U (S) _ Hq.out HU.out (guess_done D.out HS.out C6.out) (by first | rfl | (simp only [IntKind.wrap_u64]; omega)), rfl⟩
        · go_wp2_with fail
          go_round
          case rel => exact ⟨Q - 1, R + y1, guess_next H.out HG.out (Or.inr D6.out) (by omega), rfl, rfl⟩
          case measure => simp [intOf]; omega
      · have D6 : Hid (Q * y0 ≤ 4294967296 * R + n1) := by show Q * y0 ≤ _; rw [← HP1.out (by omega)]; omega
        obtain ⟨q, hq⟩ : ∃ q, Q = q := ⟨_, rfl⟩
        have Hq : Hid (q = (hi * 4294967296 + n1) / y) := by rw [← hq]; exact guess_done H.out HG.out D6.out
        subst hq
        obtain ⟨U, hU, u0, u1, HU⟩ := rest_digit hi n1 y Q Hq.out H.out.u0 H.out.u1 H.out.n0 H.out.n1 (by omega)
        have W1 := start_rest U y1 u0 (by omega) (by omega)
        have D : Hid (Divisor U n0 y y1 y0) := ⟨u0, u1, _n0a, _n0b, H.out.hy, H.out.hi, H.out.hi2, H.out.lo, H.out.lo2⟩
        go_wp2_with fail
        go_loop [18, 16] (fun q r => ∃ Q R : Int, Guess U n0 y y1 y0 Q R ∧ q = .int .u64 Q ∧ r = .int .u64 R) (fun q _ => (intOf q).toNat)
        case atStart => exact ⟨_, _, guess_start D.out, rfl, rfl⟩
        case round =>
          obtain ⟨S, T, hG, rfl, rfl⟩ := hrel
          have s0 := hG.nonneg
          have s1 := hG.top
          have t0 := hG.r0
          have t1 := hG.r1
          have HS : Hid (Guess U n0 y y1 y0 S T) := hG
          clear hG
          obtain ⟨P, hP, HP⟩ := prod_digit S y0 s0 _y0a _y0b
          by_cases c3 : 4294967296 ≤ S
          · by_cases c4 : 4294967296 ≤ T + y1
            · go_wp2_with fail
              go_ret2
              exact ⟨HF.out Q U (S - 1) _ Hq.out HU.out (guess_break D.out HS.out (Or.inl c3) c4) (by first | rfl | (simp only [IntKind.wrap_u64]; omega)), rfl⟩
            · go_wp2_with fail
              go_round
              case rel => exact ⟨S - 1, T + y1, guess_next D.out HS.out (Or.inl c3) (by omega), rfl, rfl⟩
              case measure => simp [intOf]; omega
          · by_cases c5 : 4294967296 * T + n0 < P
            · have c6 : 4294967296 * T + n0 < S * y0 := by rw [← HP.out (by omega)]; exact c5
              have s2 : 1 ≤ S := (guess_more D.out HS.out (Or.inr c6)).1
              have C6 : Hid (4294967296 * T + n0 < S * y0) := c6
              clear c6
              · by_cases c4 : 4294967296 ≤ T + y1
                · go_wp2_with fail
                  go_ret2
                  exact ⟨HF.out Q U (S - 1) _ Hq.out HU.out (guess_break D.out HS.out (Or.inr C6.out) c4) (by first | rfl | (simp only [IntKind.wrap_u64]; omega)), rfl⟩
                · go_wp2_with fail
                  go_round
                  case rel => exact ⟨S - 1, T + y1, guess_next D.out HS.out (Or.inr C6.out) (by omega), rfl, rfl⟩
                  case measure => simp [intOf]; omega
            · have C6 : Hid (S * y0 ≤ 4294967296 * T + n0) := by show S * y0 ≤ _; rw [← HP.out (by omega)]; omega
              go_wp2_with fail
              go_ret2
              exact ⟨HF.out Q U (S) _ Hq.out HU.out (guess_done D.out HS.out C6.out) (by first | rfl | (simp only [IntKind.wrap_u64]; omega)), rfl⟩

theorem mask32 (a : Int) (h0 : 0 ≤ a) (h1 : a < 18446744073709551616) : bits .and .u64 a 4294967295 = a % 4294967296 := by
  rw [u64_and a _ h0 h1 (by omega) (by omega)]
  have e := Nat.and_two_pow_sub_one_eq_mod a.toNat 32
  simp only [show (2 : Nat) ^ 32 = 4294967296 from rfl] at e
  have e2 : (4294967295 : Int).toNat = 4294967296 - 1 := rfl
  rw [e2, e]
  omega

/-- quotient and rest of hi times 2^64 and lo by y -/
def quoI (hi lo y : Int) : Int := (hi * 18446744073709551616 + lo) / y
def remI (hi lo y : Int) : Int := (hi * 18446744073709551616 + lo) % y

theorem div64_any (hi lo y : Int) (w : World) (h1 : 0 < hi) (h2 : hi < y) (h3 : 0 ≤ lo) (h4 : lo < 18446744073709551616) (h5 : 9223372036854775808 ≤ y) (h6 : y < 18446744073709551616) :
    Calls Try.prog 46 #[.int .u64 hi, .int .u64 lo, .int .u64 y] w
      fun e w' => e = .returned (.tuple #[.int .u64 (quoI hi lo y), .int .u64 (remI hi lo y)]) ∧ w' = w := by
  have hs := fun w => clz_any y w (by omega) h6
  have hc : clzI y = 0 := by
    unfold clzI
    rw [log2_word y.toNat (by omega) (by omega)]
    rfl
  rw [hc] at hs
  have ho : bits .or .u64 hi (lo / 18446744073709551616) = hi := by
    rw [show lo / 18446744073709551616 = 0 from by omega, u64_or _ _ (by omega) (by omega) (by omega) (by omega)]
    simp; omega
  have D : Divisor hi (lo / 4294967296) y (y / 4294967296) (y % 4294967296) := ⟨by omega, by omega, by omega, by omega, by omega, by omega, by omega, by omega, by omega⟩
  refine div64_walk hi lo y _ _ _ _ _ _ w h1 h2 h3 h4 h5 h6 hs rfl (mask32 y (by omega) h6) rfl (mask32 lo h3 h4) ho D (by omega) (by omega) (by omega) (by omega) (by omega) (by omega) (by omega) (by omega) ?_
  intro q U d X hq hU hd hX
  obtain ⟨t1, t2⟩ := two_digits hi lo y (by omega) h2 h3
  rw [← hU] at t1 t2
  rw [← hq, ← hd] at t1
  have U0 : 0 ≤ U := by rw [hU]; exact Int.emod_nonneg _ (by omega)
  have U1 : U < y := by rw [hU]; exact Int.emod_lt_of_pos _ (by omega)
  have q0 : 0 ≤ q := by rw [hq]; exact Int.ediv_nonneg (by omega) (by omega)
  have q1 : q < 4294967296 := by rw [hq]; exact (Int.ediv_lt_iff_lt_mul (by omega)).2 (by omega)
  have d0 : 0 ≤ d := by rw [hd]; exact Int.ediv_nonneg (by omega) (by omega)
  have d1 : d < 4294967296 := by rw [hd]; exact (Int.ediv_lt_iff_lt_mul (by omega)).2 (by omega)
  have hr := Int.mul_ediv_add_emod (U * 4294967296 + lo % 4294967296) y
  rw [← hd, Int.mul_comm, t2] at hr
  have r0 := Int.emod_nonneg (hi * 18446744073709551616 + lo) (show y ≠ 0 by omega)
  have r1 := Int.emod_lt_of_pos (hi * 18446744073709551616 + lo) (show 0 < y by omega)
  have E1 : IntKind.u64.wrap (IntKind.u64.wrap (q * 4294967296) + d) = quoI hi lo y := by
    unfold quoI
    rw [← t1, IntKind.wrap_u64, IntKind.wrap_u64]
    omega
  have E2 : IntKind.u64.wrap (IntKind.u64.wrap (IntKind.u64.wrap (U * 4294967296) + lo % 4294967296) - IntKind.u64.wrap (d * y)) = remI hi lo y := by
    unfold remI
    rw [IntKind.wrap_u64, IntKind.wrap_u64, IntKind.wrap_u64, IntKind.wrap_u64]
    generalize (hi * 18446744073709551616 + lo) % y = r at *
    generalize d * y = x at *
    omega
  rw [← hX, E1, E2]

end Go.Proofs.Ytnocnodiecihnaa
