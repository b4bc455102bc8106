/- The walks of bits.Len64, LeadingZeros64, Mul64, and of scaled, sticky, shrink, round. -/
import Derived.Test.YtfhdmglfpkmjbaaW1
import Derived.Test.YtfhdmglfpkmjbaaM4
import Derived.Lib.BitFns
import Derived.Lib.Mul64
namespace Go.Proofs.Ytfhdmglfpkmjbaa
open Go.RowKit

set_option maxHeartbeats 400000 in
theorem len64_111 (x : Int) (w : World) (h0 : 0 ≤ x) (h1 : x ≤ 18446744073709551615) (h2 : 4294967296 ≤ x) (h3 : 65536 ≤ x / 4294967296) (h4 : 256 ≤ x / 4294967296 / 65536) :
    Calls Try.prog 61 #[.int .u64 x] w fun e w' => e = .returned (.int .i64 (Lib.bitLen x.toNat)) ∧ w' = w := by
  have hi : ∀ w : World, (Instr.index 9 (.string Lib.len8tab) (.int .u8 (x / 4294967296 / 65536 / 256))).run Try.prog w = .ok (.int .u8 (Lib.len8 (x / 4294967296 / 65536 / 256))) w := fun w => Lib.run_index_len8tab w 9 .u8 (x / 4294967296 / 65536 / 256) Try.underlying9 (by omega) (by omega)
  have l := Lib.bitLen_le8' (x / 4294967296 / 65536 / 256) (by omega) (by omega)
  have e0 := Lib.len8_of (x / 4294967296 / 65536 / 256) (by omega) (by omega)
  have e : (x / 4294967296 / 65536 / 256).toNat = x.toNat / 72057594037927936 := by omega
  rw [e] at l e0
  have s := Lib.bitLen_shift56 x.toNat (by omega) (by omega)
  have s' : Lib.bitLen x.toNat = 56 + Lib.bitLen (x.toNat / 72057594037927936) := by rw [s]
  rw [s']
  generalize Lib.bitLen (x.toNat / 72057594037927936) = B at *
  clear s s' e
  rw [e0] at hi
  clear e0
  go_enter Try.func61, Try.ntmps61
  go_wp2
  go_ret
  exact ⟨congrArg Ending.returned (congrArg (Value.int IntKind.i64) (by omega)), rfl⟩

set_option maxHeartbeats 400000 in
theorem len64_110 (x : Int) (w : World) (h0 : 0 ≤ x) (h1 : x ≤ 18446744073709551615) (h2 : 4294967296 ≤ x) (h3 : 65536 ≤ x / 4294967296) (h4 : x / 4294967296 / 65536 < 256) :
    Calls Try.prog 61 #[.int .u64 x] w fun e w' => e = .returned (.int .i64 (Lib.bitLen x.toNat)) ∧ w' = w := by
  have hi : ∀ w : World, (Instr.index 9 (.string Lib.len8tab) (.int .u8 (x / 4294967296 / 65536))).run Try.prog w = .ok (.int .u8 (Lib.len8 (x / 4294967296 / 65536))) w := fun w => Lib.run_index_len8tab w 9 .u8 (x / 4294967296 / 65536) Try.underlying9 (by omega) (by omega)
  have l := Lib.bitLen_le8' (x / 4294967296 / 65536) (by omega) (by omega)
  have e0 := Lib.len8_of (x / 4294967296 / 65536) (by omega) (by omega)
  have e : (x / 4294967296 / 65536).toNat = x.toNat / 281474976710656 := by omega
  rw [e] at l e0
  have s := Lib.bitLen_shift48 x.toNat (by omega) (by omega)
  have s' : Lib.bitLen x.toNat = 48 + Lib.bitLen (x.toNat / 281474976710656) := by rw [s]
  rw [s']
  generalize Lib.bitLen (x.toNat / 281474976710656) = B at *
  clear s s' e
  rw [e0] at hi
  clear e0
  go_enter Try.func61, Try.ntmps61
  go_wp2
  go_ret
  exact ⟨congrArg Ending.returned (congrArg (Value.int IntKind.i64) (by omega)), rfl⟩

set_option maxHeartbeats 400000 in
theorem len64_101 (x : Int) (w : World) (h0 : 0 ≤ x) (h1 : x ≤ 18446744073709551615) (h2 : 4294967296 ≤ x) (_h3 : x / 4294967296 < 65536) (h4 : 256 ≤ x / 4294967296) :
    Calls Try.prog 61 #[.int .u64 x] w fun e w' => e = .returned (.int .i64 (Lib.bitLen x.toNat)) ∧ w' = w := by
  have hi : ∀ w : World, (Instr.index 9 (.string Lib.len8tab) (.int .u8 (x / 4294967296 / 256))).run Try.prog w = .ok (.int .u8 (Lib.len8 (x / 4294967296 / 256))) w := fun w => Lib.run_index_len8tab w 9 .u8 (x / 4294967296 / 256) Try.underlying9 (by omega) (by omega)
  have l := Lib.bitLen_le8' (x / 4294967296 / 256) (by omega) (by omega)
  have e0 := Lib.len8_of (x / 4294967296 / 256) (by omega) (by omega)
  have e : (x / 4294967296 / 256).toNat = x.toNat / 1099511627776 := by omega
  rw [e] at l e0
  have s := Lib.bitLen_shift40 x.toNat (by omega) (by omega)
  have s' : Lib.bitLen x.toNat = 40 + Lib.bitLen (x.toNat / 1099511627776) := by rw [s]
  rw [s']
  generalize Lib.bitLen (x.toNat / 1099511627776) = B at *
  clear s s' e
  rw [e0] at hi
  clear e0
  go_enter Try.func61, Try.ntmps61
  go_wp2
  go_ret
  exact ⟨congrArg Ending.returned (congrArg (Value.int IntKind.i64) (by omega)), rfl⟩

set_option maxHeartbeats 400000 in
theorem len64_100 (x : Int) (w : World) (h0 : 0 ≤ x) (h1 : x ≤ 18446744073709551615) (h2 : 4294967296 ≤ x) (_h3 : x / 4294967296 < 65536) (h4 : x / 4294967296 < 256) :
    Calls Try.prog 61 #[.int .u64 x] w fun e w' => e = .returned (.int .i64 (Lib.bitLen x.toNat)) ∧ w' = w := by
  have hi : ∀ w : World, (Instr.index 9 (.string Lib.len8tab) (.int .u8 (x / 4294967296))).run Try.prog w = .ok (.int .u8 (Lib.len8 (x / 4294967296))) w := fun w => Lib.run_index_len8tab w 9 .u8 (x / 4294967296) Try.underlying9 (by omega) (by omega)
  have l := Lib.bitLen_le8' (x / 4294967296) (by omega) (by omega)
  have e0 := Lib.len8_of (x / 4294967296) (by omega) (by omega)
  have e : (x / 4294967296).toNat = x.toNat / 4294967296 := by omega
  rw [e] at l e0
  have s := Lib.bitLen_shift32 x.toNat (by omega) (by omega)
  have s' : Lib.bitLen x.toNat = 32 + Lib.bitLen (x.toNat / 4294967296) := by rw [s]
  rw [s']
  generalize Lib.bitLen (x.toNat / 4294967296) = B at *
  clear s s' e
  rw [e0] at hi
  clear e0
  go_enter Try.func61, Try.ntmps61
  go_wp2
  go_ret
  exact ⟨congrArg Ending.returned (congrArg (Value.int IntKind.i64) (by omega)), rfl⟩

set_option maxHeartbeats 400000 in
theorem len64_011 (x : Int) (w : World) (h0 : 0 ≤ x) (h1 : x ≤ 18446744073709551615) (h2 : x < 4294967296) (h3 : 65536 ≤ x) (h4 : 256 ≤ x / 65536) :
    Calls Try.prog 61 #[.int .u64 x] w fun e w' => e = .returned (.int .i64 (Lib.bitLen x.toNat)) ∧ w' = w := by
  have hi : ∀ w : World, (Instr.index 9 (.string Lib.len8tab) (.int .u8 (x / 65536 / 256))).run Try.prog w = .ok (.int .u8 (Lib.len8 (x / 65536 / 256))) w := fun w => Lib.run_index_len8tab w 9 .u8 (x / 65536 / 256) Try.underlying9 (by omega) (by omega)
  have l := Lib.bitLen_le8' (x / 65536 / 256) (by omega) (by omega)
  have e0 := Lib.len8_of (x / 65536 / 256) (by omega) (by omega)
  have e : (x / 65536 / 256).toNat = x.toNat / 16777216 := by omega
  rw [e] at l e0
  have s := Lib.bitLen_shift24 x.toNat (by omega) (by omega)
  have s' : Lib.bitLen x.toNat = 24 + Lib.bitLen (x.toNat / 16777216) := by rw [s]
  rw [s']
  generalize Lib.bitLen (x.toNat / 16777216) = B at *
  clear s s' e
  rw [e0] at hi
  clear e0
  go_enter Try.func61, Try.ntmps61
  go_wp2
  go_ret
  exact ⟨congrArg Ending.returned (congrArg (Value.int IntKind.i64) (by omega)), rfl⟩

set_option maxHeartbeats 400000 in
theorem len64_010 (x : Int) (w : World) (h0 : 0 ≤ x) (h1 : x ≤ 18446744073709551615) (h2 : x < 4294967296) (h3 : 65536 ≤ x) (h4 : x / 65536 < 256) :
    Calls Try.prog 61 #[.int .u64 x] w fun e w' => e = .returned (.int .i64 (Lib.bitLen x.toNat)) ∧ w' = w := by
  have hi : ∀ w : World, (Instr.index 9 (.string Lib.len8tab) (.int .u8 (x / 65536))).run Try.prog w = .ok (.int .u8 (Lib.len8 (x / 65536))) w := fun w => Lib.run_index_len8tab w 9 .u8 (x / 65536) Try.underlying9 (by omega) (by omega)
  have l := Lib.bitLen_le8' (x / 65536) (by omega) (by omega)
  have e0 := Lib.len8_of (x / 65536) (by omega) (by omega)
  have e : (x / 65536).toNat = x.toNat / 65536 := by omega
  rw [e] at l e0
  have s := Lib.bitLen_shift16 x.toNat (by omega) (by omega)
  have s' : Lib.bitLen x.toNat = 16 + Lib.bitLen (x.toNat / 65536) := by rw [s]
  rw [s']
  generalize Lib.bitLen (x.toNat / 65536) = B at *
  clear s s' e
  rw [e0] at hi
  clear e0
  go_enter Try.func61, Try.ntmps61
  go_wp2
  go_ret
  exact ⟨congrArg Ending.returned (congrArg (Value.int IntKind.i64) (by omega)), rfl⟩

set_option maxHeartbeats 400000 in
theorem len64_001 (x : Int) (w : World) (h0 : 0 ≤ x) (h1 : x ≤ 18446744073709551615) (h2 : x < 4294967296) (h3 : x < 65536) (h4 : 256 ≤ x) :
    Calls Try.prog 61 #[.int .u64 x] w fun e w' => e = .returned (.int .i64 (Lib.bitLen x.toNat)) ∧ w' = w := by
  have hi : ∀ w : World, (Instr.index 9 (.string Lib.len8tab) (.int .u8 (x / 256))).run Try.prog w = .ok (.int .u8 (Lib.len8 (x / 256))) w := fun w => Lib.run_index_len8tab w 9 .u8 (x / 256) Try.underlying9 (by omega) (by omega)
  have l := Lib.bitLen_le8' (x / 256) (by omega) (by omega)
  have e0 := Lib.len8_of (x / 256) (by omega) (by omega)
  have e : (x / 256).toNat = x.toNat / 256 := by omega
  rw [e] at l e0
  have s := Lib.bitLen_shift8 x.toNat (by omega) (by omega)
  have s' : Lib.bitLen x.toNat = 8 + Lib.bitLen (x.toNat / 256) := by rw [s]
  rw [s']
  generalize Lib.bitLen (x.toNat / 256) = B at *
  clear s s' e
  rw [e0] at hi
  clear e0
  go_enter Try.func61, Try.ntmps61
  go_wp2
  go_ret
  exact ⟨congrArg Ending.returned (congrArg (Value.int IntKind.i64) (by omega)), rfl⟩

set_option maxHeartbeats 400000 in
theorem len64_000 (x : Int) (w : World) (h0 : 0 ≤ x) (h1 : x ≤ 18446744073709551615) (h2 : x < 4294967296) (h3 : x < 65536) (h4 : x < 256) :
    Calls Try.prog 61 #[.int .u64 x] w fun e w' => e = .returned (.int .i64 (Lib.bitLen x.toNat)) ∧ w' = w := by
  have hi : ∀ w : World, (Instr.index 9 (.string Lib.len8tab) (.int .u8 (x))).run Try.prog w = .ok (.int .u8 (Lib.len8 (x))) w := fun w => Lib.run_index_len8tab w 9 .u8 (x) Try.underlying9 (by omega) (by omega)
  have l := Lib.bitLen_le8' (x) (by omega) (by omega)
  have e0 := Lib.len8_of (x) (by omega) (by omega)
  have e : (x).toNat = x.toNat / 1 := by omega
  rw [e] at l e0
  have s' : Lib.bitLen x.toNat = 0 + Lib.bitLen (x.toNat / 1) := by simp
  rw [s']
  generalize Lib.bitLen (x.toNat / 1) = B at *
  clear s' e
  rw [e0] at hi
  clear e0
  go_enter Try.func61, Try.ntmps61
  go_wp2
  go_ret
  exact ⟨congrArg Ending.returned (congrArg (Value.int IntKind.i64) (by omega)), rfl⟩

theorem len64_any (x : Int) (w : World) (h0 : 0 ≤ x) (h1 : x ≤ 18446744073709551615) :
    Calls Try.prog 61 #[.int .u64 x] w fun e w' => e = .returned (.int .i64 (Lib.bitLen x.toNat)) ∧ w' = w := by
  by_cases a : 4294967296 ≤ x
  · by_cases b : 65536 ≤ x / 4294967296
    · by_cases c : 256 ≤ x / 4294967296 / 65536
      · exact len64_111 x w h0 h1 a b c
      · exact len64_110 x w h0 h1 a b (by omega)
    · by_cases c : 256 ≤ x / 4294967296
      · exact len64_101 x w h0 h1 a (by omega) c
      · exact len64_100 x w h0 h1 a (by omega) (by omega)
  · by_cases b : 65536 ≤ x
    · by_cases c : 256 ≤ x / 65536
      · exact len64_011 x w h0 h1 (by omega) b c
      · exact len64_010 x w h0 h1 (by omega) b (by omega)
    · by_cases c : 256 ≤ x
      · exact len64_001 x w h0 h1 (by omega) (by omega) c
      · exact len64_000 x w h0 h1 (by omega) (by omega) (by omega)

theorem bitLen_log2 : ∀ (k x : Nat), x < 2 ^ k → k ≤ 64 → x ≠ 0 → Lib.bitLen x = x.log2 + 1
  | 0, x, h, _, h0 => by simp at h; omega
  | k + 1, x, h, hk, h0 => by
    have h64 : x < 2 ^ 64 := Nat.lt_of_lt_of_le h (Nat.pow_le_pow_right (by decide) hk)
    rw [Lib.bitLen_half x h0 h64, Nat.log2_def]
    by_cases c : 2 ≤ x
    · rw [if_pos c, bitLen_log2 k (x / 2) (by rw [Nat.pow_succ] at h; omega) (by omega) (by omega)]
      omega
    · have : x = 1 := by omega
      subst this
      decide

/-- how many bits a word has ahead of its highest -/
def clzI (m : Int) : Int := 63 - (m.toNat.log2 : Nat)

theorem log2_64 (x : Nat) (h : x < 18446744073709551616) (h0 : x ≠ 0) : x.log2 ≤ 63 := by
  have := (Nat.log2_lt h0).2 (show x < 2 ^ 64 from h)
  omega

set_option maxHeartbeats 400000 in
theorem clz_any (m : Int) (w : World) (h0 : 0 < m) (h1 : m < 18446744073709551616) :
    Calls Try.prog 52 #[.int .u64 m] w fun e w' => e = .returned (.int .i64 (clzI m)) ∧ w' = w := by
  have hb := bitLen_log2 64 m.toNat (by show _ < 18446744073709551616; omega) (by decide) (by omega)
  have hl := log2_64 m.toNat (by omega) (by omega)
  have hc : clzI m = 64 - (Lib.bitLen m.toNat : Nat) := by unfold clzI; rw [hb]; omega
  rw [hc]
  have hB : Lib.bitLen m.toNat ≤ 64 := by omega
  have cl := fun w => len64_any m w (by omega) (by omega)
  generalize Lib.bitLen m.toNat = B at *
  clear hb hl hc
  go_enter Try.func52, Try.ntmps52
  go_wp2_with (go_at_call 61; refine (cl _).mono ?_; rintro e w1 ⟨rfl, rfl⟩)
  go_ret
  exact ⟨rfl, rfl⟩

theorem clz_bd (m : Int) (h0 : 0 < m) (h1 : m < 18446744073709551616) : 0 ≤ clzI m ∧ clzI m ≤ 63 := by
  have hl := log2_64 m.toNat (by omega) (by omega)
  unfold clzI; omega

/-- a word, its highest bit brought to the top -/
def sclI (m : Int) : Int := m * 2 ^ (clzI m).toNat

theorem scl_nat (m : Int) (h0 : 0 < m) (h1 : m < 18446744073709551616) : sclI m = ((m.toNat * 2 ^ (63 - m.toNat.log2) : Nat) : Int) := by
  have hl := log2_64 m.toNat (by omega) (by omega)
  unfold sclI clzI
  rw [show ((63 : Int) - (m.toNat.log2 : Nat)).toNat = 63 - m.toNat.log2 from by omega]
  rw [Int.natCast_mul, Int.natCast_pow, Int.toNat_of_nonneg (by omega)]
  rfl

theorem scl_bd (m : Int) (h0 : 0 < m) (h1 : m < 18446744073709551616) : 9223372036854775808 ≤ sclI m ∧ sclI m < 18446744073709551616 := by
  rw [scl_nat m h0 h1]
  have hl := log2_64 m.toNat (by omega) (by omega)
  have hz : m.toNat ≠ 0 := by omega
  have a1 := Nat.log2_self_le hz
  have a2 := lt_two_log2 m.toNat
  have p := Nat.two_pow_pos (63 - m.toNat.log2)
  have b1 := Nat.mul_le_mul_right (2 ^ (63 - m.toNat.log2)) a1
  have b2 := (Nat.mul_lt_mul_right p).2 a2
  rw [← Nat.pow_add] at b1 b2
  rw [show m.toNat.log2 + (63 - m.toNat.log2) = 63 from by omega] at b1
  rw [show m.toNat.log2 + 1 + (63 - m.toNat.log2) = 64 from by omega] at b2
  generalize m.toNat * 2 ^ (63 - m.toNat.log2) = z at *
  have c1 : 9223372036854775808 ≤ z := b1
  have c2 : z < 18446744073709551616 := b2
  omega

theorem scl_wrap (m : Int) (h0 : 0 < m) (h1 : m < 18446744073709551616) : IntKind.u64.wrap (m * 2 ^ (clzI m).toNat) = sclI m := by
  have := scl_bd m h0 h1
  rw [IntKind.wrap_u64]
  show sclI m % _ = _
  omega

set_option maxHeartbeats 400000 in
theorem scaled_any (k s m e : Int) (w : World) (h0 : 0 < m) (h1 : m < 18446744073709551616) (_e0 : -100000 ≤ e) (_e1 : e ≤ 100000) :
    Calls Try.prog 47 #[.agg #[.int .i64 k, .int .u64 s, .int .u64 m, .int .i64 e]] w
      fun e' w' => e' = .returned (.agg #[.int .i64 k, .int .u64 s, .int .u64 (sclI m), .int .i64 (e - clzI m)]) ∧ Below w.heap.size w w' := by
  obtain ⟨c0, c1⟩ := clz_bd m h0 h1
  have hw := scl_wrap m h0 h1
  have cl := fun w => clz_any m w h0 h1
  generalize clzI m = N at *
  generalize sclI m = M at *
  go_enter Try.func47, Try.ntmps47
  go_wp2_with (go_at_call 52; refine (cl _).mono ?_; rintro e w1 ⟨rfl, rfl⟩)
  exact bodyPost_ret (v := .agg #[.int .i64 k, .int .u64 s, .int .u64 M, .int .i64 (e - N)]) (by simp [results, Try.results47, go_sem]) rfl ⟨rfl, ((Below.refl _ _).alloc (Nat.le_refl _) _).alloc (by simp) _⟩

def stickyI (m : Int) (l : Bool) : Int := if l then ((m.toNat ||| 1 : Nat) : Int) else m

theorem ret_int {k : IntKind} {a b : Int} (h : a = b) : Ending.returned (.int k a) = .returned (.int k b) := by rw [h]

set_option maxHeartbeats 1000000 in
theorem round_core (s m e M E Z : Int) (w : World) (D K R : Int) (h0 : 0 < m) (_m0 : 9223372036854775808 ≤ M) (_m1 : M < 18446744073709551616) (_e0 : -100000 ≤ E) (_e1 : E ≤ 960)
    (hsc : ∀ w : World, Calls Try.prog 47 #[.agg #[.int .i64 0, .int .u64 0, .int .u64 m, .int .i64 e]] w fun e' w' => e' = .returned (.agg #[.int .i64 0, .int .u64 0, .int .u64 M, .int .i64 E]) ∧ Below w.heap.size w w')
    (hD : (if 11 < -1074 - E then -1074 - E else 11) = D) (_d0 : 11 ≤ D) (_d1 : D ≤ 64)
    (hK : M / 2 ^ D.toNat = K) (hR : IntKind.u64.wrap (M * 2 ^ (64 - D).toNat) = R) (_k0 : 0 ≤ K) (_k1 : K ≤ 9007199254740992)
    (HU : Hid ((9223372036854775808 < R ∨ (R = 9223372036854775808 ∧ (bits .and .u64 K 1 == 1) = true)) → bits .or .u64 s ((E + D + 1074) * 4503599627370496 + (K + 1)) = Z))
    (HD : Hid (¬ (9223372036854775808 < R ∨ (R = 9223372036854775808 ∧ (bits .and .u64 K 1 == 1) = true)) → bits .or .u64 s ((E + D + 1074) * 4503599627370496 + K) = Z)) :
    Calls Try.prog 44 #[.int .u64 s, .int .u64 m, .int .i64 e] w
      fun e' w' => e' = .returned (.int .u64 Z) ∧ Below w.heap.size w w' := by
  have b0 : (m == 0) = false := by rw [beq_eq_false_iff_ne]; omega
  go_enter Try.func44, Try.ntmps44
  go_wp2_with fail
  refine (hsc _).mono ?_
  rintro e' w1 ⟨rfl, hb⟩
  go_wp2_with fail
  go_quiet (fail)
  go_wp2_with fail
  · rename_i c1 c2 c3
    go_ret
    exact ⟨ret_int (HU.out (Or.inr ⟨c2, c3⟩)), bt hb (below_drewN ((Below.refl _ _).alloc (Nat.le_refl _) _) _)⟩
  · rename_i c1 c2 c3
    go_ret
    exact ⟨ret_int (HD.out (fun h => by rcases h with h | h; omega; rw [h.2] at c3; cases c3)), bt hb (below_drewN ((Below.refl _ _).alloc (Nat.le_refl _) _) _)⟩
  · rename_i c1 c2 c3
    go_ret
    exact ⟨ret_int (HD.out (fun h => by rcases h with h | h; omega; exact c2 h.1)), bt hb (below_drewN ((Below.refl _ _).alloc (Nat.le_refl _) _) _)⟩
  · rename_i c1
    go_ret
    exact ⟨ret_int (HU.out (Or.inl c1)), bt hb (below_drewN ((Below.refl _ _).alloc (Nat.le_refl _) _) _)⟩

set_option maxHeartbeats 400000 in
theorem round_zero (s e : Int) (w : World) :
    Calls Try.prog 44 #[.int .u64 s, .int .u64 0, .int .i64 e] w fun e' w' => e' = .returned (.int .u64 s) ∧ Below w.heap.size w w' := by
  go_enter Try.func44, Try.ntmps44
  go_wp2
  go_ret
  exact ⟨rfl, Below.refl _ _⟩

set_option maxHeartbeats 400000 in
theorem round_big (s m e M E Z : Int) (w : World) (h0 : 0 < m) (_e0 : 960 < E) (_e1 : E ≤ 100000)
    (hsc : ∀ w : World, Calls Try.prog 47 #[.agg #[.int .i64 0, .int .u64 0, .int .u64 m, .int .i64 e]] w fun e' w' => e' = .returned (.agg #[.int .i64 0, .int .u64 0, .int .u64 M, .int .i64 E]) ∧ Below w.heap.size w w')
    (_hD : (if 11 < -1074 - E then -1074 - E else 11) = 11)
    (hZ : bits .or .u64 s 9218868437227405312 = Z) :
    Calls Try.prog 44 #[.int .u64 s, .int .u64 m, .int .i64 e] w
      fun e' w' => e' = .returned (.int .u64 Z) ∧ Below w.heap.size w w' := by
  have b0 : (m == 0) = false := by rw [beq_eq_false_iff_ne]; omega
  go_enter Try.func44, Try.ntmps44
  go_wp2_with fail
  refine (hsc _).mono ?_
  rintro e' w1 ⟨rfl, hb⟩
  go_wp2
  go_ret
  exact ⟨rfl, bt hb ((Below.refl _ _).alloc (Nat.le_refl _) _)⟩

set_option maxHeartbeats 400000 in
theorem round_tiny (s m e M E D : Int) (w : World) (h0 : 0 < m) (_e0 : -100000 ≤ E) (_e1 : E ≤ 960)
    (hsc : ∀ w : World, Calls Try.prog 47 #[.agg #[.int .i64 0, .int .u64 0, .int .u64 m, .int .i64 e]] w fun e' w' => e' = .returned (.agg #[.int .i64 0, .int .u64 0, .int .u64 M, .int .i64 E]) ∧ Below w.heap.size w w')
    (hD : (if 11 < -1074 - E then -1074 - E else 11) = D) (_d0 : 64 < D) :
    Calls Try.prog 44 #[.int .u64 s, .int .u64 m, .int .i64 e] w
      fun e' w' => e' = .returned (.int .u64 s) ∧ Below w.heap.size w w' := by
  have b0 : (m == 0) = false := by rw [beq_eq_false_iff_ne]; omega
  go_enter Try.func44, Try.ntmps44
  go_wp2_with fail
  refine (hsc _).mono ?_
  rintro e' w1 ⟨rfl, hb⟩
  go_wp2
  go_ret
  exact ⟨rfl, bt hb ((Below.refl _ _).alloc (Nat.le_refl _) _)⟩

theorem or_sign (s r : Int) (hs : s = 0 ∨ s = 9223372036854775808) (h0 : 0 ≤ r) (h1 : r < 9223372036854775808) : bits .or .u64 s r = s + r := by
  rcases hs with rfl | rfl
  · rw [u64_or _ _ (by omega) (by omega) h0 (by omega)]
    simp; omega
  · rw [u64_or _ _ (by omega) (by omega) h0 (by omega)]
    have e := nat_join 63 9223372036854775808 r.toNat (by decide) (by show r.toNat < 9223372036854775808; omega)
    have e2 : (9223372036854775808 : Int).toNat = 9223372036854775808 := rfl
    rw [e2, e]
    omega

theorem and_one (K : Int) (h0 : 0 ≤ K) (h1 : K < 18446744073709551616) : bits .and .u64 K 1 = K % 2 := by
  rw [u64_and _ _ h0 h1 (by omega) (by omega)]
  have e2 : (1 : Int).toNat = 1 := rfl
  rw [e2, nat_mask1]
  omega

/-- the sign bit, and the rung nearest to m times 2^e -/
def roundI (s m e : Int) : Int := s + (rung m.toNat e : Nat)

theorem round_any (s m e : Int) (w : World) (hs : s = 0 ∨ s = 9223372036854775808) (m0 : 0 ≤ m) (m1 : m < 18446744073709551616) (e0 : -90000 ≤ e) (e1 : e ≤ 90000) :
    Calls Try.prog 44 #[.int .u64 s, .int .u64 m, .int .i64 e] w fun e' w' => e' = .returned (.int .u64 (roundI s m e)) ∧ Below w.heap.size w w' := by
  unfold roundI
  by_cases hm : m = 0
  · subst hm
    have : rung (0 : Int).toNat e = 0 := by simp [rung]
    rw [this]
    simpa using round_zero s e w
  have hsc := fun w => scaled_any 0 0 m e w (by omega) m1 (by omega) (by omega)
  obtain ⟨c0, c1⟩ := clz_bd m (by omega) m1
  obtain ⟨M0, M1⟩ := scl_bd m (by omega) m1
  have hr : rung m.toNat e = rung (sclI m).toNat (e - clzI m) := by
    rw [scl_nat m (by omega) m1, Int.toNat_natCast, rung_scale]
    congr 1
    unfold clzI
    have := log2_64 m.toNat (by omega) (by omega)
    omega
  rw [hr]
  generalize clzI m = N at *
  generalize hME : sclI m = M at *
  have E0 : -100000 ≤ e - N := by omega
  have E1 : e - N ≤ 100000 := by omega
  generalize e - N = E at *
  clear hr hME
  obtain ⟨Mn, rfl⟩ := Int.eq_ofNat_of_zero_le (show 0 ≤ M by omega)
  rw [Int.toNat_natCast]
  have q0 : 9223372036854775808 ≤ Mn := by omega
  have q1 : Mn < 18446744073709551616 := by omega
  by_cases b1 : 960 < E
  · rw [rung_big Mn E q0 q1 b1]
    exact round_big s m e _ E _ w (by omega) b1 (by omega) hsc (by rw [if_neg (by omega)]) (or_sign s 9218868437227405312 hs (by omega) (by omega))
  · by_cases b2 : 64 < -1074 - E
    · rw [rung_tiny Mn E q0 q1 b2]
      have := round_tiny s m e _ E (-1074 - E) w (by omega) (by omega) (by omega) hsc (by rw [if_pos (by omega)]) b2
      simpa using this
    · obtain ⟨D, hD⟩ : ∃ D : Nat, (D : Int) = max 11 (-1074 - E) := ⟨(max 11 (-1074 - E)).toNat, by omega⟩
      rw [rung_in Mn E D q0 q1 hD (by omega), rne_up Mn D (by omega) (by omega)]
      have hK : (Mn : Int) / 2 ^ ((D : Int)).toNat = ((Mn / 2 ^ D : Nat) : Int) := by
        rw [Int.toNat_natCast, Int.natCast_ediv, Int.natCast_pow]; rfl
      have hR : IntKind.u64.wrap ((Mn : Int) * 2 ^ (64 - (D : Int)).toNat) = ((Mn % 2 ^ D * 2 ^ (64 - D) : Nat) : Int) := by
        rw [IntKind.wrap_u64, ← rest_top Mn D (by omega), show (64 - (D : Int)).toNat = 64 - D from by omega, Int.natCast_emod, Int.natCast_mul, Int.natCast_pow]
        rfl
      have k1 : Mn / 2 ^ D ≤ 9007199254740992 := by
        have := rne_word_le Mn D q1 (by omega)
        unfold rne at this
        omega
      generalize Mn / 2 ^ D = K at *
      generalize Mn % 2 ^ D * 2 ^ (64 - D) = R at *
      refine round_core s m e _ E _ w D K R (by omega) M0 M1 (by omega) (by omega) hsc (by split <;> omega) (by omega) (by omega) hK hR (by omega) (by omega) ?_ ?_
      · intro h
        rw [and_one _ (by omega) (by omega)] at h
        rw [or_sign s _ hs (by omega) (by omega), if_pos (by rcases h with h | h; exact Or.inl (by omega); exact Or.inr ⟨by omega, by have := beq_iff_eq.1 h.2; omega⟩)]
        omega
      · intro h
        rw [and_one _ (by omega) (by omega)] at h
        rw [or_sign s _ hs (by omega) (by omega), if_neg (fun g => h (by rcases g with g | g; exact Or.inl (by omega); exact Or.inr ⟨by omega, beq_iff_eq.2 (by omega)⟩))]
        omega

end Go.Proofs.Ytfhdmglfpkmjbaa
