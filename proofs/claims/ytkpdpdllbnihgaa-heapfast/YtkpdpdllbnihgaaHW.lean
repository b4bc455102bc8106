/- Words: tags and what they bear. -/
import Derived.Test.YtkpdpdllbnihgaaHC
import Derived.Laws.BitsAllLaws
namespace Go.Proofs.Ytkpdpdllbnihgaa.Hp
open Go.RowKit
set_option linter.unusedVariables false

theorem or_tag (t n : Int) (t0 : 0 ≤ t) (t1 : t < 65536) (n0 : 0 ≤ n) (n1 : n < 4294967296) : bits .or .u64 (t * 281474976710656) n = t * 281474976710656 + n := by
  rw [u64_or _ _ (by omega) (by omega) (by omega) (by omega)]
  have e := nat_join 48 (t.toNat * 281474976710656) n.toNat (by omega) (by show n.toNat < 281474976710656; omega)
  rw [show (t * 281474976710656).toNat = t.toNat * 281474976710656 from by omega, e]
  omega

set_option maxHeartbeats 400000 in
theorem tagged_any (t n : Int) (w : World) (t0 : 0 ≤ t) (t1 : t < 65536) (n0 : 0 ≤ n) (n1 : n < 4294967296) :
    Calls Try.prog 45 #[.int .u64 t, .int .u32 n] w fun e w' => e = .returned (.int .u64 (t * 281474976710656 + n)) ∧ w' = w := by
  have ho := or_tag t n t0 t1 n0 n1
  have hw : IntKind.u64.wrap (t * 281474976710656) = t * 281474976710656 := by rw [IntKind.wrap_u64]; omega
  go_enter Try.func45, Try.ntmps45
  go_wp2
  go_ret
  exact ⟨rfl, rfl⟩

/-- the words of the tags -/
def intW (n : Int) : Int := 18444773748872577024 + n % 4294967296
def objW (n : Int) : Int := 18445055223849287680 + n
def txtW (n : Int) : Int := 18445618173802708992 + n
def undW : Int := 18445336698825998336
def nulW : Int := 18445336698825998337
def holW : Int := 18445336698825998340

set_option maxHeartbeats 400000 in
theorem refInt_any (n : Int) (w : World) : Calls Try.prog 16 #[.int .i32 n] w fun e w' => e = .returned (.int .u64 (intW n)) ∧ w' = w := by
  have hw : IntKind.u32.wrap n = n % 4294967296 := IntKind.wrap_u32 n
  unfold intW
  have m0 : 0 ≤ n % 4294967296 := by omega
  have m1 : n % 4294967296 < 4294967296 := by omega
  generalize n % 4294967296 = m at *
  go_enter Try.func16, Try.ntmps16
  go_wp2
  go_ret
  exact ⟨rfl, rfl⟩

set_option maxHeartbeats 400000 in
theorem object_any (n : Int) (w : World) (n0 : 0 ≤ n) (n1 : n < 4294967296) : Calls Try.prog 32 #[.int .u32 n] w fun e w' => e = .returned (.int .u64 (objW n)) ∧ w' = w := by
  have c := fun w => tagged_any 65530 n w (by omega) (by omega) n0 n1
  unfold objW
  rw [show (65530 * 281474976710656 : Int) = 18445055223849287680 from rfl] at c
  go_enter Try.func32, Try.ntmps32
  go_wp2_with (go_at_call 45; refine (c _).mono ?_; rintro e w1 ⟨rfl, rfl⟩)
  go_ret
  exact ⟨rfl, rfl⟩

/-- whether a word is of a tag -/
def isT (a t : Int) : Bool := a / 4294967296 == t * 65536

set_option maxHeartbeats 400000 in
theorem payU_any (a t : Int) (w : World) (h0 : 0 ≤ a) (h1 : a < 18446744073709551616) (t0 : 0 ≤ t) (t1 : t < 65536) :
    Calls Try.prog 46 #[.int .u64 a, .int .u64 t] w fun e w' => e = .returned (.tuple #[.int .u32 (if isT a t then a % 4294967296 else 0), .bool (isT a t)]) ∧ w' = w := by
  have hw : IntKind.u64.wrap (t * 65536) = t * 65536 := by rw [IntKind.wrap_u64]; omega
  have hu : IntKind.u32.wrap a = a % 4294967296 := IntKind.wrap_u32 a
  cases hc : isT a t with
  | true =>
    have hn : (a / 4294967296 != t * 65536) = false := by unfold isT at hc; rw [bne, hc]; rfl
    rw [if_pos rfl]
    clear hc
    go_enter Try.func46, Try.ntmps46
    go_wp2
    go_ret2
    exact ⟨rfl, rfl⟩
  | false =>
    have hn : (a / 4294967296 != t * 65536) = true := by unfold isT at hc; rw [bne, hc]; rfl
    rw [if_neg (by decide)]
    clear hc
    go_enter Try.func46, Try.ntmps46
    go_wp2
    go_ret2
    exact ⟨rfl, rfl⟩

/-- what a word of a tag bears; nought of another one -/
def payN (a t : Int) : Int := if isT a t then a % 4294967296 else 0

set_option maxHeartbeats 400000 in
theorem isObject_any (a : Int) (w : World) (h0 : 0 ≤ a) (h1 : a < 18446744073709551616) :
    Calls Try.prog 48 #[.int .u64 a] w fun e w' => e = .returned (.tuple #[.int .u32 (payN a 65530), .bool (isT a 65530)]) ∧ w' = w := by
  have c := fun w => payU_any a 65530 w h0 h1 (by omega) (by omega)
  unfold payN
  generalize (if isT a 65530 then a % 4294967296 else 0) = x at *
  generalize isT a 65530 = y at *
  go_enter Try.func48, Try.ntmps48
  go_wp2_with (go_at_call 46; refine (c _).mono ?_; rintro e w1 ⟨rfl, rfl⟩)
  go_ret2
  exact ⟨rfl, rfl⟩

theorem payN_bd (a t : Int) : 0 ≤ payN a t ∧ payN a t < 4294967296 := by unfold payN; split <;> omega
theorem isT_iff (a t : Int) : isT a t = true ↔ a / 4294967296 = t * 65536 := by unfold isT; exact beq_iff_eq
theorem isT_obj (n : Int) (h0 : 0 ≤ n) (h1 : n < 4294967296) : isT (objW n) 65530 = true ∧ payN (objW n) 65530 = n := by
  have h : isT (objW n) 65530 = true := by rw [isT_iff]; unfold objW; omega
  refine ⟨h, ?_⟩
  unfold payN
  rw [h, if_pos rfl]
  unfold objW
  omega
theorem isT_txt (n : Int) (h0 : 0 ≤ n) (h1 : n < 4294967296) : isT (txtW n) 65532 = true ∧ payN (txtW n) 65532 = n := by
  have h : isT (txtW n) 65532 = true := by rw [isT_iff]; unfold txtW; omega
  refine ⟨h, ?_⟩
  unfold payN
  rw [h, if_pos rfl]
  unfold txtW
  omega
theorem obj_of (a : Int) (h : isT a 65530 = true) : a = objW (payN a 65530) := by
  unfold payN objW
  rw [if_pos h]
  rw [isT_iff] at h
  omega
theorem isT_nul : isT nulW 65530 = false := by decide

end Go.Proofs.Ytkpdpdllbnihgaa.Hp
