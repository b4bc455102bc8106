/- The walks of Trunc, ToUint32, ToInt32, Whole and Floor, whole. -/
import Derived.Test.YtfhdmglfpkmjbaaW24
namespace Go.Proofs.Ytfhdmglfpkmjbaa
open Go.RowKit

/-- a number without its fraction -/
def truncI (a : Int) : Int :=
  if kindI a = 3 then 9221120237041090560 else if kindI a ≠ 1 ∨ 0 ≤ expI a then a else roundI (sgnI a) (sizeI (manI a) (expI a)) 0

theorem size_bd (m e : Int) (m0 : 0 ≤ m) (m1 : m < 18446744073709551616) : 0 ≤ sizeI m e ∧ sizeI m e < 18446744073709551616 := by
  unfold sizeI
  split
  · have p : (0 : Int) < 2 ^ (-e).toNat := Int.pow_pos (by decide)
    have h1 := Int.ediv_nonneg m0 (Int.le_of_lt p)
    have h2 := Int.ediv_le_self (2 ^ (-e).toNat) m0
    omega
  · omega

theorem size_small (m e : Int) (m0 : 0 ≤ m) (m1 : m < 18446744073709551616) (he : e ≤ 0) : sizeI m e ≤ m := by
  unfold sizeI
  split
  · exact Int.ediv_le_self (2 ^ (-e).toNat) m0
  · have : e = 0 := by omega
    subst this
    rw [show (0 : Int).toNat = 0 from rfl]
    omega

theorem trunc_any (a : Int) (w : World) (h0 : 0 ≤ a) (h1 : a < 18446744073709551616) :
    Calls Try.prog 54 #[.int .u64 a] w fun e w' => e = .returned (.int .u64 (truncI a)) ∧ Below w.heap.size w w' := by
  have ca := fun w => split_any a w h0 h1
  unfold truncI
  by_cases k3 : kindI a = 3
  · rw [if_pos k3]
    rw [k3] at ca
    exact trunc_nan a _ _ _ w ca
  rw [if_neg k3]
  by_cases k1 : kindI a = 1
  · obtain ⟨_, f, _⟩ := read_fin a h0 h1 k1
    obtain ⟨f1, f2, f3, f4, _⟩ := f
    rw [k1] at ca
    by_cases c : 0 ≤ expI a
    · rw [if_pos (Or.inr c)]
      exact trunc_big a _ _ _ w c ca
    · rw [if_neg (by simp [k1]; omega)]
      obtain ⟨z0, z1⟩ := size_bd (manI a) (expI a) (by omega) (by omega)
      exact trunc_small a _ _ _ w _ _ (by omega) ca (fun w => size_any 1 _ _ _ w (by omega) (by omega) (by omega) (by omega)) (fun w => round_any _ _ 0 w (sgn_cases a h1) z0 z1 (by omega) (by omega))
  · rw [if_pos (Or.inl k1)]
    exact trunc_not a _ _ _ w _ (by simp [k3]) (by simp [k1]) ca

section
variable (a sa ma ea : Int) (w : World)

set_option maxHeartbeats 1000000 in
theorem whole_zero (k : Int)
    (ca : ∀ w : World, Calls Try.prog 53 #[.int .u64 0] w fun e w' => e = .returned (.agg #[.int .i64 k, .int .u64 sa, .int .u64 ma, .int .i64 ea]) ∧ Below w.heap.size w w') :
    Calls Try.prog 49 #[.int .u64 0] w fun e w' => e = .returned (.tuple #[.int .i64 0, .bool true]) ∧ Below w.heap.size w w' := by
  go_enter Try.func49, Try.ntmps49
  go_wp2_with fail
  refine (ca _).mono ?_
  rintro e w1 ⟨rfl, hb1⟩
  go_wp2
  go_ret2
  exact ⟨rfl, bt hb1 (b1 _)⟩

set_option maxHeartbeats 1000000 in
theorem whole_not (k : Int) (a0 : (a == 0) = false) (k2 : (k == 1) = false)
    (ca : ∀ w : World, Calls Try.prog 53 #[.int .u64 a] w fun e w' => e = .returned (.agg #[.int .i64 k, .int .u64 sa, .int .u64 ma, .int .i64 ea]) ∧ Below w.heap.size w w') :
    Calls Try.prog 49 #[.int .u64 a] w fun e w' => e = .returned (.tuple #[.int .i64 0, .bool false]) ∧ Below w.heap.size w w' := by
  have k3 : (k != 1) = true := by rw [bne, k2]; rfl
  go_enter Try.func49, Try.ntmps49
  go_wp2_with fail
  refine (ca _).mono ?_
  rintro e w1 ⟨rfl, hb1⟩
  go_wp2
  go_ret2
  exact ⟨rfl, bt hb1 (b1 _)⟩

set_option maxHeartbeats 1000000 in
theorem whole_big (a0 : (a == 0) = false) (_he : 0 < ea)
    (ca : ∀ w : World, Calls Try.prog 53 #[.int .u64 a] w fun e w' => e = .returned (.agg #[.int .i64 1, .int .u64 sa, .int .u64 ma, .int .i64 ea]) ∧ Below w.heap.size w w') :
    Calls Try.prog 49 #[.int .u64 a] w fun e w' => e = .returned (.tuple #[.int .i64 0, .bool false]) ∧ Below w.heap.size w w' := by
  go_enter Try.func49, Try.ntmps49
  go_wp2_with fail
  refine (ca _).mono ?_
  rintro e w1 ⟨rfl, hb1⟩
  go_wp2
  go_ret2
  exact ⟨rfl, bt hb1 (b1 _)⟩

set_option maxHeartbeats 1000000 in
theorem whole_frac (T : Int) (a0 : (a == 0) = false) (_he : ea ≤ 0) (ht : (T == a) = false)
    (ca : ∀ w : World, Calls Try.prog 53 #[.int .u64 a] w fun e w' => e = .returned (.agg #[.int .i64 1, .int .u64 sa, .int .u64 ma, .int .i64 ea]) ∧ Below w.heap.size w w')
    (ct : ∀ w : World, Calls Try.prog 54 #[.int .u64 a] w fun e w' => e = .returned (.int .u64 T) ∧ Below w.heap.size w w') :
    Calls Try.prog 49 #[.int .u64 a] w fun e w' => e = .returned (.tuple #[.int .i64 0, .bool false]) ∧ Below w.heap.size w w' := by
  have ht' : (T != a) = true := by rw [bne, ht]; rfl
  go_enter Try.func49, Try.ntmps49
  go_wp2_with fail
  refine (ca _).mono ?_
  rintro e w1 ⟨rfl, hb1⟩
  go_wp2_with fail
  refine (ct _).mono ?_
  rintro e w2 ⟨rfl, hb2⟩
  go_wp2
  go_ret2
  exact ⟨rfl, bt (bt hb1 (b1 _)) hb2⟩

set_option maxHeartbeats 1000000 in
theorem whole_is (K S N : Int) (a0 : (a == 0) = false) (_he : ea ≤ 0)
    (_k0 : 0 ≤ K) (_k1 : K < 9007199254740992) (hN : (if S = 0 then K else -K) = N) (hS : sa = S)
    (ca : ∀ w : World, Calls Try.prog 53 #[.int .u64 a] w fun e w' => e = .returned (.agg #[.int .i64 1, .int .u64 sa, .int .u64 ma, .int .i64 ea]) ∧ Below w.heap.size w w')
    (ct : ∀ w : World, Calls Try.prog 54 #[.int .u64 a] w fun e w' => e = .returned (.int .u64 a) ∧ Below w.heap.size w w')
    (cz : ∀ w : World, Calls Try.prog 55 #[.agg #[.int .i64 1, .int .u64 sa, .int .u64 ma, .int .i64 ea]] w fun e w' => e = .returned (.int .u64 K) ∧ Below w.heap.size w w') :
    Calls Try.prog 49 #[.int .u64 a] w fun e w' => e = .returned (.tuple #[.int .i64 N, .bool true]) ∧ Below w.heap.size w w' := by
  subst hS
  by_cases hs : sa = 0
  · rw [if_pos hs] at hN
    have hs' : (sa != 0) = false := by rw [hs]; rfl
    clear hs
    go_enter Try.func49, Try.ntmps49
    go_wp2_with fail
    refine (ca _).mono ?_
    rintro e w1 ⟨rfl, hb1⟩
    have B1 := box1_new w1 (.int .i64 1) (.int .u64 sa) (.int .u64 ma) (.int .i64 ea) 77
    go_wp2_with fail
    refine (ct _).mono ?_
    rintro e w2 ⟨rfl, hb2⟩
    have B2 := B1.keep hb2
    unfold Box1 at B2
    obtain ⟨⟨x0, x1, x2, x3⟩, hz⟩ := B2
    go_wp2_with fail
    refine (cz _).mono ?_
    rintro e w3 ⟨rfl, hb3⟩
    go_wp2
    go_ret2
    exact ⟨rfl, bt (bt (bt hb1 (b1 _)) hb2) hb3⟩
  · rw [if_neg hs] at hN
    have hs' : (sa != 0) = true := by rw [bne_iff_ne]; exact hs
    clear hs
    go_enter Try.func49, Try.ntmps49
    go_wp2_with fail
    refine (ca _).mono ?_
    rintro e w1 ⟨rfl, hb1⟩
    have B1 := box1_new w1 (.int .i64 1) (.int .u64 sa) (.int .u64 ma) (.int .i64 ea) 77
    go_wp2_with fail
    refine (ct _).mono ?_
    rintro e w2 ⟨rfl, hb2⟩
    have B2 := B1.keep hb2
    unfold Box1 at B2
    obtain ⟨⟨x0, x1, x2, x3⟩, hz⟩ := B2
    go_wp2_with fail
    refine (cz _).mono ?_
    rintro e w3 ⟨rfl, hb3⟩
    go_wp2
    go_ret2
    exact ⟨rfl, bt (bt (bt hb1 (b1 _)) hb2) hb3⟩

end

/-- a number as a whole one modulo 2^32 -/
def u32I (a : Int) : Int :=
  if kindI a ≠ 1 then 0 else if sgnI a = 0 then sizeI (manI a) (expI a) % 4294967296 else (-(sizeI (manI a) (expI a))) % 4294967296

theorem u32_bd (a : Int) : 0 ≤ u32I a ∧ u32I a < 4294967296 := by
  unfold u32I; split; omega; split <;> omega

/-- whether a number is whole, and which -/
def wholeI (a : Int) : Int × Bool :=
  if a = 0 then (0, true) else if kindI a ≠ 1 ∨ 0 < expI a ∨ truncI a ≠ a then (0, false)
  else ((if sgnI a = 0 then sizeI (manI a) (expI a) else -(sizeI (manI a) (expI a))), true)

theorem whole_any (a : Int) (w : World) (h0 : 0 ≤ a) (h1 : a < 18446744073709551616) :
    Calls Try.prog 49 #[.int .u64 a] w fun e w' => e = .returned (.tuple #[.int .i64 (wholeI a).1, .bool (wholeI a).2]) ∧ Below w.heap.size w w' := by
  have ca := fun w => split_any a w h0 h1
  have ct := fun w => trunc_any a w h0 h1
  unfold wholeI
  by_cases z : a = 0
  · rw [if_pos z]
    subst z
    exact whole_zero _ _ _ w _ ca
  rw [if_neg z]
  have a0 : (a == 0) = false := by simp [z]
  by_cases k1 : kindI a = 1
  · obtain ⟨_, f, _⟩ := read_fin a h0 h1 k1
    obtain ⟨f1, f2, f3, f4, _⟩ := f
    rw [k1] at ca
    by_cases c : 0 < expI a
    · rw [if_pos (Or.inr (Or.inl c))]
      exact whole_big a _ _ _ w a0 c ca
    by_cases d : truncI a = a
    · rw [if_neg (by simp [k1, d]; omega)]
      rw [d] at ct
      obtain ⟨z0, z1⟩ := size_bd (manI a) (expI a) (by omega) (by omega)
      have zs := size_small (manI a) (expI a) (by omega) (by omega) (by omega)
      exact whole_is a _ _ _ w _ (sgnI a) _ a0 (by omega) z0 (by omega) rfl rfl ca ct (fun w => size_any 1 (sgnI a) (manI a) (expI a) w (by omega) (by omega) (by omega) (by omega))
    · rw [if_pos (Or.inr (Or.inr d))]
      exact whole_frac a _ _ _ w _ a0 (by omega) (by simp [d]) ca ct
  · rw [if_pos (Or.inl k1)]
    exact whole_not a _ _ _ w _ a0 (by simp [k1]) ca

def floorI (a : Int) : Int := if lessI a (truncI a) then subI (truncI a) 4607182418800017408 else truncI a

theorem trunc_bd (a : Int) (h0 : 0 ≤ a) (h1 : a < 18446744073709551616) : 0 ≤ truncI a ∧ truncI a < 18446744073709551616 := by
  unfold truncI
  split
  · omega
  · split
    · omega
    · have := rung_le (sizeI (manI a) (expI a)).toNat 0
      have := sgn_cases a h1
      unfold roundI
      omega

end Go.Proofs.Ytfhdmglfpkmjbaa
