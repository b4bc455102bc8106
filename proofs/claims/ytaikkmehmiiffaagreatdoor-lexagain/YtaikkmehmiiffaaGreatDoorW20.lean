/- soft.Near, and how many bits a number has. -/
import Derived.Test.YtaikkmehmiiffaaGreatDoorW14
namespace Go.Proofs.YtaikkmehmiiffaaGreatDoor
open Go.RowKit
set_option linter.unusedVariables false

/-- exp, brought within c -/
def clampI (c e : Int) : Int := if e < -c then -c else if c < e then c else e
/-- man and a half, in halves if there is one -/
def nmag (man : Int) (half : Bool) : Nat := if half then 2 * man.toNat + 1 else man.toNat
def npl (c e : Int) (half : Bool) : Int := if half then clampI c e - 1 else clampI c e

theorem clamp_bd (c e : Int) (h : 0 ≤ c) : -c ≤ clampI c e ∧ clampI c e ≤ c := by unfold clampI; split; omega; split <;> omega

/-- where exp lies, and what it is brought to -/
def Brought (c e E : Int) : Prop := (e < -c ∧ E = -c) ∨ (e = -c ∧ E = -c) ∨ (-c < e ∧ e < c ∧ E = e) ∨ (e = c ∧ E = c) ∨ (c < e ∧ E = c)

theorem brought (c e : Int) (h : 0 < c) : Brought c e (clampI c e) := by unfold Brought clampI; split; omega; split <;> omega

theorem stk_half (m : Nat) : stk (2 * m + 1) 1 = m ||| 1 := by
  unfold stk
  rw [if_neg (by omega), show (2 * m + 1) / 2 ^ 1 = m from by omega]

set_option maxHeartbeats 1000000 in
theorem near_n (man exp : Int) (w : World) (E R : Int) (hE : Brought 2000 exp E)
    (rnd : ∀ w : World, Calls Tryz.prog 105 #[.int .u64 0, .int .u64 man, .int .i64 (E)] w fun e w' => e = .returned (.int .u64 R) ∧ Below w.heap.size w w') :
    Calls Tryz.prog 90 #[.int .u64 man, .int .i64 exp, .bool false] w fun e w' => e = .returned (.int .u64 R) ∧ Below w.heap.size w w' := by
  unfold Brought at hE
  rcases hE with ⟨h, rfl⟩ | ⟨rfl, rfl⟩ | ⟨h, h2, rfl⟩ | ⟨rfl, rfl⟩ | ⟨h, rfl⟩
  · go_enter Tryz.func90, Tryz.ntmps90
    go_wp2_with (go_at_call 105; refine (rnd _).mono ?_; rintro e w1 ⟨rfl, hb⟩)
    go_ret
    exact ⟨rfl, hb⟩
  · go_enter Tryz.func90, Tryz.ntmps90
    go_wp2_with (go_at_call 105; refine (rnd _).mono ?_; rintro e w1 ⟨rfl, hb⟩)
    go_ret
    exact ⟨rfl, hb⟩
  · go_enter Tryz.func90, Tryz.ntmps90
    go_wp2_with (go_at_call 105; refine (rnd _).mono ?_; rintro e w1 ⟨rfl, hb⟩)
    go_ret
    exact ⟨rfl, hb⟩
  · go_enter Tryz.func90, Tryz.ntmps90
    go_wp2_with (go_at_call 105; refine (rnd _).mono ?_; rintro e w1 ⟨rfl, hb⟩)
    go_ret
    exact ⟨rfl, hb⟩
  · go_enter Tryz.func90, Tryz.ntmps90
    go_wp2_with (go_at_call 105; refine (rnd _).mono ?_; rintro e w1 ⟨rfl, hb⟩)
    go_ret
    exact ⟨rfl, hb⟩

set_option maxHeartbeats 1000000 in
theorem near_top (man exp M : Int) (w : World) (E R : Int) (hE : Brought 2000 exp E) (_m0 : 9223372036854775808 ≤ man) (_m1 : man < 18446744073709551616)
    (stc : ∀ w : World, Calls Tryz.prog 106 #[.int .u64 man, .bool true] w fun e w' => e = .returned (.int .u64 M) ∧ w' = w)
    (rnd : ∀ w : World, Calls Tryz.prog 105 #[.int .u64 0, .int .u64 M, .int .i64 (E)] w fun e w' => e = .returned (.int .u64 R) ∧ Below w.heap.size w w') :
    Calls Tryz.prog 90 #[.int .u64 man, .int .i64 exp, .bool true] w fun e w' => e = .returned (.int .u64 R) ∧ Below w.heap.size w w' := by
  unfold Brought at hE
  rcases hE with ⟨h, rfl⟩ | ⟨rfl, rfl⟩ | ⟨h, h2, rfl⟩ | ⟨rfl, rfl⟩ | ⟨h, rfl⟩
  · go_enter Tryz.func90, Tryz.ntmps90
    go_wp2_with (first | (go_at_call 106; refine (stc _).mono ?_; rintro e w1 ⟨rfl, rfl⟩) | (go_at_call 105; refine (rnd _).mono ?_; rintro e w1 ⟨rfl, hb⟩))
    go_ret
    exact ⟨rfl, hb⟩
  · go_enter Tryz.func90, Tryz.ntmps90
    go_wp2_with (first | (go_at_call 106; refine (stc _).mono ?_; rintro e w1 ⟨rfl, rfl⟩) | (go_at_call 105; refine (rnd _).mono ?_; rintro e w1 ⟨rfl, hb⟩))
    go_ret
    exact ⟨rfl, hb⟩
  · go_enter Tryz.func90, Tryz.ntmps90
    go_wp2_with (first | (go_at_call 106; refine (stc _).mono ?_; rintro e w1 ⟨rfl, rfl⟩) | (go_at_call 105; refine (rnd _).mono ?_; rintro e w1 ⟨rfl, hb⟩))
    go_ret
    exact ⟨rfl, hb⟩
  · go_enter Tryz.func90, Tryz.ntmps90
    go_wp2_with (first | (go_at_call 106; refine (stc _).mono ?_; rintro e w1 ⟨rfl, rfl⟩) | (go_at_call 105; refine (rnd _).mono ?_; rintro e w1 ⟨rfl, hb⟩))
    go_ret
    exact ⟨rfl, hb⟩
  · go_enter Tryz.func90, Tryz.ntmps90
    go_wp2_with (first | (go_at_call 106; refine (stc _).mono ?_; rintro e w1 ⟨rfl, rfl⟩) | (go_at_call 105; refine (rnd _).mono ?_; rintro e w1 ⟨rfl, hb⟩))
    go_ret
    exact ⟨rfl, hb⟩

set_option maxHeartbeats 1000000 in
theorem near_low (man exp M : Int) (w : World) (E R : Int) (hE : Brought 2000 exp E) (_m0 : 0 ≤ man) (_m1 : man < 9223372036854775808) (hM : bits .or .u64 (man * 2) 1 = M)
    (rnd : ∀ w : World, Calls Tryz.prog 105 #[.int .u64 0, .int .u64 M, .int .i64 (E - 1)] w fun e w' => e = .returned (.int .u64 R) ∧ Below w.heap.size w w') :
    Calls Tryz.prog 90 #[.int .u64 man, .int .i64 exp, .bool true] w fun e w' => e = .returned (.int .u64 R) ∧ Below w.heap.size w w' := by
  unfold Brought at hE
  rcases hE with ⟨h, rfl⟩ | ⟨rfl, rfl⟩ | ⟨h, h2, rfl⟩ | ⟨rfl, rfl⟩ | ⟨h, rfl⟩
  · go_enter Tryz.func90, Tryz.ntmps90
    go_wp2_with (go_at_call 105; refine (rnd _).mono ?_; rintro e w1 ⟨rfl, hb⟩)
    go_ret
    exact ⟨rfl, hb⟩
  · go_enter Tryz.func90, Tryz.ntmps90
    go_wp2_with (go_at_call 105; refine (rnd _).mono ?_; rintro e w1 ⟨rfl, hb⟩)
    go_ret
    exact ⟨rfl, hb⟩
  · go_enter Tryz.func90, Tryz.ntmps90
    go_wp2_with (go_at_call 105; refine (rnd _).mono ?_; rintro e w1 ⟨rfl, hb⟩)
    go_ret
    exact ⟨rfl, hb⟩
  · go_enter Tryz.func90, Tryz.ntmps90
    go_wp2_with (go_at_call 105; refine (rnd _).mono ?_; rintro e w1 ⟨rfl, hb⟩)
    go_ret
    exact ⟨rfl, hb⟩
  · go_enter Tryz.func90, Tryz.ntmps90
    go_wp2_with (go_at_call 105; refine (rnd _).mono ?_; rintro e w1 ⟨rfl, hb⟩)
    go_ret
    exact ⟨rfl, hb⟩

/-- how many bits a number has -/
def blen (n : Nat) : Nat := if n = 0 then 0 else n.log2 + 1

theorem blen_half (n : Nat) (h : n ≠ 0) : blen n = blen (n / 2) + 1 := by
  unfold blen
  rw [if_neg h, Nat.log2_def]
  by_cases c : 2 ≤ n
  · rw [if_pos c, if_neg (by omega)]
  · have : n = 1 := by omega
    subst this
    rfl

theorem blen_le (n : Nat) (h : n < 18446744073709551616) : blen n ≤ 64 := by
  unfold blen
  split
  · omega
  · rename_i c
    have := log2_64 n h c
    omega

set_option maxHeartbeats 400000 in
theorem refbits_any (n : Int) (w : World) (h0 : 0 ≤ n) (h1 : n < 18446744073709551616) :
    Calls Tryz.prog 56 #[.int .u64 n] w fun e w' => e = .returned (.int .i64 ((blen n.toNat : Nat) : Int)) ∧ w' = w := by
  have hb := blen_le n.toNat (by omega)
  generalize hB : blen n.toNat = B at *
  go_enter Tryz.func56, Tryz.ntmps56
  go_wp2_with fail
  go_loop [0, 3] (fun t k => ∃ r K : Nat, t = .int .u64 ((r : Nat) : Int) ∧ k = .int .i64 ((K : Nat) : Int) ∧ K + blen r = B ∧ r < 18446744073709551616) (fun t _ => (intOf t).toNat)
  case atStart =>
    exact ⟨n.toNat, 0, by rw [Int.toNat_of_nonneg h0], rfl, by rw [hB]; omega, by omega⟩
  case round =>
    obtain ⟨r, K, rfl, rfl, hK, hr⟩ := hrel
    by_cases c : r = 0
    · subst c
      have : K = B := by rw [← hK]; rfl
      subst this
      clear hK hB
      go_wp2
      go_ret
      exact ⟨rfl, rfl⟩
    · have e := blen_half r c
      have H : Hid (K + 1 + blen (r / 2) = B) := by show _ = _; omega
      have KB : K < 64 := by omega
      clear hK e hB
      go_wp2_with fail
      refine ⟨⟨r / 2, K + 1, ?_, ?_, H.out, by omega⟩, ?_⟩
      · rw [Int.natCast_ediv]; rfl
      · rw [Int.natCast_add]; rfl
      · simp [intOf]; omega

/-- what is nearest to man, and a half, times a power of two -/
def nearI (c man exp : Int) (half : Bool) : Int := ((rung (nmag man half) (npl c exp half) : Nat) : Int)

theorem near_any (man exp : Int) (half : Bool) (h0 : 0 ≤ man) (h1 : man < 18446744073709551616) (w : World) :
    Calls Tryz.prog 90 #[.int .u64 man, .int .i64 exp, .bool half] w fun e w' => e = .returned (.int .u64 (nearI 2000 man exp half)) ∧ Below w.heap.size w w' := by
  obtain ⟨b0, b1⟩ := clamp_bd 2000 exp (by omega)
  unfold nearI
  cases half
  · have e : ∀ z : Int, roundI 0 man z = ((rung (nmag man false) z : Nat) : Int) := fun z => by unfold roundI nmag; simp
    have n : npl 2000 exp false = clampI 2000 exp := rfl
    rw [n, ← e]
    exact near_n man exp w _ _ (brought 2000 exp (by omega)) (fun w => round_any 0 man _ w (Or.inl rfl) h0 h1 (by omega) (by omega))
  · have n : npl 2000 exp true = clampI 2000 exp - 1 := rfl
    have nm : nmag man true = 2 * man.toNat + 1 := rfl
    rw [n, nm]
    by_cases c : man < 9223372036854775808
    · have hM : bits .or .u64 (man * 2) 1 = man * 2 + 1 := by
        rw [u64_or _ _ (by omega) (by omega) (by omega) (by omega), show (1 : Int).toNat = 1 from rfl, or_one]
        omega
      have e : roundI 0 (man * 2 + 1) (clampI 2000 exp - 1) = ((rung (2 * man.toNat + 1) (clampI 2000 exp - 1) : Nat) : Int) := by
        unfold roundI
        rw [show (man * 2 + 1).toNat = 2 * man.toNat + 1 from by omega]
        omega
      rw [← e]
      exact near_low man exp _ w _ _ (brought 2000 exp (by omega)) h0 c hM (fun w => round_any 0 _ _ w (Or.inl rfl) (by omega) (by omega) (by omega) (by omega))
    · have st : stickyI man true = ((man.toNat ||| 1 : Nat) : Int) := rfl
      have hs := fun w => sticky_any man true w h0 h1
      rw [st] at hs
      have ho := or_one man.toNat
      have e : roundI 0 ((man.toNat ||| 1 : Nat) : Int) (clampI 2000 exp) = ((rung (2 * man.toNat + 1) (clampI 2000 exp - 1) : Nat) : Int) := by
        unfold roundI
        have k := rung_stk (2 * man.toNat + 1) 1 (clampI 2000 exp - 1) (Or.inl (by omega))
        rw [stk_half, show clampI 2000 exp - 1 + ((1 : Nat) : Int) = clampI 2000 exp from by omega] at k
        rw [Int.toNat_natCast, k]
        omega
      rw [← e]
      exact near_top man exp _ w _ _ (brought 2000 exp (by omega)) (by omega) h1 hs (fun w => round_any 0 _ _ w (Or.inl rfl) (by omega) (by omega) (by omega) (by omega))

end Go.Proofs.YtaikkmehmiiffaaGreatDoor
