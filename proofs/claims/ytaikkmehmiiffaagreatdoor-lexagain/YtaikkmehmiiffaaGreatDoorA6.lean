/- The walk of quotient. -/
import Derived.Test.YtaikkmehmiiffaaGreatDoorA5
import Derived.Deep.RegionWith
import Derived.Deep.DeepCutAuto
namespace Go.Proofs.YtaikkmehmiiffaaGreatDoor
open Go.RowKit
set_option linter.unusedVariables false

theorem Num.drewN {w : World} {v : Value} {g N : Nat} (h : Num w v g N) (n : Nat) : Num (w.drewN n) v g N := h

theorem Moved.below {B : Nat} {w w' : World} {g g' : Nat} (m : Moved w w' g g') (hg : B ≤ g) (hB : B ≤ w.heap.size) : Below B w w' :=
  ⟨m.grown.os, m.grown.tape, m.grown.output, m.grown.size, fun k hk => m.grown.block k (by omega) (by simp; omega)⟩

theorem or_1 (m : Nat) (h : m < 9223372036854775808) : bits .or .u64 ((m : Int) * 2) 1 = (m : Int) * 2 + 1 := by
  have h' := bits_or_u64_nat (m * 2) 1 (by omega) (by omega)
  have e : (m * 2) ||| 1 = m * 2 + 1 := by rw [or_one]; omega
  rw [e] at h'
  push_cast at h'
  exact h'

theorem nearI_parts (man : Nat) (exp : Int) (half : Bool) (h0 : -2000 ≤ exp) (h1 : exp ≤ 2000) :
    nearI 2000 man exp half = ((rung (2 * man + (if half = false then 0 else 1)) (exp - 1) : Nat) : Int) := by
  unfold nearI
  have c : clampI 2000 exp = exp := by unfold clampI; omega
  cases half
  · have e1 : nmag (man : Int) false = man := by unfold nmag; simp
    have e2 : npl 2000 exp false = exp := by unfold npl; simp [c]
    rw [e1, e2]
    simp only [↓reduceIte, Nat.add_zero]
    have := rung_scale man 1 (exp - 1)
    rw [show exp - 1 + ((1 : Nat) : Int) = exp from by omega, Nat.pow_one, Nat.mul_comm] at this
    rw [this]
  · have e1 : nmag (man : Int) true = 2 * man + 1 := by unfold nmag; simp
    have e2 : npl 2000 exp true = exp - 1 := by unfold npl; simp [c]
    rw [e1, e2]
    simp

/-- the rounds of the division -/
structure Quo (X Y t man n : Nat) : Prop where
  eq : X * 2 ^ t = 2 * man * Y + n
  lt : n < 2 * Y

theorem Quo.step_yes {X Y t man n : Nat} (h : Quo X Y t man n) (c : Y ≤ n) : Quo X Y (t + 1) (2 * man + 1) ((n - Y) * 2) := by
  obtain ⟨e, l⟩ := h
  refine ⟨?_, by omega⟩
  rw [Nat.pow_succ, ← Nat.mul_assoc, e]
  have : 2 * (2 * man + 1) * Y = 2 * (2 * man * Y) + 2 * Y := by
    rw [Nat.mul_add, Nat.add_mul, Nat.mul_assoc 2 (2 * man) Y]
  omega

theorem Quo.step_no {X Y t man n : Nat} (h : Quo X Y t man n) (c : n < Y) : Quo X Y (t + 1) (2 * man) (n * 2) := by
  obtain ⟨e, l⟩ := h
  refine ⟨?_, by omega⟩
  rw [Nat.pow_succ, ← Nat.mul_assoc, e]
  have : 2 * (2 * man) * Y = 2 * (2 * man * Y) := by rw [Nat.mul_assoc 2 (2 * man) Y]
  omega

theorem Quo.bound {X Y t man n : Nat} (h : Quo X Y t man n) (hX : Y < 2 * X) (hm : man < 9223372036854775808) : t ≤ 65 := by
  obtain ⟨e, l⟩ := h
  rcases Nat.lt_or_ge t 66 with c | c
  · omega
  · exfalso
    have h1 : X * 2 ^ 66 ≤ X * 2 ^ t := Nat.mul_le_mul_left _ (Nat.pow_le_pow_right (by decide) c)
    have h2 : 2 * man * Y ≤ 18446744073709551614 * Y := Nat.mul_le_mul_right _ (by omega)
    have h3 : X * 2 ^ 66 = 73786976294838206464 * X := by rw [Nat.mul_comm]
    omega

theorem Quo.done {X Y t man n : Nat} (h : Quo X Y t man n) (ht : 1 ≤ t) (hY : 0 < Y) : man = X * 2 ^ (t - 1) / Y ∧ (n = 0 ↔ X * 2 ^ (t - 1) % Y = 0) := by
  obtain ⟨e, l⟩ := h
  obtain ⟨s, rfl⟩ : ∃ s, t = s + 1 := ⟨t - 1, by omega⟩
  simp only [Nat.add_sub_cancel]
  rw [Nat.pow_succ, ← Nat.mul_assoc, Nat.mul_assoc 2 man Y] at e
  generalize X * 2 ^ s = Z at *
  have e2 : Z = man * Y + n / 2 := by omega
  have l2 : n / 2 < Y := by omega
  have e3 : n = 2 * (n / 2) := by omega
  generalize n / 2 = r at *
  subst e2
  constructor
  · rw [Nat.mul_comm, Nat.mul_add_div hY, Nat.div_eq_of_lt l2, Nat.add_zero]
  · rw [Nat.mul_comm, Nat.mul_add_mod, Nat.mod_eq_of_lt l2]; omega

theorem same_size {X Y : Nat} (hX : 0 < X) (hY : 0 < Y) (h : bitl X = bitl Y) : X < 2 * Y ∧ Y < 2 * X := by
  unfold bitl at h
  rw [if_neg (by omega), if_neg (by omega)] at h
  have a1 := Nat.log2_self_le (show X ≠ 0 by omega)
  have a2 : X < 2 ^ (X.log2 + 1) := Nat.lt_log2_self
  have b1 := Nat.log2_self_le (show Y ≠ 0 by omega)
  have b2 : Y < 2 ^ (Y.log2 + 1) := Nat.lt_log2_self
  rw [show X.log2 = Y.log2 from by omega] at a1 a2
  rw [Nat.pow_succ] at a2 b2
  omega

theorem bitl_shift (N a : Nat) (h : 0 < N) : bitl (N * 2 ^ a) = bitl N + a := by
  unfold bitl
  have hp := Nat.two_pow_pos a
  have : 0 < N * 2 ^ a := Nat.mul_pos h hp
  rw [if_neg (by omega), if_neg (by omega), log2_mul_pow N a (by omega)]
  omega

/-- what the division finds -/
theorem Quo.near {N M a b t man n : Nat} {E : Int} (h : Quo (N * 2 ^ a) (M * 2 ^ b) t man n) (hN : 0 < N) (hM : 0 < M) (hE : E = (b : Int) - a) (hm : 9223372036854775808 ≤ man) (half : Bool) (hh : half = decide (n ≠ 0))
    (e0 : -1800 ≤ E) (e1 : E ≤ 1800) (ht : t ≤ 100) (hX : N * 2 ^ a < 2 * (M * 2 ^ b)) :
    nearI 2000 man (E + 1 - t) half = ((nearQ N M : Nat) : Int) := by
  have ht1 : 1 ≤ t := by
    rcases Nat.eq_zero_or_pos t with c | c
    · subst c
      exfalso
      obtain ⟨e, l⟩ := h
      have hY : 0 < M * 2 ^ b := Nat.mul_pos hM (Nat.two_pow_pos b)
      have h2 : 18446744073709551616 * (M * 2 ^ b) ≤ 2 * man * (M * 2 ^ b) := Nat.mul_le_mul_right _ (by omega)
      rw [Nat.pow_zero, Nat.mul_one] at e
      generalize 2 * man * (M * 2 ^ b) = Z at *
      omega
    · exact c
  obtain ⟨d1, d2⟩ := h.done ht1 (Nat.mul_pos hM (Nat.two_pow_pos b))
  rw [nearI_parts man _ half (by omega) (by omega)]
  rw [Nat.mul_assoc, ← Nat.pow_add] at d1 d2
  have key := near_of_parts N M (a + (t - 1)) b hN hM (by rw [← d1]; omega)
  rw [← d1] at key
  have e3 : (if half = false then 0 else 1) = (if N * 2 ^ (a + (t - 1)) % (M * 2 ^ b) = 0 then 0 else 1) := by
    rw [hh]
    by_cases c : n = 0
    · rw [if_pos (d2.1 c)]; simp [c]
    · rw [if_neg (fun h => c (d2.2 h))]; simp [c]
  rw [e3, show E + 1 - (t : Int) - 1 = (b : Int) - ((a + (t - 1) : Nat) : Int) - 1 from by omega, key]

/-- what holds at the head of each round -/
def QuoAt (w wr : World) (B : Nat) (v u : Value) (k : Nat) (X Y : Nat) (E : Int) (e m : Value) : Prop :=
  ∃ t man n g : Nat, e = .int .i64 (E + 1 - t) ∧ m = .int .u64 (man : Int) ∧ man < 18446744073709551616 ∧ Num wr v g n ∧ Num wr u k Y ∧ g ≠ k ∧ B ≤ g ∧ B ≤ wr.heap.size ∧ Below B w wr ∧ Quo X Y t man n ∧ t ≤ 66

theorem lt_pow_len {n K : Nat} (h : n < 2 ^ K) (hK : K ≤ 64000000) : (wds n).length ≤ 1000000 := len_small h hK

theorem pair_kept {w w2 w3 : World} {v u v1 u1 : Value} {g k g1 k1 N M X Y B : Nat} (hv : Num w v g N) (hu : Num w u k M) (n1 : Num w2 v1 g1 X) (_n2 : Num w3 u1 k1 Y) (m1 : Moved w w2 g g1) (m2 : Moved w2 w3 k k1) (hgk : g ≠ k) (hBg : B ≤ g) (hBk : B ≤ k) :
    B ≤ g1 ∧ g1 ≠ k1 ∧ Num w3 v1 g1 X ∧ Below B w w3 := by
  have a1 := hv.lt
  have a2 := hu.lt
  have a3 := n1.lt
  have a4 := m1.grown.size
  have p1 : g1 ≠ k := by rcases m1.place with h | h <;> omega
  refine ⟨by rcases m1.place with h | h <;> omega, by rcases m2.place with h | h <;> omega, n1.kept m2.grown p1, (m1.below hBg (by omega)).trans (m2.below hBk (by omega))⟩

theorem quo_walk (w : World) (v u : Value) (g k N M a b K B : Nat) (E : Int) (hE : E = (b : Int) - a) (hs : (bitl N : Int) - bitl M = E) (hcase : (0 < E ∧ a = 0) ∨ (E = 0 ∧ a = 0 ∧ b = 0) ∨ (E < 0 ∧ b = 0))
    (e0 : -1800 ≤ E) (e1 : E ≤ 1800) (hN : 0 < N) (hM : 0 < M) (hNK : N < 2 ^ K) (hMK : M < 2 ^ K) (hKK : K ≤ 100000)
    (hv : Num w v g N) (hu : Num w u k M) (hgk : g ≠ k) (hBg : B ≤ g) (hBk : B ≤ k) :
    Calls Tryz.prog 95 #[v, u] w fun e w' => e = .returned (.int .u64 (nearQ N M : Nat)) ∧ Below B w w' := by
  have hBw : B ≤ w.heap.size := by have := hv.lt; omega
  have z1 := nsize_any w v g N hv (len_small hNK (by omega))
  have z2 := nsize_any w u k M hu (len_small hMK (by omega))
  have sh1 := shifted_any w v g N a K hv hNK (by omega)
  have bn : (bitl N : Int) ≤ 100000 := by have := (bitl_le (n := N) (k := K)).2 hNK; omega
  have bm : (bitl M : Int) ≤ 100000 := by have := (bitl_le (n := M) (k := K)).2 hMK; omega
  have hXb : bitl (N * 2 ^ a) = bitl (M * 2 ^ b) := by rw [bitl_shift N a hN, bitl_shift M b hM]; omega
  have hX0 : 0 < N * 2 ^ a := Nat.mul_pos hN (Nat.two_pow_pos a)
  have hY0 : 0 < M * 2 ^ b := Nat.mul_pos hM (Nat.two_pow_pos b)
  have hXY := same_size hX0 hY0 hXb
  have hYK : M * 2 ^ b < 2 ^ (K + b) := by rw [Nat.pow_add]; exact Nat.mul_lt_mul_of_pos_right hMK (Nat.two_pow_pos b)
  have hXK : N * 2 ^ a < 2 ^ (K + a) := by rw [Nat.pow_add]; exact Nat.mul_lt_mul_of_pos_right hNK (Nat.two_pow_pos a)
  have HS : Hid ((bitl N : Int) - bitl M = E) := hs
  generalize hbN : (bitl N : Int) = bN at *
  generalize hbM : (bitl M : Int) = bM at *
  have bn0 : 0 ≤ bN := by omega
  have bm0 : 0 ≤ bM := by omega
  have HB : Hid ((bitl N : Int) = bN ∧ (bitl M : Int) = bM) := ⟨hbN, hbM⟩
  have H1 : Hid (E = (b : Int) - a) := hE
  have hab : a ≤ 1800 ∧ b ≤ 1800 := by rcases hcase with h | h | h <;> omega
  obtain ⟨ha18, hb18⟩ := hab
  clear hbN hbM hXb hE
  have main : ∀ (v1 u1 : Value) (w2 : World) (g1 k1 : Nat), Num w2 v1 g1 (N * 2 ^ a) → Num w2 u1 k1 (M * 2 ^ b) → g1 ≠ k1 → B ≤ g1 → B ≤ w2.heap.size → Below B w w2 →
      QuoAt w w2 B v1 u1 k1 (N * 2 ^ a) (M * 2 ^ b) E (.int .i64 (E + 1)) (.int .u64 0) := by
    intro v1 u1 w2 g1 k1 h1 h2 h3 h4 h5 h6
    exact ⟨0, 0, N * 2 ^ a, g1, by simp, by simp, by omega, h1, h2, h3, h4, h5, h6, ⟨by simp, hXY.1⟩, by omega⟩
  subst hs
  rcases hcase with ⟨c1, rfl⟩ | ⟨c1, rfl, rfl⟩ | ⟨c1, rfl⟩
  · go_enter Tryz.func95, Tryz.ntmps95
    go_wp2_with (first | (go_at_call_of 112 v; refine z1.mono ?_; rintro e w1 ⟨rfl, rfl⟩) | (go_at_call_of 112 u; refine z2.mono ?_; rintro e w1 ⟨rfl, rfl⟩) | (go_at_call_of 113 v; refine sh1.mono ?_; rintro e w2 ⟨v1, g1, rfl, n1, m1⟩; have sh2 := shifted_any w2 u k M b K (hu.kept m1.grown (by omega)) hMK (by omega); rw [show ((b : Nat) : Int) = bN - bM from by have := H1.out; omega] at sh2) | (go_at_call_of 113 u; refine sh2.mono ?_; rintro e w3 ⟨u1, k1, rfl, n2, m2⟩))
    obtain ⟨hne1, hne, n1', hbl⟩ := pair_kept hv hu n1 n2 m1 m2 hgk hBg hBk
    go_loopw [0, 5, 6] (fun v e m wr => QuoAt w1 wr B v u1 k1 (N * 2 ^ 0) (M * 2 ^ b) (bN - bM) e m) (fun _ e _ _ => (intOf e - ((bN - bM) - 70)).toNat)
    case atStart => exact main v1 u1 _ g1 k1 n1' n2 hne (by omega) (by have := n1'.lt; omega) hbl
    case round =>
      clear main z1 z2 sh1 n1 n2 n1' m1 m2 hbl
      obtain ⟨t, man, n, g', rfl, rfl, hm, nv, nu, hne', hBg', hBr, hbl', hq, ht⟩ := hrel
      have hn2 : n < 2 ^ (K + b + 1) := by have := hq.lt; rw [Nat.pow_succ]; omega
      have ln := len_small hn2 (by omega)
      have ly := len_small hYK (by omega)
      obtain ⟨mi, hmi⟩ : ∃ mi : Int, (man : Int) = mi := ⟨_, rfl⟩
      have hmj : 0 ≤ mi := by omega
      by_cases hman : man < 9223372036854775808
      · have hb := hq.bound hXY.2 hman
        have hor := or_1 man hman
        have cmp := compare_any wr _ u1 g' k1 n (M * 2 ^ b) nv nu ln ly
        have hmk : mi < 9223372036854775808 := by omega
        have HM : Hid ((man : Int) = mi ∧ man < 9223372036854775808) := ⟨hmi, hman⟩
        rw [hmi] at hor ⊢
        by_cases hc : M * 2 ^ b ≤ n
        · have nx := hq.step_yes hc
          have HN : Hid (Quo (N * 2 ^ 0) (M * 2 ^ b) (t + 1) (2 * man + 1) ((n - M * 2 ^ b) * 2)) := nx
          have sc2 : ∀ (w5 : World) (v5 : Value), Num w5 v5 g' (n - M * 2 ^ b) → Calls Tryz.prog 94 #[v5, .int .u64 2, .int .u64 0] w5 fun e w' => ∃ v' g1, e = .returned v' ∧ Num w' v' g1 ((n - M * 2 ^ b) * 2 + 0) ∧ Moved w5 w' g' g1 :=
            fun w5 v5 n5 => scaled_moved w5 v5 g' (n - M * 2 ^ b) 2 0 (K + b + 1) n5 (by decide) (by decide) (by omega) (by omega)
          have mn := fun q => minus_any (wr.drewN q) _ u1 g' k1 n (M * 2 ^ b) (nv.drewN q) (nu.drewN q) ln hc hne'
          have cp : ∀ r : Int, CmpIs r n (M * 2 ^ b) → 0 ≤ r := fun r hr => by have := hr.1; omega
          clear nx hXY hYK hXK hn2 hX0 hY0 hNK hMK hKK ln ly hc hman hm hq hmi
          generalize M * 2 ^ b = Y at *
          generalize N * 2 ^ 0 = X at *
          go_wp2_with (first | (go_at_call 114; refine cmp.mono ?_; rintro e w4 ⟨r, q, rfl, hr, rfl⟩; have r0 : 0 ≤ r := cp r hr) | (go_at_call 115; refine (mn q).mono ?_; rintro e w5 ⟨v5, rfl, n5, gr5⟩) | (go_at_call 94; refine (sc2 w5 v5 n5).mono ?_; rintro e w6 ⟨v6, g6, rfl, n6, m6⟩))
          have q5 := nu.drewN q |>.kept gr5 hne'.symm
          have a5 := n5.lt
          have a6 := q5.lt
          have a7 := m6.grown.size
          have q6 := q5.kept m6.grown hne'.symm
          have b5 : Below B (wr.drewN q) w5 := ⟨gr5.os, gr5.tape, gr5.output, gr5.size, fun j hj => gr5.block j (by show j < wr.heap.size; omega) (by simp; omega)⟩
          have HM1 := HM.out
          refine ⟨⟨t + 1, 2 * man + 1, (n - Y) * 2, g6, by go_num, by go_num, by omega, n6, q6, ?_, ?_, by omega, ((below_drewN hbl' q).trans b5).trans (m6.below hBg' (by omega)), HN.out, by omega⟩, ?_⟩
          · rcases m6.place with h | h <;> omega
          · rcases m6.place with h | h <;> omega
          · simp [intOf]; omega
        · have hc2 : n < M * 2 ^ b := by omega
          have nx := hq.step_no hc2
          have HN : Hid (Quo (N * 2 ^ 0) (M * 2 ^ b) (t + 1) (2 * man) (n * 2)) := nx
          have sc2 : ∀ (w5 : World) (v5 : Value), Num w5 v5 g' n → Calls Tryz.prog 94 #[v5, .int .u64 2, .int .u64 0] w5 fun e w' => ∃ v' g1, e = .returned v' ∧ Num w' v' g1 (n * 2 + 0) ∧ Moved w5 w' g' g1 :=
            fun w5 v5 n5 => scaled_moved w5 v5 g' n 2 0 (K + b + 1) n5 (by decide) (by decide) hn2 (by omega)
          have cp : ∀ r : Int, CmpIs r n (M * 2 ^ b) → r < 0 := fun r hr => hr.1.2 hc2
          have sc3 := fun q => sc2 (wr.drewN q) _ (nv.drewN q)
          clear nx hXY hYK hXK hn2 hX0 hY0 hNK hMK hKK ln ly hc hc2 hman hm hq hor hmi sc2
          generalize M * 2 ^ b = Y at *
          generalize N * 2 ^ 0 = X at *
          go_wp2_with (first | (go_at_call 114; refine cmp.mono ?_; rintro e w4 ⟨r, q, rfl, hr, rfl⟩; have r0 : r < 0 := cp r hr) | (go_at_call 94; refine (sc3 q).mono ?_; rintro e w6 ⟨v6, g6, rfl, n6, m6⟩))
          have a5 := nv.lt
          have a6 := nu.lt
          have a7 := m6.grown.size
          have a8 : (wr.drewN q).heap.size = wr.heap.size := rfl
          have q6 := (nu.drewN q).kept m6.grown hne'.symm
          have HM1 := HM.out
          refine ⟨⟨t + 1, 2 * man, n * 2, g6, by go_num, by go_num, by omega, n6, q6, ?_, ?_, by omega, (below_drewN hbl' q).trans (m6.below hBg' (by omega)), HN.out, by omega⟩, ?_⟩
          · rcases m6.place with h | h <;> omega
          · rcases m6.place with h | h <;> omega
          · simp [intOf]; omega
      · have hmk1 : (9223372036854775808 : Int) ≤ mi := by omega
        have hmk : mi < 18446744073709551616 := by omega
        have z3 := nsize_any wr _ g' n nv ln
        have fin := Quo.near hq hN hM H1.out (by omega) (decide (n ≠ 0)) rfl e0 e1 (by omega) hXY.1
        rw [hmi] at fin ⊢
        have nr := fun w => near_any mi ((bN - bM) + 1 - t) (decide (n ≠ 0)) hmj hmk w
        rw [fin] at nr
        have hz2 : decide (0 < (bitl n : Int)) = decide (n ≠ 0) := by
          by_cases c : n = 0
          · simp [c, bitl]
          · simp [c, bitl]
        generalize decide (n ≠ 0) = h at *
        clear hXY hYK hXK hn2 hX0 hY0 hNK hMK hKK ln ly hman hm hq fin hmi
        have hz3 : (0 : Int) ≤ (bitl n : Int) := by omega
        generalize (bitl n : Int) = bl at *
        go_wp2_with (first | (go_at_call 112; refine z3.mono ?_; rintro e w4 ⟨rfl, rfl⟩) | (go_at_call 90; refine (nr _).mono ?_; rintro e w5 ⟨rfl, hb5⟩))
        go_ret
        exact ⟨rfl, hbl'.trans (hb5.mono (by omega))⟩
  · obtain rfl : bM = bN := by omega
    rw [Int.sub_self] at *
    go_enter Tryz.func95, Tryz.ntmps95
    go_wp2_with (first | (go_at_call_of 112 v; refine z1.mono ?_; rintro e w1 ⟨rfl, rfl⟩) | (go_at_call_of 112 u; refine z2.mono ?_; rintro e w1 ⟨rfl, rfl⟩) | (go_at_call_of 113 v; refine sh1.mono ?_; rintro e w2 ⟨v1, g1, rfl, n1, m1⟩; have sh2 := shifted_any w2 u k M 0 K (hu.kept m1.grown (by omega)) hMK (by omega)) | (go_at_call_of 113 u; refine sh2.mono ?_; rintro e w3 ⟨u1, k1, rfl, n2, m2⟩))
    obtain ⟨hne1, hne, n1', hbl⟩ := pair_kept hv hu n1 n2 m1 m2 hgk hBg hBk
    go_loopw [0, 5, 6] (fun v e m wr => QuoAt w1 wr B v u1 k1 (N * 2 ^ 0) (M * 2 ^ 0) (0) e m) (fun _ e _ _ => (intOf e - ((0) - 70)).toNat)
    case atStart => exact main v1 u1 _ g1 k1 n1' n2 hne (by omega) (by have := n1'.lt; omega) hbl
    case round =>
      clear main z1 z2 sh1 n1 n2 n1' m1 m2 hbl
      obtain ⟨t, man, n, g', rfl, rfl, hm, nv, nu, hne', hBg', hBr, hbl', hq, ht⟩ := hrel
      have hn2 : n < 2 ^ (K + 0 + 1) := by have := hq.lt; rw [Nat.pow_succ]; omega
      have ln := len_small hn2 (by omega)
      have ly := len_small hYK (by omega)
      obtain ⟨mi, hmi⟩ : ∃ mi : Int, (man : Int) = mi := ⟨_, rfl⟩
      have hmj : 0 ≤ mi := by omega
      by_cases hman : man < 9223372036854775808
      · have hb := hq.bound hXY.2 hman
        have hor := or_1 man hman
        have cmp := compare_any wr _ u1 g' k1 n (M * 2 ^ 0) nv nu ln ly
        have hmk : mi < 9223372036854775808 := by omega
        have HM : Hid ((man : Int) = mi ∧ man < 9223372036854775808) := ⟨hmi, hman⟩
        rw [hmi] at hor ⊢
        by_cases hc : M * 2 ^ 0 ≤ n
        · have nx := hq.step_yes hc
          have HN : Hid (Quo (N * 2 ^ 0) (M * 2 ^ 0) (t + 1) (2 * man + 1) ((n - M * 2 ^ 0) * 2)) := nx
          have sc2 : ∀ (w5 : World) (v5 : Value), Num w5 v5 g' (n - M * 2 ^ 0) → Calls Tryz.prog 94 #[v5, .int .u64 2, .int .u64 0] w5 fun e w' => ∃ v' g1, e = .returned v' ∧ Num w' v' g1 ((n - M * 2 ^ 0) * 2 + 0) ∧ Moved w5 w' g' g1 :=
            fun w5 v5 n5 => scaled_moved w5 v5 g' (n - M * 2 ^ 0) 2 0 (K + 0 + 1) n5 (by decide) (by decide) (by omega) (by omega)
          have mn := fun q => minus_any (wr.drewN q) _ u1 g' k1 n (M * 2 ^ 0) (nv.drewN q) (nu.drewN q) ln hc hne'
          have cp : ∀ r : Int, CmpIs r n (M * 2 ^ 0) → 0 ≤ r := fun r hr => by have := hr.1; omega
          clear nx hXY hYK hXK hn2 hX0 hY0 hNK hMK hKK ln ly hc hman hm hq hmi
          generalize M * 2 ^ 0 = Y at *
          generalize N * 2 ^ 0 = X at *
          go_wp2_with (first | (go_at_call 114; refine cmp.mono ?_; rintro e w4 ⟨r, q, rfl, hr, rfl⟩; have r0 : 0 ≤ r := cp r hr) | (go_at_call 115; refine (mn q).mono ?_; rintro e w5 ⟨v5, rfl, n5, gr5⟩) | (go_at_call 94; refine (sc2 w5 v5 n5).mono ?_; rintro e w6 ⟨v6, g6, rfl, n6, m6⟩))
          have q5 := nu.drewN q |>.kept gr5 hne'.symm
          have a5 := n5.lt
          have a6 := q5.lt
          have a7 := m6.grown.size
          have q6 := q5.kept m6.grown hne'.symm
          have b5 : Below B (wr.drewN q) w5 := ⟨gr5.os, gr5.tape, gr5.output, gr5.size, fun j hj => gr5.block j (by show j < wr.heap.size; omega) (by simp; omega)⟩
          have HM1 := HM.out
          refine ⟨⟨t + 1, 2 * man + 1, (n - Y) * 2, g6, by go_num, by go_num, by omega, n6, q6, ?_, ?_, by omega, ((below_drewN hbl' q).trans b5).trans (m6.below hBg' (by omega)), HN.out, by omega⟩, ?_⟩
          · rcases m6.place with h | h <;> omega
          · rcases m6.place with h | h <;> omega
          · simp [intOf]; omega
        · have hc2 : n < M * 2 ^ 0 := by omega
          have nx := hq.step_no hc2
          have HN : Hid (Quo (N * 2 ^ 0) (M * 2 ^ 0) (t + 1) (2 * man) (n * 2)) := nx
          have sc2 : ∀ (w5 : World) (v5 : Value), Num w5 v5 g' n → Calls Tryz.prog 94 #[v5, .int .u64 2, .int .u64 0] w5 fun e w' => ∃ v' g1, e = .returned v' ∧ Num w' v' g1 (n * 2 + 0) ∧ Moved w5 w' g' g1 :=
            fun w5 v5 n5 => scaled_moved w5 v5 g' n 2 0 (K + 0 + 1) n5 (by decide) (by decide) hn2 (by omega)
          have cp : ∀ r : Int, CmpIs r n (M * 2 ^ 0) → r < 0 := fun r hr => hr.1.2 hc2
          have sc3 := fun q => sc2 (wr.drewN q) _ (nv.drewN q)
          clear nx hXY hYK hXK hn2 hX0 hY0 hNK hMK hKK ln ly hc hc2 hman hm hq hor hmi sc2
          generalize M * 2 ^ 0 = Y at *
          generalize N * 2 ^ 0 = X at *
          go_wp2_with (first | (go_at_call 114; refine cmp.mono ?_; rintro e w4 ⟨r, q, rfl, hr, rfl⟩; have r0 : r < 0 := cp r hr) | (go_at_call 94; refine (sc3 q).mono ?_; rintro e w6 ⟨v6, g6, rfl, n6, m6⟩))
          have a5 := nv.lt
          have a6 := nu.lt
          have a7 := m6.grown.size
          have a8 : (wr.drewN q).heap.size = wr.heap.size := rfl
          have q6 := (nu.drewN q).kept m6.grown hne'.symm
          have HM1 := HM.out
          refine ⟨⟨t + 1, 2 * man, n * 2, g6, by go_num, by go_num, by omega, n6, q6, ?_, ?_, by omega, (below_drewN hbl' q).trans (m6.below hBg' (by omega)), HN.out, by omega⟩, ?_⟩
          · rcases m6.place with h | h <;> omega
          · rcases m6.place with h | h <;> omega
          · simp [intOf]; omega
      · have hmk1 : (9223372036854775808 : Int) ≤ mi := by omega
        have hmk : mi < 18446744073709551616 := by omega
        have z3 := nsize_any wr _ g' n nv ln
        have fin := Quo.near hq hN hM H1.out (by omega) (decide (n ≠ 0)) rfl e0 e1 (by omega) hXY.1
        rw [hmi] at fin ⊢
        have nr := fun w => near_any mi ((0) + 1 - t) (decide (n ≠ 0)) hmj hmk w
        rw [fin] at nr
        have hz2 : decide (0 < (bitl n : Int)) = decide (n ≠ 0) := by
          by_cases c : n = 0
          · simp [c, bitl]
          · simp [c, bitl]
        generalize decide (n ≠ 0) = h at *
        clear hXY hYK hXK hn2 hX0 hY0 hNK hMK hKK ln ly hman hm hq fin hmi
        have hz3 : (0 : Int) ≤ (bitl n : Int) := by omega
        generalize (bitl n : Int) = bl at *
        go_wp2_with (first | (go_at_call 112; refine z3.mono ?_; rintro e w4 ⟨rfl, rfl⟩) | (go_at_call 90; refine (nr _).mono ?_; rintro e w5 ⟨rfl, hb5⟩))
        go_ret
        exact ⟨rfl, hbl'.trans (hb5.mono (by omega))⟩
  · rw [show ((a : Nat) : Int) = -(bN - bM) from by have := H1.out; omega] at sh1
    go_enter Tryz.func95, Tryz.ntmps95
    go_wp2_with (first | (go_at_call_of 112 v; refine z1.mono ?_; rintro e w1 ⟨rfl, rfl⟩) | (go_at_call_of 112 u; refine z2.mono ?_; rintro e w1 ⟨rfl, rfl⟩) | (go_at_call_of 113 v; refine sh1.mono ?_; rintro e w2 ⟨v1, g1, rfl, n1, m1⟩; have sh2 := shifted_any w2 u k M 0 K (hu.kept m1.grown (by omega)) hMK (by omega)) | (go_at_call_of 113 u; refine sh2.mono ?_; rintro e w3 ⟨u1, k1, rfl, n2, m2⟩))
    obtain ⟨hne1, hne, n1', hbl⟩ := pair_kept hv hu n1 n2 m1 m2 hgk hBg hBk
    go_loopw [0, 5, 6] (fun v e m wr => QuoAt w1 wr B v u1 k1 (N * 2 ^ a) (M * 2 ^ 0) (bN - bM) e m) (fun _ e _ _ => (intOf e - ((bN - bM) - 70)).toNat)
    case atStart => exact main v1 u1 _ g1 k1 n1' n2 hne (by omega) (by have := n1'.lt; omega) hbl
    case round =>
      clear main z1 z2 sh1 n1 n2 n1' m1 m2 hbl
      obtain ⟨t, man, n, g', rfl, rfl, hm, nv, nu, hne', hBg', hBr, hbl', hq, ht⟩ := hrel
      have hn2 : n < 2 ^ (K + 0 + 1) := by have := hq.lt; rw [Nat.pow_succ]; omega
      have ln := len_small hn2 (by omega)
      have ly := len_small hYK (by omega)
      obtain ⟨mi, hmi⟩ : ∃ mi : Int, (man : Int) = mi := ⟨_, rfl⟩
      have hmj : 0 ≤ mi := by omega
      by_cases hman : man < 9223372036854775808
      · have hb := hq.bound hXY.2 hman
        have hor := or_1 man hman
        have cmp := compare_any wr _ u1 g' k1 n (M * 2 ^ 0) nv nu ln ly
        have hmk : mi < 9223372036854775808 := by omega
        have HM : Hid ((man : Int) = mi ∧ man < 9223372036854775808) := ⟨hmi, hman⟩
        rw [hmi] at hor ⊢
        by_cases hc : M * 2 ^ 0 ≤ n
        · have nx := hq.step_yes hc
          have HN : Hid (Quo (N * 2 ^ a) (M * 2 ^ 0) (t + 1) (2 * man + 1) ((n - M * 2 ^ 0) * 2)) := nx
          have sc2 : ∀ (w5 : World) (v5 : Value), Num w5 v5 g' (n - M * 2 ^ 0) → Calls Tryz.prog 94 #[v5, .int .u64 2, .int .u64 0] w5 fun e w' => ∃ v' g1, e = .returned v' ∧ Num w' v' g1 ((n - M * 2 ^ 0) * 2 + 0) ∧ Moved w5 w' g' g1 :=
            fun w5 v5 n5 => scaled_moved w5 v5 g' (n - M * 2 ^ 0) 2 0 (K + 0 + 1) n5 (by decide) (by decide) (by omega) (by omega)
          have mn := fun q => minus_any (wr.drewN q) _ u1 g' k1 n (M * 2 ^ 0) (nv.drewN q) (nu.drewN q) ln hc hne'
          have cp : ∀ r : Int, CmpIs r n (M * 2 ^ 0) → 0 ≤ r := fun r hr => by have := hr.1; omega
          clear nx hXY hYK hXK hn2 hX0 hY0 hNK hMK hKK ln ly hc hman hm hq hmi
          generalize M * 2 ^ 0 = Y at *
          generalize N * 2 ^ a = X at *
          go_wp2_with (first | (go_at_call 114; refine cmp.mono ?_; rintro e w4 ⟨r, q, rfl, hr, rfl⟩; have r0 : 0 ≤ r := cp r hr) | (go_at_call 115; refine (mn q).mono ?_; rintro e w5 ⟨v5, rfl, n5, gr5⟩) | (go_at_call 94; refine (sc2 w5 v5 n5).mono ?_; rintro e w6 ⟨v6, g6, rfl, n6, m6⟩))
          have q5 := nu.drewN q |>.kept gr5 hne'.symm
          have a5 := n5.lt
          have a6 := q5.lt
          have a7 := m6.grown.size
          have q6 := q5.kept m6.grown hne'.symm
          have b5 : Below B (wr.drewN q) w5 := ⟨gr5.os, gr5.tape, gr5.output, gr5.size, fun j hj => gr5.block j (by show j < wr.heap.size; omega) (by simp; omega)⟩
          have HM1 := HM.out
          refine ⟨⟨t + 1, 2 * man + 1, (n - Y) * 2, g6, by go_num, by go_num, by omega, n6, q6, ?_, ?_, by omega, ((below_drewN hbl' q).trans b5).trans (m6.below hBg' (by omega)), HN.out, by omega⟩, ?_⟩
          · rcases m6.place with h | h <;> omega
          · rcases m6.place with h | h <;> omega
          · simp [intOf]; omega
        · have hc2 : n < M * 2 ^ 0 := by omega
          have nx := hq.step_no hc2
          have HN : Hid (Quo (N * 2 ^ a) (M * 2 ^ 0) (t + 1) (2 * man) (n * 2)) := nx
          have sc2 : ∀ (w5 : World) (v5 : Value), Num w5 v5 g' n → Calls Tryz.prog 94 #[v5, .int .u64 2, .int .u64 0] w5 fun e w' => ∃ v' g1, e = .returned v' ∧ Num w' v' g1 (n * 2 + 0) ∧ Moved w5 w' g' g1 :=
            fun w5 v5 n5 => scaled_moved w5 v5 g' n 2 0 (K + 0 + 1) n5 (by decide) (by decide) hn2 (by omega)
          have cp : ∀ r : Int, CmpIs r n (M * 2 ^ 0) → r < 0 := fun r hr => hr.1.2 hc2
          have sc3 := fun q => sc2 (wr.drewN q) _ (nv.drewN q)
          clear nx hXY hYK hXK hn2 hX0 hY0 hNK hMK hKK ln ly hc hc2 hman hm hq hor hmi sc2
          generalize M * 2 ^ 0 = Y at *
          generalize N * 2 ^ a = X at *
          go_wp2_with (first | (go_at_call 114; refine cmp.mono ?_; rintro e w4 ⟨r, q, rfl, hr, rfl⟩; have r0 : r < 0 := cp r hr) | (go_at_call 94; refine (sc3 q).mono ?_; rintro e w6 ⟨v6, g6, rfl, n6, m6⟩))
          have a5 := nv.lt
          have a6 := nu.lt
          have a7 := m6.grown.size
          have a8 : (wr.drewN q).heap.size = wr.heap.size := rfl
          have q6 := (nu.drewN q).kept m6.grown hne'.symm
          have HM1 := HM.out
          refine ⟨⟨t + 1, 2 * man, n * 2, g6, by go_num, by go_num, by omega, n6, q6, ?_, ?_, by omega, (below_drewN hbl' q).trans (m6.below hBg' (by omega)), HN.out, by omega⟩, ?_⟩
          · rcases m6.place with h | h <;> omega
          · rcases m6.place with h | h <;> omega
          · simp [intOf]; omega
      · have hmk1 : (9223372036854775808 : Int) ≤ mi := by omega
        have hmk : mi < 18446744073709551616 := by omega
        have z3 := nsize_any wr _ g' n nv ln
        have fin := Quo.near hq hN hM H1.out (by omega) (decide (n ≠ 0)) rfl e0 e1 (by omega) hXY.1
        rw [hmi] at fin ⊢
        have nr := fun w => near_any mi ((bN - bM) + 1 - t) (decide (n ≠ 0)) hmj hmk w
        rw [fin] at nr
        have hz2 : decide (0 < (bitl n : Int)) = decide (n ≠ 0) := by
          by_cases c : n = 0
          · simp [c, bitl]
          · simp [c, bitl]
        generalize decide (n ≠ 0) = h at *
        clear hXY hYK hXK hn2 hX0 hY0 hNK hMK hKK ln ly hman hm hq fin hmi
        have hz3 : (0 : Int) ≤ (bitl n : Int) := by omega
        generalize (bitl n : Int) = bl at *
        go_wp2_with (first | (go_at_call 112; refine z3.mono ?_; rintro e w4 ⟨rfl, rfl⟩) | (go_at_call 90; refine (nr _).mono ?_; rintro e w5 ⟨rfl, hb5⟩))
        go_ret
        exact ⟨rfl, hbl'.trans (hb5.mono (by omega))⟩

theorem quotient_any (w : World) (v u : Value) (g k N M K B : Nat) (h0 : -1800 ≤ (bitl N : Int) - bitl M) (h1 : (bitl N : Int) - bitl M ≤ 1800) (hN : 0 < N) (hM : 0 < M) (hNK : N < 2 ^ K) (hMK : M < 2 ^ K) (hKK : K ≤ 100000)
    (hv : Num w v g N) (hu : Num w u k M) (hgk : g ≠ k) (hBg : B ≤ g) (hBk : B ≤ k) :
    Calls Tryz.prog 95 #[v, u] w fun e w' => e = .returned (.int .u64 (nearQ N M : Nat)) ∧ Below B w w' := by
  rcases Int.lt_trichotomy ((bitl N : Int) - bitl M) 0 with c | c | c
  · exact quo_walk w v u g k N M (bitl M - bitl N) 0 K B _ (by omega) rfl (.inr (.inr ⟨c, rfl⟩)) h0 h1 hN hM hNK hMK hKK hv hu hgk hBg hBk
  · exact quo_walk w v u g k N M 0 0 K B _ (by omega) rfl (.inr (.inl ⟨c, rfl, rfl⟩)) h0 h1 hN hM hNK hMK hKK hv hu hgk hBg hBk
  · exact quo_walk w v u g k N M 0 (bitl N - bitl M) K B _ (by omega) rfl (.inl ⟨c, rfl⟩) h0 h1 hN hM hNK hMK hKK hv hu hgk hBg hBk

end Go.Proofs.YtaikkmehmiiffaaGreatDoor
