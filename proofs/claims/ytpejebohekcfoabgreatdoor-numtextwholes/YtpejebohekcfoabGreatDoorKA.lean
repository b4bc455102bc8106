/- Plain: what is written of every number is read as that number. -/
import Derived.Test.YtpejebohekcfoabGreatDoorRR
import Derived.Deep.RegionWith
import Derived.Test.YtpejebohekcfoabGreatDoorQ2
import Derived.Test.YtpejebohekcfoabGreatDoorH2
import Derived.Test.YtpejebohekcfoabGreatDoorG5
import Derived.Test.YtpejebohekcfoabGreatDoorP1
import Derived.Test.YtpejebohekcfoabGreatDoorMN
/- NumtextPoints: the walk. -/
namespace Go.Proofs.YtpejebohekcfoabGreatDoor
open Go.RowKit
set_option linter.unusedVariables false

end Go.Proofs.YtpejebohekcfoabGreatDoor
/- NumtextPoints: all of it. -/
namespace Go.Proofs.YtpejebohekcfoabGreatDoor
open Go.RowKit
set_option linter.unusedVariables false

theorem nd_le : ∀ (k u : Nat), u < 10 ^ (k + 1) → Lib.nDigits u ≤ k + 1 := by
  intro k
  induction k with
  | zero => intro u h; rw [Lib.nDigits_small (by simpa using h)]; omega
  | succ k ih =>
    intro u h
    by_cases c : u < 10
    · rw [Lib.nDigits_small c]; omega
    · rw [Lib.nDigits_big c]
      have := ih (u / 10) (by rw [Nat.pow_succ] at h; omega)
      omega

theorem dd_len (u : Nat) (h : u < 18446744073709551616) : (Lib.decDigits u).length ≤ 20 := by
  rw [Lib.decDigits_length]
  exact nd_le 19 u (Nat.lt_of_lt_of_le h (by decide))

theorem itoa_len (e : Int) (h : e.natAbs < 18446744073709551616) : (Lib.itoa e).length ≤ 21 := by
  unfold Lib.itoa
  split
  · have := dd_len e.natAbs h
    simp; omega
  · have := dd_len e.toNat (by omega)
    omega

theorem after {w : World} {f : Nat} {args : Array Value} {Q : Ending → Prop} (h : ∀ w1, Calls Tryz.prog f args w1 fun e w' => Q e ∧ Below w1.heap.size w1 w') :
    ∀ w1, Below w.heap.size w w1 → Calls Tryz.prog f args w1 fun e w' => Q e ∧ Below w.heap.size w w' := by
  intro w1 hb
  refine (h w1).mono ?_
  rintro e w' ⟨hq, b⟩
  exact ⟨hq, hb.trans (b.mono hb.size)⟩

theorem itoa_after {w : World} (ht : Pow10 w) (n : Int) (h0 : -9223372036854775808 ≤ n) (h1 : n ≤ 9223372036854775807) :
    ∀ w1, Below w.heap.size w w1 → Calls Tryz.prog 78 #[.int .i64 n] w1 fun e w' => e = .returned (.string (bs (Lib.itoa n))) ∧ Below w.heap.size w w' := by
  intro w1 hb
  refine (itoa_c n h0 h1 w1 (pow10_below ht hb)).mono ?_
  rintro e w' ⟨rfl, b⟩
  exact ⟨rfl, hb.trans (b.mono hb.size)⟩

theorem read_is (X : ByteArray) (l : List UInt8) (A : Int) (hX : X.data.toList = l) (hl : l.length ≤ 1000000) (hA : readI l = A) (w : World) :
    ∀ w1, Below w.heap.size w w1 → Calls Tryz.prog 7 #[.string X] w1 fun e w' => e = .returned (.int .u64 A) ∧ Below w.heap.size w w' := by
  have hs : X.size ≤ 1000000 := by rw [← hX] at hl; simpa using hl
  refine after (Q := fun e => e = .returned (.int .u64 A)) (fun w1 => ?_)
  have := read_ba X w1 hs
  rw [hX, hA] at this
  exact this

theorem ext_list (l : List UInt8) (a b : Nat) : ((bs l).extract a b).data.toList = (l.drop a).take (b - a) := by
  unfold bs
  simp [ByteArray.data_extract]

end Go.Proofs.YtpejebohekcfoabGreatDoor
/- The walks of layout: all of it. -/
namespace Go.Proofs.YtpejebohekcfoabGreatDoor
open Go.RowKit
set_option linter.unusedVariables false

set_option maxHeartbeats 2000000 in
theorem layout_big (ds : List UInt8) (p : Int) (L n : Nat) (w : World) (hL : ds.length = L) (hp : 0 < p) (hp1 : p ≤ 21) (hpc : (L : Int) ≤ p) (hn : p - (L : Int) = n)
    (hmf : ∀ (fn : Fn) (first cap : Array Value) (w : World), (Instr.makeFunc fn first cap).run Tryz.prog w = .ok (.func fn first cap) w) :
    Calls Tryz.prog 19 #[.string (bs ds), .int .i64 p] w fun e w' => e = .returned (.string (bs (ds ++ List.replicate n 48))) ∧ Below w.heap.size w w' := by
  have S0 := lt_start w
  have zX : (bs ds).size = L := by rw [bs_size]; exact hL
  go_enter Tryz.func19, Tryz.ntmps19
  go_wp2_with fail
  refine (lt_put ds S0.out (by simp; omega)).mono ?_
  rintro e w1 ⟨rfl, H1⟩
  clear S0
  go_wp2_with fail
  refine (lt_noughts n (by omega) (by simp; omega) H1.out).mono ?_
  rintro e w2 ⟨rfl, H2⟩
  clear H1
  go_wp2_with fail
  refine (lt_str H2.out).mono ?_
  rintro e w4 ⟨rfl, hb4⟩
  go_wp2
  go_ret
  exact ⟨rfl, hb4⟩

theorem ext_bs (l : List UInt8) (a b : Nat) : (bs l).extract a b = bs ((l.drop a).take (b - a)) := by
  have h := ext_list l a b
  apply ByteArray.ext
  apply Array.ext'
  rw [h]
  simp [bs]

set_option maxHeartbeats 4000000 in
theorem layout_mid (ds : List UInt8) (k L : Nat) (Y Z V : ByteArray) (w : World) (hL : ds.length = L) (hL1 : L ≤ 10000) (hp : 0 < k) (hp1 : k ≤ 21) (hpc : k < L)
    (hY : (bs ds).extract 0 k = Y) (hZ : (bs ds).extract k L = Z) (zY : Y.size = k) (zZ : Z.size = L - k)
    (pt : ∀ w1 : World, Hid (Lt w w1 w.heap.size w.heap.size (w.heap.size + 1) []) → Calls Tryz.prog 39 #[.string (Y ++ ByteArray.mk #[46] ++ Z), .pointer (some ⟨w.heap.size, 0, none⟩)] w1 fun e w' => e = .returned (.tuple #[]) ∧ Hid (Lt w w' w.heap.size w.heap.size (w.heap.size + 1) (ds.take k ++ 46 :: ds.drop k)))
    (hmf : ∀ (fn : Fn) (first cap : Array Value) (w : World), (Instr.makeFunc fn first cap).run Tryz.prog w = .ok (.func fn first cap) w) :
    Calls Tryz.prog 19 #[.string (bs ds), .int .i64 (k : Int)] w fun e w' => e = .returned (.string (bs (ds.take k ++ 46 :: ds.drop k))) ∧ Below w.heap.size w w' := by
  have S0 := lt_start w
  have zX : (bs ds).size = L := by rw [bs_size]; exact hL
  generalize hX : bs ds = X at *
  go_enter Tryz.func19, Tryz.ntmps19
  go_wp2_with fail
  have S1 : Hid (Lt w ((w.alloc (.cells #[.pointer none, .slice none 0 0] 65)).alloc (.cells #[.func (Fn.func 39) #[] #[.pointer (some ⟨w.heap.size, 0, none⟩)]] 70)).drew w.heap.size w.heap.size (w.heap.size + 1) []) := ⟨S0.out.bd, S0.out.put, S0.out.below.drew, S0.out.lt⟩
  have pt' := pt _ S1
  have d0 := lt_cell S1
  clear pt S0 S1
  go_region_with (first | (go_at_call 39; refine pt'.mono ?_; rintro e w1 ⟨rfl, H1⟩))
  all_goals (go_wp2_with fail; refine (lt_str H1.out).mono ?_; rintro e w4 ⟨rfl, hb4⟩; go_wp2; go_ret; exact ⟨rfl, hb4⟩)

end Go.Proofs.YtpejebohekcfoabGreatDoor
/- The walks of layout with an exponent. -/
namespace Go.Proofs.YtpejebohekcfoabGreatDoor
open Go.RowKit
set_option linter.unusedVariables false

theorem Lt.drewH {w0 wr : World} {B bt bp : Nat} {l : List UInt8} (h : Hid (Lt w0 wr B bt bp l)) : Hid (Lt w0 wr.drew B bt bp l) := ⟨h.out.bd, h.out.put, h.out.below.drew, h.out.lt⟩

/-- an exponent's text -/
def expL (n : Int) : List UInt8 := if n < 0 then 101 :: Lib.itoa n else 101 :: 43 :: Lib.itoa n

theorem exponent_any (n : Int) (w : World) (h0 : -100000 ≤ n) (h1 : n ≤ 100000) (ht : Pow10 w) :
    Calls Tryz.prog 42 #[.int .i64 n] w fun e w' => e = .returned (.string (bs (expL n))) ∧ Below w.heap.size w w' := by
  have c := itoa_c n (by omega) (by omega) w ht
  have l := itoa_len n (by omega)
  have z : (bs (Lib.itoa n)).size = (Lib.itoa n).length := bs_size _
  clear ht
  unfold expL
  by_cases hn : n < 0
  · rw [if_pos hn, show bs (101 :: Lib.itoa n) = bs [101] ++ bs (Lib.itoa n) from by rw [bs_app]; rfl]
    generalize (Lib.itoa n).length = m at *
    generalize bs (Lib.itoa n) = X at *
    go_enter Tryz.func42, Tryz.ntmps42
    go_wp2_with (go_at_call 78; refine c.mono ?_; rintro e w1 ⟨rfl, hb⟩)
    go_ret
    exact ⟨rfl, hb⟩
  · rw [if_neg hn, show bs (101 :: 43 :: Lib.itoa n) = bs [101, 43] ++ bs (Lib.itoa n) from by rw [bs_app]; rfl]
    generalize (Lib.itoa n).length = m at *
    generalize bs (Lib.itoa n) = X at *
    go_enter Tryz.func42, Tryz.ntmps42
    go_wp2_with (go_at_call 78; refine c.mono ?_; rintro e w1 ⟨rfl, hb⟩)
    go_ret
    exact ⟨rfl, hb⟩

set_option maxHeartbeats 4000000 in
theorem layout_e1_hi (ds : List UInt8) (p : Int) (L : Nat) (Y Z E : ByteArray) (E0 T1 T2 : List UInt8) (hT1 : T1.length ≤ 20000) (hT2 : T2.length ≤ 20000) (w : World) (hL : ds.length = L) (hL1 : L ≤ 10000) (hc : L = 1) (hp : 21 < p) (hp0 : -100000 ≤ p) (hp1 : p ≤ 100000)
    (hY : (bs ds).extract 0 1 = Y) (hZ : (bs ds).extract 1 L = Z) (zY : Y.size = 1) (zZ : Z.size = L - 1)
    (q1 : ∀ w1 : World, Hid (Lt w w1 w.heap.size w.heap.size (w.heap.size + 1) []) → Calls Tryz.prog 39 #[.string Y, .pointer (some ⟨w.heap.size, 0, none⟩)] w1 fun e w' => e = .returned (.tuple #[]) ∧ Hid (Lt w w' w.heap.size w.heap.size (w.heap.size + 1) T1))
    (q2 : ∀ w1 : World, Hid (Lt w w1 w.heap.size w.heap.size (w.heap.size + 1) T1) → Calls Tryz.prog 39 #[.string (ByteArray.mk #[46] ++ Z), .pointer (some ⟨w.heap.size, 0, none⟩)] w1 fun e w' => e = .returned (.tuple #[]) ∧ Hid (Lt w w' w.heap.size w.heap.size (w.heap.size + 1) T2))
    (ex : ∀ (w1 : World) (l : List UInt8), Hid (Lt w w1 w.heap.size w.heap.size (w.heap.size + 1) l) → Calls Tryz.prog 42 #[.int .i64 (p - 1)] w1 fun e w' => e = .returned (.string E) ∧ w'.cell? ⟨w.heap.size + 1, 0, none⟩ = some (.func (Fn.func 39) #[] #[.pointer (some ⟨w.heap.size, 0, none⟩)]) ∧ Hid (Lt w w' w.heap.size w.heap.size (w.heap.size + 1) l))
    (q3 : ∀ (w1 : World) (l : List UInt8), Hid (Lt w w1 w.heap.size w.heap.size (w.heap.size + 1) l) → l.length ≤ 20000 → Calls Tryz.prog 39 #[.string E, .pointer (some ⟨w.heap.size, 0, none⟩)] w1 fun e w' => e = .returned (.tuple #[]) ∧ Hid (Lt w w' w.heap.size w.heap.size (w.heap.size + 1) (l ++ E0)))
    (hmf : ∀ (fn : Fn) (first cap : Array Value) (w : World), (Instr.makeFunc fn first cap).run Tryz.prog w = .ok (.func fn first cap) w) :
    Calls Tryz.prog 19 #[.string (bs ds), .int .i64 p] w fun e w' => e = .returned (.string (bs (T1 ++ E0))) ∧ Below w.heap.size w w' := by
  have S0 := lt_start w
  have zX : (bs ds).size = L := by rw [bs_size]; exact hL
  have hw : IntKind.i64.wrap (p - 1) = p - 1 := by rw [IntKind.wrap_i64]; omega
  generalize hX : bs ds = X at *
  go_enter Tryz.func19, Tryz.ntmps19
  go_wp2_with fail
  have S1 := Lt.drewH S0
  have d0 := lt_cell S1
  have q1' := q1 _ S1
  clear S0 S1
  go_region_with (first | (go_at_call 39; refine q1'.mono ?_; rintro e w1 ⟨rfl, H1⟩))
  all_goals (clear q1' d0)
  all_goals (go_wp2_with fail)
  all_goals (have S2 := Lt.drewH H1; have d1 := lt_cell S2; have ex' := ex _ _ S2)
  all_goals (clear S2)
  all_goals (go_region_with (first | (go_at_call 42; refine ex'.mono ?_; rintro e w2 ⟨rfl, d2, H2⟩) | (go_at_call 39; refine (q3 _ _ H2 (by assumption)).mono ?_; rintro e w3 ⟨rfl, H3⟩)))
  all_goals (go_wp2_with fail; refine (lt_str H3.out).mono ?_; rintro e w4 ⟨rfl, hb4⟩; go_wp2; go_ret; exact ⟨rfl, hb4⟩)

set_option maxHeartbeats 4000000 in
theorem layout_en_hi (ds : List UInt8) (p : Int) (L : Nat) (Y Z E : ByteArray) (E0 T1 T2 : List UInt8) (hT1 : T1.length ≤ 20000) (hT2 : T2.length ≤ 20000) (w : World) (hL : ds.length = L) (hL1 : L ≤ 10000) (hc : 1 < L) (hp : 21 < p) (hp0 : -100000 ≤ p) (hp1 : p ≤ 100000)
    (hY : (bs ds).extract 0 1 = Y) (hZ : (bs ds).extract 1 L = Z) (zY : Y.size = 1) (zZ : Z.size = L - 1)
    (q1 : ∀ w1 : World, Hid (Lt w w1 w.heap.size w.heap.size (w.heap.size + 1) []) → Calls Tryz.prog 39 #[.string Y, .pointer (some ⟨w.heap.size, 0, none⟩)] w1 fun e w' => e = .returned (.tuple #[]) ∧ Hid (Lt w w' w.heap.size w.heap.size (w.heap.size + 1) T1))
    (q2 : ∀ w1 : World, Hid (Lt w w1 w.heap.size w.heap.size (w.heap.size + 1) T1) → Calls Tryz.prog 39 #[.string (ByteArray.mk #[46] ++ Z), .pointer (some ⟨w.heap.size, 0, none⟩)] w1 fun e w' => e = .returned (.tuple #[]) ∧ Hid (Lt w w' w.heap.size w.heap.size (w.heap.size + 1) T2))
    (ex : ∀ (w1 : World) (l : List UInt8), Hid (Lt w w1 w.heap.size w.heap.size (w.heap.size + 1) l) → Calls Tryz.prog 42 #[.int .i64 (p - 1)] w1 fun e w' => e = .returned (.string E) ∧ w'.cell? ⟨w.heap.size + 1, 0, none⟩ = some (.func (Fn.func 39) #[] #[.pointer (some ⟨w.heap.size, 0, none⟩)]) ∧ Hid (Lt w w' w.heap.size w.heap.size (w.heap.size + 1) l))
    (q3 : ∀ (w1 : World) (l : List UInt8), Hid (Lt w w1 w.heap.size w.heap.size (w.heap.size + 1) l) → l.length ≤ 20000 → Calls Tryz.prog 39 #[.string E, .pointer (some ⟨w.heap.size, 0, none⟩)] w1 fun e w' => e = .returned (.tuple #[]) ∧ Hid (Lt w w' w.heap.size w.heap.size (w.heap.size + 1) (l ++ E0)))
    (hmf : ∀ (fn : Fn) (first cap : Array Value) (w : World), (Instr.makeFunc fn first cap).run Tryz.prog w = .ok (.func fn first cap) w) :
    Calls Tryz.prog 19 #[.string (bs ds), .int .i64 p] w fun e w' => e = .returned (.string (bs (T2 ++ E0))) ∧ Below w.heap.size w w' := by
  have S0 := lt_start w
  have zX : (bs ds).size = L := by rw [bs_size]; exact hL
  have hw : IntKind.i64.wrap (p - 1) = p - 1 := by rw [IntKind.wrap_i64]; omega
  generalize hX : bs ds = X at *
  go_enter Tryz.func19, Tryz.ntmps19
  go_wp2_with fail
  have S1 := Lt.drewH S0
  have d0 := lt_cell S1
  have q1' := q1 _ S1
  clear S0 S1
  go_region_with (first | (go_at_call 39; refine q1'.mono ?_; rintro e w1 ⟨rfl, H1⟩))
  all_goals (clear q1' d0)
  all_goals (go_wp2_with fail)
  all_goals (have S2 := Lt.drewH H1; have d1 := lt_cell S2; have q2' := q2 _ S2)
  all_goals (clear S2)
  all_goals (go_region_with (first | (go_at_call 39; refine q2'.mono ?_; rintro e w5 ⟨rfl, H5⟩)))
  all_goals (clear q2' d1)
  all_goals (go_wp2_with fail)
  all_goals (have S2 := Lt.drewH H5; have d1 := lt_cell S2; have ex' := ex _ _ S2)
  all_goals (clear S2)
  all_goals (go_region_with (first | (go_at_call 42; refine ex'.mono ?_; rintro e w2 ⟨rfl, d2, H2⟩) | (go_at_call 39; refine (q3 _ _ H2 (by assumption)).mono ?_; rintro e w3 ⟨rfl, H3⟩)))
  all_goals (go_wp2_with fail; refine (lt_str H3.out).mono ?_; rintro e w4 ⟨rfl, hb4⟩; go_wp2; go_ret; exact ⟨rfl, hb4⟩)

set_option maxHeartbeats 4000000 in
theorem layout_e1_lo (ds : List UInt8) (p : Int) (L : Nat) (Y Z E : ByteArray) (E0 T1 T2 : List UInt8) (hT1 : T1.length ≤ 20000) (hT2 : T2.length ≤ 20000) (w : World) (hL : ds.length = L) (hL1 : L ≤ 10000) (hc : L = 1) (hp : p < -5) (hp0 : -100000 ≤ p) (hp1 : p ≤ 100000)
    (hY : (bs ds).extract 0 1 = Y) (hZ : (bs ds).extract 1 L = Z) (zY : Y.size = 1) (zZ : Z.size = L - 1)
    (q1 : ∀ w1 : World, Hid (Lt w w1 w.heap.size w.heap.size (w.heap.size + 1) []) → Calls Tryz.prog 39 #[.string Y, .pointer (some ⟨w.heap.size, 0, none⟩)] w1 fun e w' => e = .returned (.tuple #[]) ∧ Hid (Lt w w' w.heap.size w.heap.size (w.heap.size + 1) T1))
    (q2 : ∀ w1 : World, Hid (Lt w w1 w.heap.size w.heap.size (w.heap.size + 1) T1) → Calls Tryz.prog 39 #[.string (ByteArray.mk #[46] ++ Z), .pointer (some ⟨w.heap.size, 0, none⟩)] w1 fun e w' => e = .returned (.tuple #[]) ∧ Hid (Lt w w' w.heap.size w.heap.size (w.heap.size + 1) T2))
    (ex : ∀ (w1 : World) (l : List UInt8), Hid (Lt w w1 w.heap.size w.heap.size (w.heap.size + 1) l) → Calls Tryz.prog 42 #[.int .i64 (p - 1)] w1 fun e w' => e = .returned (.string E) ∧ w'.cell? ⟨w.heap.size + 1, 0, none⟩ = some (.func (Fn.func 39) #[] #[.pointer (some ⟨w.heap.size, 0, none⟩)]) ∧ Hid (Lt w w' w.heap.size w.heap.size (w.heap.size + 1) l))
    (q3 : ∀ (w1 : World) (l : List UInt8), Hid (Lt w w1 w.heap.size w.heap.size (w.heap.size + 1) l) → l.length ≤ 20000 → Calls Tryz.prog 39 #[.string E, .pointer (some ⟨w.heap.size, 0, none⟩)] w1 fun e w' => e = .returned (.tuple #[]) ∧ Hid (Lt w w' w.heap.size w.heap.size (w.heap.size + 1) (l ++ E0)))
    (hmf : ∀ (fn : Fn) (first cap : Array Value) (w : World), (Instr.makeFunc fn first cap).run Tryz.prog w = .ok (.func fn first cap) w) :
    Calls Tryz.prog 19 #[.string (bs ds), .int .i64 p] w fun e w' => e = .returned (.string (bs (T1 ++ E0))) ∧ Below w.heap.size w w' := by
  have S0 := lt_start w
  have zX : (bs ds).size = L := by rw [bs_size]; exact hL
  have hw : IntKind.i64.wrap (p - 1) = p - 1 := by rw [IntKind.wrap_i64]; omega
  generalize hX : bs ds = X at *
  go_enter Tryz.func19, Tryz.ntmps19
  go_wp2_with fail
  have S1 := Lt.drewH S0
  have d0 := lt_cell S1
  have q1' := q1 _ S1
  clear S0 S1
  go_region_with (first | (go_at_call 39; refine q1'.mono ?_; rintro e w1 ⟨rfl, H1⟩))
  all_goals (clear q1' d0)
  all_goals (go_wp2_with fail)
  all_goals (have S2 := Lt.drewH H1; have d1 := lt_cell S2; have ex' := ex _ _ S2)
  all_goals (clear S2)
  all_goals (go_region_with (first | (go_at_call 42; refine ex'.mono ?_; rintro e w2 ⟨rfl, d2, H2⟩) | (go_at_call 39; refine (q3 _ _ H2 (by assumption)).mono ?_; rintro e w3 ⟨rfl, H3⟩)))
  all_goals (go_wp2_with fail; refine (lt_str H3.out).mono ?_; rintro e w4 ⟨rfl, hb4⟩; go_wp2; go_ret; exact ⟨rfl, hb4⟩)

set_option maxHeartbeats 4000000 in
theorem layout_en_lo (ds : List UInt8) (p : Int) (L : Nat) (Y Z E : ByteArray) (E0 T1 T2 : List UInt8) (hT1 : T1.length ≤ 20000) (hT2 : T2.length ≤ 20000) (w : World) (hL : ds.length = L) (hL1 : L ≤ 10000) (hc : 1 < L) (hp : p < -5) (hp0 : -100000 ≤ p) (hp1 : p ≤ 100000)
    (hY : (bs ds).extract 0 1 = Y) (hZ : (bs ds).extract 1 L = Z) (zY : Y.size = 1) (zZ : Z.size = L - 1)
    (q1 : ∀ w1 : World, Hid (Lt w w1 w.heap.size w.heap.size (w.heap.size + 1) []) → Calls Tryz.prog 39 #[.string Y, .pointer (some ⟨w.heap.size, 0, none⟩)] w1 fun e w' => e = .returned (.tuple #[]) ∧ Hid (Lt w w' w.heap.size w.heap.size (w.heap.size + 1) T1))
    (q2 : ∀ w1 : World, Hid (Lt w w1 w.heap.size w.heap.size (w.heap.size + 1) T1) → Calls Tryz.prog 39 #[.string (ByteArray.mk #[46] ++ Z), .pointer (some ⟨w.heap.size, 0, none⟩)] w1 fun e w' => e = .returned (.tuple #[]) ∧ Hid (Lt w w' w.heap.size w.heap.size (w.heap.size + 1) T2))
    (ex : ∀ (w1 : World) (l : List UInt8), Hid (Lt w w1 w.heap.size w.heap.size (w.heap.size + 1) l) → Calls Tryz.prog 42 #[.int .i64 (p - 1)] w1 fun e w' => e = .returned (.string E) ∧ w'.cell? ⟨w.heap.size + 1, 0, none⟩ = some (.func (Fn.func 39) #[] #[.pointer (some ⟨w.heap.size, 0, none⟩)]) ∧ Hid (Lt w w' w.heap.size w.heap.size (w.heap.size + 1) l))
    (q3 : ∀ (w1 : World) (l : List UInt8), Hid (Lt w w1 w.heap.size w.heap.size (w.heap.size + 1) l) → l.length ≤ 20000 → Calls Tryz.prog 39 #[.string E, .pointer (some ⟨w.heap.size, 0, none⟩)] w1 fun e w' => e = .returned (.tuple #[]) ∧ Hid (Lt w w' w.heap.size w.heap.size (w.heap.size + 1) (l ++ E0)))
    (hmf : ∀ (fn : Fn) (first cap : Array Value) (w : World), (Instr.makeFunc fn first cap).run Tryz.prog w = .ok (.func fn first cap) w) :
    Calls Tryz.prog 19 #[.string (bs ds), .int .i64 p] w fun e w' => e = .returned (.string (bs (T2 ++ E0))) ∧ Below w.heap.size w w' := by
  have S0 := lt_start w
  have zX : (bs ds).size = L := by rw [bs_size]; exact hL
  have hw : IntKind.i64.wrap (p - 1) = p - 1 := by rw [IntKind.wrap_i64]; omega
  generalize hX : bs ds = X at *
  go_enter Tryz.func19, Tryz.ntmps19
  go_wp2_with fail
  have S1 := Lt.drewH S0
  have d0 := lt_cell S1
  have q1' := q1 _ S1
  clear S0 S1
  go_region_with (first | (go_at_call 39; refine q1'.mono ?_; rintro e w1 ⟨rfl, H1⟩))
  all_goals (clear q1' d0)
  all_goals (go_wp2_with fail)
  all_goals (have S2 := Lt.drewH H1; have d1 := lt_cell S2; have q2' := q2 _ S2)
  all_goals (clear S2)
  all_goals (go_region_with (first | (go_at_call 39; refine q2'.mono ?_; rintro e w5 ⟨rfl, H5⟩)))
  all_goals (clear q2' d1)
  all_goals (go_wp2_with fail)
  all_goals (have S2 := Lt.drewH H5; have d1 := lt_cell S2; have ex' := ex _ _ S2)
  all_goals (clear S2)
  all_goals (go_region_with (first | (go_at_call 42; refine ex'.mono ?_; rintro e w2 ⟨rfl, d2, H2⟩) | (go_at_call 39; refine (q3 _ _ H2 (by assumption)).mono ?_; rintro e w3 ⟨rfl, H3⟩)))
  all_goals (go_wp2_with fail; refine (lt_str H3.out).mono ?_; rintro e w4 ⟨rfl, hb4⟩; go_wp2; go_ret; exact ⟨rfl, hb4⟩)

end Go.Proofs.YtpejebohekcfoabGreatDoor
/- The contract of layout. -/
namespace Go.Proofs.YtpejebohekcfoabGreatDoor
open Go.RowKit
set_option linter.unusedVariables false

/-- digits with their point, as a text -/
def layI (ds : List UInt8) (p : Int) : List UInt8 :=
  if 21 < p ∨ p < -5 then (if ds.length = 1 then ds.take 1 else ds.take 1 ++ 46 :: ds.drop 1) ++ expL (p - 1)
  else if p ≤ 0 then [48, 46] ++ List.replicate (-p).toNat 48 ++ ds
  else if p < ds.length then ds.take p.toNat ++ 46 :: ds.drop p.toNat
  else ds ++ List.replicate (p - ds.length).toNat 48

theorem grown_below {w w' : World} (h : Below w.heap.size w w') : w.grownBy w' none := ⟨h.os, h.tape, h.output, h.size, fun k hk _ => h.block k hk⟩

theorem IsB_grown0 {w w' : World} {B bt : Nat} {bs : List Value} (h : Lib.IsBuilder 65 5 B bt bs w) (g : w.grownBy w' none) : Lib.IsBuilder 65 5 B bt bs w' := by
  rcases h with h | h
  · exact Or.inl (BuilderAt_others h g)
  · exact Or.inr (BuilderAt_others h g)

theorem Lt.keep {w0 wr w' : World} {B bt bp : Nat} {l : List UInt8} (h : Lt w0 wr B bt bp l) (hb : Below wr.heap.size wr w') : Lt w0 w' B bt bp l := by
  have g := grown_below hb
  refine ⟨IsB_grown0 h.bd g, (g.block bp (Array.getElem?_eq_some_iff.1 h.put).1 (by simp)).trans h.put, h.below.trans (hb.mono h.lt), Nat.le_trans h.lt hb.size⟩

theorem layout_any (ds : List UInt8) (p : Int) (w : World) (ht : Pow10 w) (hne : ds ≠ []) (hl : ds.length ≤ 10000) (hp0 : -50000 ≤ p) (hp1 : p ≤ 50000) :
    Calls Tryz.prog 19 #[.string (bs ds), .int .i64 p] w fun e w' => e = .returned (.string (bs (layI ds p))) ∧ Below w.heap.size w w' := by
  have hmf : ∀ (fn : Fn) (first cap : Array Value) (w : World), (Instr.makeFunc fn first cap).run Tryz.prog w = .ok (.func fn first cap) w := fun _ _ _ _ => rfl
  have L0 : 0 < ds.length := List.length_pos_iff.2 hne
  unfold layI
  by_cases c : 21 < p ∨ p < -5
  · rw [if_pos c]
    have eY : (bs ds).extract 0 1 = bs (ds.take 1) := by rw [ext_bs]; simp
    have eZ : (bs ds).extract 1 ds.length = bs (ds.drop 1) := by rw [ext_bs, List.take_of_length_le (by simp)]
    have q1 : ∀ w1 : World, Hid (Lt w w1 w.heap.size w.heap.size (w.heap.size + 1) []) → Calls Tryz.prog 39 #[.string (bs (ds.take 1)), .pointer (some ⟨w.heap.size, 0, none⟩)] w1 fun e w' => e = .returned (.tuple #[]) ∧ Hid (Lt w w' w.heap.size w.heap.size (w.heap.size + 1) (ds.take 1)) := by
      intro w1 h
      exact lt_put (ds.take 1) h.out (by simp; omega)
    have q2 : ∀ w1 : World, Hid (Lt w w1 w.heap.size w.heap.size (w.heap.size + 1) (ds.take 1)) → Calls Tryz.prog 39 #[.string (ByteArray.mk #[46] ++ bs (ds.drop 1)), .pointer (some ⟨w.heap.size, 0, none⟩)] w1 fun e w' => e = .returned (.tuple #[]) ∧ Hid (Lt w w' w.heap.size w.heap.size (w.heap.size + 1) (ds.take 1 ++ 46 :: ds.drop 1)) := by
      intro w1 h
      rw [show ByteArray.mk #[46] ++ bs (ds.drop 1) = bs (46 :: ds.drop 1) from by rw [show ByteArray.mk #[46] = bs [46] from rfl, bs_app]; rfl]
      exact lt_put (46 :: ds.drop 1) h.out (by simp; omega)
    have ex : ∀ (w1 : World) (l : List UInt8), Hid (Lt w w1 w.heap.size w.heap.size (w.heap.size + 1) l) → Calls Tryz.prog 42 #[.int .i64 (p - 1)] w1 fun e w' => e = .returned (.string (bs (expL (p - 1)))) ∧ w'.cell? ⟨w.heap.size + 1, 0, none⟩ = some (.func (Fn.func 39) #[] #[.pointer (some ⟨w.heap.size, 0, none⟩)]) ∧ Hid (Lt w w' w.heap.size w.heap.size (w.heap.size + 1) l) := by
      intro w1 l h
      refine (exponent_any (p - 1) w1 (by omega) (by omega) (pow10_below ht h.out.below)).mono ?_
      rintro e w' ⟨rfl, hb⟩
      have k : Hid (Lt w w' w.heap.size w.heap.size (w.heap.size + 1) l) := h.out.keep hb
      exact ⟨rfl, lt_cell k, k⟩
    have le : (expL (p - 1)).length ≤ 100 := by
      have := itoa_len (p - 1) (by omega)
      unfold expL
      split <;> simp <;> omega
    have q3 : ∀ (w1 : World) (l : List UInt8), Hid (Lt w w1 w.heap.size w.heap.size (w.heap.size + 1) l) → l.length ≤ 20000 → Calls Tryz.prog 39 #[.string (bs (expL (p - 1))), .pointer (some ⟨w.heap.size, 0, none⟩)] w1 fun e w' => e = .returned (.tuple #[]) ∧ Hid (Lt w w' w.heap.size w.heap.size (w.heap.size + 1) (l ++ expL (p - 1))) := by
      intro w1 l h hl
      exact lt_put (expL (p - 1)) h.out (by omega)
    have zY : (bs (ds.take 1)).size = 1 := by rw [bs_size]; simp; omega
    have zZ : (bs (ds.drop 1)).size = ds.length - 1 := by rw [bs_size]; simp
    rcases Nat.lt_or_ge 1 ds.length with h1 | h1
    · rw [if_neg (by omega)]
      rcases c with c | c
      · exact layout_en_hi ds p ds.length _ _ _ _ (ds.take 1) (ds.take 1 ++ 46 :: ds.drop 1) (by simp; omega) (by simp; omega) w rfl hl h1 c (by omega) (by omega) eY eZ zY zZ q1 q2 ex q3 hmf
      · exact layout_en_lo ds p ds.length _ _ _ _ (ds.take 1) (ds.take 1 ++ 46 :: ds.drop 1) (by simp; omega) (by simp; omega) w rfl hl h1 c (by omega) (by omega) eY eZ zY zZ q1 q2 ex q3 hmf
    · rw [if_pos (by omega)]
      rcases c with c | c
      · exact layout_e1_hi ds p ds.length _ _ _ _ (ds.take 1) (ds.take 1 ++ 46 :: ds.drop 1) (by simp; omega) (by simp; omega) w rfl hl (by omega) c (by omega) (by omega) eY eZ zY zZ q1 q2 ex q3 hmf
      · exact layout_e1_lo ds p ds.length _ _ _ _ (ds.take 1) (ds.take 1 ++ 46 :: ds.drop 1) (by simp; omega) (by simp; omega) w rfl hl (by omega) c (by omega) (by omega) eY eZ zY zZ q1 q2 ex q3 hmf
  · rw [if_neg c]
    by_cases c1 : p ≤ 0
    · rw [if_pos c1]
      exact layout_neg ds p (-p).toNat w c1 (by omega) (by omega) (by omega) hmf
    · rw [if_neg c1]
      by_cases c2 : p < ds.length
      · rw [if_pos c2]
        obtain ⟨k, rfl⟩ : ∃ k : Nat, p = k := ⟨p.toNat, by omega⟩
        rw [show ((k : Int)).toNat = k from by omega]
        have zY : (bs ((ds.drop 0).take (k - 0))).size = k := by rw [bs_size]; simp; omega
        have zZ : (bs ((ds.drop k).take (ds.length - k))).size = ds.length - k := by rw [bs_size]; simp
        have pt : ∀ w1 : World, Hid (Lt w w1 w.heap.size w.heap.size (w.heap.size + 1) []) → Calls Tryz.prog 39 #[.string (bs ((ds.drop 0).take (k - 0)) ++ ByteArray.mk #[46] ++ bs ((ds.drop k).take (ds.length - k))), .pointer (some ⟨w.heap.size, 0, none⟩)] w1 fun e w' => e = .returned (.tuple #[]) ∧ Hid (Lt w w' w.heap.size w.heap.size (w.heap.size + 1) (ds.take k ++ 46 :: ds.drop k)) := by
          intro w1 h
          have e : bs ((ds.drop 0).take (k - 0)) ++ ByteArray.mk #[46] ++ bs ((ds.drop k).take (ds.length - k)) = bs (ds.take k ++ 46 :: ds.drop k) := by
            rw [show ByteArray.mk #[46] = bs [46] from rfl, bs_app, bs_app, List.take_of_length_le (l := ds.drop k) (by simp)]
            simp
          rw [e]
          have := lt_put (ds.take k ++ 46 :: ds.drop k) h.out (by simp; omega)
          rw [List.nil_append] at this
          exact this
        exact layout_mid ds k ds.length _ _ ByteArray.empty w rfl hl (by omega) (by omega) (by omega) (ext_bs ds 0 k) (ext_bs ds k ds.length) zY zZ pt hmf
      · rw [if_neg c2]
        exact layout_big ds p ds.length _ w rfl (by omega) (by omega) (by omega) (by omega) hmf

end Go.Proofs.YtpejebohekcfoabGreatDoor
/- How many digits there are at most. -/
namespace Go.Proofs.YtpejebohekcfoabGreatDoor
open Go.RowKit
set_option linter.unusedVariables false

theorem digsF_len (T : Nat) (cl : Bool) : ∀ (j f V L U : Nat), T < U * 10 ^ (j + 1) → (digsF f V L U T cl).length ≤ j + 1 := by
  intro j
  induction j with
  | zero =>
    intro f V L U h
    cases f with
    | zero => rw [digsF]; simp
    | succ f =>
      rw [digsF]
      have up : inN T (V * 10 % T + U * 10) cl = true := by
        unfold inN
        rw [decide_eq_true (by rw [Nat.zero_add, Nat.pow_one] at h; omega)]
        rfl
      rw [if_pos (by rw [up]; simp)]
      simp
  | succ j ih =>
    intro f V L U h
    cases f with
    | zero => rw [digsF]; simp
    | succ f =>
      rw [digsF]
      split
      · simp
      · rw [List.length_cons]
        have := ih f (V * 10 % T) (L * 10) (U * 10) (by rw [← ten_next]; exact h)
        omega

theorem shD_len (a : Nat) (h0 : 0 < a) (h1 : a < 9218868437227405312) : (shD a).length ≤ 3000 := by
  obtain ⟨K, hK0, hK1⟩ : ∃ K : Nat, 1100 ≤ K ∧ K ≤ 1100 := ⟨1100, by omega, by omega⟩
  obtain ⟨t1, u1, l1⟩ := sh1_bd a K h0 h1 hK0
  have p : 2 ^ (K + 1700) ≤ 10 ^ (K + 1700) := Nat.pow_le_pow_left (by decide) _
  have q : 10 ^ (K + 1700) ≤ shU1 a * 10 ^ (K + 1700) := Nat.le_mul_of_pos_left _ u1
  have := digsF_len (shT1 a) (shC a) (K + 1699) (shT1 a + 1) (shV1 a) (shL1 a) (shU1 a) (by rw [show K + 1699 + 1 = K + 1700 from by omega]; omega)
  unfold shD
  omega

theorem digsF_ne (f V L U T : Nat) (cl : Bool) : digsF (f + 1) V L U T cl ≠ [] := by
  rw [digsF]
  split <;> simp

theorem shD_ne (a : Nat) : shD a ≠ [] := digsF_ne _ _ _ _ _ _

theorem txt_length (ds : List Nat) : (txt ds).length = ds.length := by unfold txt; simp

end Go.Proofs.YtpejebohekcfoabGreatDoor
/- The walk of Print: all of it. -/
namespace Go.Proofs.YtpejebohekcfoabGreatDoor
open Go.RowKit
set_option linter.unusedVariables false

theorem formatInt_any (n : Int) (h0 : -9223372036854775808 ≤ n) (h1 : n ≤ 9223372036854775807) (w : World) (ht : Pow10 w) :
    Calls Tryz.prog 5 #[.int .i64 n, .int .i64 10] w fun e w' => e = .returned (.string (bs (Lib.itoa n))) ∧ Below w.heap.size w w' := by
  have c : Calls Tryz.prog 12 #[.int .i64 n, .int .i64 10] w fun e w' => e = .returned (.string (bs (Lib.itoa n))) ∧ Below w.heap.size w w' := by
    refine (Tryz.internal_strconv_FormatInt_10 n h0 h1 w ht).mono ?_
    rintro e w' ⟨rfl, k, os, rfl⟩
    exact ⟨rfl, Lib.below_grow _ w (Nat.le_refl _) k os⟩
  clear ht
  go_enter Tryz.func5, Tryz.ntmps5
  go_wp2_with (go_at_call 12; refine c.mono ?_; rintro e w' ⟨rfl, hb⟩)
  go_ret
  exact ⟨rfl, hb⟩

theorem print_whole (A n : Int) (S : ByteArray) (w : World)
    (cw : ∀ w1, Below w.heap.size w w1 → Calls Tryz.prog 13 #[.int .u64 A] w1 fun e w' => e = .returned (.tuple #[.int .i64 n, .bool true]) ∧ Below w.heap.size w w')
    (cf : ∀ w1, Below w.heap.size w w1 → Calls Tryz.prog 5 #[.int .i64 n, .int .i64 10] w1 fun e w' => e = .returned (.string S) ∧ Below w.heap.size w w') :
    Calls Tryz.prog 6 #[.int .u64 A] w fun e w' => e = .returned (.string S) ∧ Below w.heap.size w w' := by
  go_enter Tryz.func6, Tryz.ntmps6
  go_wp2_with fail
  refine (cw _ (Below.refl _ _)).mono ?_
  rintro e w1 ⟨rfl, hb1⟩
  go_wp2_with fail
  refine (cf _ hb1).mono ?_
  rintro e w2 ⟨rfl, hb2⟩
  go_wp2
  go_ret
  exact ⟨rfl, hb2⟩

theorem print_nan (A n : Int) (w : World)
    (cw : ∀ w1, Below w.heap.size w w1 → Calls Tryz.prog 13 #[.int .u64 A] w1 fun e w' => e = .returned (.tuple #[.int .i64 n, .bool false]) ∧ Below w.heap.size w w')
    (cn : ∀ w1, Below w.heap.size w w1 → Calls Tryz.prog 14 #[.int .u64 A] w1 fun e w' => e = .returned (.bool true) ∧ Below w.heap.size w w') :
    Calls Tryz.prog 6 #[.int .u64 A] w fun e w' => e = .returned (.string (bs [78, 97, 78])) ∧ Below w.heap.size w w' := by
  go_enter Tryz.func6, Tryz.ntmps6
  go_wp2_with fail
  refine (cw _ (Below.refl _ _)).mono ?_
  rintro e w1 ⟨rfl, hb1⟩
  go_wp2_with fail
  refine (cn _ hb1).mono ?_
  rintro e w2 ⟨rfl, hb2⟩
  go_wp2
  go_ret
  exact ⟨rfl, hb2⟩

theorem print_neg (A n M : Int) (S : ByteArray) (m : Nat) (w : World) (zS : S.size = m) (hm : m ≤ 1000000)
    (cw : ∀ w1, Below w.heap.size w w1 → Calls Tryz.prog 13 #[.int .u64 A] w1 fun e w' => e = .returned (.tuple #[.int .i64 n, .bool false]) ∧ Below w.heap.size w w')
    (cn : ∀ w1, Below w.heap.size w w1 → Calls Tryz.prog 14 #[.int .u64 A] w1 fun e w' => e = .returned (.bool false) ∧ Below w.heap.size w w')
    (cl : ∀ w1, Below w.heap.size w w1 → Calls Tryz.prog 15 #[.int .u64 A, .int .u64 0] w1 fun e w' => e = .returned (.bool true) ∧ Below w.heap.size w w')
    (cg : ∀ w1, Below w.heap.size w w1 → Calls Tryz.prog 16 #[.int .u64 A] w1 fun e w' => e = .returned (.int .u64 M) ∧ Below w.heap.size w w')
    (cp : ∀ w1, Below w.heap.size w w1 → Calls Tryz.prog 6 #[.int .u64 M] w1 fun e w' => e = .returned (.string S) ∧ Below w.heap.size w w') :
    Calls Tryz.prog 6 #[.int .u64 A] w fun e w' => e = .returned (.string (bs [45] ++ S)) ∧ Below w.heap.size w w' := by
  go_enter Tryz.func6, Tryz.ntmps6
  go_wp2_with fail
  refine (cw _ (Below.refl _ _)).mono ?_
  rintro e w1 ⟨rfl, hb1⟩
  go_wp2_with fail
  refine (cn _ hb1).mono ?_
  rintro e w2 ⟨rfl, hb2⟩
  go_wp2_with fail
  refine (cl _ hb2).mono ?_
  rintro e w3 ⟨rfl, hb3⟩
  go_wp2_with fail
  refine (cg _ hb3).mono ?_
  rintro e w4 ⟨rfl, hb4⟩
  go_wp2_with fail
  refine (cp _ hb4).mono ?_
  rintro e w5 ⟨rfl, hb5⟩
  go_wp2
  go_ret
  exact ⟨rfl, hb5⟩

theorem print_inf (A n : Int) (w : World)
    (cw : ∀ w1, Below w.heap.size w w1 → Calls Tryz.prog 13 #[.int .u64 A] w1 fun e w' => e = .returned (.tuple #[.int .i64 n, .bool false]) ∧ Below w.heap.size w w')
    (cn : ∀ w1, Below w.heap.size w w1 → Calls Tryz.prog 14 #[.int .u64 A] w1 fun e w' => e = .returned (.bool false) ∧ Below w.heap.size w w')
    (cl : ∀ w1, Below w.heap.size w w1 → Calls Tryz.prog 15 #[.int .u64 A, .int .u64 0] w1 fun e w' => e = .returned (.bool false) ∧ Below w.heap.size w w')
    (ci : ∀ w1, Below w.heap.size w w1 → Calls Tryz.prog 17 #[.int .u64 A] w1 fun e w' => e = .returned (.bool true) ∧ Below w.heap.size w w') :
    Calls Tryz.prog 6 #[.int .u64 A] w fun e w' => e = .returned (.string (bs [73, 110, 102, 105, 110, 105, 116, 121])) ∧ Below w.heap.size w w' := by
  go_enter Tryz.func6, Tryz.ntmps6
  go_wp2_with fail
  refine (cw _ (Below.refl _ _)).mono ?_
  rintro e w1 ⟨rfl, hb1⟩
  go_wp2_with fail
  refine (cn _ hb1).mono ?_
  rintro e w2 ⟨rfl, hb2⟩
  go_wp2_with fail
  refine (cl _ hb2).mono ?_
  rintro e w3 ⟨rfl, hb3⟩
  go_wp2_with fail
  refine (ci _ hb3).mono ?_
  rintro e w4 ⟨rfl, hb4⟩
  go_wp2
  go_ret
  exact ⟨rfl, hb4⟩

theorem print_zero (A n : Int) (w : World)
    (cw : ∀ w1, Below w.heap.size w w1 → Calls Tryz.prog 13 #[.int .u64 A] w1 fun e w' => e = .returned (.tuple #[.int .i64 n, .bool false]) ∧ Below w.heap.size w w')
    (cn : ∀ w1, Below w.heap.size w w1 → Calls Tryz.prog 14 #[.int .u64 A] w1 fun e w' => e = .returned (.bool false) ∧ Below w.heap.size w w')
    (cl : ∀ w1, Below w.heap.size w w1 → Calls Tryz.prog 15 #[.int .u64 A, .int .u64 0] w1 fun e w' => e = .returned (.bool false) ∧ Below w.heap.size w w')
    (ci : ∀ w1, Below w.heap.size w w1 → Calls Tryz.prog 17 #[.int .u64 A] w1 fun e w' => e = .returned (.bool false) ∧ Below w.heap.size w w')
    (ce : ∀ w1, Below w.heap.size w w1 → Calls Tryz.prog 18 #[.int .u64 A, .int .u64 0] w1 fun e w' => e = .returned (.bool true) ∧ Below w.heap.size w w') :
    Calls Tryz.prog 6 #[.int .u64 A] w fun e w' => e = .returned (.string (bs [48])) ∧ Below w.heap.size w w' := by
  go_enter Tryz.func6, Tryz.ntmps6
  go_wp2_with fail
  refine (cw _ (Below.refl _ _)).mono ?_
  rintro e w1 ⟨rfl, hb1⟩
  go_wp2_with fail
  refine (cn _ hb1).mono ?_
  rintro e w2 ⟨rfl, hb2⟩
  go_wp2_with fail
  refine (cl _ hb2).mono ?_
  rintro e w3 ⟨rfl, hb3⟩
  go_wp2_with fail
  refine (ci _ hb3).mono ?_
  rintro e w4 ⟨rfl, hb4⟩
  go_wp2_with fail
  refine (ce _ hb4).mono ?_
  rintro e w5 ⟨rfl, hb5⟩
  go_wp2
  go_ret
  exact ⟨rfl, hb5⟩

theorem print_rest (A n P : Int) (S X : ByteArray) (w : World)
    (cw : ∀ w1, Below w.heap.size w w1 → Calls Tryz.prog 13 #[.int .u64 A] w1 fun e w' => e = .returned (.tuple #[.int .i64 n, .bool false]) ∧ Below w.heap.size w w')
    (cn : ∀ w1, Below w.heap.size w w1 → Calls Tryz.prog 14 #[.int .u64 A] w1 fun e w' => e = .returned (.bool false) ∧ Below w.heap.size w w')
    (cl : ∀ w1, Below w.heap.size w w1 → Calls Tryz.prog 15 #[.int .u64 A, .int .u64 0] w1 fun e w' => e = .returned (.bool false) ∧ Below w.heap.size w w')
    (ci : ∀ w1, Below w.heap.size w w1 → Calls Tryz.prog 17 #[.int .u64 A] w1 fun e w' => e = .returned (.bool false) ∧ Below w.heap.size w w')
    (ce : ∀ w1, Below w.heap.size w w1 → Calls Tryz.prog 18 #[.int .u64 A, .int .u64 0] w1 fun e w' => e = .returned (.bool false) ∧ Below w.heap.size w w')
    (cs : ∀ w1, Below w.heap.size w w1 → Calls Tryz.prog 20 #[.int .u64 A] w1 fun e w' => e = .returned (.tuple #[.string S, .int .i64 P]) ∧ Below w.heap.size w w')
    (cy : ∀ w1, Below w.heap.size w w1 → Calls Tryz.prog 19 #[.string S, .int .i64 P] w1 fun e w' => e = .returned (.string X) ∧ Below w.heap.size w w') :
    Calls Tryz.prog 6 #[.int .u64 A] w fun e w' => e = .returned (.string X) ∧ Below w.heap.size w w' := by
  go_enter Tryz.func6, Tryz.ntmps6
  go_wp2_with fail
  refine (cw _ (Below.refl _ _)).mono ?_
  rintro e w1 ⟨rfl, hb1⟩
  go_wp2_with fail
  refine (cn _ hb1).mono ?_
  rintro e w2 ⟨rfl, hb2⟩
  go_wp2_with fail
  refine (cl _ hb2).mono ?_
  rintro e w3 ⟨rfl, hb3⟩
  go_wp2_with fail
  refine (ci _ hb3).mono ?_
  rintro e w4 ⟨rfl, hb4⟩
  go_wp2_with fail
  refine (ce _ hb4).mono ?_
  rintro e w5 ⟨rfl, hb5⟩
  go_wp2_with fail
  refine (cs _ hb5).mono ?_
  rintro e w6 ⟨rfl, hb6⟩
  go_wp2_with fail
  refine (cy _ hb6).mono ?_
  rintro e w7 ⟨rfl, hb7⟩
  go_wp2
  go_ret
  exact ⟨rfl, hb7⟩

end Go.Proofs.YtpejebohekcfoabGreatDoor
/- The contract of Print. -/
namespace Go.Proofs.YtpejebohekcfoabGreatDoor
open Go.RowKit
set_option linter.unusedVariables false

/-- the text of a number that is not below 0 -/
def printQ (a : Int) : List UInt8 :=
  if (wholeI a).2 = true then Lib.itoa (wholeI a).1
  else if kindI a = 3 then [78, 97, 78]
  else if kindI a = 2 then [73, 110, 102, 105, 110, 105, 116, 121]
  else if equalI a 0 = true then [48]
  else layI (txt (shD a.toNat)) (shP a.toNat)

/-- the text of a number -/
def printI (a : Int) : List UInt8 := if (wholeI a).2 = false ∧ lessI a 0 = true then 45 :: printQ (negI a) else printQ a

theorem whole_bd (a : Int) (h0 : 0 ≤ a) (h1 : a < 18446744073709551616) : -9223372036854775808 ≤ (wholeI a).1 ∧ (wholeI a).1 ≤ 9223372036854775807 := by
  unfold wholeI
  split
  · exact ⟨by decide, by decide⟩
  · split
    · exact ⟨by decide, by decide⟩
    · rename_i h2 h3
      have k : kindI a = 1 := by
        rcases Decidable.em (kindI a = 1) with h | h
        · exact h
        · exact absurd (Or.inl h) h3
      have e : expI a ≤ 0 := by
        rcases Int.lt_or_le 0 (expI a) with h | h
        · exact absurd (Or.inr (Or.inl h)) h3
        · exact h
      obtain ⟨_, f, _⟩ := read_fin a h0 h1 k
      have p := f.pos
      have q := f.lt
      have s := size_small (manI a) (expI a) (by omega) (by omega) e
      have t := size_bd (manI a) (expI a) (by omega) (by omega)
      dsimp only
      split <;> omega

theorem shJ_le (a : Nat) (h0 : 0 < a) (h1 : a < 9218868437227405312) : shJ a ≤ 3000 := by
  obtain ⟨K, hK0, hK1⟩ : ∃ K : Nat, 1100 ≤ K ∧ K ≤ 1100 := ⟨1100, by omega, by omega⟩
  obtain ⟨q1, q2, q3, q4, q5, q6, q7⟩ := sh_bd a K h0 h1 hK0
  have g := shG_bd a h0 h1
  have v := up_lt (tens_lt (j := (-shG a).toNat) q1) (show K + 4 * (-shG a).toNat ≤ K + 1600 by omega)
  have u := up_lt (tens_lt (j := (-shG a).toNat) q3) (show K + 4 * (-shG a).toNat ≤ K + 1600 by omega)
  change shV1 a < _ at v
  change shU1 a < _ at u
  rcases Nat.eq_zero_or_pos (shJ a) with c | c
  · omega
  · have h2 := in_le ((sh_stop a h0 h1).2 (shJ a - 1) (by omega))
    have P : 2 ^ (K + 1601) = 2 ^ (K + 1600) * 2 := by rw [show K + 1601 = (K + 1600) + 1 from by omega, Nat.pow_succ]
    have := pow_bound (K := K + 1601) (T := shT0 a) (Nat.mul_pos q6 (Nat.pow_pos (by decide))) h2 (by omega)
    omega

theorem shP_bd (a : Nat) (h0 : 0 < a) (h1 : a < 9218868437227405312) : -4000 ≤ shP a ∧ shP a ≤ 4000 := by
  have g := shG_bd a h0 h1
  have j := shJ_le a h0 h1
  unfold shP
  omega

theorem between {w : World} {f : Nat} {args : Array Value} {Q : Ending → Prop} (h : ∀ w1, Calls Tryz.prog f args w1 fun e w' => Q e ∧ Below w1.heap.size w1 w') :
    ∀ w1, Below w.heap.size w w1 → Calls Tryz.prog f args w1 fun e w' => Q e ∧ Below w.heap.size w w' := after h

theorem printQ_any (a : Int) (h0 : 0 ≤ a) (h1 : a < 18446744073709551616) (hn : (wholeI a).2 = true ∨ lessI a 0 = false) (w : World) (ht : Pow10 w) :
    Calls Tryz.prog 6 #[.int .u64 a] w fun e w' => e = .returned (.string (bs (printQ a))) ∧ Below w.heap.size w w' := by
  have cw : ∀ w1, Below w.heap.size w w1 → Calls Tryz.prog 13 #[.int .u64 a] w1 fun e w' => e = .returned (.tuple #[.int .i64 (wholeI a).1, .bool (wholeI a).2]) ∧ Below w.heap.size w w' := after (Q := fun e => e = .returned (.tuple #[.int .i64 (wholeI a).1, .bool (wholeI a).2])) (fun w1 => whole_any a w1 h0 h1)
  have cn : ∀ w1, Below w.heap.size w w1 → Calls Tryz.prog 14 #[.int .u64 a] w1 fun e w' => e = .returned (.bool (kindI a == 3)) ∧ Below w.heap.size w w' := after (Q := fun e => e = .returned (.bool (kindI a == 3))) (fun w1 => isNaN_any a w1 h0 h1)
  have cl : ∀ w1, Below w.heap.size w w1 → Calls Tryz.prog 15 #[.int .u64 a, .int .u64 0] w1 fun e w' => e = .returned (.bool (lessI a 0)) ∧ Below w.heap.size w w' := after (Q := fun e => e = .returned (.bool (lessI a 0))) (fun w1 => less_any a 0 w1 h0 h1 (by omega) (by omega))
  have ci : ∀ w1, Below w.heap.size w w1 → Calls Tryz.prog 17 #[.int .u64 a] w1 fun e w' => e = .returned (.bool (kindI a == 2)) ∧ Below w.heap.size w w' := after (Q := fun e => e = .returned (.bool (kindI a == 2))) (fun w1 => isInf_any a w1 h0 h1)
  have ce : ∀ w1, Below w.heap.size w w1 → Calls Tryz.prog 18 #[.int .u64 a, .int .u64 0] w1 fun e w' => e = .returned (.bool (equalI a 0)) ∧ Below w.heap.size w w' := after (Q := fun e => e = .returned (.bool (equalI a 0))) (fun w1 => equal_any a 0 w1 h0 h1 (by omega) (by omega))
  obtain ⟨b0, b1⟩ := whole_bd a h0 h1
  unfold printQ
  cases hw : (wholeI a).2 with
  | true =>
    rw [if_pos rfl]
    rw [hw] at cw
    refine print_whole a _ _ w cw (fun w1 hb => ?_)
    refine (formatInt_any _ b0 b1 w1 (pow10_below ht hb)).mono ?_
    rintro e w' ⟨rfl, b⟩
    exact ⟨rfl, hb.trans (b.mono hb.size)⟩
  | false =>
    rw [hw] at cw
    have hn := hn.resolve_left (by rw [hw]; decide)
    rw [hn] at cl
    rw [if_neg (by decide)]
    by_cases k3 : kindI a = 3
    · rw [if_pos k3]
      rw [k3] at cn
      exact print_nan a _ w cw cn
    · rw [if_neg k3]
      have e3 : (kindI a == 3) = false := beq_eq_false_iff_ne.2 k3
      rw [e3] at cn
      by_cases k2 : kindI a = 2
      · rw [if_pos k2]
        rw [k2] at ci
        exact print_inf a _ w cw cn cl ci
      · rw [if_neg k2]
        have e2 : (kindI a == 2) = false := beq_eq_false_iff_ne.2 k2
        rw [e2] at ci
        cases hz : equalI a 0 with
        | true =>
          rw [hz] at ce
          rw [if_pos rfl]
          exact print_zero a _ w cw cn cl ci ce
        | false =>
          rw [hz] at ce
          rw [if_neg (by decide)]
          have kf := kind_fld a h0 h1
          have kc := kind_cases a
          have z3 : (kindI 0 == 3) = false := by decide +kernel
          have z0 : rankI 0 = 0 := by decide +kernel
          unfold lessI at hn
          unfold equalI at hz
          rw [e3, z3, z0] at hn hz
          simp at hn hz
          have r := kf.1.1 (by omega)
          have ap : 0 < a ∧ a < 9218868437227405312 := by
            unfold rankI at r hn hz
            split at r <;> split at hn <;> split at hz <;> omega
          obtain ⟨m, rfl⟩ : ∃ m : Nat, a = m := ⟨a.toNat, by omega⟩
          rw [show ((m : Int)).toNat = m from by omega]
          have sb := shP_bd m (by omega) (by omega)
          have sl := shD_len m (by omega) (by omega)
          refine print_rest _ _ _ _ _ w cw cn cl ci ce (after (Q := fun e => e = .returned (.tuple #[.string (bs (txt (shD m))), .int .i64 (shP m)])) (fun w1 => short_any m w1 (by omega) (by omega))) (fun w1 hb => ?_)
          refine (layout_any (txt (shD m)) (shP m) w1 (pow10_below ht hb) ?_ (by rw [txt_length]; omega) (by omega) (by omega)).mono ?_
          · have := shD_ne m
            unfold txt
            simpa using this
          · rintro e w' ⟨rfl, b⟩
            exact ⟨rfl, hb.trans (b.mono hb.size)⟩

theorem layI_len (ds : List UInt8) (p : Int) (hp0 : -4000 ≤ p) (hp1 : p ≤ 4000) : (layI ds p).length ≤ 2 * ds.length + 10000 := by
  have e : (expL (p - 1)).length ≤ 100 := by
    have := itoa_len (p - 1) (by omega)
    unfold expL
    split <;> simp <;> omega
  unfold layI
  split
  · split <;> simp <;> omega
  · split
    · simp; omega
    · split <;> simp <;> omega

theorem printQ_len (a : Int) (h0 : 0 ≤ a) (h1 : a < 18446744073709551616) (hn : lessI a 0 = false) : (printQ a).length ≤ 100000 := by
  obtain ⟨b0, b1⟩ := whole_bd a h0 h1
  unfold printQ
  split
  · have := itoa_len (wholeI a).1 (by omega)
    omega
  · split
    · simp
    · rename_i k3
      split
      · simp
      · rename_i k2
        split
        · simp
        · rename_i hz
          have e3 : (kindI a == 3) = false := beq_eq_false_iff_ne.2 k3
          have kf := kind_fld a h0 h1
          have kc := kind_cases a
          have z3 : (kindI 0 == 3) = false := by decide +kernel
          have z0 : rankI 0 = 0 := by decide +kernel
          unfold lessI at hn
          unfold equalI at hz
          rw [e3, z3, z0] at hn hz
          simp at hn hz
          have r := kf.1.1 (by omega)
          have ap : 0 < a ∧ a < 9218868437227405312 := by
            unfold rankI at r hn hz
            split at r <;> split at hn <;> split at hz <;> omega
          have sb := shP_bd a.toNat (by omega) (by omega)
          have sl := shD_len a.toNat (by omega) (by omega)
          have := layI_len (txt (shD a.toNat)) (shP a.toNat) (by omega) (by omega)
          rw [txt_length] at this
          omega

theorem neg_less (a : Int) (h0 : 0 ≤ a) (h1 : a < 18446744073709551616) (h : lessI a 0 = true) : lessI (negI a) 0 = false ∧ 0 ≤ negI a ∧ negI a < 18446744073709551616 := by
  have z0 : rankI 0 = 0 := by decide +kernel
  unfold lessI at h
  simp only [Bool.and_eq_true, Bool.not_eq_true', decide_eq_true_eq] at h
  have k3 : kindI a ≠ 3 := beq_eq_false_iff_ne.1 h.1.1
  have r := h.2
  rw [z0] at r
  have hn : negI a = a - 9223372036854775808 ∧ 9223372036854775808 ≤ a := by
    unfold negI
    rw [if_neg k3]
    unfold rankI at r
    split at r <;> omega
  refine ⟨?_, by omega, by omega⟩
  unfold lessI
  rw [z0]
  have : ¬ rankI (negI a) < 0 := by
    rw [hn.1]
    unfold rankI
    split <;> omega
  rw [decide_eq_false this]
  simp

theorem print_any (a : Int) (h0 : 0 ≤ a) (h1 : a < 18446744073709551616) (w : World) (ht : Pow10 w) :
    Calls Tryz.prog 6 #[.int .u64 a] w fun e w' => e = .returned (.string (bs (printI a))) ∧ Below w.heap.size w w' := by
  unfold printI
  by_cases c : (wholeI a).2 = false ∧ lessI a 0 = true
  · rw [if_pos c]
    obtain ⟨cw0, cl0⟩ := c
    obtain ⟨n1, n2, n3⟩ := neg_less a h0 h1 cl0
    have k3 : (kindI a == 3) = false := by
      unfold lessI at cl0
      simp only [Bool.and_eq_true, Bool.not_eq_true', decide_eq_true_eq] at cl0
      exact cl0.1.1
    have cw : ∀ w1, Below w.heap.size w w1 → Calls Tryz.prog 13 #[.int .u64 a] w1 fun e w' => e = .returned (.tuple #[.int .i64 (wholeI a).1, .bool (wholeI a).2]) ∧ Below w.heap.size w w' := after (Q := fun e => e = .returned (.tuple #[.int .i64 (wholeI a).1, .bool (wholeI a).2])) (fun w1 => whole_any a w1 h0 h1)
    have cn : ∀ w1, Below w.heap.size w w1 → Calls Tryz.prog 14 #[.int .u64 a] w1 fun e w' => e = .returned (.bool (kindI a == 3)) ∧ Below w.heap.size w w' := after (Q := fun e => e = .returned (.bool (kindI a == 3))) (fun w1 => isNaN_any a w1 h0 h1)
    have cl : ∀ w1, Below w.heap.size w w1 → Calls Tryz.prog 15 #[.int .u64 a, .int .u64 0] w1 fun e w' => e = .returned (.bool (lessI a 0)) ∧ Below w.heap.size w w' := after (Q := fun e => e = .returned (.bool (lessI a 0))) (fun w1 => less_any a 0 w1 h0 h1 (by omega) (by omega))
    have cg : ∀ w1, Below w.heap.size w w1 → Calls Tryz.prog 16 #[.int .u64 a] w1 fun e w' => e = .returned (.int .u64 (negI a)) ∧ Below w.heap.size w w' := after (Q := fun e => e = .returned (.int .u64 (negI a))) (fun w1 => neg_any a w1 h0 h1)
    rw [cw0] at cw
    rw [k3] at cn
    rw [cl0] at cl
    have ll := printQ_len (negI a) n2 n3 n1
    have := print_neg a _ (negI a) (bs (printQ (negI a))) (printQ (negI a)).length w (bs_size _) (by omega) cw cn cl cg (fun w1 hb => by
      refine (printQ_any (negI a) n2 n3 (Or.inr n1) w1 (pow10_below ht hb)).mono ?_
      rintro e w' ⟨rfl, b⟩
      exact ⟨rfl, hb.trans (b.mono hb.size)⟩)
    rw [bs_app] at this
    exact this
  · rw [if_neg c]
    refine printQ_any a h0 h1 ?_ w ht
    cases hw : (wholeI a).2 with
    | true => exact Or.inl rfl
    | false =>
      cases hl : lessI a 0 with
      | true => exact absurd ⟨hw, hl⟩ c
      | false => exact Or.inr rfl

end Go.Proofs.YtpejebohekcfoabGreatDoor
/- Plain: what lies between the mids is read as the number between them. -/
namespace Go.Proofs.YtpejebohekcfoabGreatDoor
set_option linter.unusedVariables false

theorem stq_lt (A M t Z : Nat) (hM : 0 < M) : stq A M t < 2 * Z ↔ A * 2 ^ t < Z * M := by
  unfold stq
  rw [← Nat.div_lt_iff_lt_mul hM]
  split <;> omega

theorem stq_eq (A M t Z : Nat) (hM : 0 < M) : stq A M t = 2 * Z ↔ A * 2 ^ t = Z * M := by
  unfold stq
  have d := Nat.div_add_mod (A * 2 ^ t) M
  generalize A * 2 ^ t = X at *
  constructor
  · intro h
    split at h
    · rename_i h0
      have e : X / M = Z := by omega
      rw [e, h0, Nat.mul_comm] at d
      omega
    · omega
  · intro h
    have h1 : X / M = Z := by rw [h]; exact Nat.mul_div_cancel _ hM
    have h2 : X % M = 0 := by rw [h]; exact Nat.mul_mod_left _ _
    rw [h1, h2]
    simp

theorem pow_mul_lt {a b c : Nat} : a * 2 ^ c < b * 2 ^ c ↔ a < b := Nat.mul_lt_mul_right (Nat.two_pow_pos c)

/-- from a number up to the middle -/
theorem near_up (r A M u : Nat) (hu : u = 1074) (hr : r < 9218868437227405312) (hA : 0 < A) (hM : 0 < M) (h0 : valN r * M ≤ A * 2 ^ u) (h1 : 2 * (A * 2 ^ u) < (valN r + valN (r + 1)) * M ∨ (2 * (A * 2 ^ u) = (valN r + valN (r + 1)) * M ∧ r % 2 = 0)) :
    nearQ A M = r := by
  obtain ⟨c, hc⟩ : ∃ c, c = M.log2 + 60 := ⟨_, rfl⟩
  have vl := valN_lt (Nat.lt_succ_self r)
  rw [nearQ_fine A M (u + (c + 1)) hA hM (by omega)]
  unfold rungQ
  have et : A * 2 ^ (u + (c + 1)) = A * 2 ^ u * 2 ^ (c + 1) := by rw [Nat.pow_add, Nat.mul_assoc]
  have k0 : valN r * 2 ^ (c + 1 + 1) ≤ stq A M (u + (c + 1)) := by
    have := (not_congr (stq_lt A M (u + (c + 1)) (valN r * 2 ^ (c + 1)) hM)).2 (by
      rw [et, Nat.mul_right_comm (valN r)]
      exact Nat.not_lt.2 (Nat.mul_le_mul_right _ h0))
    rw [Nat.pow_succ 2 (c + 1)]
    have e : valN r * (2 ^ (c + 1) * 2) = 2 * (valN r * 2 ^ (c + 1)) := by rw [Nat.mul_comm (2 ^ (c + 1)) 2, Nat.mul_left_comm]
    omega
  have k1 : stq A M (u + (c + 1)) < valN (r + 1) * 2 ^ (c + 1 + 1) := by
    have hl : A * 2 ^ u < valN (r + 1) * M := by
      have e : (valN r + valN (r + 1)) * M = valN r * M + valN (r + 1) * M := Nat.add_mul _ _ _
      have g : valN r * M < valN (r + 1) * M := Nat.mul_lt_mul_of_pos_right vl hM
      omega
    have := (stq_lt A M (u + (c + 1)) (valN (r + 1) * 2 ^ (c + 1)) hM).2 (by
      rw [et, Nat.mul_right_comm (valN (r + 1))]
      exact pow_mul_lt.2 hl)
    have e : valN (r + 1) * (2 ^ (c + 1) * 2) = 2 * (valN (r + 1) * 2 ^ (c + 1)) := by rw [Nat.mul_comm (2 ^ (c + 1)) 2, Nat.mul_left_comm]
    rw [Nat.pow_succ 2 (c + 1)]
    omega
  have g : goesUp r (stq A M (u + (c + 1))) (c + 1) = 0 := by
    unfold goesUp
    have e2 : (valN r + valN (r + 1)) * 2 ^ (c + 1) = 2 * ((valN r + valN (r + 1)) * 2 ^ c) := by rw [Nat.pow_succ, Nat.mul_comm (2 ^ c) 2, Nat.mul_left_comm]
    have ew : A * 2 ^ (u + (c + 1)) = 2 * (A * 2 ^ u) * 2 ^ c := by rw [et, Nat.pow_succ, Nat.mul_comm (2 ^ c) 2, ← Nat.mul_assoc, Nat.mul_comm (A * 2 ^ u) 2]
    rw [e2, if_neg]
    rintro (h | ⟨h, ho⟩)
    · have h3 : ¬ stq A M (u + (c + 1)) < 2 * ((valN r + valN (r + 1)) * 2 ^ c) := by omega
      have h4 : stq A M (u + (c + 1)) ≠ 2 * ((valN r + valN (r + 1)) * 2 ^ c) := by omega
      rw [stq_lt A M _ _ hM, ew, Nat.mul_right_comm (valN r + valN (r + 1)), pow_mul_lt] at h3
      rw [Ne, stq_eq A M _ _ hM, ew, Nat.mul_right_comm (valN r + valN (r + 1))] at h4
      rcases h1 with h1 | ⟨h1, _⟩
      · exact h3 h1
      · exact h4 (by rw [h1])
    · have h4 : stq A M (u + (c + 1)) = 2 * ((valN r + valN (r + 1)) * 2 ^ c) := h.symm
      rw [stq_eq A M _ _ hM, ew, Nat.mul_right_comm (valN r + valN (r + 1))] at h4
      have h5 := Nat.eq_of_mul_eq_mul_right (Nat.two_pow_pos c) h4
      rcases h1 with h1 | ⟨_, h1⟩
      · omega
      · omega
  have := rung_between r (stq A M (u + (c + 1))) (c + 1) hr k0 k1
  rw [g] at this
  have e : -((u + (c + 1) : Nat) : Int) - 1 = -(1075 + ((c + 1 : Nat) : Int)) := by omega
  rw [e]
  exact this

/-- from the middle up to a number -/
theorem near_dn (s A M u : Nat) (hu : u = 1074) (hr : s + 1 < 9218868437227405312) (hA : 0 < A) (hM : 0 < M) (h0 : A * 2 ^ u ≤ valN (s + 1) * M) (h1 : (valN s + valN (s + 1)) * M < 2 * (A * 2 ^ u) ∨ ((valN s + valN (s + 1)) * M = 2 * (A * 2 ^ u) ∧ s % 2 = 1)) :
    nearQ A M = s + 1 := by
  have vl := valN_lt (Nat.lt_succ_self s)
  have vl2 := valN_lt (Nat.lt_succ_self (s + 1))
  rcases Nat.lt_or_ge (A * 2 ^ u) (valN (s + 1) * M) with hl | hl
  · obtain ⟨c, hc⟩ : ∃ c, c = M.log2 + 60 := ⟨_, rfl⟩
    rw [nearQ_fine A M (u + (c + 1)) hA hM (by omega)]
    unfold rungQ
    have et : A * 2 ^ (u + (c + 1)) = A * 2 ^ u * 2 ^ (c + 1) := by rw [Nat.pow_add, Nat.mul_assoc]
    have eM : (valN s + valN (s + 1)) * M = valN s * M + valN (s + 1) * M := Nat.add_mul _ _ _
    have gM : valN s * M < valN (s + 1) * M := Nat.mul_lt_mul_of_pos_right vl hM
    have k0 : valN s * 2 ^ (c + 1 + 1) ≤ stq A M (u + (c + 1)) := by
      have := (not_congr (stq_lt A M (u + (c + 1)) (valN s * 2 ^ (c + 1)) hM)).2 (by
        rw [et, Nat.mul_right_comm (valN s)]
        exact Nat.not_lt.2 (Nat.mul_le_mul_right _ (by omega)))
      rw [Nat.pow_succ 2 (c + 1)]
      have e : valN s * (2 ^ (c + 1) * 2) = 2 * (valN s * 2 ^ (c + 1)) := by rw [Nat.mul_comm (2 ^ (c + 1)) 2, Nat.mul_left_comm]
      omega
    have k1 : stq A M (u + (c + 1)) < valN (s + 1) * 2 ^ (c + 1 + 1) := by
      have := (stq_lt A M (u + (c + 1)) (valN (s + 1) * 2 ^ (c + 1)) hM).2 (by
        rw [et, Nat.mul_right_comm (valN (s + 1))]
        exact pow_mul_lt.2 hl)
      have e : valN (s + 1) * (2 ^ (c + 1) * 2) = 2 * (valN (s + 1) * 2 ^ (c + 1)) := by rw [Nat.mul_comm (2 ^ (c + 1)) 2, Nat.mul_left_comm]
      rw [Nat.pow_succ 2 (c + 1)]
      omega
    have g : goesUp s (stq A M (u + (c + 1))) (c + 1) = 1 := by
      unfold goesUp
      have e2 : (valN s + valN (s + 1)) * 2 ^ (c + 1) = 2 * ((valN s + valN (s + 1)) * 2 ^ c) := by rw [Nat.pow_succ, Nat.mul_comm (2 ^ c) 2, Nat.mul_left_comm]
      have ew : A * 2 ^ (u + (c + 1)) = 2 * (A * 2 ^ u) * 2 ^ c := by rw [et, Nat.pow_succ, Nat.mul_comm (2 ^ c) 2, ← Nat.mul_assoc, Nat.mul_comm (A * 2 ^ u) 2]
      rw [e2, if_pos]
      rcases h1 with h1 | ⟨h1, ho⟩
      · refine Or.inl ?_
        have h3 : ¬ stq A M (u + (c + 1)) < 2 * ((valN s + valN (s + 1)) * 2 ^ c) := by
          rw [stq_lt A M _ _ hM, ew, Nat.mul_right_comm (valN s + valN (s + 1)), pow_mul_lt]
          omega
        have h4 : stq A M (u + (c + 1)) ≠ 2 * ((valN s + valN (s + 1)) * 2 ^ c) := by
          rw [Ne, stq_eq A M _ _ hM, ew, Nat.mul_right_comm (valN s + valN (s + 1))]
          intro h
          have := Nat.eq_of_mul_eq_mul_right (Nat.two_pow_pos c) h
          omega
        omega
      · refine Or.inr ⟨?_, ho⟩
        refine ((stq_eq A M _ _ hM).2 ?_).symm
        rw [ew, Nat.mul_right_comm (valN s + valN (s + 1)), h1]
    have := rung_between s (stq A M (u + (c + 1))) (c + 1) (by omega) k0 k1
    rw [g] at this
    rw [← this]
    congr 1
    omega
  · refine near_up (s + 1) A M u hu hr hA hM hl ?_
    refine Or.inl ?_
    have eM : (valN (s + 1) + valN (s + 1 + 1)) * M = valN (s + 1) * M + valN (s + 1 + 1) * M := Nat.add_mul _ _ _
    have gM : valN (s + 1) * M < valN (s + 1 + 1) * M := Nat.mul_lt_mul_of_pos_right vl2 hM
    omega

end Go.Proofs.YtpejebohekcfoabGreatDoor
/- Plain: the digits lie within the interval. -/
namespace Go.Proofs.YtpejebohekcfoabGreatDoor
open Go.RowKit
set_option linter.unusedVariables false

/-- digits as a number -/
def dnum (ds : List Nat) : Nat := ds.foldl (fun n d => 10 * n + d) 0

theorem dnum_from (ds : List Nat) : ∀ n, ds.foldl (fun n d => 10 * n + d) n = n * 10 ^ ds.length + dnum ds := by
  induction ds with
  | nil => intro n; simp [dnum]
  | cons d ds ih =>
    intro n
    unfold dnum
    rw [List.foldl_cons, List.foldl_cons, ih, ih (10 * 0 + d), List.length_cons, Nat.pow_succ, Nat.add_mul, Nat.mul_zero, Nat.zero_add]
    have : 10 * n * 10 ^ ds.length = n * (10 ^ ds.length * 10) := by rw [Nat.mul_comm 10 n, Nat.mul_assoc, Nat.mul_comm 10]
    omega

theorem dnum_cons (d : Nat) (ds : List Nat) : dnum (d :: ds) = d * 10 ^ ds.length + dnum ds := by
  show List.foldl _ _ _ = _
  rw [List.foldl_cons, dnum_from]
  simp

/-- one bound: below, or at it where it is closed -/
def Under (x y : Nat) (cl : Bool) : Prop := x < y ∨ (x = y ∧ cl = true)

theorem under_of {V L : Nat} {cl : Bool} (h : inN V L cl = true) : Under V L cl := by
  unfold inN at h
  simp only [Bool.or_eq_true, Bool.and_eq_true, decide_eq_true_eq] at h
  exact h

theorem under_lin {x y x' y' : Nat} {cl : Bool} (h : Under x y cl) (h1 : x < y → x' < y') (h2 : x = y → x' = y') : Under x' y' cl := by
  rcases h with h | ⟨h, c⟩
  · exact Or.inl (h1 h)
  · exact Or.inr ⟨h2 h, c⟩

theorem digs_in (T : Nat) (cl : Bool) (hT : 0 < T) : ∀ (f V L U : Nat), T < U + f → V + U ≤ T → 0 < U →
    Under (V * 10 ^ (digsF f V L U T cl).length) (dnum (digsF f V L U T cl) * T + L * 10 ^ (digsF f V L U T cl).length) cl ∧
    Under (dnum (digsF f V L U T cl) * T) (V * 10 ^ (digsF f V L U T cl).length + U * 10 ^ (digsF f V L U T cl).length) cl := by
  intro f
  induction f with
  | zero => intro V L U h1 h2 h3; omega
  | succ f ih =>
    intro V L U h1 h2 h3
    have dm := Nat.div_add_mod (V * 10) T
    have ml := Nat.mod_lt (V * 10) hT
    rw [Nat.mul_comm T] at dm
    rw [digsF]
    generalize V * 10 / T = d at *
    generalize hX : V * 10 % T = X at *
    cases hd : inN X (L * 10) cl with
    | true =>
      rw [if_pos (by simp)]
      have ud := under_of hd
      cases hc : (inN T (X + U * 10) cl && upN X T d) with
      | true =>
        have uu := under_of (by simp only [Bool.and_eq_true] at hc; exact hc.1 : inN T (X + U * 10) cl = true)
        rw [if_pos (by simp)]
        rw [List.length_singleton, Nat.pow_one, show dnum [d + 1] = d + 1 from by simp [dnum], Nat.add_mul, Nat.one_mul]
        exact ⟨Or.inl (by omega), under_lin uu (by omega) (by omega)⟩
      | false =>
        rw [if_neg (by simp)]
        rw [List.length_singleton, Nat.pow_one, show dnum [d] = d from by simp [dnum]]
        exact ⟨under_lin ud (by omega) (by omega), Or.inl (by omega)⟩
    | false =>
      cases hu : inN T (X + U * 10) cl with
      | true =>
        have uu := under_of hu
        rw [if_pos (by simp), if_pos (by simp)]
        rw [List.length_singleton, Nat.pow_one, show dnum [d + 1] = d + 1 from by simp [dnum], Nat.add_mul, Nat.one_mul]
        exact ⟨Or.inl (by omega), under_lin uu (by omega) (by omega)⟩
      | false =>
        rw [if_neg (by simp)]
        have nu := not_in hu
        obtain ⟨i1, i2⟩ := ih X (L * 10) (U * 10) (by omega) nu (by omega)
        rw [List.length_cons, dnum_cons]
        generalize dnum (digsF f X (L * 10) (U * 10) T cl) = n at *
        generalize (digsF f X (L * 10) (U * 10) T cl).length = k at *
        have e1 : V * 10 ^ (k + 1) = d * 10 ^ k * T + X * 10 ^ k := by
          rw [ten_next, ← dm, Nat.add_mul, Nat.mul_right_comm]
        have e2 : L * 10 ^ (k + 1) = L * 10 * 10 ^ k := ten_next L k
        have e3 : U * 10 ^ (k + 1) = U * 10 * 10 ^ k := ten_next U k
        have e4 : (d * 10 ^ k + n) * T = d * 10 ^ k * T + n * T := Nat.add_mul _ _ _
        rw [e1, e2, e3, e4]
        exact ⟨under_lin i1 (by omega) (by omega), under_lin i2 (by omega) (by omega)⟩

end Go.Proofs.YtpejebohekcfoabGreatDoor
/- Plain: the digits are read as the number. -/
namespace Go.Proofs.YtpejebohekcfoabGreatDoor
open Go.RowKit
set_option linter.unusedVariables false

theorem cross_lt {x y F G F' G' : Nat} (hG : 0 < G) (hG' : 0 < G') (e : F * G' = G * F') (h : x * F < y * G) : x * F' < y * G' := by
  have h1 : x * F * G' < y * G * G' := Nat.mul_lt_mul_of_pos_right h hG'
  have e1 : x * F * G' = x * F' * G := by rw [Nat.mul_assoc, e, Nat.mul_comm G F', ← Nat.mul_assoc]
  have e2 : y * G * G' = y * G' * G := Nat.mul_right_comm _ _ _
  rw [e1, e2] at h1
  exact Nat.lt_of_mul_lt_mul_right h1

theorem cross_gt {x y F G F' G' : Nat} (hG : 0 < G) (hG' : 0 < G') (e : F * G' = G * F') (h : y * G < x * F) : y * G' < x * F' := by
  have h1 : y * G * G' < x * F * G' := Nat.mul_lt_mul_of_pos_right h hG'
  have e1 : x * F * G' = x * F' * G := by rw [Nat.mul_assoc, e, Nat.mul_comm G F', ← Nat.mul_assoc]
  have e2 : y * G * G' = y * G' * G := Nat.mul_right_comm _ _ _
  rw [e1, e2] at h1
  exact Nat.lt_of_mul_lt_mul_right h1

theorem cross_eq {x y F G F' G' : Nat} (hG : 0 < G) (e : F * G' = G * F') (h : x * F = y * G) : x * F' = y * G' := by
  have e1 : x * F * G' = x * F' * G := by rw [Nat.mul_assoc, e, Nat.mul_comm G F', ← Nat.mul_assoc]
  have e2 : y * G * G' = y * G' * G := Nat.mul_right_comm _ _ _
  rw [h, e2] at e1
  exact (Nat.eq_of_mul_eq_mul_right hG e1).symm

theorem arM_man (a : Nat) : arM a = manR a := by
  unfold arM manR
  by_cases h : a < 4503599627370496
  · rw [if_pos (Nat.div_eq_of_lt h), if_pos h]
  · rw [if_neg (by omega), if_neg h]; omega

theorem arX_pla (a : Nat) : (arX a + 1074).toNat = plaR a := by
  unfold arX plaR
  split <;> omega

theorem val_up (a : Nat) : 2 * (valN a + valN (a + 1)) = (4 * arM a + 2) * 2 ^ plaR a := by
  rw [valN_next, valN_parts, ← arM_man, ← Nat.add_mul, ← Nat.mul_assoc]
  congr 1
  omega

theorem val_dn (s : Nat) : 2 * (valN s + valN (s + 1)) + arB (s + 1) * 2 ^ plaR (s + 1) = 4 * arM (s + 1) * 2 ^ plaR (s + 1) := by
  rw [valN_next, valN_parts s, ← Nat.add_mul, arM_man]
  unfold arB
  by_cases c : (s + 1) % 4503599627370496 = 0 ∧ 1 < (s + 1) / 4503599627370496
  · rw [if_pos c]
    have m1 : manR (s + 1) = 4503599627370496 := by unfold manR; rw [if_neg (by omega)]; omega
    have m2 : manR s = 9007199254740991 := by unfold manR; rw [if_neg (by omega)]; omega
    have p1 : plaR (s + 1) = plaR s + 1 := by unfold plaR; omega
    rw [m1, m2, p1, Nat.pow_succ]
    omega
  · rw [if_neg c]
    have pm : plaR (s + 1) = plaR s ∧ manR (s + 1) = manR s + 1 := by
      unfold plaR manR
      by_cases h : s + 1 < 4503599627370496
      · rw [if_pos h, if_pos (by omega)]; omega
      · rw [if_neg h]
        by_cases h2 : s < 4503599627370496
        · rw [if_pos h2]; omega
        · rw [if_neg h2]; omega
    rw [pm.1, pm.2, ← Nat.mul_assoc, ← Nat.add_mul]
    congr 1
    omega

end Go.Proofs.YtpejebohekcfoabGreatDoor
/- Plain: the digits are read as the number: the main step. -/
namespace Go.Proofs.YtpejebohekcfoabGreatDoor
open Go.RowKit
set_option linter.unusedVariables false

theorem near_digits (a : Nat) (h0 : 0 < a) (h1 : a < 9218868437227405312) (hN : 0 < dnum (shD a)) :
    nearQ (dnum (shD a) * 10 ^ (shP a - (shD a).length).toNat) (10 ^ ((shD a).length - shP a).toNat) = a := by
  obtain ⟨K, hK0, hK1⟩ : ∃ K : Nat, 1100 ≤ K ∧ K ≤ 1100 := ⟨1100, by omega, by omega⟩
  obtain ⟨q1, q2, q3, q4, q5, q6, q7⟩ := sh_bd a K h0 h1 hK0
  obtain ⟨t1, u1, l1⟩ := sh1_bd a K h0 h1 hK0
  have st := (sh_stop a h0 h1).1
  have T1p : 0 < shT1 a := Nat.mul_pos (Nat.mul_pos q6 (Nat.pow_pos (by decide))) (Nat.pow_pos (by decide))
  obtain ⟨lo, hi⟩ := digs_in (shT1 a) (shC a) T1p (shT1 a + 1) (shV1 a) (shL1 a) (shU1 a) (by omega) (not_in st) u1
  change Under (shV1 a * 10 ^ (shD a).length) (dnum (shD a) * shT1 a + shL1 a * 10 ^ (shD a).length) (shC a) at lo
  change Under (dnum (shD a) * shT1 a) (shV1 a * 10 ^ (shD a).length + shU1 a * 10 ^ (shD a).length) (shC a) at hi
  have xb := arX_bd a h1
  have bb := arB_bd a
  have mb := arM_bd a h0
  obtain ⟨u, hu⟩ : ∃ u : Nat, u = 1074 := ⟨_, rfl⟩
  obtain ⟨n, hn⟩ : ∃ n, dnum (shD a) = n := ⟨_, rfl⟩
  obtain ⟨k, hk⟩ : ∃ k, (shD a).length = k := ⟨_, rfl⟩
  rw [hn] at hN lo hi ⊢
  rw [hk] at lo hi ⊢
  -- both measures
  obtain ⟨F, hF⟩ : ∃ F, F = 2 ^ (-arX a).toNat * 10 ^ ((shG a).toNat + shJ a) := ⟨_, rfl⟩
  obtain ⟨G, hG⟩ : ∃ G, G = 2 ^ (arX a).toNat * 10 ^ ((-shG a).toNat + k) := ⟨_, rfl⟩
  obtain ⟨F', hF'⟩ : ∃ F', F' = 2 ^ u * 10 ^ (shP a - k).toNat := ⟨_, rfl⟩
  obtain ⟨G', hG'⟩ : ∃ G', G' = 2 ^ plaR a * 10 ^ ((k : Int) - shP a).toNat := ⟨_, rfl⟩
  have pG : 0 < G := by rw [hG]; exact Nat.mul_pos (Nat.two_pow_pos _) (Nat.pow_pos (by decide))
  have pG' : 0 < G' := by rw [hG']; exact Nat.mul_pos (Nat.two_pow_pos _) (Nat.pow_pos (by decide))
  have px := arX_pla a
  have e : F * G' = G * F' := by
    rw [hF, hG, hF', hG', Nat.mul_mul_mul_comm, Nat.mul_mul_mul_comm (2 ^ (arX a).toNat), ← Nat.pow_add, ← Nat.pow_add, ← Nat.pow_add, ← Nat.pow_add]
    congr 2
    · omega
    · unfold shP; omega
  have eT : n * shT1 a = 4 * n * F := by
    unfold shT1 shT0 shT
    rw [hF, Nat.pow_add]
    simp only [Nat.mul_assoc, Nat.mul_left_comm]
  have eV : shV1 a * 10 ^ k = 4 * arM a * G := by
    unfold shV1 shV
    rw [hG, Nat.pow_add]
    simp only [Nat.mul_assoc]
  have eL : shL1 a * 10 ^ k = arB a * G := by
    unfold shL1 shL
    rw [hG, Nat.pow_add]
    simp only [Nat.mul_assoc]
  have eU : shU1 a * 10 ^ k = 2 * G := by
    unfold shU1 shU
    rw [hG, Nat.pow_add]
    simp only [Nat.mul_assoc]
  rw [eT, eV, eL] at lo
  rw [eT, eV, eU, ← Nat.add_mul] at hi
  have sl : 4 * arM a * G = (4 * arM a - arB a) * G + arB a * G := by rw [← Nat.add_mul]; congr 1; omega
  have lo' : Under ((4 * arM a - arB a) * G) (4 * n * F) (shC a) := under_lin lo (by omega) (by omega)
  have up' : Under (4 * n * F') ((4 * arM a + 2) * G') (shC a) := by
    rcases hi with h | ⟨h, c⟩
    · exact Or.inl (cross_lt pG pG' e h)
    · exact Or.inr ⟨cross_eq pG e h, c⟩
  have dn' : Under ((4 * arM a - arB a) * G') (4 * n * F') (shC a) := by
    rcases lo' with h | ⟨h, c⟩
    · exact Or.inl (cross_gt pG pG' e h)
    · exact Or.inr ⟨(cross_eq pG e h.symm).symm, c⟩
  have par : shC a = true → a % 2 = 0 := by
    intro h
    unfold shC at h
    rw [decide_eq_true_eq, arM_man, manR_odd] at h
    exact h
  have eA : n * 10 ^ (shP a - k).toNat * 2 ^ u = n * F' := by rw [hF', Nat.mul_assoc, Nat.mul_comm (10 ^ _) (2 ^ u)]
  obtain ⟨W, hW⟩ : ∃ W, 10 ^ ((k : Int) - shP a).toNat = W := ⟨_, rfl⟩
  have pW : 0 < W := by rw [← hW]; exact Nat.pow_pos (by decide)
  have eG : ∀ y, y * G' = y * 2 ^ plaR a * W := by intro y; rw [hG', hW, Nat.mul_assoc]
  rw [hW]
  have nA : 0 < n * 10 ^ (shP a - k).toNat := Nat.mul_pos hN (Nat.pow_pos (by decide))
  have va : 4 * arM a * G' = 4 * (valN a * W) := by rw [eG, valN_parts, ← arM_man, Nat.mul_assoc 4 (arM a), Nat.mul_assoc 4]
  rcases Nat.le_total (valN a * W) (n * F') with c | c
  · refine near_up a _ W u hu h1 nA pW (by rw [eA]; exact c) ?_
    rw [eA]
    have vu : 2 * ((valN a + valN (a + 1)) * W) = (4 * arM a + 2) * G' := by rw [eG, ← val_up, ← Nat.mul_assoc]
    have q : 4 * n * F' = 4 * (n * F') := Nat.mul_assoc _ _ _
    rcases up' with h | ⟨h, cc⟩
    · left; omega
    · right; exact ⟨by omega, par cc⟩
  · obtain ⟨s, rfl⟩ : ∃ s, a = s + 1 := ⟨a - 1, by omega⟩
    refine near_dn s _ W u hu h1 nA pW (by rw [eA]; exact c) ?_
    rw [eA]
    have vd := val_dn s
    have vu : 2 * ((valN s + valN (s + 1)) * W) = (4 * arM (s + 1) - arB (s + 1)) * G' := by
      rw [eG, ← Nat.mul_assoc]
      congr 1
      rw [Nat.sub_mul]
      omega
    have q : 4 * n * F' = 4 * (n * F') := Nat.mul_assoc _ _ _
    rcases dn' with h | ⟨h, cc⟩
    · left; omega
    · right; have := par cc; exact ⟨by omega, by omega⟩

end Go.Proofs.YtpejebohekcfoabGreatDoor
/- Plain: how many digits, and where the point lies. -/
namespace Go.Proofs.YtpejebohekcfoabGreatDoor
open Go.RowKit
set_option linter.unusedVariables false

theorem logs : ((List.range 1300).all fun n => decide (10 ^ (n * 78913 / 262144) ≤ 2 ^ n) && decide (2 ^ n ≤ 10 ^ ((n * 78913 + 262143) / 262144))) = true := by decide +kernel

theorem log_le (n : Nat) (h : n < 1300) : 10 ^ (n * 78913 / 262144) ≤ 2 ^ n ∧ 2 ^ n ≤ 10 ^ ((n * 78913 + 262143) / 262144) := by
  have := List.all_eq_true.1 logs n (List.mem_range.2 h)
  simp only [Bool.and_eq_true, decide_eq_true_eq] at this
  exact this

theorem bitl_ge (n : Nat) (h : 0 < n) : 0 < bitl n ∧ 2 ^ (bitl n - 1) ≤ n ∧ n < 2 ^ bitl n := by
  unfold bitl
  rw [if_neg (by omega)]
  exact ⟨by omega, by rw [Nat.add_sub_cancel]; exact Nat.log2_self_le (by omega), Nat.lt_log2_self⟩

/-- the whole is first too small -/
theorem guess_low (a : Nat) (h0 : 0 < a) (h1 : a < 9218868437227405312) : shT0 a ≤ shV1 a := by
  obtain ⟨q1, q2, q3, q4, q5, q6, q7⟩ := sh_bd a 1100 h0 h1 (by omega)
  have hb := sh_bits a h0 h1
  have V0 : 0 < shV a := by
    unfold shV
    exact Nat.mul_pos (by have := arM_bd a h0; omega) (Nat.two_pow_pos _)
  obtain ⟨v1, v2, v3⟩ := bitl_ge (shV a) V0
  obtain ⟨t1, t2, t3⟩ := bitl_ge (shT a) q6
  unfold shT0 shV1
  have hG : shG a = ((bitl (shV a) : Int) - (bitl (shT a) : Int) - 1) * 78913 / 262144 := rfl
  generalize shG a = G at *
  generalize bitl (shV a) = b at *
  generalize bitl (shT a) = c at *
  by_cases g : c + 1 ≤ b
  · obtain ⟨n, hn⟩ : ∃ n, b = c + 1 + n := ⟨b - (c + 1), by omega⟩
    have l := (log_le n (by omega)).1
    have eg : G.toNat = n * 78913 / 262144 := by omega
    have en : (-G).toNat = 0 := by omega
    rw [eg, en, Nat.pow_zero, Nat.mul_one]
    have s1 : shT a * 10 ^ (n * 78913 / 262144) ≤ 2 ^ c * 2 ^ n := Nat.mul_le_mul (Nat.le_of_lt t3) l
    rw [← Nat.pow_add] at s1
    have s2 : 2 ^ (c + n) = 2 ^ (b - 1) := by congr 1; omega
    omega
  · obtain ⟨n, hn⟩ : ∃ n, c + 1 = b + n := ⟨c + 1 - b, by omega⟩
    have l := (log_le n (by omega)).2
    have eg : (-G).toNat = (n * 78913 + 262143) / 262144 := by omega
    have en : G.toNat = 0 := by omega
    rw [eg, en, Nat.pow_zero, Nat.mul_one]
    have s1 : 2 ^ (b - 1) * 2 ^ n ≤ shV a * 10 ^ ((n * 78913 + 262143) / 262144) := Nat.mul_le_mul v2 l
    rw [← Nat.pow_add] at s1
    have s2 : 2 ^ (b - 1 + n) = 2 ^ c := by congr 1; omega
    omega

theorem shU1_V (a : Nat) : shV1 a = 2 * arM a * shU1 a := by
  unfold shV1 shU1 shV shU
  rw [show 4 * arM a = 2 * arM a * 2 from by omega]
  simp only [Nat.mul_assoc]

/-- the whole is no more than ten times too great -/
theorem whole_near (a : Nat) (h0 : 0 < a) (h1 : a < 9218868437227405312) : 0 < shJ a ∧ shT1 a ≤ 10 * (shV1 a + shU1 a) := by
  have g := guess_low a h0 h1
  obtain ⟨t1, u1, l1⟩ := sh1_bd a 1100 h0 h1 (by omega)
  obtain ⟨st, al⟩ := sh_stop a h0 h1
  have n := not_in st
  have j : 0 < shJ a := by
    refine Nat.pos_of_ne_zero fun e => ?_
    unfold shT1 at n
    rw [e, Nat.pow_zero, Nat.mul_one] at n
    omega
  refine ⟨j, ?_⟩
  have h2 := in_le (al (shJ a - 1) (by omega))
  obtain ⟨i, hi⟩ : ∃ i, shJ a = i + 1 := ⟨shJ a - 1, by omega⟩
  unfold shT1
  rw [hi] at h2 ⊢
  rw [Nat.add_sub_cancel] at h2
  rw [Nat.pow_succ, ← Nat.mul_assoc]
  omega

theorem shD_18 (a : Nat) (h0 : 0 < a) (h1 : a < 9218868437227405312) : (shD a).length ≤ 18 := by
  obtain ⟨j, w⟩ := whole_near a h0 h1
  obtain ⟨t1, u1, l1⟩ := sh1_bd a 1100 h0 h1 (by omega)
  have m := arM_bd a h0
  rw [shU1_V] at w
  refine digsF_len (shT1 a) (shC a) 17 _ _ _ _ ?_
  have e : 10 * (2 * arM a * shU1 a + shU1 a) = (20 * arM a + 10) * shU1 a := by
    rw [Nat.mul_add, ← Nat.mul_assoc, ← Nat.mul_assoc, Nat.add_mul]
  rw [e] at w
  have s : (20 * arM a + 10) * shU1 a < 10 ^ (17 + 1) * shU1 a := Nat.mul_lt_mul_of_pos_right (by omega) u1
  rw [Nat.mul_comm (10 ^ (17 + 1))] at s
  omega

theorem dnum_pos (a : Nat) (h0 : 0 < a) (h1 : a < 9218868437227405312) : 0 < dnum (shD a) := by
  obtain ⟨q1, q2, q3, q4, q5, q6, q7⟩ := sh_bd a 1100 h0 h1 (by omega)
  obtain ⟨t1, u1, l1⟩ := sh1_bd a 1100 h0 h1 (by omega)
  have m := arM_bd a h0
  have st := (sh_stop a h0 h1).1
  have T1p : 0 < shT1 a := Nat.mul_pos (Nat.mul_pos q6 (Nat.pow_pos (by decide))) (Nat.pow_pos (by decide))
  obtain ⟨lo, hi⟩ := digs_in (shT1 a) (shC a) T1p (shT1 a + 1) (shV1 a) (shL1 a) (shU1 a) (by omega) (not_in st) u1
  change Under (shV1 a * 10 ^ (shD a).length) (dnum (shD a) * shT1 a + shL1 a * 10 ^ (shD a).length) (shC a) at lo
  refine Nat.pos_of_ne_zero fun e => ?_
  rw [e, Nat.zero_mul, Nat.zero_add] at lo
  have p : 0 < 10 ^ (shD a).length := Nat.pow_pos (by decide)
  have v : shL1 a < shV1 a := by
    rw [shU1_V]
    have s : 2 * shU1 a ≤ 2 * arM a * shU1 a := Nat.mul_le_mul_right _ (by omega)
    omega
  have := Nat.mul_lt_mul_of_pos_right v p
  rcases lo with h | ⟨h, _⟩ <;> omega

end Go.Proofs.YtpejebohekcfoabGreatDoor
/- Plain: where the point lies; what the digits' texts are read as. -/
namespace Go.Proofs.YtpejebohekcfoabGreatDoor
open Go.RowKit
set_option linter.unusedVariables false

theorem big_lo : (2 : Nat) ^ 1077 < 10 ^ 331 := by decide +kernel
theorem big_hi : (2 : Nat) ^ 1026 < 10 ^ 310 := by decide +kernel

theorem shP_range (a : Nat) (h0 : 0 < a) (h1 : a < 9218868437227405312) : -330 ≤ shP a ∧ shP a ≤ 310 := by
  obtain ⟨j, w⟩ := whole_near a h0 h1
  obtain ⟨q1, q2, q3, q4, q5, q6, q7⟩ := sh_bd a 1100 h0 h1 (by omega)
  have n := not_in (sh_stop a h0 h1).1
  have m := arM_bd a h0
  have x := arX_bd a h1
  have bl := big_lo
  have bh := big_hi
  have hP : shP a = shG a + (shJ a : Int) := rfl
  have V0 : 0 < shV a := by
    unfold shV
    exact Nat.mul_pos (by omega) (Nat.two_pow_pos _)
  obtain ⟨t, htt⟩ : ∃ t : Nat, t = 331 := ⟨_, rfl⟩
  obtain ⟨z, hz⟩ : ∃ z : Nat, z = 1077 := ⟨_, rfl⟩
  rw [← htt, ← hz] at bl
  obtain ⟨y, hy⟩ : ∃ y : Nat, y = 310 := ⟨_, rfl⟩
  obtain ⟨v, hv⟩ : ∃ v : Nat, v = 1026 := ⟨_, rfl⟩
  rw [← hy, ← hv] at bh
  constructor
  · refine Classical.byContradiction fun c => ?_
    obtain ⟨d, hd⟩ : ∃ d : Nat, (-shG a).toNat = (shG a).toNat + shJ a + (t + d) := ⟨(-shG a).toNat - ((shG a).toNat + shJ a + t), by omega⟩
    have e1 : shV1 a = shV a * 10 ^ (t + d) * 10 ^ ((shG a).toNat + shJ a) := by
      unfold shV1
      rw [hd, Nat.pow_add 10 ((shG a).toNat + shJ a), Nat.mul_assoc, Nat.mul_comm (10 ^ (t + d))]
    have e2 : shT1 a = shT a * 10 ^ ((shG a).toNat + shJ a) := by unfold shT1 shT0; rw [Nat.pow_add, Nat.mul_assoc]
    have h : shV a * 10 ^ (t + d) ≤ shT a := by
      refine Nat.le_of_mul_le_mul_right ?_ (Nat.pow_pos (n := (shG a).toNat + shJ a) (by decide : 0 < 10))
      rw [← e1, ← e2]; omega
    have h3 : 10 ^ t ≤ 10 ^ (t + d) := Nat.pow_le_pow_right (by decide) (by omega)
    have h4 : 10 ^ (t + d) ≤ shV a * 10 ^ (t + d) := Nat.le_mul_of_pos_left _ V0
    have h5 : shT a < 2 ^ z := two_lt (c := 3) (by decide) (by omega)
    generalize (10 : Nat) ^ t = A at *
    generalize (2 : Nat) ^ z = B at *
    omega
  · refine Classical.byContradiction fun c => ?_
    obtain ⟨d, hd⟩ : ∃ d : Nat, (shG a).toNat + shJ a = (-shG a).toNat + (1 + (y + d)) := ⟨(shG a).toNat + shJ a - ((-shG a).toNat + 311), by omega⟩
    have e2 : shT1 a = 10 * (shT a * 10 ^ (y + d)) * 10 ^ (-shG a).toNat := by
      unfold shT1 shT0
      rw [Nat.mul_assoc, ← Nat.pow_add, hd, Nat.pow_add 10 (-shG a).toNat, Nat.pow_add 10 1, Nat.pow_one]
      simp only [Nat.mul_assoc, Nat.mul_left_comm, Nat.mul_comm]
    have e1 : 10 * (shV1 a + shU1 a) = 10 * (shV a + shU a) * 10 ^ (-shG a).toNat := by unfold shV1 shU1; rw [← Nat.add_mul, Nat.mul_assoc]
    rw [e1, e2] at w
    have h := Nat.le_of_mul_le_mul_right w (Nat.pow_pos (by decide))
    have h3 : 10 ^ y ≤ 10 ^ (y + d) := Nat.pow_le_pow_right (by decide) (by omega)
    have h4 : 10 ^ (y + d) ≤ shT a * 10 ^ (y + d) := Nat.le_mul_of_pos_left _ q6
    have h5 : shV a + shU a < 2 ^ v := by
      have e : shV a + shU a = (4 * arM a + 2) * 2 ^ (arX a).toNat := by unfold shV shU; rw [← Nat.add_mul]
      rw [e]
      exact two_lt (c := 55) (by omega) (by omega)
    generalize (10 : Nat) ^ y = A at *
    generalize (2 : Nat) ^ v = B at *
    omega

theorem decN_txt (ds : List Nat) (h : ∀ d ∈ ds, d ≤ 200) : decN (txt ds) = dnum ds := by
  have key : ∀ (ds : List Nat) (n : Nat), (∀ d ∈ ds, d ≤ 200) → (txt ds).foldl (fun n c => 10 * n + (c.toNat - 48)) n = ds.foldl (fun n d => 10 * n + d) n := by
    intro ds
    induction ds with
    | nil => intro n _; rfl
    | cons d ds ih =>
      intro n h
      show List.foldl _ _ (dB d :: txt ds) = _
      rw [List.foldl_cons, List.foldl_cons, dB_nat d (h d (by simp)), ih _ (fun x hx => h x (by simp [hx]))]
      congr 1
      omega
  exact key ds 0 h

theorem digs_le9 (T : Nat) (cl : Bool) (hT : 0 < T) : ∀ (f V L U : Nat), inN T (V + U) cl = false → 0 < U → ∀ d ∈ digsF f V L U T cl, d ≤ 9 := by
  intro f
  induction f with
  | zero => intro V L U h hU d hd; rw [digsF] at hd; simp at hd
  | succ f ih =>
    intro V L U h hU
    have n := not_in h
    have dm := Nat.div_add_mod (V * 10) T
    have ml := Nat.mod_lt (V * 10) hT
    rw [Nat.mul_comm T] at dm
    have d9 : V * 10 / T ≤ 9 := by
      rcases Nat.lt_or_ge (V * 10 / T) 10 with c | c
      · omega
      · have := Nat.mul_le_mul_right T c
        omega
    have nine : inN T (V * 10 % T + U * 10) cl = true → V * 10 / T ≤ 8 := by
      intro hu
      rcases Nat.lt_or_ge (V * 10 / T) 9 with c | c
      · omega
      · exfalso
        have := Nat.mul_le_mul_right T c
        rcases under_of hu with g | ⟨g, gc⟩
        · omega
        · unfold inN at h
          rw [gc] at h
          simp at h
          omega
    rw [digsF]
    generalize V * 10 / T = q at *
    generalize V * 10 % T = X at *
    split
    · intro d hd
      rw [List.mem_singleton] at hd
      subst hd
      split
      · rename_i h1 h2
        have hu : inN T (X + U * 10) cl = true := by
          cases hx : inN T (X + U * 10) cl with
          | true => rfl
          | false => rw [hx] at h1 h2; simp at h1 h2; rw [h1] at h2; cases h2
        have := nine hu
        omega
      · omega
    · rename_i h1
      simp only [Bool.or_eq_true, not_or, Bool.not_eq_true] at h1
      intro d hd
      rcases List.mem_cons.1 hd with rfl | hd
      · exact d9
      · exact ih X (L * 10) (U * 10) h1.2 (by omega) d hd

theorem shD_le9 (a : Nat) (h0 : 0 < a) (h1 : a < 9218868437227405312) : ∀ d ∈ shD a, d ≤ 9 := by
  obtain ⟨q1, q2, q3, q4, q5, q6, q7⟩ := sh_bd a 1100 h0 h1 (by omega)
  obtain ⟨t1, u1, l1⟩ := sh1_bd a 1100 h0 h1 (by omega)
  have T1p : 0 < shT1 a := Nat.mul_pos (Nat.mul_pos q6 (Nat.pow_pos (by decide))) (Nat.pow_pos (by decide))
  exact digs_le9 (shT1 a) (shC a) T1p _ _ _ _ (sh_stop a h0 h1).1 u1

theorem shD_head (a : Nat) (h0 : 0 < a) (h1 : a < 9218868437227405312) : ∃ d r, shD a = d :: r ∧ 0 < d := by
  obtain ⟨j, w⟩ := whole_near a h0 h1
  have dp := dnum_pos a h0 h1
  obtain ⟨q1, q2, q3, q4, q5, q6, q7⟩ := sh_bd a 1100 h0 h1 (by omega)
  obtain ⟨t1, u1, l1⟩ := sh1_bd a 1100 h0 h1 (by omega)
  have T1p : 0 < shT1 a := Nat.mul_pos (Nat.mul_pos q6 (Nat.pow_pos (by decide))) (Nat.pow_pos (by decide))
  obtain ⟨st, al⟩ := sh_stop a h0 h1
  have iv := under_of (al (shJ a - 1) (by omega))
  have e10 : shT1 a = 10 * (shT0 a * 10 ^ (shJ a - 1)) := by
    obtain ⟨i, hi⟩ : ∃ i, shJ a = i + 1 := ⟨shJ a - 1, by omega⟩
    unfold shT1
    rw [hi, Nat.add_sub_cancel, Nat.pow_succ, Nat.mul_left_comm 10, Nat.mul_comm 10 (10 ^ i)]
  have sd : shD a = digsF (shT1 a + 1) (shV1 a) (shL1 a) (shU1 a) (shT1 a) (shC a) := rfl
  rw [digsF] at sd
  have dm := Nat.div_add_mod (shV1 a * 10) (shT1 a)
  have up : shV1 a * 10 / shT1 a = 0 → inN (shT1 a) (shV1 a * 10 % shT1 a + shU1 a * 10) (shC a) = true := by
    intro hq
    rw [hq, Nat.mul_zero, Nat.zero_add] at dm
    rw [dm]
    unfold inN
    rcases iv with g | ⟨g, gc⟩
    · rw [decide_eq_true (by omega)]; rfl
    · rw [gc, decide_eq_true (by omega : shT1 a = _)]; simp
  generalize shV1 a * 10 / shT1 a = q at *
  generalize shV1 a * 10 % shT1 a = X at *
  rcases Nat.eq_zero_or_pos q with hq | hq
  · rw [up hq] at sd
    rw [if_pos (by simp)] at sd
    rw [sd] at dp ⊢
    exact ⟨_, [], rfl, by simpa [dnum] using dp⟩
  · split at sd
    · rw [sd]
      refine ⟨_, [], rfl, ?_⟩
      split <;> omega
    · rw [sd]
      exact ⟨q, _, rfl, hq⟩

end Go.Proofs.YtpejebohekcfoabGreatDoor
/- Plain: what Print writes of a number that is not whole is read as that number. -/
namespace Go.Proofs.YtpejebohekcfoabGreatDoor
open Go.RowKit
set_option linter.unusedVariables false

/-- what may stand in a number's text -/
def okD (z : UInt8) : Bool := okC z || z == 43

theorem okC_okD (z : UInt8) (h : okC z = true) : okD z = true := by unfold okD; rw [h]; rfl
theorem dig_okD (z : UInt8) (h : isDig z = true) : okD z = true := okC_okD z (dig_okC z h)
theorem okD_not (z x : UInt8) (h : okD z = true) (hx : okD x = false) : z ≠ x := by
  rintro rfl; rw [h] at hx; cases hx

theorem cutX_noneD (l : List UInt8) (h : ∀ z ∈ l, okD z = true) : (cutX l).2 = false ∧ Lib.hasPrefix l [48, 120] = false := by
  have k : ∀ d, okD d = false → Lib.hasPrefix l [48, d] = false := by
    intro d hd
    unfold Lib.hasPrefix
    cases l with
    | nil => rfl
    | cons a l =>
      cases l with
      | nil => simp [List.isPrefixOf]
      | cons b l =>
        have := okD_not b d (h b (by simp)) hd
        simp only [List.isPrefixOf]
        rw [beq_eq_false_iff_ne.2 (Ne.symm this)]
        simp
  refine ⟨?_, k 120 (by decide)⟩
  unfold cutX
  rw [if_neg (by rw [k 120 (by decide)]; simp)]
  exact k 88 (by decide)

theorem nbD (z : UInt8) (hz : okD z = true) : blankS.contains z = false := by
  have h9 := okD_not z 9 hz (by decide)
  have h10 := okD_not z 10 hz (by decide)
  have h32 := okD_not z 32 hz (by decide)
  unfold blankS
  simp [h9, h10, h32]

/-- a text without blanks at its end -/
theorem trimR_ok (l : List UInt8) (h : ∀ z ∈ l, okD z = true) : Lib.trimRightS l blankS = l := by
  rcases List.eq_nil_or_concat l with rfl | ⟨m, y, rfl⟩
  · rfl
  · rw [List.concat_eq_append] at *
    have := trimR_app m [] blankS y (nbD y (h y (by simp)))
    rw [this]
    rfl

theorem read_ok (x : UInt8) (m : List UInt8) (hx : isDig x = true) (h : ∀ z ∈ x :: m, okD z = true) : readI (x :: m) = (unsI (x :: m) : Nat) := by
  have t : Lib.trimS (x :: m) blankS = x :: m := by
    rw [trimS_cons x _ blankS (nbD x (h x (by simp))), trimR_ok m (fun z hz => h z (by simp [hz]))]
  unfold readI
  rw [t]
  unfold coreI
  have n43 := dig_not x hx 43 (by decide)
  have n45 := dig_not x hx 45 (by decide)
  rw [if_neg (by simp), if_neg (by rw [(cutX_noneD _ h).1]; simp), if_neg (by simp [n43]), if_neg (by simp [n45])]

/-- digits, a point and digits, and what stands behind them -/
theorem uns_any (W F R : List UInt8) (dot : Bool) (e : Int) (hW : ∀ z ∈ W, isDig z = true) (hF : ∀ z ∈ F, isDig z = true) (hn : W ≠ []) (hd : dot = false → F = [])
    (hR : R = [] ∧ e = 0 ∨ (R ≠ [] ∧ (R.head? = some 101 ∨ R.head? = some 69) ∧ expP R = (e, true))) :
    unsI (W ++ ((if dot = true then 46 :: F else []) ++ R)) = valD (sigD (W ++ F)) (sigP W (W ++ F) e) ∧
    scanOk (W ++ ((if dot = true then 46 :: F else []) ++ R)) = true ∧ sW (W ++ ((if dot = true then 46 :: F else []) ++ R)) = W ∧ sF (W ++ ((if dot = true then 46 :: F else []) ++ R)) = F ∧ sDot (W ++ ((if dot = true then 46 :: F else []) ++ R)) = dot ∧ scanX (W ++ ((if dot = true then 46 :: F else []) ++ R)) = e := by
  have dr : ∀ (A B : List UInt8), (∀ z ∈ A, isDig z = true) → (B = [] ∨ ∃ c r, B = c :: r ∧ isDig c = false) → digs (A ++ B) = A ∧ rst (A ++ B) = B := by
    intro A B hA hB
    rcases hB with rfl | ⟨c, r, rfl, hc⟩
    · rw [List.append_nil]
      exact ⟨tw_all A hA, dw_all A hA⟩
    · exact digs_app A c r hA hc
  have rR : R = [] ∨ ∃ c r, R = c :: r ∧ isDig c = false ∧ c ≠ 46 := by
    rcases hR with ⟨h, _⟩ | ⟨h, hh, _⟩
    · exact Or.inl h
    · cases R with
      | nil => exact absurd rfl h
      | cons c r =>
        refine Or.inr ⟨c, r, rfl, ?_⟩
        simp at hh
        rcases hh with rfl | rfl <;> decide
  have rR' : R = [] ∨ ∃ c r, R = c :: r ∧ isDig c = false := by
    rcases rR with h | ⟨c, r, h1, h2, _⟩
    · exact Or.inl h
    · exact Or.inr ⟨c, r, h1, h2⟩
  have parts : ∀ l, l = W ++ ((if dot = true then 46 :: F else []) ++ R) → sW l = W ∧ sF l = F ∧ sR l = R ∧ sDot l = dot := by
    intro l hl
    subst hl
    cases dot with
    | true =>
      obtain ⟨d1, d2⟩ := dr W (46 :: (F ++ R)) hW (Or.inr ⟨46, _, rfl, by decide⟩)
      obtain ⟨d3, d4⟩ := dr F R hF rR'
      rw [if_pos rfl, List.cons_append]
      unfold sW sF sR sDot
      rw [d1, d2]
      simp [d3, d4]
    | false =>
      have f0 := hd rfl
      subst f0
      obtain ⟨d1, d2⟩ := dr W R hW rR'
      rw [if_neg (by decide), List.nil_append]
      unfold sW sF sR sDot
      rw [d1, d2]
      have h46 : R.head? ≠ some 46 := by
        rcases rR with rfl | ⟨c, r, rfl, _, hc⟩
        · simp
        · simp [hc]
      simp [h46]
  obtain ⟨p1, p2, p3, p4⟩ := parts _ rfl
  have so : scanOk (W ++ ((if dot = true then 46 :: F else []) ++ R)) = true := by
    unfold scanOk
    rw [p1, p2, p3, if_neg (by simp [hn])]
    rcases hR with ⟨h, _⟩ | ⟨h, _, hx⟩
    · rw [if_pos h]
    · rw [if_neg h, hx]
  have sx : scanX (W ++ ((if dot = true then 46 :: F else []) ++ R)) = e := by
    unfold scanX
    rw [p3]
    rcases hR with ⟨h, he⟩ | ⟨h, _, hx⟩
    · rw [if_pos h, he]
    · rw [if_neg h, hx]
  refine ⟨?_, so, p1, p2, p4, sx⟩
  unfold unsI
  rw [if_neg, if_pos so, p1, p2, sx]
  cases W with
  | nil => exact absurd rfl hn
  | cons a W =>
    have := hW a (by simp)
    rw [List.cons_append]
    exact not_inf a _ (dig_not a this 73 (by decide))

end Go.Proofs.YtpejebohekcfoabGreatDoor
/- Plain: digits with their point, as Print lays them, are read as their value. -/
namespace Go.Proofs.YtpejebohekcfoabGreatDoor
open Go.RowKit
set_option linter.unusedVariables false

theorem expP_plus (e : Int) (h0 : 0 ≤ e) (he : e.natAbs ≤ 1099511627776) : expP (101 :: 43 :: Lib.itoa e) = (e, true) := by
  have i : Lib.itoa e = Lib.decDigits e.toNat := by unfold Lib.itoa; rw [if_neg (by omega)]
  have hd := dd_dig e.toNat
  have k1 : digs (Lib.decDigits e.toNat) = Lib.decDigits e.toNat := tw_all _ hd
  have k2 : rst (Lib.decDigits e.toNat) = [] := dw_all _ hd
  have k3 : clampF 0 (Lib.decDigits e.toNat) = e.toNat := by
    have := clamp_eq (Lib.decDigits e.toNat) 0 (by have := dd_val e.toNat; unfold decN at this; rw [this]; omega)
    rw [this]; exact dd_val e.toNat
  unfold expP
  rw [if_pos (by simp), List.tail_cons, i]
  have u1 : unsign (43 :: Lib.decDigits e.toNat) = Lib.decDigits e.toNat := by unfold unsign; simp
  have s : signOf (43 :: Lib.decDigits e.toNat) = 1 := by unfold signOf; simp
  rw [u1, k1, k2, k3, s, if_neg (by simp [dd_ne])]
  congr 1
  omega

theorem expL_read (n : Int) (h : n.natAbs ≤ 100000) : expP (expL n) = (n, true) ∧ expL n ≠ [] ∧ (expL n).head? = some 101 ∧ ∀ z ∈ expL n, okD z = true := by
  unfold expL
  split
  · refine ⟨expP_itoa 101 (Or.inl rfl) n (by omega), by simp, by simp, ?_⟩
    intro z hz
    rcases List.mem_cons.1 hz with rfl | hz
    · decide
    · exact okC_okD z (itoa_ok n z hz)
  · refine ⟨expP_plus n (by omega) (by omega), by simp, by simp, ?_⟩
    intro z hz
    rcases List.mem_cons.1 hz with rfl | hz
    · decide
    · rcases List.mem_cons.1 hz with rfl | hz
      · decide
      · exact okC_okD z (itoa_ok n z hz)

/-- both readings of a text of digits, a point and digits, and what stands behind them -/
theorem both_read (W F R : List UInt8) (dot : Bool) (e : Int) (hW : ∀ z ∈ W, isDig z = true) (hF : ∀ z ∈ F, isDig z = true) (hn : W ≠ []) (hd : dot = false → F = [])
    (hR : R = [] ∧ e = 0 ∨ (R ≠ [] ∧ (R.head? = some 101 ∨ R.head? = some 69) ∧ expP R = (e, true))) (hRo : ∀ z ∈ R, okD z = true) (hl : litB W F dot = true) :
    readI (W ++ ((if dot = true then 46 :: F else []) ++ R)) = (valD (sigD (W ++ F)) (sigP W (W ++ F) e) : Nat) ∧
    litI (W ++ ((if dot = true then 46 :: F else []) ++ R)) = (((valD (sigD (W ++ F)) (sigP W (W ++ F) e) : Nat) : Int), true) := by
  obtain ⟨u1, u2, u3, u4, u5, u6⟩ := uns_any W F R dot e hW hF hn hd hR
  have ok : ∀ z ∈ W ++ ((if dot = true then 46 :: F else []) ++ R), okD z = true := by
    refine mem3 (fun z hz => dig_okD z (hW z hz)) (mem3 ?_ hRo)
    intro z hz
    split at hz
    · rcases List.mem_cons.1 hz with rfl | hz
      · decide
      · exact dig_okD z (hF z hz)
    · simp at hz
  constructor
  · rw [← u1]
    cases W with
    | nil => exact absurd rfl hn
    | cons x W =>
      rw [List.cons_append] at ok ⊢
      exact read_ok x _ (hW x (by simp)) ok
  · unfold litI
    rw [if_neg (by rw [(cutX_noneD _ ok).2]; simp), u3, u4, u5, u6, if_pos ⟨u2, hl⟩]

theorem valD_zeros (D : List UInt8) (p : Int) (n : Nat) (hD : D ≠ []) : valD (D ++ List.replicate n 48) p = valD D p := by
  unfold valD
  have e : decN (D ++ List.replicate n 48) = decN D * 10 ^ n := by
    induction n with
    | zero => simp
    | succ n ih =>
      rw [List.replicate_succ', ← List.append_assoc, decN_snoc, ih, Nat.pow_succ, Nat.mul_assoc]
      have : (48 : UInt8).toNat - 48 = 0 := by decide
      omega
  have l : ((D ++ List.replicate n 48).length : Int) = D.length + n := by simp
  rw [e, l]
  by_cases c1 : p < -330
  · rw [if_pos (Or.inr c1), if_pos (Or.inr c1)]
  · have n1 : ¬ (D ++ List.replicate n 48 = [] ∨ p < -330) := by
      rintro (h | h)
      · exact hD (List.append_eq_nil_iff.1 h).1
      · exact c1 h
    have n2 : ¬ (D = [] ∨ p < -330) := by
      rintro (h | h)
      · exact hD h
      · exact c1 h
    rw [if_neg n1, if_neg n2]
    by_cases c2 : 310 < p
    · rw [if_pos c2, if_pos c2]
    · rw [if_neg c2, if_neg c2]
      refine nearQ_cross _ _ _ _ (Nat.pow_pos (by decide)) (Nat.pow_pos (by decide)) ?_
      rw [Nat.mul_assoc, Nat.mul_assoc, Nat.mul_assoc, ← Nat.pow_add, ← Nat.pow_add, ← Nat.pow_add]
      congr 2
      omega

theorem nodz_top (x : UInt8) (r : List UInt8) (hx : x ≠ 48) : nodz (x :: r) = x :: r := by
  unfold nodz Lib.trimLeftB
  rw [List.dropWhile_cons, if_neg (by simp [hx])]

theorem nodz_zeros (n : Nat) (l : List UInt8) : nodz (List.replicate n 48 ++ l) = nodz l := by
  unfold nodz Lib.trimLeftB
  rw [dw_app (List.replicate n 48) l (by intro c hc; rw [(List.mem_replicate.1 hc).2]; rfl)]

theorem lay_read (x : UInt8) (r : List UInt8) (P : Int) (hD : ∀ z ∈ x :: r, isDig z = true) (hx : x ≠ 48) (hl : (x :: r).length ≤ 100) (p0 : -50000 ≤ P) (p1 : P ≤ 50000) :
    readI (layI (x :: r) P) = (valD (x :: r) P : Nat) ∧ litI (layI (x :: r) P) = (((valD (x :: r) P : Nat) : Int), true) := by
  have hx1 := hD x (by simp)
  have hr : ∀ z ∈ r, isDig z = true := fun z hz => hD z (by simp [hz])
  have sD : sigD (x :: r) = x :: r := by rw [sigD_small _ (by omega), nodz_top x r hx]
  unfold layI
  by_cases c : 21 < P ∨ P < -5
  · rw [if_pos c]
    obtain ⟨e1, e2, e3, e4⟩ := expL_read (P - 1) (by omega)
    by_cases l1 : (x :: r).length = 1
    · rw [if_pos l1]
      have r0 : r = [] := by cases r with | nil => rfl | cons y r => simp at l1
      subst r0
      have b := both_read [x] [] (expL (P - 1)) false (P - 1) hD (by simp) (by simp) (fun _ => rfl) (Or.inr ⟨e2, Or.inl e3, e1⟩) e4 (by unfold litB; simp)
      have sp : sigP [x] ([x] ++ []) (P - 1) = P := by unfold sigP; rw [List.append_nil, nodz_top x [] hx]; simp; omega
      rw [sp, List.append_nil, sD] at b
      exact b
    · rw [if_neg l1]
      have rn : r ≠ [] := by rintro rfl; simp at l1
      have b := both_read [x] r (expL (P - 1)) true (P - 1) (by intro z hz; rw [List.mem_singleton] at hz; subst hz; exact hx1) hr (by simp) (by simp) (Or.inr ⟨e2, Or.inl e3, e1⟩) e4 (by unfold litB; simp [rn])
      have sp : sigP [x] ([x] ++ r) (P - 1) = P := by
        unfold sigP
        rw [List.singleton_append, nodz_top x r hx]
        simp; omega
      have sd2 : sigD ([x] ++ r) = x :: r := sD
      rw [sp, sd2, if_pos rfl] at b
      rw [List.append_assoc]
      exact b
  · rw [if_neg c]
    by_cases c1 : P ≤ 0
    · rw [if_pos c1]
      have b := both_read [48] (List.replicate (-P).toNat 48 ++ (x :: r)) [] true 0 (by intro z hz; rw [List.mem_singleton] at hz; subst hz; decide)
        (mem3 (fun z hz => by rw [(List.mem_replicate.1 hz).2]; decide) hD) (by simp) (by simp) (Or.inl ⟨rfl, rfl⟩) (by simp) (by unfold litB; simp)
      have nz : nodz ([48] ++ (List.replicate (-P).toNat 48 ++ (x :: r))) = x :: r := by
        rw [show [48] ++ (List.replicate (-P).toNat 48 ++ (x :: r)) = List.replicate ((-P).toNat + 1) 48 ++ (x :: r) from by rw [List.replicate_succ]; rfl, nodz_zeros, nodz_top x r hx]
      have sd : sigD ([48] ++ (List.replicate (-P).toNat 48 ++ (x :: r))) = x :: r := by rw [sigD_small _ (by simp at hl ⊢; omega), nz]
      have sp : sigP [48] ([48] ++ (List.replicate (-P).toNat 48 ++ (x :: r))) 0 = P := by
        unfold sigP
        rw [nz]
        simp; omega
      rw [sp, sd, if_pos rfl, List.append_nil] at b
      exact b
    · rw [if_neg c1]
      by_cases c2 : P < ((x :: r).length : Nat)
      · rw [if_pos c2]
        obtain ⟨k, rfl⟩ : ∃ k : Nat, P = k := ⟨P.toNat, by omega⟩
        rw [show ((k : Int)).toNat = k from by omega]
        have tl : ((x :: r).take k).length = k := by rw [List.length_take]; omega
        have dl : 0 < ((x :: r).drop k).length := by rw [List.length_drop]; omega
        have hd : ((x :: r).take k).head? = some x := by
          obtain ⟨j, rfl⟩ : ∃ j, k = j + 1 := ⟨k - 1, by omega⟩
          rfl
        have b := both_read ((x :: r).take k) ((x :: r).drop k) [] true 0 (fun z hz => hD z (List.mem_of_mem_take hz)) (fun z hz => hD z (List.mem_of_mem_drop hz))
          (by intro e; rw [e] at tl; simp at tl; omega) (by simp) (Or.inl ⟨rfl, rfl⟩) (by simp) (by
            unfold litB
            rw [if_neg (by intro e; rw [e] at tl; simp at tl; omega), if_neg (by rintro ⟨_, e⟩; rw [e] at dl; simp at dl), hd]
            simp [hx])
        have sp : sigP ((x :: r).take k) ((x :: r).take k ++ (x :: r).drop k) 0 = k := by
          unfold sigP
          rw [List.take_append_drop, nodz_top x r hx, tl]
          omega
        rw [sp, List.take_append_drop, sD, if_pos rfl, List.append_nil] at b
        exact b
      · rw [if_neg c2]
        have b := both_read ((x :: r) ++ List.replicate (P - ((x :: r).length : Nat)).toNat 48) [] [] false 0 (mem3 hD (fun z hz => by rw [(List.mem_replicate.1 hz).2]; decide)) (by simp) (by simp) (fun _ => rfl) (Or.inl ⟨rfl, rfl⟩) (by simp) (by
            unfold litB
            rw [if_neg (by simp), if_neg (by simp)]
            simp [hx])
        have nz : nodz ((x :: r) ++ List.replicate (P - ((x :: r).length : Nat)).toNat 48) = (x :: r) ++ List.replicate (P - ((x :: r).length : Nat)).toNat 48 := by rw [List.cons_append]; exact nodz_top x _ hx
        have ln : ((x :: r) ++ List.replicate (P - ((x :: r).length : Nat)).toNat 48).length = P.toNat := by rw [List.length_append, List.length_replicate]; omega
        have sd : sigD ((x :: r) ++ List.replicate (P - ((x :: r).length : Nat)).toNat 48) = (x :: r) ++ List.replicate (P - ((x :: r).length : Nat)).toNat 48 := by rw [sigD_small _ (by rw [ln]; omega), nz]
        have sp : sigP ((x :: r) ++ List.replicate (P - ((x :: r).length : Nat)).toNat 48) ((x :: r) ++ List.replicate (P - ((x :: r).length : Nat)).toNat 48) 0 = P := by
          unfold sigP
          rw [nz, ln]
          omega
        rw [if_neg (by decide), List.append_nil, List.append_nil, sp, sd, valD_zeros (x :: r) P _ (by simp)] at b
        exact b

end Go.Proofs.YtpejebohekcfoabGreatDoor
/- Plain: what is written of a number above 0 that is not whole is read as that number. -/
namespace Go.Proofs.YtpejebohekcfoabGreatDoor
open Go.RowKit
set_option linter.unusedVariables false

theorem frac_back (a : Nat) (h0 : 0 < a) (h1 : a < 9218868437227405312) :
    readI (layI (txt (shD a)) (shP a)) = (a : Int) ∧ litI (layI (txt (shD a)) (shP a)) = ((a : Int), true) := by
  obtain ⟨d, r, hd, dp⟩ := shD_head a h0 h1
  have le9 := shD_le9 a h0 h1
  have l18 := shD_18 a h0 h1
  have pr := shP_range a h0 h1
  have nd := near_digits a h0 h1 (dnum_pos a h0 h1)
  have dv := decN_txt (shD a) (fun x hx => by have := le9 x hx; omega)
  have tl : (txt (shD a)).length = (shD a).length := txt_length _
  have ti : ∀ z ∈ txt (shD a), isDig z = true := by
    intro z hz
    unfold txt at hz
    obtain ⟨x, hx, rfl⟩ := List.mem_map.1 hz
    have := le9 x hx
    exact digit_is x (by omega)
  have v : valD (txt (shD a)) (shP a) = a := by
    unfold valD
    have ne : txt (shD a) ≠ [] := by rw [hd]; simp [txt]
    rw [if_neg (by rintro (h | h); exact ne h; omega), if_neg (by omega), dv, tl]
    exact nd
  have e : txt (shD a) = dB d :: txt r := by rw [hd]; rfl
  rw [e] at ti v tl ⊢
  have x48 : dB d ≠ 48 := by
    intro c
    have := congrArg UInt8.toNat c
    have d9 := le9 d (by rw [hd]; simp)
    rw [dB_nat d (by omega)] at this
    simp at this
    omega
  have b := lay_read (dB d) (txt r) (shP a) ti x48 (by omega) (by omega) (by omega)
  rw [v] at b
  exact b

theorem near_whole (n : Nat) (h : 0 < n) : nearQ n 1 = rung n 0 := by
  rw [nearQ_fine n 1 54 h (by decide) (by decide)]
  unfold rungQ stq
  rw [Nat.div_one, Nat.mod_one, if_pos rfl, Nat.add_zero]
  have e : 2 * (n * 2 ^ 54) = n * 2 ^ 55 := by omega
  rw [e, rung_scale]
  congr 1

theorem whole_read (n : Nat) (h : 0 < n) (hl : (Lib.decDigits n).length ≤ 300) :
    readI (Lib.decDigits n) = (rung n 0 : Nat) ∧ litI (Lib.decDigits n) = (((rung n 0 : Nat) : Int), true) ∧ unsI (Lib.decDigits n) = rung n 0 := by
  obtain ⟨c, r, hd, hc⟩ := dd_head n h
  have dg := dd_dig n
  have ne := dd_ne n
  have lb : litB (Lib.decDigits n) [] false = true := by
    unfold litB
    rw [if_neg ne, if_neg (by simp), hd]
    simp [hc]
  have b := both_read (Lib.decDigits n) [] [] false 0 dg (by simp) ne (fun _ => rfl) (Or.inl ⟨rfl, rfl⟩) (by simp) lb
  have u := (uns_any (Lib.decDigits n) [] [] false 0 dg (by simp) ne (fun _ => rfl) (Or.inl ⟨rfl, rfl⟩)).1
  have nz : nodz (Lib.decDigits n) = Lib.decDigits n := by rw [hd]; exact nodz_top c r hc
  have v : valD (sigD (Lib.decDigits n ++ [])) (sigP (Lib.decDigits n) (Lib.decDigits n ++ []) 0) = rung n 0 := by
    rw [List.append_nil, sigD_small _ (by omega), nz]
    have sp : sigP (Lib.decDigits n) (Lib.decDigits n) 0 = ((Lib.decDigits n).length : Int) := by unfold sigP; rw [nz]; omega
    rw [sp]
    unfold valD
    rw [if_neg (by rintro (h' | h'); exact ne h'; omega), if_neg (by omega), dd_val, show (((Lib.decDigits n).length : Int) - ((Lib.decDigits n).length : Nat)).toNat = 0 from by omega, Nat.pow_zero, Nat.mul_one]
    exact near_whole n h
  rw [v] at b u
  rw [if_neg (by decide), List.append_nil, List.append_nil] at b u
  exact ⟨b.1, b.2, u⟩

end Go.Proofs.YtpejebohekcfoabGreatDoor
namespace Go.Proofs.YtpejebohekcfoabGreatDoor
open Go.RowKit
set_option linter.unusedVariables false

theorem rung_zero (e : Int) : rung 0 e = 0 := by simp [rung]

theorem whole_back (a n : Int) (h0 : 0 ≤ a) (h1 : a < 18446744073709551616) (h : wholeI a = (n, true)) : fromI n = a ∧ -9007199254740992 < n ∧ n < 9007199254740992 := by
  unfold wholeI at h
  by_cases z : a = 0
  · rw [if_pos z] at h
    have : n = 0 := by simpa using (congrArg Prod.fst h).symm
    subst this z
    exact ⟨by decide +kernel, by omega, by omega⟩
  rw [if_neg z] at h
  by_cases c : kindI a ≠ 1 ∨ 0 < expI a ∨ truncI a ≠ a
  · rw [if_pos c] at h
    exact absurd (congrArg Prod.snd h) (by simp)
  rw [if_neg c] at h
  have hn := congrArg Prod.fst h
  dsimp only at hn
  have k1 : kindI a = 1 := Classical.byContradiction fun x => c (Or.inl x)
  have ex : expI a ≤ 0 := Classical.byContradiction fun x => c (Or.inr (Or.inl (by omega)))
  have tr : truncI a = a := Classical.byContradiction fun x => c (Or.inr (Or.inr x))
  clear c h
  obtain ⟨_, f, fe⟩ := read_fin a h0 h1 k1
  obtain ⟨f1, f2, f3, f4, _⟩ := f
  have zs := size_small (manI a) (expI a) (by omega) (by omega) ex
  obtain ⟨z0, z1⟩ := size_bd (manI a) (expI a) (by omega) (by omega)
  have key : a = sgnI a + ((rung (sizeI (manI a) (expI a)).toNat 0 : Nat) : Int) := by
    by_cases d : 0 ≤ expI a
    · have d0 : expI a = 0 := by omega
      rw [d0] at fe ⊢
      have e : sizeI (manI a) 0 = manI a := by
        unfold sizeI
        rw [if_neg (by omega), show (0 : Int).toNat = 0 from rfl, Int.pow_zero, Int.mul_one]
        omega
      rw [e, sgn_sb a h0 h1]
      exact fe
    · unfold truncI at tr
      rw [if_neg (by omega), if_neg (by simp [k1]; omega)] at tr
      unfold roundI at tr
      exact tr.symm
  generalize sizeI (manI a) (expI a) = S at *
  clear fe tr
  refine ⟨?_, ?_, ?_⟩
  · unfold fromI
    by_cases s : sgnI a = 0
    · rw [if_pos s] at hn
      subst hn
      rw [s] at key
      rw [if_neg (by omega)]
      omega
    · have s' : sgnI a = 9223372036854775808 := by have := sgn_cases a h1; omega
      rw [if_neg s] at hn
      subst hn
      rw [s'] at key
      by_cases p : S = 0
      · exfalso
        subst p
        rw [show (0 : Int).toNat = 0 from rfl, rung_zero] at key
        have : a = 9223372036854775808 := by omega
        rw [this] at k1
        exact absurd k1 (by decide +kernel)
      · rw [if_pos (by omega), show (- -S).toNat = S.toNat from by omega]
        exact key.symm
  · split at hn <;> omega
  · split at hn <;> omega

/-- the text of a number above 0 -/
theorem pos_back (b : Nat) (h0 : 0 < b) (h1 : b < 9218868437227405312) :
    ∃ x m, printQ (b : Int) = x :: m ∧ isDig x = true ∧ (∀ z ∈ x :: m, okD z = true) ∧ unsI (x :: m) = b ∧ readI (x :: m) = (b : Int) ∧ litI (x :: m) = ((b : Int), true) := by
  have kf := kind_fld (b : Int) (by omega) (by omega)
  have rb : rankI (b : Int) = b := by unfold rankI; rw [if_pos (by omega)]
  have k2 : kindI (b : Int) < 2 := kf.1.2 (by rw [rb]; omega)
  cases hw : (wholeI (b : Int)).2 with
  | true =>
    obtain ⟨n, hn⟩ : ∃ n, wholeI (b : Int) = (n, true) := ⟨(wholeI (b : Int)).1, by rw [← hw]⟩
    obtain ⟨f, n0, n1⟩ := whole_back b n (by omega) (by omega) hn
    have np : 0 < n := by
      rcases Int.lt_trichotomy n 0 with c | c | c
      · unfold fromI at f
        rw [if_pos c] at f
        omega
      · subst c
        unfold fromI at f
        rw [if_neg (by omega)] at f
        have : rung (0 : Int).toNat 0 = 0 := by decide +kernel
        omega
      · exact c
    obtain ⟨k, rfl⟩ : ∃ k : Nat, n = k := ⟨n.toNat, by omega⟩
    unfold fromI at f
    rw [if_neg (by omega), show ((k : Int)).toNat = k from by omega] at f
    have hl := dd_len k (by omega)
    obtain ⟨r1, r2, r3⟩ := whole_read k (by omega) (by omega)
    have fb : rung k 0 = b := by omega
    rw [fb] at r1 r2 r3
    have pq : printQ (b : Int) = Lib.decDigits k := by
      unfold printQ
      rw [if_pos hw, hn]
      show Lib.itoa (k : Int) = _
      unfold Lib.itoa
      rw [if_neg (by omega)]
      rfl
    rw [pq]
    have dg := dd_dig k
    obtain ⟨c, r, hd, hc⟩ := dd_head k (by omega)
    rw [hd] at dg r1 r2 r3 ⊢
    exact ⟨c, r, rfl, dg c (by simp), fun z hz => dig_okD z (dg z hz), r3, r1, r2⟩
  | false =>
    have z0 : rankI 0 = 0 := by decide +kernel
    have pq : printQ (b : Int) = layI (txt (shD b)) (shP b) := by
      unfold printQ
      rw [if_neg (by rw [hw]; decide), if_neg (by omega), if_neg (by omega), if_neg]
      · rfl
      · unfold equalI
        rw [rb, z0]
        simp
        intro _ _
        omega
    obtain ⟨r1, r2⟩ := frac_back b h0 h1
    rw [pq]
    obtain ⟨d, r, hd, dp⟩ := shD_head b h0 h1
    have le9 := shD_le9 b h0 h1
    have tD : txt (shD b) = dB d :: txt r := by rw [hd]; rfl
    have dd9 := le9 d (by rw [hd]; simp)
    have hx : isDig (dB d) = true := digit_is d (by omega)
    have ti : ∀ z ∈ txt (shD b), isDig z = true := by
      intro z hz
      unfold txt at hz
      obtain ⟨x, hx, rfl⟩ := List.mem_map.1 hz
      have := le9 x hx
      exact digit_is x (by omega)
    have sb := shP_bd b h0 h1
    -- all that stands in it may stand there, and it opens with a digit
    have shape : ∃ x m, layI (txt (shD b)) (shP b) = x :: m ∧ isDig x = true ∧ ∀ z ∈ x :: m, okD z = true := by
      have ok0 : ∀ z ∈ txt (shD b), okD z = true := fun z hz => dig_okD z (ti z hz)
      have okz : ∀ n : Nat, ∀ z ∈ List.replicate n (48 : UInt8), okD z = true := fun n z hz => by rw [(List.mem_replicate.1 hz).2]; decide
      obtain ⟨_, _, _, eo⟩ := expL_read (shP b - 1) (by omega)
      have okall : ∀ z ∈ layI (txt (shD b)) (shP b), okD z = true := by
        unfold layI
        have tk : ∀ k, ∀ z ∈ (txt (shD b)).take k, okD z = true := fun k z hz => ok0 z (List.mem_of_mem_take hz)
        have dk : ∀ k, ∀ z ∈ (46 : UInt8) :: (txt (shD b)).drop k, okD z = true := fun k z hz => by
          rcases List.mem_cons.1 hz with rfl | hz
          · decide
          · exact ok0 z (List.mem_of_mem_drop hz)
        split
        · refine mem3 ?_ eo
          split
          · exact tk 1
          · exact mem3 (tk 1) (dk 1)
        · split
          · refine mem3 (mem3 ?_ (okz _)) ok0
            intro z hz
            simp at hz
            rcases hz with rfl | rfl <;> decide
          · split
            · exact mem3 (tk _) (dk _)
            · exact mem3 ok0 (okz _)
      have hd1 : ∃ x m, layI (txt (shD b)) (shP b) = x :: m ∧ isDig x = true := by
        unfold layI
        rw [tD]
        split
        · split
          · exact ⟨dB d, _, rfl, hx⟩
          · exact ⟨dB d, _, rfl, hx⟩
        · split
          · exact ⟨48, _, rfl, by decide⟩
          · split
            · rename_i c1 c2 c3
              obtain ⟨j, hj⟩ : ∃ j, (shP b).toNat = j + 1 := ⟨(shP b).toNat - 1, by omega⟩
              rw [hj]
              exact ⟨dB d, _, rfl, hx⟩
            · exact ⟨dB d, _, rfl, hx⟩
      obtain ⟨x, m, e, hx'⟩ := hd1
      rw [e] at okall
      exact ⟨x, m, e, hx', okall⟩
    obtain ⟨x, m, e, hx', ok⟩ := shape
    rw [e] at r1 r2 ⊢
    have ru := read_ok x m hx' ok
    exact ⟨x, m, rfl, hx', ok, by omega, r1, r2⟩

/-- a sign ahead of such a text -/
theorem minus_read (x : UInt8) (m : List UInt8) (hx : isDig x = true) (h : ∀ z ∈ x :: m, okD z = true) : readI (45 :: x :: m) = negI (unsI (x :: m) : Nat) ∧ litI (45 :: x :: m) = (0, false) := by
  constructor
  · unfold readI
    rw [trimS_cons 45 _ blankS (by decide), trimR_ok _ h, core_minus]
  · have ok : ∀ z ∈ 45 :: x :: m, okD z = true := by
      intro z hz
      rcases List.mem_cons.1 hz with rfl | hz
      · decide
      · exact h z hz
    have d45 : isDig 45 = false := by decide
    have w : sW (45 :: x :: m) = [] := by unfold sW digs; rw [List.takeWhile_cons, if_neg (by rw [d45]; simp)]
    have q : rst (45 :: x :: m) = 45 :: x :: m := by unfold rst; rw [List.dropWhile_cons, if_neg (by rw [d45]; simp)]
    have f : sF (45 :: x :: m) = [] := by unfold sF; rw [q, if_neg (by simp)]
    have so : scanOk (45 :: x :: m) = false := by unfold scanOk; rw [w, f, if_pos ⟨rfl, rfl⟩]
    unfold litI
    rw [if_neg (by rw [(cutX_noneD _ ok).2]; simp), if_neg (by rw [so]; simp)]

end Go.Proofs.YtpejebohekcfoabGreatDoor
