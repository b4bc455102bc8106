/- The walks of layout: all of it. -/
import Derived.Test.YtpejebohekcfoaaGreatDoorH2
import Derived.Test.YtpejebohekcfoaaGreatDoorSS
import Derived.Deep.RegionWith
import Derived.Test.YtpejebohekcfoaaGreatDoorG5
import Derived.Test.YtpejebohekcfoaaGreatDoorP1
namespace Go.Proofs.YtpejebohekcfoaaGreatDoor
open Go.RowKit
set_option linter.unusedVariables false

set_option maxHeartbeats 2000000 in
theorem layout_big (ds : List UInt8) (p : Int) (L n : Nat) (w : World) (hL : ds.length = L) (hp : 0 < p) (hp1 : p ≤ 21) (hpc : (L : Int) ≤ p) (hn : p - (L : Int) = n)
    (hmf : ∀ (fn : Fn) (first cap : Array Value) (w : World), (Instr.makeFunc fn first cap).run Tryz.prog w = .ok (.func fn first cap) w) :
    Calls Tryz.prog 30 #[.string (bs ds), .int .i64 p] w fun e w' => e = .returned (.string (bs (ds ++ List.replicate n 48))) ∧ Below w.heap.size w w' := by
  have S0 := lt_start w
  have zX : (bs ds).size = L := by rw [bs_size]; exact hL
  go_enter Tryz.func30, Tryz.ntmps30
  go_wp2_with fail
  refine (lt_put ds S0.out (by simp; omega)).mono ?_
  rintro e w1 ⟨rfl, H1⟩
  clear S0
  go_wp2_with fail
  refine (lt_noughts n (by omega) (by simp; omega) H1.out).mono ?_
  rintro e w2 ⟨rfl, H2⟩
  clear H1
  go_wp2_with fail
  refine (lt_str H2.out).mono ?_
  rintro e w4 ⟨rfl, hb4⟩
  go_wp2
  go_ret
  exact ⟨rfl, hb4⟩

theorem ext_bs (l : List UInt8) (a b : Nat) : (bs l).extract a b = bs ((l.drop a).take (b - a)) := by
  have h := ext_list l a b
  apply ByteArray.ext
  apply Array.ext'
  rw [h]
  simp [bs]

set_option maxHeartbeats 4000000 in
theorem layout_mid (ds : List UInt8) (k L : Nat) (Y Z V : ByteArray) (w : World) (hL : ds.length = L) (hL1 : L ≤ 10000) (hp : 0 < k) (hp1 : k ≤ 21) (hpc : k < L)
    (hY : (bs ds).extract 0 k = Y) (hZ : (bs ds).extract k L = Z) (zY : Y.size = k) (zZ : Z.size = L - k)
    (pt : ∀ w1 : World, Hid (Lt w w1 w.heap.size w.heap.size (w.heap.size + 1) []) → Calls Tryz.prog 57 #[.string (Y ++ ByteArray.mk #[46] ++ Z), .pointer (some ⟨w.heap.size, 0, none⟩)] w1 fun e w' => e = .returned (.tuple #[]) ∧ Hid (Lt w w' w.heap.size w.heap.size (w.heap.size + 1) (ds.take k ++ 46 :: ds.drop k)))
    (hmf : ∀ (fn : Fn) (first cap : Array Value) (w : World), (Instr.makeFunc fn first cap).run Tryz.prog w = .ok (.func fn first cap) w) :
    Calls Tryz.prog 30 #[.string (bs ds), .int .i64 (k : Int)] w fun e w' => e = .returned (.string (bs (ds.take k ++ 46 :: ds.drop k))) ∧ Below w.heap.size w w' := by
  have S0 := lt_start w
  have zX : (bs ds).size = L := by rw [bs_size]; exact hL
  generalize hX : bs ds = X at *
  go_enter Tryz.func30, Tryz.ntmps30
  go_wp2_with fail
  have S1 : Hid (Lt w ((w.alloc (.cells #[.pointer none, .slice none 0 0] 73)).alloc (.cells #[.func (Fn.func 57) #[] #[.pointer (some ⟨w.heap.size, 0, none⟩)]] 74)).drew w.heap.size w.heap.size (w.heap.size + 1) []) := ⟨S0.out.bd, S0.out.put, S0.out.below.drew, S0.out.lt⟩
  have pt' := pt _ S1
  have d0 := lt_cell S1
  clear pt S0 S1
  go_region_with (first | (go_at_call 57; refine pt'.mono ?_; rintro e w1 ⟨rfl, H1⟩))
  all_goals (go_wp2_with fail; refine (lt_str H1.out).mono ?_; rintro e w4 ⟨rfl, hb4⟩; go_wp2; go_ret; exact ⟨rfl, hb4⟩)

end Go.Proofs.YtpejebohekcfoaaGreatDoor
/- The walks of layout with an exponent. -/
namespace Go.Proofs.YtpejebohekcfoaaGreatDoor
open Go.RowKit
set_option linter.unusedVariables false

theorem Lt.drewH {w0 wr : World} {B bt bp : Nat} {l : List UInt8} (h : Hid (Lt w0 wr B bt bp l)) : Hid (Lt w0 wr.drew B bt bp l) := ⟨h.out.bd, h.out.put, h.out.below.drew, h.out.lt⟩

/-- an exponent's text -/
def expL (n : Int) : List UInt8 := if n < 0 then 101 :: Lib.itoa n else 101 :: 43 :: Lib.itoa n

theorem exponent_any (n : Int) (w : World) (h0 : -100000 ≤ n) (h1 : n ≤ 100000) (ht : Pow10 w) :
    Calls Tryz.prog 60 #[.int .i64 n] w fun e w' => e = .returned (.string (bs (expL n))) ∧ Below w.heap.size w w' := by
  have c := itoa_c n (by omega) (by omega) w ht
  have l := itoa_len n (by omega)
  have z : (bs (Lib.itoa n)).size = (Lib.itoa n).length := bs_size _
  clear ht
  unfold expL
  by_cases hn : n < 0
  · rw [if_pos hn, show bs (101 :: Lib.itoa n) = bs [101] ++ bs (Lib.itoa n) from by rw [bs_app]; rfl]
    generalize (Lib.itoa n).length = m at *
    generalize bs (Lib.itoa n) = X at *
    go_enter Tryz.func60, Tryz.ntmps60
    go_wp2_with (go_at_call 22; refine c.mono ?_; rintro e w1 ⟨rfl, hb⟩)
    go_ret
    exact ⟨rfl, hb⟩
  · rw [if_neg hn, show bs (101 :: 43 :: Lib.itoa n) = bs [101, 43] ++ bs (Lib.itoa n) from by rw [bs_app]; rfl]
    generalize (Lib.itoa n).length = m at *
    generalize bs (Lib.itoa n) = X at *
    go_enter Tryz.func60, Tryz.ntmps60
    go_wp2_with (go_at_call 22; refine c.mono ?_; rintro e w1 ⟨rfl, hb⟩)
    go_ret
    exact ⟨rfl, hb⟩

set_option maxHeartbeats 4000000 in
theorem layout_e1_hi (ds : List UInt8) (p : Int) (L : Nat) (Y Z E : ByteArray) (E0 T1 T2 : List UInt8) (hT1 : T1.length ≤ 20000) (hT2 : T2.length ≤ 20000) (w : World) (hL : ds.length = L) (hL1 : L ≤ 10000) (hc : L = 1) (hp : 21 < p) (hp0 : -100000 ≤ p) (hp1 : p ≤ 100000)
    (hY : (bs ds).extract 0 1 = Y) (hZ : (bs ds).extract 1 L = Z) (zY : Y.size = 1) (zZ : Z.size = L - 1)
    (q1 : ∀ w1 : World, Hid (Lt w w1 w.heap.size w.heap.size (w.heap.size + 1) []) → Calls Tryz.prog 57 #[.string Y, .pointer (some ⟨w.heap.size, 0, none⟩)] w1 fun e w' => e = .returned (.tuple #[]) ∧ Hid (Lt w w' w.heap.size w.heap.size (w.heap.size + 1) T1))
    (q2 : ∀ w1 : World, Hid (Lt w w1 w.heap.size w.heap.size (w.heap.size + 1) T1) → Calls Tryz.prog 57 #[.string (ByteArray.mk #[46] ++ Z), .pointer (some ⟨w.heap.size, 0, none⟩)] w1 fun e w' => e = .returned (.tuple #[]) ∧ Hid (Lt w w' w.heap.size w.heap.size (w.heap.size + 1) T2))
    (ex : ∀ (w1 : World) (l : List UInt8), Hid (Lt w w1 w.heap.size w.heap.size (w.heap.size + 1) l) → Calls Tryz.prog 60 #[.int .i64 (p - 1)] w1 fun e w' => e = .returned (.string E) ∧ w'.cell? ⟨w.heap.size + 1, 0, none⟩ = some (.func (Fn.func 57) #[] #[.pointer (some ⟨w.heap.size, 0, none⟩)]) ∧ Hid (Lt w w' w.heap.size w.heap.size (w.heap.size + 1) l))
    (q3 : ∀ (w1 : World) (l : List UInt8), Hid (Lt w w1 w.heap.size w.heap.size (w.heap.size + 1) l) → l.length ≤ 20000 → Calls Tryz.prog 57 #[.string E, .pointer (some ⟨w.heap.size, 0, none⟩)] w1 fun e w' => e = .returned (.tuple #[]) ∧ Hid (Lt w w' w.heap.size w.heap.size (w.heap.size + 1) (l ++ E0)))
    (hmf : ∀ (fn : Fn) (first cap : Array Value) (w : World), (Instr.makeFunc fn first cap).run Tryz.prog w = .ok (.func fn first cap) w) :
    Calls Tryz.prog 30 #[.string (bs ds), .int .i64 p] w fun e w' => e = .returned (.string (bs (T1 ++ E0))) ∧ Below w.heap.size w w' := by
  have S0 := lt_start w
  have zX : (bs ds).size = L := by rw [bs_size]; exact hL
  have hw : IntKind.i64.wrap (p - 1) = p - 1 := by rw [IntKind.wrap_i64]; omega
  generalize hX : bs ds = X at *
  go_enter Tryz.func30, Tryz.ntmps30
  go_wp2_with fail
  have S1 := Lt.drewH S0
  have d0 := lt_cell S1
  have q1' := q1 _ S1
  clear S0 S1
  go_region_with (first | (go_at_call 57; refine q1'.mono ?_; rintro e w1 ⟨rfl, H1⟩))
  all_goals (clear q1' d0)
  all_goals (go_wp2_with fail)
  all_goals (have S2 := Lt.drewH H1; have d1 := lt_cell S2; have ex' := ex _ _ S2)
  all_goals (clear S2)
  all_goals (go_region_with (first | (go_at_call 60; refine ex'.mono ?_; rintro e w2 ⟨rfl, d2, H2⟩) | (go_at_call 57; refine (q3 _ _ H2 (by assumption)).mono ?_; rintro e w3 ⟨rfl, H3⟩)))
  all_goals (go_wp2_with fail; refine (lt_str H3.out).mono ?_; rintro e w4 ⟨rfl, hb4⟩; go_wp2; go_ret; exact ⟨rfl, hb4⟩)

set_option maxHeartbeats 4000000 in
theorem layout_en_hi (ds : List UInt8) (p : Int) (L : Nat) (Y Z E : ByteArray) (E0 T1 T2 : List UInt8) (hT1 : T1.length ≤ 20000) (hT2 : T2.length ≤ 20000) (w : World) (hL : ds.length = L) (hL1 : L ≤ 10000) (hc : 1 < L) (hp : 21 < p) (hp0 : -100000 ≤ p) (hp1 : p ≤ 100000)
    (hY : (bs ds).extract 0 1 = Y) (hZ : (bs ds).extract 1 L = Z) (zY : Y.size = 1) (zZ : Z.size = L - 1)
    (q1 : ∀ w1 : World, Hid (Lt w w1 w.heap.size w.heap.size (w.heap.size + 1) []) → Calls Tryz.prog 57 #[.string Y, .pointer (some ⟨w.heap.size, 0, none⟩)] w1 fun e w' => e = .returned (.tuple #[]) ∧ Hid (Lt w w' w.heap.size w.heap.size (w.heap.size + 1) T1))
    (q2 : ∀ w1 : World, Hid (Lt w w1 w.heap.size w.heap.size (w.heap.size + 1) T1) → Calls Tryz.prog 57 #[.string (ByteArray.mk #[46] ++ Z), .pointer (some ⟨w.heap.size, 0, none⟩)] w1 fun e w' => e = .returned (.tuple #[]) ∧ Hid (Lt w w' w.heap.size w.heap.size (w.heap.size + 1) T2))
    (ex : ∀ (w1 : World) (l : List UInt8), Hid (Lt w w1 w.heap.size w.heap.size (w.heap.size + 1) l) → Calls Tryz.prog 60 #[.int .i64 (p - 1)] w1 fun e w' => e = .returned (.string E) ∧ w'.cell? ⟨w.heap.size + 1, 0, none⟩ = some (.func (Fn.func 57) #[] #[.pointer (some ⟨w.heap.size, 0, none⟩)]) ∧ Hid (Lt w w' w.heap.size w.heap.size (w.heap.size + 1) l))
    (q3 : ∀ (w1 : World) (l : List UInt8), Hid (Lt w w1 w.heap.size w.heap.size (w.heap.size + 1) l) → l.length ≤ 20000 → Calls Tryz.prog 57 #[.string E, .pointer (some ⟨w.heap.size, 0, none⟩)] w1 fun e w' => e = .returned (.tuple #[]) ∧ Hid (Lt w w' w.heap.size w.heap.size (w.heap.size + 1) (l ++ E0)))
    (hmf : ∀ (fn : Fn) (first cap : Array Value) (w : World), (Instr.makeFunc fn first cap).run Tryz.prog w = .ok (.func fn first cap) w) :
    Calls Tryz.prog 30 #[.string (bs ds), .int .i64 p] w fun e w' => e = .returned (.string (bs (T2 ++ E0))) ∧ Below w.heap.size w w' := by
  have S0 := lt_start w
  have zX : (bs ds).size = L := by rw [bs_size]; exact hL
  have hw : IntKind.i64.wrap (p - 1) = p - 1 := by rw [IntKind.wrap_i64]; omega
  generalize hX : bs ds = X at *
  go_enter Tryz.func30, Tryz.ntmps30
  go_wp2_with fail
  have S1 := Lt.drewH S0
  have d0 := lt_cell S1
  have q1' := q1 _ S1
  clear S0 S1
  go_region_with (first | (go_at_call 57; refine q1'.mono ?_; rintro e w1 ⟨rfl, H1⟩))
  all_goals (clear q1' d0)
  all_goals (go_wp2_with fail)
  all_goals (have S2 := Lt.drewH H1; have d1 := lt_cell S2; have q2' := q2 _ S2)
  all_goals (clear S2)
  all_goals (go_region_with (first | (go_at_call 57; refine q2'.mono ?_; rintro e w5 ⟨rfl, H5⟩)))
  all_goals (clear q2' d1)
  all_goals (go_wp2_with fail)
  all_goals (have S2 := Lt.drewH H5; have d1 := lt_cell S2; have ex' := ex _ _ S2)
  all_goals (clear S2)
  all_goals (go_region_with (first | (go_at_call 60; refine ex'.mono ?_; rintro e w2 ⟨rfl, d2, H2⟩) | (go_at_call 57; refine (q3 _ _ H2 (by assumption)).mono ?_; rintro e w3 ⟨rfl, H3⟩)))
  all_goals (go_wp2_with fail; refine (lt_str H3.out).mono ?_; rintro e w4 ⟨rfl, hb4⟩; go_wp2; go_ret; exact ⟨rfl, hb4⟩)

set_option maxHeartbeats 4000000 in
theorem layout_e1_lo (ds : List UInt8) (p : Int) (L : Nat) (Y Z E : ByteArray) (E0 T1 T2 : List UInt8) (hT1 : T1.length ≤ 20000) (hT2 : T2.length ≤ 20000) (w : World) (hL : ds.length = L) (hL1 : L ≤ 10000) (hc : L = 1) (hp : p < -5) (hp0 : -100000 ≤ p) (hp1 : p ≤ 100000)
    (hY : (bs ds).extract 0 1 = Y) (hZ : (bs ds).extract 1 L = Z) (zY : Y.size = 1) (zZ : Z.size = L - 1)
    (q1 : ∀ w1 : World, Hid (Lt w w1 w.heap.size w.heap.size (w.heap.size + 1) []) → Calls Tryz.prog 57 #[.string Y, .pointer (some ⟨w.heap.size, 0, none⟩)] w1 fun e w' => e = .returned (.tuple #[]) ∧ Hid (Lt w w' w.heap.size w.heap.size (w.heap.size + 1) T1))
    (q2 : ∀ w1 : World, Hid (Lt w w1 w.heap.size w.heap.size (w.heap.size + 1) T1) → Calls Tryz.prog 57 #[.string (ByteArray.mk #[46] ++ Z), .pointer (some ⟨w.heap.size, 0, none⟩)] w1 fun e w' => e = .returned (.tuple #[]) ∧ Hid (Lt w w' w.heap.size w.heap.size (w.heap.size + 1) T2))
    (ex : ∀ (w1 : World) (l : List UInt8), Hid (Lt w w1 w.heap.size w.heap.size (w.heap.size + 1) l) → Calls Tryz.prog 60 #[.int .i64 (p - 1)] w1 fun e w' => e = .returned (.string E) ∧ w'.cell? ⟨w.heap.size + 1, 0, none⟩ = some (.func (Fn.func 57) #[] #[.pointer (some ⟨w.heap.size, 0, none⟩)]) ∧ Hid (Lt w w' w.heap.size w.heap.size (w.heap.size + 1) l))
    (q3 : ∀ (w1 : World) (l : List UInt8), Hid (Lt w w1 w.heap.size w.heap.size (w.heap.size + 1) l) → l.length ≤ 20000 → Calls Tryz.prog 57 #[.string E, .pointer (some ⟨w.heap.size, 0, none⟩)] w1 fun e w' => e = .returned (.tuple #[]) ∧ Hid (Lt w w' w.heap.size w.heap.size (w.heap.size + 1) (l ++ E0)))
    (hmf : ∀ (fn : Fn) (first cap : Array Value) (w : World), (Instr.makeFunc fn first cap).run Tryz.prog w = .ok (.func fn first cap) w) :
    Calls Tryz.prog 30 #[.string (bs ds), .int .i64 p] w fun e w' => e = .returned (.string (bs (T1 ++ E0))) ∧ Below w.heap.size w w' := by
  have S0 := lt_start w
  have zX : (bs ds).size = L := by rw [bs_size]; exact hL
  have hw : IntKind.i64.wrap (p - 1) = p - 1 := by rw [IntKind.wrap_i64]; omega
  generalize hX : bs ds = X at *
  go_enter Tryz.func30, Tryz.ntmps30
  go_wp2_with fail
  have S1 := Lt.drewH S0
  have d0 := lt_cell S1
  have q1' := q1 _ S1
  clear S0 S1
  go_region_with (first | (go_at_call 57; refine q1'.mono ?_; rintro e w1 ⟨rfl, H1⟩))
  all_goals (clear q1' d0)
  all_goals (go_wp2_with fail)
  all_goals (have S2 := Lt.drewH H1; have d1 := lt_cell S2; have ex' := ex _ _ S2)
  all_goals (clear S2)
  all_goals (go_region_with (first | (go_at_call 60; refine ex'.mono ?_; rintro e w2 ⟨rfl, d2, H2⟩) | (go_at_call 57; refine (q3 _ _ H2 (by assumption)).mono ?_; rintro e w3 ⟨rfl, H3⟩)))
  all_goals (go_wp2_with fail; refine (lt_str H3.out).mono ?_; rintro e w4 ⟨rfl, hb4⟩; go_wp2; go_ret; exact ⟨rfl, hb4⟩)

set_option maxHeartbeats 4000000 in
theorem layout_en_lo (ds : List UInt8) (p : Int) (L : Nat) (Y Z E : ByteArray) (E0 T1 T2 : List UInt8) (hT1 : T1.length ≤ 20000) (hT2 : T2.length ≤ 20000) (w : World) (hL : ds.length = L) (hL1 : L ≤ 10000) (hc : 1 < L) (hp : p < -5) (hp0 : -100000 ≤ p) (hp1 : p ≤ 100000)
    (hY : (bs ds).extract 0 1 = Y) (hZ : (bs ds).extract 1 L = Z) (zY : Y.size = 1) (zZ : Z.size = L - 1)
    (q1 : ∀ w1 : World, Hid (Lt w w1 w.heap.size w.heap.size (w.heap.size + 1) []) → Calls Tryz.prog 57 #[.string Y, .pointer (some ⟨w.heap.size, 0, none⟩)] w1 fun e w' => e = .returned (.tuple #[]) ∧ Hid (Lt w w' w.heap.size w.heap.size (w.heap.size + 1) T1))
    (q2 : ∀ w1 : World, Hid (Lt w w1 w.heap.size w.heap.size (w.heap.size + 1) T1) → Calls Tryz.prog 57 #[.string (ByteArray.mk #[46] ++ Z), .pointer (some ⟨w.heap.size, 0, none⟩)] w1 fun e w' => e = .returned (.tuple #[]) ∧ Hid (Lt w w' w.heap.size w.heap.size (w.heap.size + 1) T2))
    (ex : ∀ (w1 : World) (l : List UInt8), Hid (Lt w w1 w.heap.size w.heap.size (w.heap.size + 1) l) → Calls Tryz.prog 60 #[.int .i64 (p - 1)] w1 fun e w' => e = .returned (.string E) ∧ w'.cell? ⟨w.heap.size + 1, 0, none⟩ = some (.func (Fn.func 57) #[] #[.pointer (some ⟨w.heap.size, 0, none⟩)]) ∧ Hid (Lt w w' w.heap.size w.heap.size (w.heap.size + 1) l))
    (q3 : ∀ (w1 : World) (l : List UInt8), Hid (Lt w w1 w.heap.size w.heap.size (w.heap.size + 1) l) → l.length ≤ 20000 → Calls Tryz.prog 57 #[.string E, .pointer (some ⟨w.heap.size, 0, none⟩)] w1 fun e w' => e = .returned (.tuple #[]) ∧ Hid (Lt w w' w.heap.size w.heap.size (w.heap.size + 1) (l ++ E0)))
    (hmf : ∀ (fn : Fn) (first cap : Array Value) (w : World), (Instr.makeFunc fn first cap).run Tryz.prog w = .ok (.func fn first cap) w) :
    Calls Tryz.prog 30 #[.string (bs ds), .int .i64 p] w fun e w' => e = .returned (.string (bs (T2 ++ E0))) ∧ Below w.heap.size w w' := by
  have S0 := lt_start w
  have zX : (bs ds).size = L := by rw [bs_size]; exact hL
  have hw : IntKind.i64.wrap (p - 1) = p - 1 := by rw [IntKind.wrap_i64]; omega
  generalize hX : bs ds = X at *
  go_enter Tryz.func30, Tryz.ntmps30
  go_wp2_with fail
  have S1 := Lt.drewH S0
  have d0 := lt_cell S1
  have q1' := q1 _ S1
  clear S0 S1
  go_region_with (first | (go_at_call 57; refine q1'.mono ?_; rintro e w1 ⟨rfl, H1⟩))
  all_goals (clear q1' d0)
  all_goals (go_wp2_with fail)
  all_goals (have S2 := Lt.drewH H1; have d1 := lt_cell S2; have q2' := q2 _ S2)
  all_goals (clear S2)
  all_goals (go_region_with (first | (go_at_call 57; refine q2'.mono ?_; rintro e w5 ⟨rfl, H5⟩)))
  all_goals (clear q2' d1)
  all_goals (go_wp2_with fail)
  all_goals (have S2 := Lt.drewH H5; have d1 := lt_cell S2; have ex' := ex _ _ S2)
  all_goals (clear S2)
  all_goals (go_region_with (first | (go_at_call 60; refine ex'.mono ?_; rintro e w2 ⟨rfl, d2, H2⟩) | (go_at_call 57; refine (q3 _ _ H2 (by assumption)).mono ?_; rintro e w3 ⟨rfl, H3⟩)))
  all_goals (go_wp2_with fail; refine (lt_str H3.out).mono ?_; rintro e w4 ⟨rfl, hb4⟩; go_wp2; go_ret; exact ⟨rfl, hb4⟩)

end Go.Proofs.YtpejebohekcfoaaGreatDoor
/- The contract of layout. -/
namespace Go.Proofs.YtpejebohekcfoaaGreatDoor
open Go.RowKit
set_option linter.unusedVariables false

/-- digits with their point, as a text -/
def layI (ds : List UInt8) (p : Int) : List UInt8 :=
  if 21 < p ∨ p < -5 then (if ds.length = 1 then ds.take 1 else ds.take 1 ++ 46 :: ds.drop 1) ++ expL (p - 1)
  else if p ≤ 0 then [48, 46] ++ List.replicate (-p).toNat 48 ++ ds
  else if p < ds.length then ds.take p.toNat ++ 46 :: ds.drop p.toNat
  else ds ++ List.replicate (p - ds.length).toNat 48

theorem grown_below {w w' : World} (h : Below w.heap.size w w') : w.grownBy w' none := ⟨h.os, h.tape, h.output, h.size, fun k hk _ => h.block k hk⟩

theorem IsB_grown0 {w w' : World} {B bt : Nat} {bs : List Value} (h : Lib.IsBuilder 73 5 B bt bs w) (g : w.grownBy w' none) : Lib.IsBuilder 73 5 B bt bs w' := by
  rcases h with h | h
  · exact Or.inl (BuilderAt_others h g)
  · exact Or.inr (BuilderAt_others h g)

theorem Lt.keep {w0 wr w' : World} {B bt bp : Nat} {l : List UInt8} (h : Lt w0 wr B bt bp l) (hb : Below wr.heap.size wr w') : Lt w0 w' B bt bp l := by
  have g := grown_below hb
  refine ⟨IsB_grown0 h.bd g, (g.block bp (Array.getElem?_eq_some_iff.1 h.put).1 (by simp)).trans h.put, h.below.trans (hb.mono h.lt), Nat.le_trans h.lt hb.size⟩

theorem layout_any (ds : List UInt8) (p : Int) (w : World) (ht : Pow10 w) (hne : ds ≠ []) (hl : ds.length ≤ 10000) (hp0 : -50000 ≤ p) (hp1 : p ≤ 50000) :
    Calls Tryz.prog 30 #[.string (bs ds), .int .i64 p] w fun e w' => e = .returned (.string (bs (layI ds p))) ∧ Below w.heap.size w w' := by
  have hmf : ∀ (fn : Fn) (first cap : Array Value) (w : World), (Instr.makeFunc fn first cap).run Tryz.prog w = .ok (.func fn first cap) w := fun _ _ _ _ => rfl
  have L0 : 0 < ds.length := List.length_pos_iff.2 hne
  unfold layI
  by_cases c : 21 < p ∨ p < -5
  · rw [if_pos c]
    have eY : (bs ds).extract 0 1 = bs (ds.take 1) := by rw [ext_bs]; simp
    have eZ : (bs ds).extract 1 ds.length = bs (ds.drop 1) := by rw [ext_bs, List.take_of_length_le (by simp)]
    have q1 : ∀ w1 : World, Hid (Lt w w1 w.heap.size w.heap.size (w.heap.size + 1) []) → Calls Tryz.prog 57 #[.string (bs (ds.take 1)), .pointer (some ⟨w.heap.size, 0, none⟩)] w1 fun e w' => e = .returned (.tuple #[]) ∧ Hid (Lt w w' w.heap.size w.heap.size (w.heap.size + 1) (ds.take 1)) := by
      intro w1 h
      exact lt_put (ds.take 1) h.out (by simp; omega)
    have q2 : ∀ w1 : World, Hid (Lt w w1 w.heap.size w.heap.size (w.heap.size + 1) (ds.take 1)) → Calls Tryz.prog 57 #[.string (ByteArray.mk #[46] ++ bs (ds.drop 1)), .pointer (some ⟨w.heap.size, 0, none⟩)] w1 fun e w' => e = .returned (.tuple #[]) ∧ Hid (Lt w w' w.heap.size w.heap.size (w.heap.size + 1) (ds.take 1 ++ 46 :: ds.drop 1)) := by
      intro w1 h
      rw [show ByteArray.mk #[46] ++ bs (ds.drop 1) = bs (46 :: ds.drop 1) from by rw [show ByteArray.mk #[46] = bs [46] from rfl, bs_app]; rfl]
      exact lt_put (46 :: ds.drop 1) h.out (by simp; omega)
    have ex : ∀ (w1 : World) (l : List UInt8), Hid (Lt w w1 w.heap.size w.heap.size (w.heap.size + 1) l) → Calls Tryz.prog 60 #[.int .i64 (p - 1)] w1 fun e w' => e = .returned (.string (bs (expL (p - 1)))) ∧ w'.cell? ⟨w.heap.size + 1, 0, none⟩ = some (.func (Fn.func 57) #[] #[.pointer (some ⟨w.heap.size, 0, none⟩)]) ∧ Hid (Lt w w' w.heap.size w.heap.size (w.heap.size + 1) l) := by
      intro w1 l h
      refine (exponent_any (p - 1) w1 (by omega) (by omega) (pow10_below ht h.out.below)).mono ?_
      rintro e w' ⟨rfl, hb⟩
      have k : Hid (Lt w w' w.heap.size w.heap.size (w.heap.size + 1) l) := h.out.keep hb
      exact ⟨rfl, lt_cell k, k⟩
    have le : (expL (p - 1)).length ≤ 100 := by
      have := itoa_len (p - 1) (by omega)
      unfold expL
      split <;> simp <;> omega
    have q3 : ∀ (w1 : World) (l : List UInt8), Hid (Lt w w1 w.heap.size w.heap.size (w.heap.size + 1) l) → l.length ≤ 20000 → Calls Tryz.prog 57 #[.string (bs (expL (p - 1))), .pointer (some ⟨w.heap.size, 0, none⟩)] w1 fun e w' => e = .returned (.tuple #[]) ∧ Hid (Lt w w' w.heap.size w.heap.size (w.heap.size + 1) (l ++ expL (p - 1))) := by
      intro w1 l h hl
      exact lt_put (expL (p - 1)) h.out (by omega)
    have zY : (bs (ds.take 1)).size = 1 := by rw [bs_size]; simp; omega
    have zZ : (bs (ds.drop 1)).size = ds.length - 1 := by rw [bs_size]; simp
    rcases Nat.lt_or_ge 1 ds.length with h1 | h1
    · rw [if_neg (by omega)]
      rcases c with c | c
      · exact layout_en_hi ds p ds.length _ _ _ _ (ds.take 1) (ds.take 1 ++ 46 :: ds.drop 1) (by simp; omega) (by simp; omega) w rfl hl h1 c (by omega) (by omega) eY eZ zY zZ q1 q2 ex q3 hmf
      · exact layout_en_lo ds p ds.length _ _ _ _ (ds.take 1) (ds.take 1 ++ 46 :: ds.drop 1) (by simp; omega) (by simp; omega) w rfl hl h1 c (by omega) (by omega) eY eZ zY zZ q1 q2 ex q3 hmf
    · rw [if_pos (by omega)]
      rcases c with c | c
      · exact layout_e1_hi ds p ds.length _ _ _ _ (ds.take 1) (ds.take 1 ++ 46 :: ds.drop 1) (by simp; omega) (by simp; omega) w rfl hl (by omega) c (by omega) (by omega) eY eZ zY zZ q1 q2 ex q3 hmf
      · exact layout_e1_lo ds p ds.length _ _ _ _ (ds.take 1) (ds.take 1 ++ 46 :: ds.drop 1) (by simp; omega) (by simp; omega) w rfl hl (by omega) c (by omega) (by omega) eY eZ zY zZ q1 q2 ex q3 hmf
  · rw [if_neg c]
    by_cases c1 : p ≤ 0
    · rw [if_pos c1]
      exact layout_neg ds p (-p).toNat w c1 (by omega) (by omega) (by omega) hmf
    · rw [if_neg c1]
      by_cases c2 : p < ds.length
      · rw [if_pos c2]
        obtain ⟨k, rfl⟩ : ∃ k : Nat, p = k := ⟨p.toNat, by omega⟩
        rw [show ((k : Int)).toNat = k from by omega]
        have zY : (bs ((ds.drop 0).take (k - 0))).size = k := by rw [bs_size]; simp; omega
        have zZ : (bs ((ds.drop k).take (ds.length - k))).size = ds.length - k := by rw [bs_size]; simp
        have pt : ∀ w1 : World, Hid (Lt w w1 w.heap.size w.heap.size (w.heap.size + 1) []) → Calls Tryz.prog 57 #[.string (bs ((ds.drop 0).take (k - 0)) ++ ByteArray.mk #[46] ++ bs ((ds.drop k).take (ds.length - k))), .pointer (some ⟨w.heap.size, 0, none⟩)] w1 fun e w' => e = .returned (.tuple #[]) ∧ Hid (Lt w w' w.heap.size w.heap.size (w.heap.size + 1) (ds.take k ++ 46 :: ds.drop k)) := by
          intro w1 h
          have e : bs ((ds.drop 0).take (k - 0)) ++ ByteArray.mk #[46] ++ bs ((ds.drop k).take (ds.length - k)) = bs (ds.take k ++ 46 :: ds.drop k) := by
            rw [show ByteArray.mk #[46] = bs [46] from rfl, bs_app, bs_app, List.take_of_length_le (l := ds.drop k) (by simp)]
            simp
          rw [e]
          have := lt_put (ds.take k ++ 46 :: ds.drop k) h.out (by simp; omega)
          rw [List.nil_append] at this
          exact this
        exact layout_mid ds k ds.length _ _ ByteArray.empty w rfl hl (by omega) (by omega) (by omega) (ext_bs ds 0 k) (ext_bs ds k ds.length) zY zZ pt hmf
      · rw [if_neg c2]
        exact layout_big ds p ds.length _ w rfl (by omega) (by omega) (by omega) (by omega) hmf

end Go.Proofs.YtpejebohekcfoaaGreatDoor
/- How many digits there are at most. -/
namespace Go.Proofs.YtpejebohekcfoaaGreatDoor
open Go.RowKit
set_option linter.unusedVariables false

theorem digsF_len (T : Nat) (cl : Bool) : ∀ (j f V L U : Nat), T < U * 10 ^ (j + 1) → (digsF f V L U T cl).length ≤ j + 1 := by
  intro j
  induction j with
  | zero =>
    intro f V L U h
    cases f with
    | zero => rw [digsF]; simp
    | succ f =>
      rw [digsF]
      have up : inN T (V * 10 % T + U * 10) cl = true := by
        unfold inN
        rw [decide_eq_true (by rw [Nat.zero_add, Nat.pow_one] at h; omega)]
        rfl
      rw [if_pos (by rw [up]; simp)]
      simp
  | succ j ih =>
    intro f V L U h
    cases f with
    | zero => rw [digsF]; simp
    | succ f =>
      rw [digsF]
      split
      · simp
      · rw [List.length_cons]
        have := ih f (V * 10 % T) (L * 10) (U * 10) (by rw [← ten_next]; exact h)
        omega

theorem shD_len (a : Nat) (h0 : 0 < a) (h1 : a < 9218868437227405312) : (shD a).length ≤ 3000 := by
  obtain ⟨K, hK0, hK1⟩ : ∃ K : Nat, 1100 ≤ K ∧ K ≤ 1100 := ⟨1100, by omega, by omega⟩
  obtain ⟨t1, u1, l1⟩ := sh1_bd a K h0 h1 hK0
  have p : 2 ^ (K + 1700) ≤ 10 ^ (K + 1700) := Nat.pow_le_pow_left (by decide) _
  have q : 10 ^ (K + 1700) ≤ shU1 a * 10 ^ (K + 1700) := Nat.le_mul_of_pos_left _ u1
  have := digsF_len (shT1 a) (shC a) (K + 1699) (shT1 a + 1) (shV1 a) (shL1 a) (shU1 a) (by rw [show K + 1699 + 1 = K + 1700 from by omega]; omega)
  unfold shD
  omega

theorem digsF_ne (f V L U T : Nat) (cl : Bool) : digsF (f + 1) V L U T cl ≠ [] := by
  rw [digsF]
  split <;> simp

theorem shD_ne (a : Nat) : shD a ≠ [] := digsF_ne _ _ _ _ _ _

theorem txt_length (ds : List Nat) : (txt ds).length = ds.length := by unfold txt; simp

end Go.Proofs.YtpejebohekcfoaaGreatDoor
/- The walk of Print: all of it. -/
namespace Go.Proofs.YtpejebohekcfoaaGreatDoor
open Go.RowKit
set_option linter.unusedVariables false

theorem formatInt_any (n : Int) (h0 : -9223372036854775808 ≤ n) (h1 : n ≤ 9223372036854775807) (w : World) (ht : Pow10 w) :
    Calls Tryz.prog 24 #[.int .i64 n, .int .i64 10] w fun e w' => e = .returned (.string (bs (Lib.itoa n))) ∧ Below w.heap.size w w' := by
  have c : Calls Tryz.prog 55 #[.int .i64 n, .int .i64 10] w fun e w' => e = .returned (.string (bs (Lib.itoa n))) ∧ Below w.heap.size w w' := by
    refine (Tryz.internal_strconv_FormatInt_10 n h0 h1 w ht).mono ?_
    rintro e w' ⟨rfl, k, os, rfl⟩
    exact ⟨rfl, Lib.below_grow _ w (Nat.le_refl _) k os⟩
  clear ht
  go_enter Tryz.func24, Tryz.ntmps24
  go_wp2_with (go_at_call 55; refine c.mono ?_; rintro e w' ⟨rfl, hb⟩)
  go_ret
  exact ⟨rfl, hb⟩

theorem print_whole (A n : Int) (S : ByteArray) (w : World)
    (cw : ∀ w1, Below w.heap.size w w1 → Calls Tryz.prog 23 #[.int .u64 A] w1 fun e w' => e = .returned (.tuple #[.int .i64 n, .bool true]) ∧ Below w.heap.size w w')
    (cf : ∀ w1, Below w.heap.size w w1 → Calls Tryz.prog 24 #[.int .i64 n, .int .i64 10] w1 fun e w' => e = .returned (.string S) ∧ Below w.heap.size w w') :
    Calls Tryz.prog 10 #[.int .u64 A] w fun e w' => e = .returned (.string S) ∧ Below w.heap.size w w' := by
  go_enter Tryz.func10, Tryz.ntmps10
  go_wp2_with fail
  refine (cw _ (Below.refl _ _)).mono ?_
  rintro e w1 ⟨rfl, hb1⟩
  go_wp2_with fail
  refine (cf _ hb1).mono ?_
  rintro e w2 ⟨rfl, hb2⟩
  go_wp2
  go_ret
  exact ⟨rfl, hb2⟩

theorem print_nan (A n : Int) (w : World)
    (cw : ∀ w1, Below w.heap.size w w1 → Calls Tryz.prog 23 #[.int .u64 A] w1 fun e w' => e = .returned (.tuple #[.int .i64 n, .bool false]) ∧ Below w.heap.size w w')
    (cn : ∀ w1, Below w.heap.size w w1 → Calls Tryz.prog 25 #[.int .u64 A] w1 fun e w' => e = .returned (.bool true) ∧ Below w.heap.size w w') :
    Calls Tryz.prog 10 #[.int .u64 A] w fun e w' => e = .returned (.string (bs [78, 97, 78])) ∧ Below w.heap.size w w' := by
  go_enter Tryz.func10, Tryz.ntmps10
  go_wp2_with fail
  refine (cw _ (Below.refl _ _)).mono ?_
  rintro e w1 ⟨rfl, hb1⟩
  go_wp2_with fail
  refine (cn _ hb1).mono ?_
  rintro e w2 ⟨rfl, hb2⟩
  go_wp2
  go_ret
  exact ⟨rfl, hb2⟩

theorem print_neg (A n M : Int) (S : ByteArray) (m : Nat) (w : World) (zS : S.size = m) (hm : m ≤ 1000000)
    (cw : ∀ w1, Below w.heap.size w w1 → Calls Tryz.prog 23 #[.int .u64 A] w1 fun e w' => e = .returned (.tuple #[.int .i64 n, .bool false]) ∧ Below w.heap.size w w')
    (cn : ∀ w1, Below w.heap.size w w1 → Calls Tryz.prog 25 #[.int .u64 A] w1 fun e w' => e = .returned (.bool false) ∧ Below w.heap.size w w')
    (cl : ∀ w1, Below w.heap.size w w1 → Calls Tryz.prog 26 #[.int .u64 A, .int .u64 0] w1 fun e w' => e = .returned (.bool true) ∧ Below w.heap.size w w')
    (cg : ∀ w1, Below w.heap.size w w1 → Calls Tryz.prog 27 #[.int .u64 A] w1 fun e w' => e = .returned (.int .u64 M) ∧ Below w.heap.size w w')
    (cp : ∀ w1, Below w.heap.size w w1 → Calls Tryz.prog 10 #[.int .u64 M] w1 fun e w' => e = .returned (.string S) ∧ Below w.heap.size w w') :
    Calls Tryz.prog 10 #[.int .u64 A] w fun e w' => e = .returned (.string (bs [45] ++ S)) ∧ Below w.heap.size w w' := by
  go_enter Tryz.func10, Tryz.ntmps10
  go_wp2_with fail
  refine (cw _ (Below.refl _ _)).mono ?_
  rintro e w1 ⟨rfl, hb1⟩
  go_wp2_with fail
  refine (cn _ hb1).mono ?_
  rintro e w2 ⟨rfl, hb2⟩
  go_wp2_with fail
  refine (cl _ hb2).mono ?_
  rintro e w3 ⟨rfl, hb3⟩
  go_wp2_with fail
  refine (cg _ hb3).mono ?_
  rintro e w4 ⟨rfl, hb4⟩
  go_wp2_with fail
  refine (cp _ hb4).mono ?_
  rintro e w5 ⟨rfl, hb5⟩
  go_wp2
  go_ret
  exact ⟨rfl, hb5⟩

theorem print_inf (A n : Int) (w : World)
    (cw : ∀ w1, Below w.heap.size w w1 → Calls Tryz.prog 23 #[.int .u64 A] w1 fun e w' => e = .returned (.tuple #[.int .i64 n, .bool false]) ∧ Below w.heap.size w w')
    (cn : ∀ w1, Below w.heap.size w w1 → Calls Tryz.prog 25 #[.int .u64 A] w1 fun e w' => e = .returned (.bool false) ∧ Below w.heap.size w w')
    (cl : ∀ w1, Below w.heap.size w w1 → Calls Tryz.prog 26 #[.int .u64 A, .int .u64 0] w1 fun e w' => e = .returned (.bool false) ∧ Below w.heap.size w w')
    (ci : ∀ w1, Below w.heap.size w w1 → Calls Tryz.prog 28 #[.int .u64 A] w1 fun e w' => e = .returned (.bool true) ∧ Below w.heap.size w w') :
    Calls Tryz.prog 10 #[.int .u64 A] w fun e w' => e = .returned (.string (bs [73, 110, 102, 105, 110, 105, 116, 121])) ∧ Below w.heap.size w w' := by
  go_enter Tryz.func10, Tryz.ntmps10
  go_wp2_with fail
  refine (cw _ (Below.refl _ _)).mono ?_
  rintro e w1 ⟨rfl, hb1⟩
  go_wp2_with fail
  refine (cn _ hb1).mono ?_
  rintro e w2 ⟨rfl, hb2⟩
  go_wp2_with fail
  refine (cl _ hb2).mono ?_
  rintro e w3 ⟨rfl, hb3⟩
  go_wp2_with fail
  refine (ci _ hb3).mono ?_
  rintro e w4 ⟨rfl, hb4⟩
  go_wp2
  go_ret
  exact ⟨rfl, hb4⟩

theorem print_zero (A n : Int) (w : World)
    (cw : ∀ w1, Below w.heap.size w w1 → Calls Tryz.prog 23 #[.int .u64 A] w1 fun e w' => e = .returned (.tuple #[.int .i64 n, .bool false]) ∧ Below w.heap.size w w')
    (cn : ∀ w1, Below w.heap.size w w1 → Calls Tryz.prog 25 #[.int .u64 A] w1 fun e w' => e = .returned (.bool false) ∧ Below w.heap.size w w')
    (cl : ∀ w1, Below w.heap.size w w1 → Calls Tryz.prog 26 #[.int .u64 A, .int .u64 0] w1 fun e w' => e = .returned (.bool false) ∧ Below w.heap.size w w')
    (ci : ∀ w1, Below w.heap.size w w1 → Calls Tryz.prog 28 #[.int .u64 A] w1 fun e w' => e = .returned (.bool false) ∧ Below w.heap.size w w')
    (ce : ∀ w1, Below w.heap.size w w1 → Calls Tryz.prog 29 #[.int .u64 A, .int .u64 0] w1 fun e w' => e = .returned (.bool true) ∧ Below w.heap.size w w') :
    Calls Tryz.prog 10 #[.int .u64 A] w fun e w' => e = .returned (.string (bs [48])) ∧ Below w.heap.size w w' := by
  go_enter Tryz.func10, Tryz.ntmps10
  go_wp2_with fail
  refine (cw _ (Below.refl _ _)).mono ?_
  rintro e w1 ⟨rfl, hb1⟩
  go_wp2_with fail
  refine (cn _ hb1).mono ?_
  rintro e w2 ⟨rfl, hb2⟩
  go_wp2_with fail
  refine (cl _ hb2).mono ?_
  rintro e w3 ⟨rfl, hb3⟩
  go_wp2_with fail
  refine (ci _ hb3).mono ?_
  rintro e w4 ⟨rfl, hb4⟩
  go_wp2_with fail
  refine (ce _ hb4).mono ?_
  rintro e w5 ⟨rfl, hb5⟩
  go_wp2
  go_ret
  exact ⟨rfl, hb5⟩

theorem print_rest (A n P : Int) (S X : ByteArray) (w : World)
    (cw : ∀ w1, Below w.heap.size w w1 → Calls Tryz.prog 23 #[.int .u64 A] w1 fun e w' => e = .returned (.tuple #[.int .i64 n, .bool false]) ∧ Below w.heap.size w w')
    (cn : ∀ w1, Below w.heap.size w w1 → Calls Tryz.prog 25 #[.int .u64 A] w1 fun e w' => e = .returned (.bool false) ∧ Below w.heap.size w w')
    (cl : ∀ w1, Below w.heap.size w w1 → Calls Tryz.prog 26 #[.int .u64 A, .int .u64 0] w1 fun e w' => e = .returned (.bool false) ∧ Below w.heap.size w w')
    (ci : ∀ w1, Below w.heap.size w w1 → Calls Tryz.prog 28 #[.int .u64 A] w1 fun e w' => e = .returned (.bool false) ∧ Below w.heap.size w w')
    (ce : ∀ w1, Below w.heap.size w w1 → Calls Tryz.prog 29 #[.int .u64 A, .int .u64 0] w1 fun e w' => e = .returned (.bool false) ∧ Below w.heap.size w w')
    (cs : ∀ w1, Below w.heap.size w w1 → Calls Tryz.prog 31 #[.int .u64 A] w1 fun e w' => e = .returned (.tuple #[.string S, .int .i64 P]) ∧ Below w.heap.size w w')
    (cy : ∀ w1, Below w.heap.size w w1 → Calls Tryz.prog 30 #[.string S, .int .i64 P] w1 fun e w' => e = .returned (.string X) ∧ Below w.heap.size w w') :
    Calls Tryz.prog 10 #[.int .u64 A] w fun e w' => e = .returned (.string X) ∧ Below w.heap.size w w' := by
  go_enter Tryz.func10, Tryz.ntmps10
  go_wp2_with fail
  refine (cw _ (Below.refl _ _)).mono ?_
  rintro e w1 ⟨rfl, hb1⟩
  go_wp2_with fail
  refine (cn _ hb1).mono ?_
  rintro e w2 ⟨rfl, hb2⟩
  go_wp2_with fail
  refine (cl _ hb2).mono ?_
  rintro e w3 ⟨rfl, hb3⟩
  go_wp2_with fail
  refine (ci _ hb3).mono ?_
  rintro e w4 ⟨rfl, hb4⟩
  go_wp2_with fail
  refine (ce _ hb4).mono ?_
  rintro e w5 ⟨rfl, hb5⟩
  go_wp2_with fail
  refine (cs _ hb5).mono ?_
  rintro e w6 ⟨rfl, hb6⟩
  go_wp2_with fail
  refine (cy _ hb6).mono ?_
  rintro e w7 ⟨rfl, hb7⟩
  go_wp2
  go_ret
  exact ⟨rfl, hb7⟩

end Go.Proofs.YtpejebohekcfoaaGreatDoor
/- The contract of Print. -/
namespace Go.Proofs.YtpejebohekcfoaaGreatDoor
open Go.RowKit
set_option linter.unusedVariables false

/-- the text of a number that is not below 0 -/
def printQ (a : Int) : List UInt8 :=
  if (wholeI a).2 = true then Lib.itoa (wholeI a).1
  else if kindI a = 3 then [78, 97, 78]
  else if kindI a = 2 then [73, 110, 102, 105, 110, 105, 116, 121]
  else if equalI a 0 = true then [48]
  else layI (txt (shD a.toNat)) (shP a.toNat)

/-- the text of a number -/
def printI (a : Int) : List UInt8 := if (wholeI a).2 = false ∧ lessI a 0 = true then 45 :: printQ (negI a) else printQ a

theorem whole_bd (a : Int) (h0 : 0 ≤ a) (h1 : a < 18446744073709551616) : -9223372036854775808 ≤ (wholeI a).1 ∧ (wholeI a).1 ≤ 9223372036854775807 := by
  unfold wholeI
  split
  · exact ⟨by decide, by decide⟩
  · split
    · exact ⟨by decide, by decide⟩
    · rename_i h2 h3
      have k : kindI a = 1 := by
        rcases Decidable.em (kindI a = 1) with h | h
        · exact h
        · exact absurd (Or.inl h) h3
      have e : expI a ≤ 0 := by
        rcases Int.lt_or_le 0 (expI a) with h | h
        · exact absurd (Or.inr (Or.inl h)) h3
        · exact h
      obtain ⟨_, f, _⟩ := read_fin a h0 h1 k
      have p := f.pos
      have q := f.lt
      have s := size_small (manI a) (expI a) (by omega) (by omega) e
      have t := size_bd (manI a) (expI a) (by omega) (by omega)
      dsimp only
      split <;> omega

theorem shJ_le (a : Nat) (h0 : 0 < a) (h1 : a < 9218868437227405312) : shJ a ≤ 3000 := by
  obtain ⟨K, hK0, hK1⟩ : ∃ K : Nat, 1100 ≤ K ∧ K ≤ 1100 := ⟨1100, by omega, by omega⟩
  obtain ⟨q1, q2, q3, q4, q5, q6, q7⟩ := sh_bd a K h0 h1 hK0
  have g := shG_bd a h0 h1
  have v := up_lt (tens_lt (j := (-shG a).toNat) q1) (show K + 4 * (-shG a).toNat ≤ K + 1600 by omega)
  have u := up_lt (tens_lt (j := (-shG a).toNat) q3) (show K + 4 * (-shG a).toNat ≤ K + 1600 by omega)
  change shV1 a < _ at v
  change shU1 a < _ at u
  rcases Nat.eq_zero_or_pos (shJ a) with c | c
  · omega
  · have h2 := in_le ((sh_stop a h0 h1).2 (shJ a - 1) (by omega))
    have P : 2 ^ (K + 1601) = 2 ^ (K + 1600) * 2 := by rw [show K + 1601 = (K + 1600) + 1 from by omega, Nat.pow_succ]
    have := pow_bound (K := K + 1601) (T := shT0 a) (Nat.mul_pos q6 (Nat.pow_pos (by decide))) h2 (by omega)
    omega

theorem shP_bd (a : Nat) (h0 : 0 < a) (h1 : a < 9218868437227405312) : -4000 ≤ shP a ∧ shP a ≤ 4000 := by
  have g := shG_bd a h0 h1
  have j := shJ_le a h0 h1
  unfold shP
  omega

theorem between {w : World} {f : Nat} {args : Array Value} {Q : Ending → Prop} (h : ∀ w1, Calls Tryz.prog f args w1 fun e w' => Q e ∧ Below w1.heap.size w1 w') :
    ∀ w1, Below w.heap.size w w1 → Calls Tryz.prog f args w1 fun e w' => Q e ∧ Below w.heap.size w w' := after h

theorem printQ_any (a : Int) (h0 : 0 ≤ a) (h1 : a < 18446744073709551616) (hn : (wholeI a).2 = true ∨ lessI a 0 = false) (w : World) (ht : Pow10 w) :
    Calls Tryz.prog 10 #[.int .u64 a] w fun e w' => e = .returned (.string (bs (printQ a))) ∧ Below w.heap.size w w' := by
  have cw : ∀ w1, Below w.heap.size w w1 → Calls Tryz.prog 23 #[.int .u64 a] w1 fun e w' => e = .returned (.tuple #[.int .i64 (wholeI a).1, .bool (wholeI a).2]) ∧ Below w.heap.size w w' := after (Q := fun e => e = .returned (.tuple #[.int .i64 (wholeI a).1, .bool (wholeI a).2])) (fun w1 => whole_any a w1 h0 h1)
  have cn : ∀ w1, Below w.heap.size w w1 → Calls Tryz.prog 25 #[.int .u64 a] w1 fun e w' => e = .returned (.bool (kindI a == 3)) ∧ Below w.heap.size w w' := after (Q := fun e => e = .returned (.bool (kindI a == 3))) (fun w1 => isNaN_any a w1 h0 h1)
  have cl : ∀ w1, Below w.heap.size w w1 → Calls Tryz.prog 26 #[.int .u64 a, .int .u64 0] w1 fun e w' => e = .returned (.bool (lessI a 0)) ∧ Below w.heap.size w w' := after (Q := fun e => e = .returned (.bool (lessI a 0))) (fun w1 => less_any a 0 w1 h0 h1 (by omega) (by omega))
  have ci : ∀ w1, Below w.heap.size w w1 → Calls Tryz.prog 28 #[.int .u64 a] w1 fun e w' => e = .returned (.bool (kindI a == 2)) ∧ Below w.heap.size w w' := after (Q := fun e => e = .returned (.bool (kindI a == 2))) (fun w1 => isInf_any a w1 h0 h1)
  have ce : ∀ w1, Below w.heap.size w w1 → Calls Tryz.prog 29 #[.int .u64 a, .int .u64 0] w1 fun e w' => e = .returned (.bool (equalI a 0)) ∧ Below w.heap.size w w' := after (Q := fun e => e = .returned (.bool (equalI a 0))) (fun w1 => equal_any a 0 w1 h0 h1 (by omega) (by omega))
  obtain ⟨b0, b1⟩ := whole_bd a h0 h1
  unfold printQ
  cases hw : (wholeI a).2 with
  | true =>
    rw [if_pos rfl]
    rw [hw] at cw
    refine print_whole a _ _ w cw (fun w1 hb => ?_)
    refine (formatInt_any _ b0 b1 w1 (pow10_below ht hb)).mono ?_
    rintro e w' ⟨rfl, b⟩
    exact ⟨rfl, hb.trans (b.mono hb.size)⟩
  | false =>
    rw [hw] at cw
    have hn := hn.resolve_left (by rw [hw]; decide)
    rw [hn] at cl
    rw [if_neg (by decide)]
    by_cases k3 : kindI a = 3
    · rw [if_pos k3]
      rw [k3] at cn
      exact print_nan a _ w cw cn
    · rw [if_neg k3]
      have e3 : (kindI a == 3) = false := beq_eq_false_iff_ne.2 k3
      rw [e3] at cn
      by_cases k2 : kindI a = 2
      · rw [if_pos k2]
        rw [k2] at ci
        exact print_inf a _ w cw cn cl ci
      · rw [if_neg k2]
        have e2 : (kindI a == 2) = false := beq_eq_false_iff_ne.2 k2
        rw [e2] at ci
        cases hz : equalI a 0 with
        | true =>
          rw [hz] at ce
          rw [if_pos rfl]
          exact print_zero a _ w cw cn cl ci ce
        | false =>
          rw [hz] at ce
          rw [if_neg (by decide)]
          have kf := kind_fld a h0 h1
          have kc := kind_cases a
          have z3 : (kindI 0 == 3) = false := by decide +kernel
          have z0 : rankI 0 = 0 := by decide +kernel
          unfold lessI at hn
          unfold equalI at hz
          rw [e3, z3, z0] at hn hz
          simp at hn hz
          have r := kf.1.1 (by omega)
          have ap : 0 < a ∧ a < 9218868437227405312 := by
            unfold rankI at r hn hz
            split at r <;> split at hn <;> split at hz <;> omega
          obtain ⟨m, rfl⟩ : ∃ m : Nat, a = m := ⟨a.toNat, by omega⟩
          rw [show ((m : Int)).toNat = m from by omega]
          have sb := shP_bd m (by omega) (by omega)
          have sl := shD_len m (by omega) (by omega)
          refine print_rest _ _ _ _ _ w cw cn cl ci ce (after (Q := fun e => e = .returned (.tuple #[.string (bs (txt (shD m))), .int .i64 (shP m)])) (fun w1 => short_any m w1 (by omega) (by omega))) (fun w1 hb => ?_)
          refine (layout_any (txt (shD m)) (shP m) w1 (pow10_below ht hb) ?_ (by rw [txt_length]; omega) (by omega) (by omega)).mono ?_
          · have := shD_ne m
            unfold txt
            simpa using this
          · rintro e w' ⟨rfl, b⟩
            exact ⟨rfl, hb.trans (b.mono hb.size)⟩

theorem layI_len (ds : List UInt8) (p : Int) (hp0 : -4000 ≤ p) (hp1 : p ≤ 4000) : (layI ds p).length ≤ 2 * ds.length + 10000 := by
  have e : (expL (p - 1)).length ≤ 100 := by
    have := itoa_len (p - 1) (by omega)
    unfold expL
    split <;> simp <;> omega
  unfold layI
  split
  · split <;> simp <;> omega
  · split
    · simp; omega
    · split <;> simp <;> omega

theorem printQ_len (a : Int) (h0 : 0 ≤ a) (h1 : a < 18446744073709551616) (hn : lessI a 0 = false) : (printQ a).length ≤ 100000 := by
  obtain ⟨b0, b1⟩ := whole_bd a h0 h1
  unfold printQ
  split
  · have := itoa_len (wholeI a).1 (by omega)
    omega
  · split
    · simp
    · rename_i k3
      split
      · simp
      · rename_i k2
        split
        · simp
        · rename_i hz
          have e3 : (kindI a == 3) = false := beq_eq_false_iff_ne.2 k3
          have kf := kind_fld a h0 h1
          have kc := kind_cases a
          have z3 : (kindI 0 == 3) = false := by decide +kernel
          have z0 : rankI 0 = 0 := by decide +kernel
          unfold lessI at hn
          unfold equalI at hz
          rw [e3, z3, z0] at hn hz
          simp at hn hz
          have r := kf.1.1 (by omega)
          have ap : 0 < a ∧ a < 9218868437227405312 := by
            unfold rankI at r hn hz
            split at r <;> split at hn <;> split at hz <;> omega
          have sb := shP_bd a.toNat (by omega) (by omega)
          have sl := shD_len a.toNat (by omega) (by omega)
          have := layI_len (txt (shD a.toNat)) (shP a.toNat) (by omega) (by omega)
          rw [txt_length] at this
          omega

theorem neg_less (a : Int) (h0 : 0 ≤ a) (h1 : a < 18446744073709551616) (h : lessI a 0 = true) : lessI (negI a) 0 = false ∧ 0 ≤ negI a ∧ negI a < 18446744073709551616 := by
  have z0 : rankI 0 = 0 := by decide +kernel
  unfold lessI at h
  simp only [Bool.and_eq_true, Bool.not_eq_true', decide_eq_true_eq] at h
  have k3 : kindI a ≠ 3 := beq_eq_false_iff_ne.1 h.1.1
  have r := h.2
  rw [z0] at r
  have hn : negI a = a - 9223372036854775808 ∧ 9223372036854775808 ≤ a := by
    unfold negI
    rw [if_neg k3]
    unfold rankI at r
    split at r <;> omega
  refine ⟨?_, by omega, by omega⟩
  unfold lessI
  rw [z0]
  have : ¬ rankI (negI a) < 0 := by
    rw [hn.1]
    unfold rankI
    split <;> omega
  rw [decide_eq_false this]
  simp

theorem print_any (a : Int) (h0 : 0 ≤ a) (h1 : a < 18446744073709551616) (w : World) (ht : Pow10 w) :
    Calls Tryz.prog 10 #[.int .u64 a] w fun e w' => e = .returned (.string (bs (printI a))) ∧ Below w.heap.size w w' := by
  unfold printI
  by_cases c : (wholeI a).2 = false ∧ lessI a 0 = true
  · rw [if_pos c]
    obtain ⟨cw0, cl0⟩ := c
    obtain ⟨n1, n2, n3⟩ := neg_less a h0 h1 cl0
    have k3 : (kindI a == 3) = false := by
      unfold lessI at cl0
      simp only [Bool.and_eq_true, Bool.not_eq_true', decide_eq_true_eq] at cl0
      exact cl0.1.1
    have cw : ∀ w1, Below w.heap.size w w1 → Calls Tryz.prog 23 #[.int .u64 a] w1 fun e w' => e = .returned (.tuple #[.int .i64 (wholeI a).1, .bool (wholeI a).2]) ∧ Below w.heap.size w w' := after (Q := fun e => e = .returned (.tuple #[.int .i64 (wholeI a).1, .bool (wholeI a).2])) (fun w1 => whole_any a w1 h0 h1)
    have cn : ∀ w1, Below w.heap.size w w1 → Calls Tryz.prog 25 #[.int .u64 a] w1 fun e w' => e = .returned (.bool (kindI a == 3)) ∧ Below w.heap.size w w' := after (Q := fun e => e = .returned (.bool (kindI a == 3))) (fun w1 => isNaN_any a w1 h0 h1)
    have cl : ∀ w1, Below w.heap.size w w1 → Calls Tryz.prog 26 #[.int .u64 a, .int .u64 0] w1 fun e w' => e = .returned (.bool (lessI a 0)) ∧ Below w.heap.size w w' := after (Q := fun e => e = .returned (.bool (lessI a 0))) (fun w1 => less_any a 0 w1 h0 h1 (by omega) (by omega))
    have cg : ∀ w1, Below w.heap.size w w1 → Calls Tryz.prog 27 #[.int .u64 a] w1 fun e w' => e = .returned (.int .u64 (negI a)) ∧ Below w.heap.size w w' := after (Q := fun e => e = .returned (.int .u64 (negI a))) (fun w1 => neg_any a w1 h0 h1)
    rw [cw0] at cw
    rw [k3] at cn
    rw [cl0] at cl
    have ll := printQ_len (negI a) n2 n3 n1
    have := print_neg a _ (negI a) (bs (printQ (negI a))) (printQ (negI a)).length w (bs_size _) (by omega) cw cn cl cg (fun w1 hb => by
      refine (printQ_any (negI a) n2 n3 (Or.inr n1) w1 (pow10_below ht hb)).mono ?_
      rintro e w' ⟨rfl, b⟩
      exact ⟨rfl, hb.trans (b.mono hb.size)⟩)
    rw [bs_app] at this
    exact this
  · rw [if_neg c]
    refine printQ_any a h0 h1 ?_ w ht
    cases hw : (wholeI a).2 with
    | true => exact Or.inl rfl
    | false =>
      cases hl : lessI a 0 with
      | true => exact absurd ⟨hw, hl⟩ c
      | false => exact Or.inr rfl

end Go.Proofs.YtpejebohekcfoaaGreatDoor
