/- Own. -/
import Derived.Test.YtahhionlbfhinaaGreatDoorKC
import Derived.Test.YtahhionlbfhinaaGreatDoorB18
import Derived.Test.YtahhionlbfhinaaGreatDoorB17
namespace Go.Proofs.YtahhionlbfhinaaGreatDoor.Hp
open Go.RowKit
set_option linter.unusedVariables false

def lenS : ByteArray := ⟨#[108, 101, 110, 103, 116, 104]⟩
/-- what an object has of its own -/
def ownO (ob : Ob) (k : ByteArray) : Option De :=
  if ob.kind = 1 then
    if k = lenS then some ⟨intW (ob.el.length : Int), undW, 1⟩
    else match (ixI k).bind (fun n => elemI ob.el (n : Int)) with
      | some v => some ⟨v, undW, 7⟩
      | none => getO ob k
  else getO ob k
def ownH (H : He) (o : Int) (k : ByteArray) : Option De := (obO H o).bind (fun ob => ownO ob k)

theorem wInt_any (n : Int) (w : World) : Calls Tryz.prog 70 #[.int .i32 n] w fun e w' => e = .returned (.int .u64 (intW n)) ∧ w' = w := by
  have hw : IntKind.u32.wrap n = n % 4294967296 := IntKind.wrap_u32 n
  have c := fun w => tagged_any 65529 (n % 4294967296) w (by omega) (by omega) (by omega) (by omega)
  unfold intW
  rw [show (65529 * 281474976710656 : Int) = 18444773748872577024 from rfl] at c
  generalize n % 4294967296 = m at *
  go_enter Tryz.func70, Tryz.ntmps70
  go_wp2_with (go_at_call 91; refine (c _).mono ?_; rintro e w1 ⟨rfl, rfl⟩)
  go_ret
  exact ⟨rfl, rfl⟩

set_option maxRecDepth 100000 in
theorem dataOf_any (w : World) (va fl : Int) : Calls Tryz.prog 61 #[.int .u64 va, .int .i64 fl] w fun e w' => e = .returned (deV ⟨va, undW, fl⟩) ∧ Below w.heap.size w w' := by
  obtain ⟨wb, hwb⟩ : ∃ wb, wb = w.alloc (.cells #[.int .u64 0, .int .u64 0, .int .i64 0] 41) := ⟨_, rfl⟩
  have hB : Below w.heap.size w wb := by rw [hwb]; exact (Below.refl _ _).alloc (Nat.le_refl _) _
  have hbx : Bx3 wb w.heap.size zDe := by rw [hwb]; exact Bx3.new w
  have HF : Hid (Bx3 (st3 wb w.heap.size ⟨va, undW, fl⟩) w.heap.size ⟨va, undW, fl⟩ ∧ Below w.heap.size w (st3 wb w.heap.size ⟨va, undW, fl⟩)) := ⟨hbx.put _, st3_below hB (Nat.le_refl _) _⟩
  obtain ⟨f0, f1, f2⟩ := hbx.fz
  obtain ⟨b0, b1, b2⟩ := hbx.ce
  unfold zDe at b0 b1 b2
  clear hbx hB
  go_enter Tryz.func61, Tryz.ntmps61
  go_upto_region 1 with fail
  rw [← hwb]
  clear hwb
  go_wp2_with fail
  refine bodyPost_ret (res1 rfl _ _ w.heap.size 41 _ (0, 0) _ rfl HF.out.1 Tryz.underlying41 rfl (by kernel_rfl)) rfl ?_
  exact ⟨rfl, HF.out.2⟩

section
variable {w w' w1 : World} {B hb : Nat} {O S : Nat → Prop} {H H' : He} {M M' : HV} {tg : Nat → Nat}

theorem isObject_at (h : HeapAt w B hb tg H M) (o : Int) (o0 : 0 ≤ o) (o1 : o < 18446744073709551616) :
    Calls Tryz.prog 58 #[.pointer (some ⟨hb, 0, none⟩), .int .u64 o] w fun e w' => e = .returned (.bool (obO H o).isSome) ∧ w' = w := by
  have c := kind_any h o o0 o1
  generalize ((obO H o).map Ob.kind).getD 0 = kd at *
  generalize (obO H o).isSome = ok at *
  clear h
  go_enter Tryz.func58, Tryz.ntmps58
  go_wp2_with fail
  refine c.mono ?_
  rintro e w2 ⟨rfl, rfl⟩
  clear c
  go_wp2_with fail
  go_ret
  exact ⟨rfl, rfl⟩

def arrB (H : He) (o : Int) : Bool := ((obO H o).map Ob.kind).getD 0 == 1

theorem isArray_at (h : HeapAt w B hb tg H M) (o : Int) (o0 : 0 ≤ o) (o1 : o < 18446744073709551616) :
    Calls Tryz.prog 69 #[.pointer (some ⟨hb, 0, none⟩), .int .u64 o] w fun e w' => e = .returned (.bool (arrB H o)) ∧ w' = w := by
  have c := kind_any h o o0 o1
  unfold arrB
  generalize ((obO H o).map Ob.kind).getD 0 = kd at *
  generalize (obO H o).isSome = ok at *
  clear h
  go_enter Tryz.func69, Tryz.ntmps69
  go_wp2_with fail
  refine c.mono ?_
  rintro e w2 ⟨rfl, rfl⟩
  clear c
  go_wp2_with fail
  go_ret
  exact ⟨rfl, rfl⟩

theorem element_at (h : HeapAt w B hb tg H M) (o : Int) (o0 : 0 ≤ o) (o1 : o < 18446744073709551616) {ob : Ob} (hq : obO H o = some ob) (k : ByteArray) (hk : k.size ≤ maxLen) :
    Calls Tryz.prog 72 #[.pointer (some ⟨hb, 0, none⟩), .int .u64 o, .string k] w fun e w' => e = .returned (.tuple #[.int .u64 (((ixI k).bind (fun n => elemI ob.el (n : Int))).getD undW), .bool ((ixI k).bind (fun n => elemI ob.el (n : Int))).isSome]) ∧ w' = w := by
  obtain ⟨i, ho, hi⟩ := obO_some hq
  have ci := index_any k w hk
  cases hx : ixI k with
  | none =>
    rw [hx] at ci
    simp only [Option.bind_none, Option.getD_none, Option.isSome_none] at ci ⊢
    unfold undW
    clear h hq hi ho hx
    go_enter Tryz.func72, Tryz.ntmps72
    go_wp2_with fail
    refine ci.mono ?_
    rintro e w2 ⟨rfl, rfl⟩
    clear ci
    go_wp2_with fail
    go_ret2
    exact ⟨rfl, rfl⟩
  | some n =>
    rw [hx] at ci
    have ce := elem_at h o o0 o1 ho hi (n : Int)
    simp only [Option.bind_some, Option.getD_some, Option.isSome_some] at ci ⊢
    generalize (elemI ob.el (n : Int)).getD undW = v at *
    generalize (elemI ob.el (n : Int)).isSome = ok at *
    clear h hq hi ho hx
    go_enter Tryz.func72, Tryz.ntmps72
    go_wp2_with fail
    refine ci.mono ?_
    rintro e w2 ⟨rfl, rfl⟩
    clear ci
    go_wp2_with fail
    refine ce.mono ?_
    rintro e w2 ⟨rfl, rfl⟩
    clear ce
    go_wp2_with fail
    go_ret2
    exact ⟨rfl, rfl⟩

end

end Go.Proofs.YtahhionlbfhinaaGreatDoor.Hp

/- Wishes: plain. -/
namespace Go.Proofs.YtahhionlbfhinaaGreatDoor.Hp
open Go.RowKit
set_option linter.unusedVariables false

/-- a wish -/
structure Ws where
  has : Int
  va : Int
  ge : Int
  se : Int
  fl : Int

def btB (h : Int) (b : Nat) : Bool := decide (h / (2 ^ b : Nat) % 2 = 1)

theorem nat_and_pow (x b : Nat) : x &&& 2 ^ b = if x.testBit b = true then 2 ^ b else 0 := by
  apply Nat.eq_of_testBit_eq
  intro i
  rw [Nat.testBit_and, Nat.testBit_two_pow]
  by_cases c : b = i
  · subst c
    cases h : x.testBit b
    · simp
    · simp
  · rw [decide_eq_false c]
    cases h : x.testBit b
    · simp
    · simp [c]

theorem and_pow (n : Int) (b : Nat) (hb : b < 63) : bits .and .i64 n (2 ^ b : Nat) = if btB n b = true then ((2 ^ b : Nat) : Int) else 0 := by
  have hp : 2 ^ b < 2 ^ 63 := Nat.pow_lt_pow_right (by omega) hb
  have h0 : (BitVec.ofInt 64 ((2 ^ b : Nat) : Int)).toNat = 2 ^ b := by
    have e : ((2 ^ b : Nat) : Int) % ((2 ^ 64 : Nat) : Int) = ((2 ^ b : Nat) : Int) := Int.emod_eq_of_lt (Int.natCast_nonneg _) (by exact_mod_cast Nat.lt_trans hp (by decide))
    rw [BitVec.toNat_ofInt, e, Int.toNat_natCast]
  have key : (BitVec.ofInt 64 n &&& BitVec.ofInt 64 ((2 ^ b : Nat) : Int)).toNat = if btB n b = true then 2 ^ b else 0 := by
    rw [BitVec.toNat_and, h0, BitVec.toNat_ofInt, nat_and_pow]
    have e : ((n % ((2 ^ 64 : Nat) : Int)).toNat).testBit b = btB n b := by
      unfold btB
      rw [Nat.testBit_eq_decide_div_mod_eq]
      apply decide_eq_decide.2
      have hd : n / ((2 ^ b : Nat) : Int) % 2 = ((n % ((2 ^ 64 : Nat) : Int)).toNat / 2 ^ b % 2 : Nat) := by
        have hb2 : (2 ^ 64 : Nat) = 2 ^ b * (2 * 2 ^ (63 - b)) := by
          rw [← Nat.mul_assoc, ← Nat.pow_succ, ← Nat.pow_add]
          congr 1
          omega
        have hm : n % ((2 ^ 64 : Nat) : Int) = n - ((2 ^ 64 : Nat) : Int) * (n / ((2 ^ 64 : Nat) : Int)) := Int.emod_def _ _
        have hnn : 0 ≤ n % ((2 ^ 64 : Nat) : Int) := Int.emod_nonneg _ (by decide)
        have hpos : (0 : Int) < ((2 ^ b : Nat) : Int) := by exact_mod_cast Nat.pow_pos (by omega)
        have h1 : (((n % ((2 ^ 64 : Nat) : Int)).toNat / 2 ^ b % 2 : Nat) : Int) = (n % ((2 ^ 64 : Nat) : Int)) / ((2 ^ b : Nat) : Int) % 2 := by
          rw [Int.natCast_emod, Int.natCast_ediv, Int.toNat_of_nonneg hnn]
          rfl
        rw [h1, hm]
        generalize n / ((2 ^ 64 : Nat) : Int) = q
        rw [hb2, Int.natCast_mul, Int.natCast_mul, Int.mul_assoc, Int.mul_assoc]
        rw [Int.sub_eq_add_neg, ← Int.mul_neg, Int.add_mul_ediv_left _ _ (by omega)]
        have : (((2 : Nat) : Int) * ((((2 ^ (63 - b) : Nat) : Int)) * q)) = 2 * ((((2 ^ (63 - b) : Nat) : Int)) * q) := rfl
        rw [this]
        generalize (((2 ^ (63 - b) : Nat) : Int)) * q = z
        generalize n / ((2 ^ b : Nat) : Int) = y
        omega
      rw [hd]
      exact_mod_cast Iff.rfl
    rw [e]
  show IntKind.i64.wrap ((BitVec.ofInt 64 n &&& BitVec.ofInt 64 ((2 ^ b : Nat) : Int)).toNat : Nat) = _
  rw [key, IntKind.wrap_i64]
  split
  · omega
  · rfl

end Go.Proofs.YtahhionlbfhinaaGreatDoor.Hp

/- What a wish makes of a property. -/
namespace Go.Proofs.YtahhionlbfhinaaGreatDoor.Hp
open Go.RowKit
set_option linter.unusedVariables false

def wsC (u : Ws) : Array Value := #[.int .i64 u.has, .int .u64 u.va, .int .u64 u.ge, .int .u64 u.se, .int .i64 u.fl]
def wsV (u : Ws) : Value := .agg #[.int .i64 u.has, .int .u64 u.va, .int .u64 u.ge, .int .u64 u.se, .int .i64 u.fl]
def Bx5 (W : World) (b : Nat) (u : Ws) : Prop := W.heap[b]? = some (.cells #[.int .i64 u.has, .int .u64 u.va, .int .u64 u.ge, .int .u64 u.se, .int .i64 u.fl] 35 (0, 0))
theorem Bx5.ce {W : World} {b : Nat} {u : Ws} (h : Bx5 W b u) : W.cell? ⟨b, 0, none⟩ = some (.int .i64 u.has) ∧ W.cell? ⟨b, 1, none⟩ = some (.int .u64 u.va) ∧ W.cell? ⟨b, 2, none⟩ = some (.int .u64 u.ge) ∧ W.cell? ⟨b, 3, none⟩ = some (.int .u64 u.se) ∧ W.cell? ⟨b, 4, none⟩ = some (.int .i64 u.fl) := ⟨cell_of_row W b 0 _ _ (0, 0) h, cell_of_row W b 1 _ _ (0, 0) h, cell_of_row W b 2 _ _ (0, 0) h, cell_of_row W b 3 _ _ (0, 0) h, cell_of_row W b 4 _ _ (0, 0) h⟩
theorem Bx5.lt {W : World} {b : Nat} {u : Ws} (h : Bx5 W b u) : b < W.heap.size := (Array.getElem?_eq_some_iff.1 h).1
theorem Bx5.below {W W' : World} {b : Nat} {u : Ws} (h : Bx5 W b u) (hB : Below W.heap.size W W') : Bx5 W' b u := by
  unfold Bx5
  rw [hB.block b h.lt]
  exact h

def accB (d : De) : Bool := bits .and .i64 d.fl 8 != 0
def turnD (d : De) (u : Ws) : De := if (bits .and .i64 u.has (if accB d = true then 3 else 48) == 0) = true then d else ⟨undW, undW, bits .andNot .i64 (bits .xor .i64 d.fl 8) 1⟩

set_option maxRecDepth 100000 in
theorem isAcc_any (w : World) (d : De) : Calls Tryz.prog 80 #[deV d] w fun e w' => e = .returned (.bool (accB d)) ∧ Below w.heap.size w w' := by
  have HB : Hid (Below w.heap.size w (w.alloc (.cells #[.int .u64 d.va, .int .u64 d.se, .int .i64 d.fl] 41))) := (Below.refl _ _).alloc (Nat.le_refl _) _
  obtain ⟨c0, c1, c2⟩ := (Bx3.box w d).ce
  unfold accB deV
  go_enter Tryz.func80, Tryz.ntmps80
  go_wp2_with fail
  go_ret
  exact ⟨rfl, HB.out⟩

/-- boxes of a property, of a wish and of the result -/
structure Bxs (w W : World) (d : De) (u : Ws) (r : De) : Prop where
  x : Bx3 W w.heap.size d
  y : Bx5 W (w.heap.size + 1) u
  z : Bx3 W (w.heap.size + 2) r
  bel : Below w.heap.size w W

def w3b (w : World) (d : De) (u : Ws) : World := ((w.alloc (.cells #[.int .u64 d.va, .int .u64 d.se, .int .i64 d.fl] 41)).alloc (.cells #[.int .i64 u.has, .int .u64 u.va, .int .u64 u.ge, .int .u64 u.se, .int .i64 u.fl] 35)).alloc (.cells #[.int .u64 0, .int .u64 0, .int .i64 0] 41)

theorem bxs_new (w : World) (d : De) (u : Ws) : Bxs w (w3b w d u) d u zDe := by
  have s1 : (w.alloc (.cells #[.int .u64 d.va, .int .u64 d.se, .int .i64 d.fl] 41)).heap.size = w.heap.size + 1 := size_new _ _
  have s2 : ((w.alloc (.cells #[.int .u64 d.va, .int .u64 d.se, .int .i64 d.fl] 41)).alloc (.cells #[.int .i64 u.has, .int .u64 u.va, .int .u64 u.ge, .int .u64 u.se, .int .i64 u.fl] 35)).heap.size = w.heap.size + 2 := by rw [size_new, s1]
  refine ⟨at_old _ _ _ _ (at_old _ _ _ _ (at_new _ _)), ?_, ?_, below_new (below_new (below_new (Below.refl _ _) (Nat.le_refl _) _) (by rw [s1]; omega) _) (by rw [s2]; omega) _⟩
  · have := at_new (w.alloc (.cells #[.int .u64 d.va, .int .u64 d.se, .int .i64 d.fl] 41)) (.cells #[.int .i64 u.has, .int .u64 u.va, .int .u64 u.ge, .int .u64 u.se, .int .i64 u.fl] 35)
    rw [s1] at this
    exact at_old _ _ _ _ this
  · have := Bx3.new ((w.alloc (.cells #[.int .u64 d.va, .int .u64 d.se, .int .i64 d.fl] 41)).alloc (.cells #[.int .i64 u.has, .int .u64 u.va, .int .u64 u.ge, .int .u64 u.se, .int .i64 u.fl] 35))
    rw [s2] at this
    exact this

section
variable {w W W' : World} {d d' r : De} {u : Ws}

theorem Bxs.below (h : Bxs w W d u r) (hB : Below W.heap.size W W') : Bxs w W' d u r := ⟨h.x.below hB, h.y.below hB, h.z.below hB, h.bel.trans (hB.mono h.bel.size)⟩
theorem heap_other (W : World) (a : Addr) (v : Value) {b : Nat} (hb : b ≠ a.block) : (W.setCell a v).heap[b]? = W.heap[b]? := Below.heap_setCell W a v b hb
theorem st3_other (W : World) (g : Nat) (d : De) {b : Nat} (hb : b ≠ g) : (st3 W g d).heap[b]? = W.heap[b]? := by
  unfold st3
  rw [heap_other _ _ _ hb, heap_other _ _ _ hb, heap_other _ _ _ hb]
theorem Bxs.res (h : Bxs w W d u r) (d' : De) : Bxs w (st3 W (w.heap.size + 2) d') d u d' := by
  refine ⟨?_, ?_, h.z.put _, st3_below h.bel (by omega) _⟩
  · unfold Bx3; rw [st3_other _ _ _ (by omega)]; exact h.x
  · unfold Bx5; rw [st3_other _ _ _ (by omega)]; exact h.y
theorem Bxs.set (h : Bxs w W d u r) (d' : De) : Bxs w (st3 W w.heap.size d') d' u r := by
  refine ⟨h.x.put _, ?_, ?_, st3_below h.bel (Nat.le_refl _) _⟩
  · unfold Bx5; rw [st3_other _ _ _ (by omega)]; exact h.y
  · unfold Bx3; rw [st3_other _ _ _ (by omega)]; exact h.z
theorem Bxs.one (h : Bxs w W d u r) (j : Nat) (v : Value) (hx : Bx3 (W.setCell ⟨w.heap.size, j, none⟩ v) w.heap.size d') : Bxs w (W.setCell ⟨w.heap.size, j, none⟩ v) d' u r := by
  refine ⟨hx, ?_, ?_, h.bel.setCell (Nat.le_refl _) _⟩
  · unfold Bx5; rw [heap_other _ _ _ (by show w.heap.size + 1 ≠ w.heap.size; omega)]; exact h.y
  · unfold Bx3; rw [heap_other _ _ _ (by show w.heap.size + 2 ≠ w.heap.size; omega)]; exact h.z
end

set_option maxRecDepth 100000 in
set_option maxHeartbeats 1000000 in
theorem turned_any (w : World) (d : De) (u : Ws) : Calls Tryz.prog 105 #[deV d, wsV u] w fun e w' => e = .returned (deV (turnD d u)) ∧ Below w.heap.size w w' := by
  obtain ⟨wb, hwb⟩ : ∃ wb, wb = w3b w d u := ⟨_, rfl⟩
  have h := bxs_new w d u
  rw [← hwb] at h
  have ka := isAcc_any wb d
  have HN : Hid (∀ W, Below wb.heap.size wb W → Bxs w W d u zDe) := fun W q => h.below q
  obtain ⟨x0, x1, x2⟩ := h.x.ce
  have kd := fun W => dataOf_any W undW (bits .andNot .i64 (bits .xor .i64 d.fl 8) 1)
  unfold undW at kd
  unfold w3b at hwb
  unfold turnD deV wsV at *
  clear h
  cases hac : accB d with
  | true =>
    rw [hac] at ka
    simp only [if_true]
    cases hz : (bits .and .i64 u.has 3 == 0) with
    | true =>
      simp only [if_true]
      clear kd
      go_enter Tryz.func105, Tryz.ntmps105
      go_upto_region 1 with fail
      rw [← hwb]
      clear hwb
      go_wp2_with fail
      refine ka.mono ?_
      rintro e w2 ⟨rfl, hB2⟩
      have hx := HN.out w2 hB2
      obtain ⟨x0, x1, x2⟩ := hx.x.ce
      obtain ⟨y0, y1, y2, y3, y4⟩ := hx.y.ce
      obtain ⟨z0, z1, z2⟩ := hx.z.ce
      obtain ⟨f0, f1, f2⟩ := hx.z.fz
      unfold zDe at z0 z1 z2
      have HF := (show Hid _ from hx.res d)
      clear ka hB2 hx HN
      go_wp2_with fail
      refine bodyPost_ret (res1 rfl _ _ (w.heap.size + 2) 41 _ (0, 0) _ rfl HF.out.z Tryz.underlying41 rfl (by kernel_rfl)) rfl ?_
      exact ⟨rfl, HF.out.bel⟩
    | false =>
      simp only [Bool.false_eq_true, if_false]
      go_enter Tryz.func105, Tryz.ntmps105
      go_upto_region 1 with fail
      rw [← hwb]
      clear hwb
      go_wp2_with fail
      refine ka.mono ?_
      rintro e w2 ⟨rfl, hB2⟩
      have hx := HN.out w2 hB2
      obtain ⟨x0, x1, x2⟩ := hx.x.ce
      obtain ⟨y0, y1, y2, y3, y4⟩ := hx.y.ce
      have HX2 : Hid (Bxs w w2 d u zDe) := hx
      clear ka hB2 hx HN
      go_wp2_with fail
      refine (kd _).mono ?_
      rintro e w4 ⟨rfl, hB4⟩
      have hx := HX2.out.below hB4
      obtain ⟨z0, z1, z2⟩ := hx.z.ce
      obtain ⟨f0, f1, f2⟩ := hx.z.fz
      unfold zDe at z0 z1 z2
      have HF := (show Hid _ from hx.res ⟨undW, undW, bits .andNot .i64 (bits .xor .i64 d.fl 8) 1⟩)
      clear kd hB4 hx HX2
      go_wp2_with fail
      refine bodyPost_ret (res1 rfl _ _ (w.heap.size + 2) 41 _ (0, 0) _ rfl HF.out.z Tryz.underlying41 rfl (by kernel_rfl)) rfl ?_
      exact ⟨rfl, HF.out.bel⟩
  | false =>
    rw [hac] at ka
    simp only [Bool.false_eq_true, if_false]
    cases hz : (bits .and .i64 u.has 48 == 0) with
    | true =>
      simp only [if_true]
      clear kd
      go_enter Tryz.func105, Tryz.ntmps105
      go_upto_region 1 with fail
      rw [← hwb]
      clear hwb
      go_wp2_with fail
      refine ka.mono ?_
      rintro e w2 ⟨rfl, hB2⟩
      have hx := HN.out w2 hB2
      obtain ⟨x0, x1, x2⟩ := hx.x.ce
      obtain ⟨y0, y1, y2, y3, y4⟩ := hx.y.ce
      obtain ⟨z0, z1, z2⟩ := hx.z.ce
      obtain ⟨f0, f1, f2⟩ := hx.z.fz
      unfold zDe at z0 z1 z2
      have HF := (show Hid _ from hx.res d)
      clear ka hB2 hx HN
      go_wp2_with fail
      refine bodyPost_ret (res1 rfl _ _ (w.heap.size + 2) 41 _ (0, 0) _ rfl HF.out.z Tryz.underlying41 rfl (by kernel_rfl)) rfl ?_
      exact ⟨rfl, HF.out.bel⟩
    | false =>
      simp only [Bool.false_eq_true, if_false]
      go_enter Tryz.func105, Tryz.ntmps105
      go_upto_region 1 with fail
      rw [← hwb]
      clear hwb
      go_wp2_with fail
      refine ka.mono ?_
      rintro e w2 ⟨rfl, hB2⟩
      have hx := HN.out w2 hB2
      obtain ⟨x0, x1, x2⟩ := hx.x.ce
      obtain ⟨y0, y1, y2, y3, y4⟩ := hx.y.ce
      have HX2 : Hid (Bxs w w2 d u zDe) := hx
      clear ka hB2 hx HN
      go_wp2_with fail
      refine (kd _).mono ?_
      rintro e w4 ⟨rfl, hB4⟩
      have hx := HX2.out.below hB4
      obtain ⟨z0, z1, z2⟩ := hx.z.ce
      obtain ⟨f0, f1, f2⟩ := hx.z.fz
      unfold zDe at z0 z1 z2
      have HF := (show Hid _ from hx.res ⟨undW, undW, bits .andNot .i64 (bits .xor .i64 d.fl 8) 1⟩)
      clear kd hB4 hx HX2
      go_wp2_with fail
      refine bodyPost_ret (res1 rfl _ _ (w.heap.size + 2) 41 _ (0, 0) _ rfl HF.out.z Tryz.underlying41 rfl (by kernel_rfl)) rfl ?_
      exact ⟨rfl, HF.out.bel⟩

end Go.Proofs.YtahhionlbfhinaaGreatDoor.Hp
