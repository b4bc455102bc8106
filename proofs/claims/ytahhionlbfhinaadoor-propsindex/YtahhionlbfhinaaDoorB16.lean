/- Put of a new key, as long as there is no map. -/
import Derived.Test.YtahhionlbfhinaaDoorB13
import Derived.Test.YtahhionlbfhinaaDoorB15
namespace Go.Proofs.YtahhionlbfhinaaDoor.Hp
open Go.RowKit
set_option linter.unusedVariables false

section
variable {w w' w1 : World} {B hb : Nat} {O S : Nat → Prop} {H H' : He} {M M' : HV} {tg : Nat → Nat}

def keptD (d : De) : De := { d with fl := keptI d.fl }

set_option maxRecDepth 100000 in
set_option maxHeartbeats 4000000 in
theorem put_new (h : HeapAt w B hb tg H M) (o : Int) (o0 : 0 ≤ o) (o1 : o < 18446744073709551616) {i : Nat} {ob : Ob} (ho : obI H o = some i) (hi : H.obs[i]? = some ob) (hm : ob.hm = false) (hsh : ob.shaped = true) (k : ByteArray) (hk : k.size ≤ maxLen) (d : De) (hlen : ob.ps.length + 1 ≤ 16) (hnx : ob.next < 2000000000000) (hpl : plc ob.ps k = none) :
    Calls Tryd.prog 46 #[.pointer (some ⟨hb, 0, none⟩), .int .u64 o, .string k, deV d] w fun e w' => e = .returned (.tuple #[]) ∧ ∃ M', WentM w B hb tg (layH (touchH H ob.cell) i ob k (keptD d)) M' w' := by
  obtain ⟨wb, hwb⟩ : ∃ wb, wb = w.alloc (.cells #[.int .u64 d.va, .int .u64 d.se, .int .i64 d.fl] 37) := ⟨_, rfl⟩
  have hB : Below w.heap.size w wb := by rw [hwb]; exact (Below.refl _ _).alloc (Nat.le_refl _) _
  have hbx : wb.heap[w.heap.size]? = some (.cells #[.int .u64 d.va, .int .u64 d.se, .int .i64 d.fl] 37 (0, 0)) := by rw [hwb]; exact at_new _ _
  have h2 : HeapAt wb B hb tg H M := h.below hB
  obtain ⟨g, cap, ov, hvo, hov, _⟩ := h2.obj hi
  have ka := at_hit h2 o o0 o1 i g cap ho hvo
  have kt := touch_at h2 hi hvo
  have kk := fun w => kept_any w d.fl
  have htx : tg w.heap.size = 0 := by
    by_cases c : tg w.heap.size = 0
    · exact c
    · have := (h.lt _ c).2; omega
  have hxs : w.heap.size < wb.heap.size := (Array.getElem?_eq_some_iff.1 hbx).1
  have HA : Hid (∀ w2, WentM wb B hb tg (touchH H ob.cell) M w2 →
      (w2.cell? ⟨w.heap.size, 0, none⟩ = some (.int .u64 d.va) ∧ w2.cell? ⟨w.heap.size, 1, none⟩ = some (.int .u64 d.se) ∧ w2.cell? ⟨w.heap.size, 2, none⟩ = some (.int .i64 d.fl) ∧ w2.frozen? ⟨w.heap.size, 2, none⟩ = false) ∧
      ∀ w3, w3 = w2.setCell ⟨w.heap.size, 2, none⟩ (.int .i64 (keptI d.fl)) →
      (w3.cell? ⟨w.heap.size, 0, none⟩ = some (.int .u64 d.va) ∧ w3.cell? ⟨w.heap.size, 1, none⟩ = some (.int .u64 d.se) ∧ w3.cell? ⟨w.heap.size, 2, none⟩ = some (.int .i64 (keptI d.fl))) ∧
      Calls Tryd.prog 49 #[.pointer (some ⟨g, i * 12 + 4, none⟩), .string k] w3 (fun e w' => e = .returned (.tuple #[.int .i64 0, .bool false]) ∧ w' = w3) ∧
      Calls Tryd.prog 56 #[.pointer (some ⟨hb, 0, none⟩), .pointer (some ⟨g, i * 12, none⟩), .string k, .agg #[.int .u64 d.va, .int .u64 d.se, .int .i64 (keptI d.fl)]] w3 (fun e w' => e = .returned (.tuple #[]) ∧ ∃ M', WentM w B hb tg (layH (touchH H ob.cell) i ob k (keptD d)) M' w')) := fun w2 hw2 => by
    obtain ⟨tg2, p1, p2, p3⟩ := hw2
    have hbx2 : w2.heap[w.heap.size]? = some (.cells #[.int .u64 d.va, .int .u64 d.se, .int .i64 d.fl] 37 (0, 0)) := by
      rw [p2.block _ hxs (fun q => q htx)]
      exact hbx
    refine ⟨⟨cell_of_row w2 w.heap.size 0 _ _ (0, 0) hbx2, cell_of_row w2 w.heap.size 1 _ _ (0, 0) hbx2, cell_of_row w2 w.heap.size 2 _ _ (0, 0) hbx2, frozen_of_row w2 w.heap.size 2 _ _ hbx2⟩, ?_⟩
    rintro w3 rfl
    have hbx3 := heap_setCell_same w2 w.heap.size 2 _ _ (.int .i64 (keptI d.fl)) hbx2
    have hx2 : tg2 w.heap.size = 0 := by
      by_cases c : tg2 w.heap.size = 0
      · exact c
      · rcases p3 _ c with q | q
        · exact absurd htx q
        · omega
    have cs : Chg (fun b => b = w.heap.size) w2 (w2.setCell ⟨w.heap.size, 2, none⟩ (.int .i64 (keptI d.fl))) := Chg.set (S := fun b => b = w.heap.size) w2 ⟨w.heap.size, 2, none⟩ _ rfl
    have h3 := p1.kept cs (fun b q e => by rw [show b = w.heap.size from e] at q; exact q hx2)
    refine ⟨⟨cell_of_row _ w.heap.size 0 _ _ (0, 0) hbx3, cell_of_row _ w.heap.size 1 _ _ (0, 0) hbx3, cell_of_row _ w.heap.size 2 _ _ (0, 0) hbx3⟩, ?_, ?_⟩
    · have hf := find_at h3 hi hov hvo hm k
      unfold FindSays at hf
      rw [hpl] at hf
      exact hf
    · refine (lay_small h3 hi hov hvo hm hsh k hk (keptD d) (kept_bd d.fl) hlen hnx).mono ?_
      rintro e w' ⟨rfl, vl', hq⟩
      have p2w : Chg (fun b => tg b ≠ 0) w (w2.setCell ⟨w.heap.size, 2, none⟩ (.int .i64 (keptI d.fl))) := ((Chg.of_below (S := fun b => tg b ≠ 0) hB).trans p2 (fun _ _ q => q)).trans cs (fun b hb q => by have q : b = w.heap.size := q; omega)
      exact ⟨rfl, _, WentM.next p2w (fun b q => by rcases p3 b q with c | c; exact Or.inl c; exact Or.inr (by omega)) hq⟩
  have b0 : wb.cell? ⟨w.heap.size, 0, none⟩ = some (.int .u64 d.va) := cell_of_row wb w.heap.size 0 _ _ (0, 0) hbx
  have b1 : wb.cell? ⟨w.heap.size, 1, none⟩ = some (.int .u64 d.se) := cell_of_row wb w.heap.size 1 _ _ (0, 0) hbx
  have b2 : wb.cell? ⟨w.heap.size, 2, none⟩ = some (.int .i64 d.fl) := cell_of_row wb w.heap.size 2 _ _ (0, 0) hbx
  generalize layH (touchH H ob.cell) i ob k (keptD d) = HL at *
  generalize touchH H ob.cell = HT at *
  unfold deV
  obtain ⟨va, se, fl⟩ := d
  simp only at *
  generalize keptI fl = kf at *
  clear h h2 hB hbx ho hi hm hsh hk hlen hnx hpl hvo hov htx hxs
  go_enter Tryd.func46, Tryd.ntmps46
  go_upto_region 1 with fail
  rw [← hwb]
  clear hwb
  generalize w.heap.size = xb at b0 b1 b2 HA ⊢
  go_wp2_with fail
  refine ka.mono ?_
  rintro e w2 ⟨rfl, rfl⟩
  clear ka
  go_wp2_with fail
  refine kt.mono ?_
  rintro e w3 ⟨rfl, hw3⟩
  obtain ⟨⟨a0, a1, a2, a3⟩, HB0⟩ := HA.out w3 hw3
  have HB := (show Hid _ from HB0 _ rfl)
  clear hw3 kt HB0 HA b0 b1 b2
  go_wp2_with fail
  refine (kk _).mono ?_
  rintro e w4 ⟨rfl, rfl⟩
  clear kk
  go_upto_region 5 with fail
  generalize (w4.setCell ⟨xb, 2, none⟩ (.int .i64 kf)) = w5 at *
  obtain ⟨⟨y0, y1, y2⟩, kfd, kly⟩ := HB.out
  clear HB a0 a1 a2 a3
  go_wp2_with fail
  refine kfd.mono ?_
  rintro e w6 ⟨rfl, rfl⟩
  clear kfd
  go_wp2_with fail
  refine kly.mono ?_
  rintro e w7 ⟨rfl, M', hq⟩
  have HQ := (show Hid _ from hq)
  clear kly hq
  go_wp2_with fail
  go_end0
  exact ⟨rfl, M', HQ.out⟩

end

end Go.Proofs.YtahhionlbfhinaaDoor.Hp

/- Wishes: plain. -/
namespace Go.Proofs.YtahhionlbfhinaaDoor.Hp
open Go.RowKit
set_option linter.unusedVariables false

/-- a wish -/
structure Ws where
  has : Int
  va : Int
  ge : Int
  se : Int
  fl : Int

def btB (h : Int) (b : Nat) : Bool := decide (h / (2 ^ b : Nat) % 2 = 1)

theorem nat_and_pow (x b : Nat) : x &&& 2 ^ b = if x.testBit b = true then 2 ^ b else 0 := by
  apply Nat.eq_of_testBit_eq
  intro i
  rw [Nat.testBit_and, Nat.testBit_two_pow]
  by_cases c : b = i
  · subst c
    cases h : x.testBit b
    · simp
    · simp
  · rw [decide_eq_false c]
    cases h : x.testBit b
    · simp
    · simp [c]

theorem and_pow (n : Int) (b : Nat) (hb : b < 63) : bits .and .i64 n (2 ^ b : Nat) = if btB n b = true then ((2 ^ b : Nat) : Int) else 0 := by
  have hp : 2 ^ b < 2 ^ 63 := Nat.pow_lt_pow_right (by omega) hb
  have h0 : (BitVec.ofInt 64 ((2 ^ b : Nat) : Int)).toNat = 2 ^ b := by
    have e : ((2 ^ b : Nat) : Int) % ((2 ^ 64 : Nat) : Int) = ((2 ^ b : Nat) : Int) := Int.emod_eq_of_lt (Int.natCast_nonneg _) (by exact_mod_cast Nat.lt_trans hp (by decide))
    rw [BitVec.toNat_ofInt, e, Int.toNat_natCast]
  have key : (BitVec.ofInt 64 n &&& BitVec.ofInt 64 ((2 ^ b : Nat) : Int)).toNat = if btB n b = true then 2 ^ b else 0 := by
    rw [BitVec.toNat_and, h0, BitVec.toNat_ofInt, nat_and_pow]
    have e : ((n % ((2 ^ 64 : Nat) : Int)).toNat).testBit b = btB n b := by
      unfold btB
      rw [Nat.testBit_eq_decide_div_mod_eq]
      apply decide_eq_decide.2
      have hd : n / ((2 ^ b : Nat) : Int) % 2 = ((n % ((2 ^ 64 : Nat) : Int)).toNat / 2 ^ b % 2 : Nat) := by
        have hb2 : (2 ^ 64 : Nat) = 2 ^ b * (2 * 2 ^ (63 - b)) := by
          rw [← Nat.mul_assoc, ← Nat.pow_succ, ← Nat.pow_add]
          congr 1
          omega
        have hm : n % ((2 ^ 64 : Nat) : Int) = n - ((2 ^ 64 : Nat) : Int) * (n / ((2 ^ 64 : Nat) : Int)) := Int.emod_def _ _
        have hnn : 0 ≤ n % ((2 ^ 64 : Nat) : Int) := Int.emod_nonneg _ (by decide)
        have hpos : (0 : Int) < ((2 ^ b : Nat) : Int) := by exact_mod_cast Nat.pow_pos (by omega)
        have h1 : (((n % ((2 ^ 64 : Nat) : Int)).toNat / 2 ^ b % 2 : Nat) : Int) = (n % ((2 ^ 64 : Nat) : Int)) / ((2 ^ b : Nat) : Int) % 2 := by
          rw [Int.natCast_emod, Int.natCast_ediv, Int.toNat_of_nonneg hnn]
          rfl
        rw [h1, hm]
        generalize n / ((2 ^ 64 : Nat) : Int) = q
        rw [hb2, Int.natCast_mul, Int.natCast_mul, Int.mul_assoc, Int.mul_assoc]
        rw [Int.sub_eq_add_neg, ← Int.mul_neg, Int.add_mul_ediv_left _ _ (by omega)]
        have : (((2 : Nat) : Int) * ((((2 ^ (63 - b) : Nat) : Int)) * q)) = 2 * ((((2 ^ (63 - b) : Nat) : Int)) * q) := rfl
        rw [this]
        generalize (((2 ^ (63 - b) : Nat) : Int)) * q = z
        generalize n / ((2 ^ b : Nat) : Int) = y
        omega
      rw [hd]
      exact_mod_cast Iff.rfl
    rw [e]
  show IntKind.i64.wrap ((BitVec.ofInt 64 n &&& BitVec.ofInt 64 ((2 ^ b : Nat) : Int)).toNat : Nat) = _
  rw [key, IntKind.wrap_i64]
  split
  · omega
  · rfl

end Go.Proofs.YtahhionlbfhinaaDoor.Hp

/- What a wish makes of a property. -/
namespace Go.Proofs.YtahhionlbfhinaaDoor.Hp
open Go.RowKit
set_option linter.unusedVariables false

def wsC (u : Ws) : Array Value := #[.int .i64 u.has, .int .u64 u.va, .int .u64 u.ge, .int .u64 u.se, .int .i64 u.fl]
def wsV (u : Ws) : Value := .agg #[.int .i64 u.has, .int .u64 u.va, .int .u64 u.ge, .int .u64 u.se, .int .i64 u.fl]
def Bx5 (W : World) (b : Nat) (u : Ws) : Prop := W.heap[b]? = some (.cells #[.int .i64 u.has, .int .u64 u.va, .int .u64 u.ge, .int .u64 u.se, .int .i64 u.fl] 65 (0, 0))
theorem Bx5.ce {W : World} {b : Nat} {u : Ws} (h : Bx5 W b u) : W.cell? ⟨b, 0, none⟩ = some (.int .i64 u.has) ∧ W.cell? ⟨b, 1, none⟩ = some (.int .u64 u.va) ∧ W.cell? ⟨b, 2, none⟩ = some (.int .u64 u.ge) ∧ W.cell? ⟨b, 3, none⟩ = some (.int .u64 u.se) ∧ W.cell? ⟨b, 4, none⟩ = some (.int .i64 u.fl) := ⟨cell_of_row W b 0 _ _ (0, 0) h, cell_of_row W b 1 _ _ (0, 0) h, cell_of_row W b 2 _ _ (0, 0) h, cell_of_row W b 3 _ _ (0, 0) h, cell_of_row W b 4 _ _ (0, 0) h⟩
theorem Bx5.lt {W : World} {b : Nat} {u : Ws} (h : Bx5 W b u) : b < W.heap.size := (Array.getElem?_eq_some_iff.1 h).1
theorem Bx5.below {W W' : World} {b : Nat} {u : Ws} (h : Bx5 W b u) (hB : Below W.heap.size W W') : Bx5 W' b u := by
  unfold Bx5
  rw [hB.block b h.lt]
  exact h

def accB (d : De) : Bool := bits .and .i64 d.fl 8 != 0
def turnD (d : De) (u : Ws) : De := if (bits .and .i64 u.has (if accB d = true then 3 else 48) == 0) = true then d else ⟨undW, undW, bits .andNot .i64 (bits .xor .i64 d.fl 8) 1⟩

set_option maxRecDepth 100000 in
theorem isAcc_any (w : World) (d : De) : Calls Tryd.prog 21 #[deV d] w fun e w' => e = .returned (.bool (accB d)) ∧ Below w.heap.size w w' := by
  have HB : Hid (Below w.heap.size w (w.alloc (.cells #[.int .u64 d.va, .int .u64 d.se, .int .i64 d.fl] 37))) := (Below.refl _ _).alloc (Nat.le_refl _) _
  obtain ⟨c0, c1, c2⟩ := (Bx3.box w d).ce
  unfold accB deV
  go_enter Tryd.func21, Tryd.ntmps21
  go_wp2_with fail
  go_ret
  exact ⟨rfl, HB.out⟩

/-- boxes of a property, of a wish and of the result -/
structure Bxs (w W : World) (d : De) (u : Ws) (r : De) : Prop where
  x : Bx3 W w.heap.size d
  y : Bx5 W (w.heap.size + 1) u
  z : Bx3 W (w.heap.size + 2) r
  bel : Below w.heap.size w W

def w3b (w : World) (d : De) (u : Ws) : World := ((w.alloc (.cells #[.int .u64 d.va, .int .u64 d.se, .int .i64 d.fl] 37)).alloc (.cells #[.int .i64 u.has, .int .u64 u.va, .int .u64 u.ge, .int .u64 u.se, .int .i64 u.fl] 65)).alloc (.cells #[.int .u64 0, .int .u64 0, .int .i64 0] 37)

theorem bxs_new (w : World) (d : De) (u : Ws) : Bxs w (w3b w d u) d u zDe := by
  have s1 : (w.alloc (.cells #[.int .u64 d.va, .int .u64 d.se, .int .i64 d.fl] 37)).heap.size = w.heap.size + 1 := size_new _ _
  have s2 : ((w.alloc (.cells #[.int .u64 d.va, .int .u64 d.se, .int .i64 d.fl] 37)).alloc (.cells #[.int .i64 u.has, .int .u64 u.va, .int .u64 u.ge, .int .u64 u.se, .int .i64 u.fl] 65)).heap.size = w.heap.size + 2 := by rw [size_new, s1]
  refine ⟨at_old _ _ _ _ (at_old _ _ _ _ (at_new _ _)), ?_, ?_, below_new (below_new (below_new (Below.refl _ _) (Nat.le_refl _) _) (by rw [s1]; omega) _) (by rw [s2]; omega) _⟩
  · have := at_new (w.alloc (.cells #[.int .u64 d.va, .int .u64 d.se, .int .i64 d.fl] 37)) (.cells #[.int .i64 u.has, .int .u64 u.va, .int .u64 u.ge, .int .u64 u.se, .int .i64 u.fl] 65)
    rw [s1] at this
    exact at_old _ _ _ _ this
  · have := Bx3.new ((w.alloc (.cells #[.int .u64 d.va, .int .u64 d.se, .int .i64 d.fl] 37)).alloc (.cells #[.int .i64 u.has, .int .u64 u.va, .int .u64 u.ge, .int .u64 u.se, .int .i64 u.fl] 65))
    rw [s2] at this
    exact this

section
variable {w W W' : World} {d d' r : De} {u : Ws}

theorem Bxs.below (h : Bxs w W d u r) (hB : Below W.heap.size W W') : Bxs w W' d u r := ⟨h.x.below hB, h.y.below hB, h.z.below hB, h.bel.trans (hB.mono h.bel.size)⟩
theorem heap_other (W : World) (a : Addr) (v : Value) {b : Nat} (hb : b ≠ a.block) : (W.setCell a v).heap[b]? = W.heap[b]? := Below.heap_setCell W a v b hb
theorem st3_other (W : World) (g : Nat) (d : De) {b : Nat} (hb : b ≠ g) : (st3 W g d).heap[b]? = W.heap[b]? := by
  unfold st3
  rw [heap_other _ _ _ hb, heap_other _ _ _ hb, heap_other _ _ _ hb]
theorem Bxs.res (h : Bxs w W d u r) (d' : De) : Bxs w (st3 W (w.heap.size + 2) d') d u d' := by
  refine ⟨?_, ?_, h.z.put _, st3_below h.bel (by omega) _⟩
  · unfold Bx3; rw [st3_other _ _ _ (by omega)]; exact h.x
  · unfold Bx5; rw [st3_other _ _ _ (by omega)]; exact h.y
theorem Bxs.set (h : Bxs w W d u r) (d' : De) : Bxs w (st3 W w.heap.size d') d' u r := by
  refine ⟨h.x.put _, ?_, ?_, st3_below h.bel (Nat.le_refl _) _⟩
  · unfold Bx5; rw [st3_other _ _ _ (by omega)]; exact h.y
  · unfold Bx3; rw [st3_other _ _ _ (by omega)]; exact h.z
theorem Bxs.one (h : Bxs w W d u r) (j : Nat) (v : Value) (hx : Bx3 (W.setCell ⟨w.heap.size, j, none⟩ v) w.heap.size d') : Bxs w (W.setCell ⟨w.heap.size, j, none⟩ v) d' u r := by
  refine ⟨hx, ?_, ?_, h.bel.setCell (Nat.le_refl _) _⟩
  · unfold Bx5; rw [heap_other _ _ _ (by show w.heap.size + 1 ≠ w.heap.size; omega)]; exact h.y
  · unfold Bx3; rw [heap_other _ _ _ (by show w.heap.size + 2 ≠ w.heap.size; omega)]; exact h.z
end

set_option maxRecDepth 100000 in
set_option maxHeartbeats 1000000 in
theorem turned_any (w : World) (d : De) (u : Ws) : Calls Tryd.prog 47 #[deV d, wsV u] w fun e w' => e = .returned (deV (turnD d u)) ∧ Below w.heap.size w w' := by
  obtain ⟨wb, hwb⟩ : ∃ wb, wb = w3b w d u := ⟨_, rfl⟩
  have h := bxs_new w d u
  rw [← hwb] at h
  have ka := isAcc_any wb d
  have HN : Hid (∀ W, Below wb.heap.size wb W → Bxs w W d u zDe) := fun W q => h.below q
  obtain ⟨x0, x1, x2⟩ := h.x.ce
  have kd := fun W => dataOf_any W undW (bits .andNot .i64 (bits .xor .i64 d.fl 8) 1)
  unfold undW at kd
  unfold w3b at hwb
  unfold turnD deV wsV at *
  clear h
  cases hac : accB d with
  | true =>
    rw [hac] at ka
    simp only [if_true]
    cases hz : (bits .and .i64 u.has 3 == 0) with
    | true =>
      simp only [if_true]
      clear kd
      go_enter Tryd.func47, Tryd.ntmps47
      go_upto_region 1 with fail
      rw [← hwb]
      clear hwb
      go_wp2_with fail
      refine ka.mono ?_
      rintro e w2 ⟨rfl, hB2⟩
      have hx := HN.out w2 hB2
      obtain ⟨x0, x1, x2⟩ := hx.x.ce
      obtain ⟨y0, y1, y2, y3, y4⟩ := hx.y.ce
      obtain ⟨z0, z1, z2⟩ := hx.z.ce
      obtain ⟨f0, f1, f2⟩ := hx.z.fz
      unfold zDe at z0 z1 z2
      have HF := (show Hid _ from hx.res d)
      clear ka hB2 hx HN
      go_wp2_with fail
      refine bodyPost_ret (res1 rfl _ _ (w.heap.size + 2) 37 _ (0, 0) _ rfl HF.out.z Tryd.underlying37 rfl (by kernel_rfl)) rfl ?_
      exact ⟨rfl, HF.out.bel⟩
    | false =>
      simp only [Bool.false_eq_true, if_false]
      go_enter Tryd.func47, Tryd.ntmps47
      go_upto_region 1 with fail
      rw [← hwb]
      clear hwb
      go_wp2_with fail
      refine ka.mono ?_
      rintro e w2 ⟨rfl, hB2⟩
      have hx := HN.out w2 hB2
      obtain ⟨x0, x1, x2⟩ := hx.x.ce
      obtain ⟨y0, y1, y2, y3, y4⟩ := hx.y.ce
      have HX2 : Hid (Bxs w w2 d u zDe) := hx
      clear ka hB2 hx HN
      go_wp2_with fail
      refine (kd _).mono ?_
      rintro e w4 ⟨rfl, hB4⟩
      have hx := HX2.out.below hB4
      obtain ⟨z0, z1, z2⟩ := hx.z.ce
      obtain ⟨f0, f1, f2⟩ := hx.z.fz
      unfold zDe at z0 z1 z2
      have HF := (show Hid _ from hx.res ⟨undW, undW, bits .andNot .i64 (bits .xor .i64 d.fl 8) 1⟩)
      clear kd hB4 hx HX2
      go_wp2_with fail
      refine bodyPost_ret (res1 rfl _ _ (w.heap.size + 2) 37 _ (0, 0) _ rfl HF.out.z Tryd.underlying37 rfl (by kernel_rfl)) rfl ?_
      exact ⟨rfl, HF.out.bel⟩
  | false =>
    rw [hac] at ka
    simp only [Bool.false_eq_true, if_false]
    cases hz : (bits .and .i64 u.has 48 == 0) with
    | true =>
      simp only [if_true]
      clear kd
      go_enter Tryd.func47, Tryd.ntmps47
      go_upto_region 1 with fail
      rw [← hwb]
      clear hwb
      go_wp2_with fail
      refine ka.mono ?_
      rintro e w2 ⟨rfl, hB2⟩
      have hx := HN.out w2 hB2
      obtain ⟨x0, x1, x2⟩ := hx.x.ce
      obtain ⟨y0, y1, y2, y3, y4⟩ := hx.y.ce
      obtain ⟨z0, z1, z2⟩ := hx.z.ce
      obtain ⟨f0, f1, f2⟩ := hx.z.fz
      unfold zDe at z0 z1 z2
      have HF := (show Hid _ from hx.res d)
      clear ka hB2 hx HN
      go_wp2_with fail
      refine bodyPost_ret (res1 rfl _ _ (w.heap.size + 2) 37 _ (0, 0) _ rfl HF.out.z Tryd.underlying37 rfl (by kernel_rfl)) rfl ?_
      exact ⟨rfl, HF.out.bel⟩
    | false =>
      simp only [Bool.false_eq_true, if_false]
      go_enter Tryd.func47, Tryd.ntmps47
      go_upto_region 1 with fail
      rw [← hwb]
      clear hwb
      go_wp2_with fail
      refine ka.mono ?_
      rintro e w2 ⟨rfl, hB2⟩
      have hx := HN.out w2 hB2
      obtain ⟨x0, x1, x2⟩ := hx.x.ce
      obtain ⟨y0, y1, y2, y3, y4⟩ := hx.y.ce
      have HX2 : Hid (Bxs w w2 d u zDe) := hx
      clear ka hB2 hx HN
      go_wp2_with fail
      refine (kd _).mono ?_
      rintro e w4 ⟨rfl, hB4⟩
      have hx := HX2.out.below hB4
      obtain ⟨z0, z1, z2⟩ := hx.z.ce
      obtain ⟨f0, f1, f2⟩ := hx.z.fz
      unfold zDe at z0 z1 z2
      have HF := (show Hid _ from hx.res ⟨undW, undW, bits .andNot .i64 (bits .xor .i64 d.fl 8) 1⟩)
      clear kd hB4 hx HX2
      go_wp2_with fail
      refine bodyPost_ret (res1 rfl _ _ (w.heap.size + 2) 37 _ (0, 0) _ rfl HF.out.z Tryd.underlying37 rfl (by kernel_rfl)) rfl ?_
      exact ⟨rfl, HF.out.bel⟩

end Go.Proofs.YtahhionlbfhinaaDoor.Hp
