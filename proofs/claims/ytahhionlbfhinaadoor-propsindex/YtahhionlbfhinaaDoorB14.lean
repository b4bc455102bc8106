/- Get, Len, Elem of whatever word. -/
import Derived.Test.YtahhionlbfhinaaDoorB12
import Derived.Test.YtahhionlbfhinaaDoorHY
import Derived.Test.YtahhionlbfhinaaDoorB7
namespace Go.Proofs.YtahhionlbfhinaaDoor.Hp
open Go.RowKit
set_option linter.unusedVariables false

def zDe : De := ⟨0, 0, 0⟩

/-- a variable of a property -/
def Bx3 (W : World) (b : Nat) (d : De) : Prop := W.heap[b]? = some (.cells #[.int .u64 d.va, .int .u64 d.se, .int .i64 d.fl] 37 (0, 0))

/-- given a property as a whole -/
def st3 (W : World) (b : Nat) (d : De) : World := ((W.setCell ⟨b, 0, none⟩ (.int .u64 d.va)).setCell ⟨b, 1, none⟩ (.int .u64 d.se)).setCell ⟨b, 2, none⟩ (.int .i64 d.fl)

theorem Bx3.new (w : World) : Bx3 (w.alloc (.cells #[.int .u64 0, .int .u64 0, .int .i64 0] 37)) w.heap.size zDe := at_new _ _
theorem Bx3.box (w : World) (d : De) : Bx3 (w.alloc (.cells #[.int .u64 d.va, .int .u64 d.se, .int .i64 d.fl] 37)) w.heap.size d := at_new _ _

section
variable {w W W' : World} {b n : Nat} {d : De}

theorem Bx3.lt (h : Bx3 W b d) : b < W.heap.size := (Array.getElem?_eq_some_iff.1 h).1
theorem Bx3.below (h : Bx3 W b d) (hB : Below W.heap.size W W') : Bx3 W' b d := by
  unfold Bx3
  rw [hB.block b h.lt]
  exact h
theorem Bx3.up (h : Bx3 W b d) (hB : Below n W W') (hn : b < n) : Bx3 W' b d := by
  unfold Bx3
  rw [hB.block b hn]
  exact h
theorem Bx3.fz (h : Bx3 W b d) : W.frozen? ⟨b, 0, none⟩ = false ∧ W.frozen? ⟨b, 1, none⟩ = false ∧ W.frozen? ⟨b, 2, none⟩ = false := ⟨frozen_of_row W b 0 _ _ h, frozen_of_row W b 1 _ _ h, frozen_of_row W b 2 _ _ h⟩
theorem Bx3.ce (h : Bx3 W b d) : W.cell? ⟨b, 0, none⟩ = some (.int .u64 d.va) ∧ W.cell? ⟨b, 1, none⟩ = some (.int .u64 d.se) ∧ W.cell? ⟨b, 2, none⟩ = some (.int .i64 d.fl) := ⟨cell_of_row W b 0 _ _ (0, 0) h, cell_of_row W b 1 _ _ (0, 0) h, cell_of_row W b 2 _ _ (0, 0) h⟩
theorem Bx3.put (h : Bx3 W b d) (d' : De) : Bx3 (st3 W b d') b d' := by
  have s0 := heap_setCell_same W b 0 _ _ (.int .u64 d'.va) h
  have s1 := heap_setCell_same _ b 1 _ _ (.int .u64 d'.se) s0
  exact heap_setCell_same _ b 2 _ _ (.int .i64 d'.fl) s1
theorem Bx3.pfl (h : Bx3 W b d) (z : Int) : Bx3 (W.setCell ⟨b, 2, none⟩ (.int .i64 z)) b { d with fl := z } := heap_setCell_same W b 2 _ _ (.int .i64 z) h
theorem Bx3.pva (h : Bx3 W b d) (z : Int) : Bx3 (W.setCell ⟨b, 0, none⟩ (.int .u64 z)) b { d with va := z } := heap_setCell_same W b 0 _ _ (.int .u64 z) h
theorem Bx3.pse (h : Bx3 W b d) (z : Int) : Bx3 (W.setCell ⟨b, 1, none⟩ (.int .u64 z)) b { d with se := z } := heap_setCell_same W b 1 _ _ (.int .u64 z) h
theorem st3_below (hB : Below n w W) (hb : n ≤ b) (d : De) : Below n w (st3 W b d) := ((hB.setCell hb _).setCell hb _).setCell hb _
end

theorem res1 {P : Program} {fn : Func} {p : Tmp} {ty : TypeId} (h : fn.results = #[.cell p ty]) (tmps : Array Value) (w : World) (g : Nat) (t : TypeId) (cs : Array Value) (fr : Nat × Nat) (d : TypeDesc)
    (hp : tmps.getD p undef = .pointer (some ⟨g, 0, none⟩)) (hg : w.heap[g]? = some (.cells cs t fr))
    (hu : P.underlying ty = some d) (hd : (match d with | .struct _ | .array _ _ => true | _ => false) = true) (hi : (P.info? ty).map (·.size) = some cs.size) :
    (results fn tmps).run P w = .ok (.agg cs) w := by
  have hp' : tmps[p]?.getD undef = .pointer (some ⟨g, 0, none⟩) := by simpa using hp
  simp [results, h, hp', asAddr, run_loadVar_row w g t ty cs fr d hg hu hd hi]
theorem res3 {P : Program} {fn : Func} {p a c : Tmp} {ty : TypeId} (h : fn.results = #[.tmp c, .cell p ty, .tmp a]) (tmps : Array Value) (w : World) (g : Nat) (t : TypeId) (cs : Array Value) (fr : Nat × Nat) (d : TypeDesc)
    (hp : tmps.getD p undef = .pointer (some ⟨g, 0, none⟩)) (hg : w.heap[g]? = some (.cells cs t fr))
    (hu : P.underlying ty = some d) (hd : (match d with | .struct _ | .array _ _ => true | _ => false) = true) (hi : (P.info? ty).map (·.size) = some cs.size) :
    (results fn tmps).run P w = .ok (.tuple #[tmps.getD c undef, .agg cs, tmps.getD a undef]) w := by
  have hp' : tmps[p]?.getD undef = .pointer (some ⟨g, 0, none⟩) := by simpa using hp
  simp [results, h, hp', asAddr, run_loadVar_row w g t ty cs fr d hg hu hd hi]

def getO (ob : Ob) (k : ByteArray) : Option De := (plc ob.ps k).bind (fun n => (ob.ps[n]?).map Pr.de)
def getH (H : He) (o : Int) (k : ByteArray) : Option De := (obO H o).bind (fun ob => getO ob k)
def He.neat (H : He) : Prop := ∀ ob ∈ H.obs, ob.neat

section
variable {w w' w1 : World} {B hb : Nat} {O S : Nat → Prop} {H H' : He} {M M' : HV} {tg : Nat → Nat}

set_option maxRecDepth 100000 in
theorem get_none (h : HeapAt w B hb tg H M) (o : Int) (o0 : 0 ≤ o) (o1 : o < 18446744073709551616) (k : ByteArray) (hq : obO H o = none) :
    Calls Tryd.prog 40 #[.pointer (some ⟨hb, 0, none⟩), .int .u64 o, .string k] w fun e w' => e = .returned (.tuple #[deV zDe, .bool false]) ∧ Below w.heap.size w w' := by
  obtain ⟨wb, hwb⟩ : ∃ wb, wb = w.alloc (.cells #[.int .u64 0, .int .u64 0, .int .i64 0] 37) := ⟨_, rfl⟩
  have hB : Below w.heap.size w wb := by rw [hwb]; exact (Below.refl _ _).alloc (Nat.le_refl _) _
  have hbx : Bx3 wb w.heap.size zDe := by rw [hwb]; exact Bx3.new w
  have ka := at_miss (h.below hB) o o0 o1 (obO_none hq)
  have HF : Hid (Bx3 (st3 wb w.heap.size zDe) w.heap.size zDe ∧ Below w.heap.size w (st3 wb w.heap.size zDe)) := ⟨hbx.put _, st3_below hB (Nat.le_refl _) _⟩
  obtain ⟨f0, f1, f2⟩ := hbx.fz
  obtain ⟨b0, b1, b2⟩ := hbx.ce
  unfold zDe at b0 b1 b2
  clear h hq hbx hB
  go_enter Tryd.func40, Tryd.ntmps40
  go_upto_region 1 with fail
  rw [← hwb]
  clear hwb
  go_wp2_with fail
  refine ka.mono ?_
  rintro e w2 ⟨rfl, rfl⟩
  clear ka
  go_wp2_with fail
  refine bodyPost_ret (res2 rfl _ _ w.heap.size 37 _ (0, 0) _ rfl HF.out.1 Tryd.underlying37 rfl (by kernel_rfl)) rfl ?_
  exact ⟨rfl, HF.out.2⟩

set_option maxRecDepth 100000 in
theorem get_miss (h : HeapAt w B hb tg H M) (o : Int) (o0 : 0 ≤ o) (o1 : o < 18446744073709551616) {i : Nat} {ob : Ob} {k : ByteArray} (ho : obI H o = some i) (hi : H.obs[i]? = some ob) (hn : plc ob.ps k = none) (hnt : ob.neat) (hk : k.size ≤ maxLen) :
    Calls Tryd.prog 40 #[.pointer (some ⟨hb, 0, none⟩), .int .u64 o, .string k] w fun e w' => e = .returned (.tuple #[deV zDe, .bool false]) ∧ Below w.heap.size w w' := by
  obtain ⟨wb, hwb⟩ : ∃ wb, wb = w.alloc (.cells #[.int .u64 0, .int .u64 0, .int .i64 0] 37) := ⟨_, rfl⟩
  have hB : Below w.heap.size w wb := by rw [hwb]; exact (Below.refl _ _).alloc (Nat.le_refl _) _
  have hbx : Bx3 wb w.heap.size zDe := by rw [hwb]; exact Bx3.new w
  have h2 := h.below hB
  obtain ⟨g, cap, ov, hvo, hov, t4, hne, hgl, hcell, hfz, hl1, hl2, hrow⟩ := h2.obj hi
  have ka := at_hit h2 o o0 o1 i g cap ho hvo
  have kf2 := (show FindB _ _ _ _ _ from find_any (ob := ob) h2 hi hvo hnt k hk)
  unfold FindB at kf2
  rw [hn] at kf2
  have HBX : Hid (∀ w6, Below wb.heap.size wb w6 → Bx3 w6 w.heap.size zDe ∧ Bx3 (st3 w6 w.heap.size zDe) w.heap.size zDe ∧ Below w.heap.size w (st3 w6 w.heap.size zDe)) := fun w6 q => ⟨hbx.below q, (hbx.below q).put _, st3_below (hB.trans (q.mono (Nat.le_of_lt hbx.lt))) (Nat.le_refl _) _⟩
  unfold nOf at kf2
  simp only [Option.map_none, Option.getD_none, Option.isSome_none] at kf2
  clear h h2 hbx hB hi ho hvo hov t4 hne hgl hcell hfz hl1 hl2 hrow hn hnt hk
  go_enter Tryd.func40, Tryd.ntmps40
  go_upto_region 1 with fail
  rw [← hwb]
  clear hwb
  go_wp2_with fail
  refine ka.mono ?_
  rintro e w2 ⟨rfl, rfl⟩
  clear ka
  go_wp2_with fail
  refine kf2.mono ?_
  rintro e w6 ⟨rfl, hB6⟩
  obtain ⟨q1, q2, q3⟩ := HBX.out w6 hB6
  obtain ⟨f0, f1, f2⟩ := q1.fz
  obtain ⟨b0, b1, b2⟩ := q1.ce
  unfold zDe at b0 b1 b2
  have HF : Hid (Bx3 (st3 w6 w.heap.size zDe) w.heap.size zDe ∧ Below w.heap.size w (st3 w6 w.heap.size zDe)) := ⟨q2, q3⟩
  clear kf2 HBX hB6 q1 q2 q3
  go_wp2_with fail
  refine bodyPost_ret (res2 rfl _ _ w.heap.size 37 _ (0, 0) _ rfl HF.out.1 Tryd.underlying37 rfl (by kernel_rfl)) rfl ?_
  exact ⟨rfl, HF.out.2⟩

theorem obO_mem {o : Int} {ob : Ob} (h : obO H o = some ob) : ob ∈ H.obs := by
  obtain ⟨i, _, hi⟩ := obO_some h
  exact List.mem_of_getElem? hi

theorem get_full (h : HeapAt w B hb tg H M) (hn : H.neat) (o : Int) (o0 : 0 ≤ o) (o1 : o < 18446744073709551616) (k : ByteArray) (hk : k.size ≤ maxLen) :
    Calls Tryd.prog 40 #[.pointer (some ⟨hb, 0, none⟩), .int .u64 o, .string k] w fun e w' => e = .returned (.tuple #[deV ((getH H o k).getD zDe), .bool (getH H o k).isSome]) ∧ Below w.heap.size w w' := by
  unfold getH
  cases hq : obO H o with
  | none => exact get_none h o o0 o1 k hq
  | some ob =>
    obtain ⟨i, ho, hi⟩ := obO_some hq
    have hnt := hn ob (obO_mem hq)
    show Calls Tryd.prog 40 #[.pointer (some ⟨hb, 0, none⟩), .int .u64 o, .string k] w fun e w' => e = .returned (.tuple #[deV ((getO ob k).getD zDe), .bool (getO ob k).isSome]) ∧ Below w.heap.size w w'
    unfold getO
    cases hp : plc ob.ps k with
    | none => exact get_miss h o o0 o1 ho hi hp hnt hk
    | some n =>
      obtain ⟨⟨p, hn', hpk⟩, _⟩ := plc_some hp
      have e : (some n).bind (fun n => (ob.ps[n]?).map Pr.de) = some p.de := by
        show (ob.ps[n]?).map Pr.de = _
        rw [hn']
        rfl
      rw [e]
      exact get_any h o o0 o1 ho hi hp hn' hnt hk

end

end Go.Proofs.YtahhionlbfhinaaDoor.Hp

/- Keys that are places of elements: plain. -/
namespace Go.Proofs.YtahhionlbfhinaaDoor.Hp
open Go.RowKit
set_option linter.unusedVariables false

/-- the program's way: it stops as soon as it is too great -/
def ixF : List UInt8 → Nat → Option Nat
  | [], n => some n
  | c :: l, n => if 48 ≤ c.toNat ∧ c.toNat ≤ 57 then (if 4096 ≤ n * 10 + (c.toNat - 48) then none else ixF l (n * 10 + (c.toNat - 48))) else none
/-- the document's way -/
def rxF : List UInt8 → Nat → Option Nat
  | [], n => some n
  | c :: l, n => if 48 ≤ c.toNat ∧ c.toNat ≤ 57 then rxF l (n * 10 + (c.toNat - 48)) else none

def noughtB (k : ByteArray) : Bool := match k.data.toList with
  | c :: _ :: _ => decide (c = 48)
  | _ => false
def ixI (k : ByteArray) : Option Nat := if k.size = 0 ∨ noughtB k = true then none else ixF k.data.toList 0
def rxI (k : ByteArray) : Option Nat := if k.size = 0 ∨ 4 < k.size ∨ noughtB k = true then none else (rxF k.data.toList 0).filter (fun n => decide (n < 4096))

theorem rx_ge : ∀ (l : List UInt8) (n r : Nat), rxF l n = some r → n * 10 ^ l.length ≤ r
  | [], n, r, h => by
    simp only [rxF, Option.some.injEq] at h
    simp [h]
  | c :: l, n, r, h => by
    unfold rxF at h
    split at h
    · have := rx_ge l _ r h
      refine Nat.le_trans ?_ this
      rw [List.length_cons, Nat.pow_succ, ← Nat.mul_assoc, Nat.mul_right_comm]
      exact Nat.mul_le_mul_right _ (Nat.le_add_right _ _)
    · cases h

theorem rx_ge1 (l : List UInt8) (n r : Nat) (h : rxF l n = some r) : n ≤ r := by
  have h1 := rx_ge l n r h
  have h2 : 1 ≤ 10 ^ l.length := Nat.pow_pos (by omega)
  have h3 := Nat.mul_le_mul_left n h2
  omega

theorem ix_rx : ∀ (l : List UInt8) (n : Nat), n < 4096 → ixF l n = (rxF l n).filter (fun n => decide (n < 4096))
  | [], n, h => by simp [ixF, rxF, Option.filter, h]
  | c :: l, n, h => by
    unfold ixF rxF
    split
    · split
      · rename_i q
        cases hr : rxF l (n * 10 + (c.toNat - 48)) with
        | none => rfl
        | some r =>
          have := rx_ge1 _ _ _ hr
          simp only [Option.filter]
          rw [if_neg]
          simp
          omega
      · rename_i q
        exact ix_rx l _ (by omega)
    · rfl

theorem ix_same (k : ByteArray) : ixI k = rxI k := by
  unfold ixI rxI
  by_cases h0 : k.size = 0 ∨ noughtB k = true
  · rw [if_pos h0, if_pos (by rcases h0 with q | q; exact Or.inl q; exact Or.inr (Or.inr q))]
  · rw [if_neg h0]
    have e0 : k.size ≠ 0 := fun q => h0 (Or.inl q)
    have e1 : noughtB k ≠ true := fun q => h0 (Or.inr q)
    by_cases h4 : 4 < k.size
    · rw [if_pos (Or.inr (Or.inl h4)), ix_rx _ _ (by omega)]
      have hl : k.data.toList.length = k.size := Array.length_toList
      unfold noughtB at e1
      cases hd : k.data.toList with
      | nil => rw [hd] at hl; simp at hl; omega
      | cons c l =>
        rw [hd] at hl e1
        cases l with
        | nil => simp at hl; omega
        | cons c2 l2 =>
          simp only at e1
          cases hr : rxF (c :: c2 :: l2) 0 with
          | none => rfl
          | some r =>
            simp only [Option.filter]
            rw [if_neg]
            unfold rxF at hr
            split at hr
            · rename_i q
              have hc : c.toNat ≠ 48 := fun q2 => e1 (decide_eq_true (by apply UInt8.toNat_inj.1; rw [q2]; rfl))
              have h5 := rx_ge _ _ _ hr
              simp only [List.length_cons] at hl h5
              have h6 : 10 ^ 4 ≤ 10 ^ (l2.length + 1) := Nat.pow_le_pow_right (by omega) (by omega)
              have h7 : 1 * 10 ^ (l2.length + 1) ≤ (0 * 10 + (c.toNat - 48)) * 10 ^ (l2.length + 1) := Nat.mul_le_mul_right _ (by omega)
              simp
              omega
            · cases hr
    · rw [if_neg (by intro q; rcases q with q | q | q; exact e0 q; exact h4 q; exact e1 q), ix_rx _ _ (by omega)]

/-- a number, written -/
def dgF : Nat → Nat → List UInt8
  | 0, n => [UInt8.ofNat (48 + n % 10)]
  | f + 1, n => if n < 10 then [UInt8.ofNat (48 + n)] else dgF f (n / 10) ++ [UInt8.ofNat (48 + n % 10)]
def dgI (n : Nat) : ByteArray := ⟨(dgF 4 n).toArray⟩

theorem rx_app : ∀ (l m : List UInt8) (n : Nat), rxF (l ++ m) n = (rxF l n).bind (rxF m)
  | [], m, n => by simp [rxF]
  | c :: l, m, n => by
    rw [List.cons_append]
    unfold rxF
    split
    · exact rx_app l m _
    · rfl

theorem ofn (d : Nat) (h : d < 10) : (UInt8.ofNat (48 + d)).toNat = 48 + d := by
  rw [UInt8.toNat_ofNat']
  omega

theorem rx_one (d n : Nat) (h : d < 10) : rxF [UInt8.ofNat (48 + d)] n = some (n * 10 + d) := by
  unfold rxF rxF
  rw [ofn d h, if_pos (by omega)]
  congr 1
  omega

theorem dg_rx : ∀ (f n : Nat), n < 10 ^ (f + 1) → rxF (dgF f n) 0 = some n
  | 0, n, h => by
    have h : n < 10 := by simpa using h
    unfold dgF
    rw [Nat.mod_eq_of_lt h, rx_one n 0 h]
    simp
  | f + 1, n, h => by
    unfold dgF
    split
    · rename_i q
      rw [rx_one n 0 q]
      simp
    · have h1 : n / 10 < 10 ^ (f + 1) := by
        rw [Nat.pow_succ] at h
        exact Nat.div_lt_of_lt_mul (by omega)
      rw [rx_app, dg_rx f _ h1]
      show rxF _ (n / 10) = _
      rw [rx_one _ _ (Nat.mod_lt _ (by omega))]
      congr 1
      omega

theorem dg_head : ∀ (f n : Nat), 1 ≤ n → n < 10 ^ (f + 1) → ∃ c l, dgF f n = c :: l ∧ c.toNat ≠ 48
  | 0, n, h1, h => by
    have h : n < 10 := by simpa using h
    refine ⟨_, _, rfl, ?_⟩
    rw [Nat.mod_eq_of_lt h, ofn n h]
    omega
  | f + 1, n, h1, h => by
    unfold dgF
    split
    · rename_i q
      refine ⟨_, _, rfl, ?_⟩
      rw [ofn n q]
      omega
    · have h2 : n / 10 < 10 ^ (f + 1) := by
        rw [Nat.pow_succ] at h
        exact Nat.div_lt_of_lt_mul (by omega)
      obtain ⟨c, l, e, hc⟩ := dg_head f (n / 10) (by omega) h2
      exact ⟨c, l ++ [UInt8.ofNat (48 + n % 10)], by rw [e]; rfl, hc⟩

theorem dg_ix (n : Nat) (h : n < 4096) : ixI (dgI n) = some n := by
  have hr := dg_rx 4 n (by omega)
  have hs : (dgI n).data.toList = dgF 4 n := by simp [dgI]
  unfold ixI
  rw [if_neg]
  · rw [hs, ix_rx _ _ (by omega), hr]
    simp [Option.filter, h]
  · rintro (q | q)
    · have : (dgF 4 n).length = 0 := by rw [← hs, Array.length_toList]; exact q
      rw [List.eq_nil_of_length_eq_zero this] at hr
      by_cases c : n = 0
      · subst c
        simp [dgF] at this
      · simp [rxF] at hr
        omega
    · unfold noughtB at q
      rw [hs] at q
      by_cases c : n = 0
      · subst c
        simp [dgF] at q
      · obtain ⟨c, l, e, hc⟩ := dg_head 4 n (by omega) (by omega)
        rw [e] at q
        cases l with
        | nil => simp at q
        | cons c2 l2 =>
          simp only [decide_eq_true_eq] at q
          exact hc (by rw [q]; rfl)

end Go.Proofs.YtahhionlbfhinaaDoor.Hp
