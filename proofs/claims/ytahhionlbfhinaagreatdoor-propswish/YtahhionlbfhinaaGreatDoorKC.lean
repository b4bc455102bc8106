/- Get, Len, Elem of whatever word. -/
import Derived.Test.YtahhionlbfhinaaGreatDoorB12
import Derived.Test.YtahhionlbfhinaaGreatDoorHY
namespace Go.Proofs.YtahhionlbfhinaaGreatDoor.Hp
open Go.RowKit
set_option linter.unusedVariables false

def zDe : De := ⟨0, 0, 0⟩

/-- a variable of a property -/
def Bx3 (W : World) (b : Nat) (d : De) : Prop := W.heap[b]? = some (.cells #[.int .u64 d.va, .int .u64 d.se, .int .i64 d.fl] 41 (0, 0))

/-- given a property as a whole -/
def st3 (W : World) (b : Nat) (d : De) : World := ((W.setCell ⟨b, 0, none⟩ (.int .u64 d.va)).setCell ⟨b, 1, none⟩ (.int .u64 d.se)).setCell ⟨b, 2, none⟩ (.int .i64 d.fl)

theorem Bx3.new (w : World) : Bx3 (w.alloc (.cells #[.int .u64 0, .int .u64 0, .int .i64 0] 41)) w.heap.size zDe := at_new _ _
theorem Bx3.box (w : World) (d : De) : Bx3 (w.alloc (.cells #[.int .u64 d.va, .int .u64 d.se, .int .i64 d.fl] 41)) w.heap.size d := at_new _ _

section
variable {w W W' : World} {b n : Nat} {d : De}

theorem Bx3.lt (h : Bx3 W b d) : b < W.heap.size := (Array.getElem?_eq_some_iff.1 h).1
theorem Bx3.below (h : Bx3 W b d) (hB : Below W.heap.size W W') : Bx3 W' b d := by
  unfold Bx3
  rw [hB.block b h.lt]
  exact h
theorem Bx3.up (h : Bx3 W b d) (hB : Below n W W') (hn : b < n) : Bx3 W' b d := by
  unfold Bx3
  rw [hB.block b hn]
  exact h
theorem Bx3.fz (h : Bx3 W b d) : W.frozen? ⟨b, 0, none⟩ = false ∧ W.frozen? ⟨b, 1, none⟩ = false ∧ W.frozen? ⟨b, 2, none⟩ = false := ⟨frozen_of_row W b 0 _ _ h, frozen_of_row W b 1 _ _ h, frozen_of_row W b 2 _ _ h⟩
theorem Bx3.ce (h : Bx3 W b d) : W.cell? ⟨b, 0, none⟩ = some (.int .u64 d.va) ∧ W.cell? ⟨b, 1, none⟩ = some (.int .u64 d.se) ∧ W.cell? ⟨b, 2, none⟩ = some (.int .i64 d.fl) := ⟨cell_of_row W b 0 _ _ (0, 0) h, cell_of_row W b 1 _ _ (0, 0) h, cell_of_row W b 2 _ _ (0, 0) h⟩
theorem Bx3.put (h : Bx3 W b d) (d' : De) : Bx3 (st3 W b d') b d' := by
  have s0 := heap_setCell_same W b 0 _ _ (.int .u64 d'.va) h
  have s1 := heap_setCell_same _ b 1 _ _ (.int .u64 d'.se) s0
  exact heap_setCell_same _ b 2 _ _ (.int .i64 d'.fl) s1
theorem Bx3.pfl (h : Bx3 W b d) (z : Int) : Bx3 (W.setCell ⟨b, 2, none⟩ (.int .i64 z)) b { d with fl := z } := heap_setCell_same W b 2 _ _ (.int .i64 z) h
theorem Bx3.pva (h : Bx3 W b d) (z : Int) : Bx3 (W.setCell ⟨b, 0, none⟩ (.int .u64 z)) b { d with va := z } := heap_setCell_same W b 0 _ _ (.int .u64 z) h
theorem Bx3.pse (h : Bx3 W b d) (z : Int) : Bx3 (W.setCell ⟨b, 1, none⟩ (.int .u64 z)) b { d with se := z } := heap_setCell_same W b 1 _ _ (.int .u64 z) h
theorem st3_below (hB : Below n w W) (hb : n ≤ b) (d : De) : Below n w (st3 W b d) := ((hB.setCell hb _).setCell hb _).setCell hb _
end

theorem res1 {P : Program} {fn : Func} {p : Tmp} {ty : TypeId} (h : fn.results = #[.cell p ty]) (tmps : Array Value) (w : World) (g : Nat) (t : TypeId) (cs : Array Value) (fr : Nat × Nat) (d : TypeDesc)
    (hp : tmps.getD p undef = .pointer (some ⟨g, 0, none⟩)) (hg : w.heap[g]? = some (.cells cs t fr))
    (hu : P.underlying ty = some d) (hd : (match d with | .struct _ | .array _ _ => true | _ => false) = true) (hi : (P.info? ty).map (·.size) = some cs.size) :
    (results fn tmps).run P w = .ok (.agg cs) w := by
  have hp' : tmps[p]?.getD undef = .pointer (some ⟨g, 0, none⟩) := by simpa using hp
  simp [results, h, hp', asAddr, run_loadVar_row w g t ty cs fr d hg hu hd hi]
theorem res3 {P : Program} {fn : Func} {p a c : Tmp} {ty : TypeId} (h : fn.results = #[.tmp c, .cell p ty, .tmp a]) (tmps : Array Value) (w : World) (g : Nat) (t : TypeId) (cs : Array Value) (fr : Nat × Nat) (d : TypeDesc)
    (hp : tmps.getD p undef = .pointer (some ⟨g, 0, none⟩)) (hg : w.heap[g]? = some (.cells cs t fr))
    (hu : P.underlying ty = some d) (hd : (match d with | .struct _ | .array _ _ => true | _ => false) = true) (hi : (P.info? ty).map (·.size) = some cs.size) :
    (results fn tmps).run P w = .ok (.tuple #[tmps.getD c undef, .agg cs, tmps.getD a undef]) w := by
  have hp' : tmps[p]?.getD undef = .pointer (some ⟨g, 0, none⟩) := by simpa using hp
  simp [results, h, hp', asAddr, run_loadVar_row w g t ty cs fr d hg hu hd hi]

def getO (ob : Ob) (k : ByteArray) : Option De := (plc ob.ps k).bind (fun n => (ob.ps[n]?).map Pr.de)
def getH (H : He) (o : Int) (k : ByteArray) : Option De := (obO H o).bind (fun ob => getO ob k)
def He.neat (H : He) : Prop := ∀ ob ∈ H.obs, ob.neat

section
variable {w w' w1 : World} {B hb : Nat} {O S : Nat → Prop} {H H' : He} {M M' : HV} {tg : Nat → Nat}

set_option maxRecDepth 100000 in
theorem get_none (h : HeapAt w B hb tg H M) (o : Int) (o0 : 0 ≤ o) (o1 : o < 18446744073709551616) (k : ByteArray) (hq : obO H o = none) :
    Calls Tryz.prog 73 #[.pointer (some ⟨hb, 0, none⟩), .int .u64 o, .string k] w fun e w' => e = .returned (.tuple #[deV zDe, .bool false]) ∧ Below w.heap.size w w' := by
  obtain ⟨wb, hwb⟩ : ∃ wb, wb = w.alloc (.cells #[.int .u64 0, .int .u64 0, .int .i64 0] 41) := ⟨_, rfl⟩
  have hB : Below w.heap.size w wb := by rw [hwb]; exact (Below.refl _ _).alloc (Nat.le_refl _) _
  have hbx : Bx3 wb w.heap.size zDe := by rw [hwb]; exact Bx3.new w
  have ka := at_miss (h.below hB) o o0 o1 (obO_none hq)
  have HF : Hid (Bx3 (st3 wb w.heap.size zDe) w.heap.size zDe ∧ Below w.heap.size w (st3 wb w.heap.size zDe)) := ⟨hbx.put _, st3_below hB (Nat.le_refl _) _⟩
  obtain ⟨f0, f1, f2⟩ := hbx.fz
  obtain ⟨b0, b1, b2⟩ := hbx.ce
  unfold zDe at b0 b1 b2
  clear h hq hbx hB
  go_enter Tryz.func73, Tryz.ntmps73
  go_upto_region 1 with fail
  rw [← hwb]
  clear hwb
  go_wp2_with fail
  refine ka.mono ?_
  rintro e w2 ⟨rfl, rfl⟩
  clear ka
  go_wp2_with fail
  refine bodyPost_ret (res2 rfl _ _ w.heap.size 41 _ (0, 0) _ rfl HF.out.1 Tryz.underlying41 rfl (by kernel_rfl)) rfl ?_
  exact ⟨rfl, HF.out.2⟩

set_option maxRecDepth 100000 in
theorem get_miss (h : HeapAt w B hb tg H M) (o : Int) (o0 : 0 ≤ o) (o1 : o < 18446744073709551616) {i : Nat} {ob : Ob} {k : ByteArray} (ho : obI H o = some i) (hi : H.obs[i]? = some ob) (hn : plc ob.ps k = none) (hnt : ob.neat) (hk : k.size ≤ maxLen) :
    Calls Tryz.prog 73 #[.pointer (some ⟨hb, 0, none⟩), .int .u64 o, .string k] w fun e w' => e = .returned (.tuple #[deV zDe, .bool false]) ∧ Below w.heap.size w w' := by
  obtain ⟨wb, hwb⟩ : ∃ wb, wb = w.alloc (.cells #[.int .u64 0, .int .u64 0, .int .i64 0] 41) := ⟨_, rfl⟩
  have hB : Below w.heap.size w wb := by rw [hwb]; exact (Below.refl _ _).alloc (Nat.le_refl _) _
  have hbx : Bx3 wb w.heap.size zDe := by rw [hwb]; exact Bx3.new w
  have h2 := h.below hB
  obtain ⟨g, cap, ov, hvo, hov, t4, hne, hgl, hcell, hfz, hl1, hl2, hrow⟩ := h2.obj hi
  have ka := at_hit h2 o o0 o1 i g cap ho hvo
  have kf2 := (show FindB _ _ _ _ _ from find_any (ob := ob) h2 hi hvo hnt k hk)
  unfold FindB at kf2
  rw [hn] at kf2
  have HBX : Hid (∀ w6, Below wb.heap.size wb w6 → Bx3 w6 w.heap.size zDe ∧ Bx3 (st3 w6 w.heap.size zDe) w.heap.size zDe ∧ Below w.heap.size w (st3 w6 w.heap.size zDe)) := fun w6 q => ⟨hbx.below q, (hbx.below q).put _, st3_below (hB.trans (q.mono (Nat.le_of_lt hbx.lt))) (Nat.le_refl _) _⟩
  unfold nOf at kf2
  simp only [Option.map_none, Option.getD_none, Option.isSome_none] at kf2
  clear h h2 hbx hB hi ho hvo hov t4 hne hgl hcell hfz hl1 hl2 hrow hn hnt hk
  go_enter Tryz.func73, Tryz.ntmps73
  go_upto_region 1 with fail
  rw [← hwb]
  clear hwb
  go_wp2_with fail
  refine ka.mono ?_
  rintro e w2 ⟨rfl, rfl⟩
  clear ka
  go_wp2_with fail
  refine kf2.mono ?_
  rintro e w6 ⟨rfl, hB6⟩
  obtain ⟨q1, q2, q3⟩ := HBX.out w6 hB6
  obtain ⟨f0, f1, f2⟩ := q1.fz
  obtain ⟨b0, b1, b2⟩ := q1.ce
  unfold zDe at b0 b1 b2
  have HF : Hid (Bx3 (st3 w6 w.heap.size zDe) w.heap.size zDe ∧ Below w.heap.size w (st3 w6 w.heap.size zDe)) := ⟨q2, q3⟩
  clear kf2 HBX hB6 q1 q2 q3
  go_wp2_with fail
  refine bodyPost_ret (res2 rfl _ _ w.heap.size 41 _ (0, 0) _ rfl HF.out.1 Tryz.underlying41 rfl (by kernel_rfl)) rfl ?_
  exact ⟨rfl, HF.out.2⟩

theorem obO_mem {o : Int} {ob : Ob} (h : obO H o = some ob) : ob ∈ H.obs := by
  obtain ⟨i, _, hi⟩ := obO_some h
  exact List.mem_of_getElem? hi

theorem get_full (h : HeapAt w B hb tg H M) (hn : H.neat) (o : Int) (o0 : 0 ≤ o) (o1 : o < 18446744073709551616) (k : ByteArray) (hk : k.size ≤ maxLen) :
    Calls Tryz.prog 73 #[.pointer (some ⟨hb, 0, none⟩), .int .u64 o, .string k] w fun e w' => e = .returned (.tuple #[deV ((getH H o k).getD zDe), .bool (getH H o k).isSome]) ∧ Below w.heap.size w w' := by
  unfold getH
  cases hq : obO H o with
  | none => exact get_none h o o0 o1 k hq
  | some ob =>
    obtain ⟨i, ho, hi⟩ := obO_some hq
    have hnt := hn ob (obO_mem hq)
    show Calls Tryz.prog 73 #[.pointer (some ⟨hb, 0, none⟩), .int .u64 o, .string k] w fun e w' => e = .returned (.tuple #[deV ((getO ob k).getD zDe), .bool (getO ob k).isSome]) ∧ Below w.heap.size w w'
    unfold getO
    cases hp : plc ob.ps k with
    | none => exact get_miss h o o0 o1 ho hi hp hnt hk
    | some n =>
      obtain ⟨⟨p, hn', hpk⟩, _⟩ := plc_some hp
      have e : (some n).bind (fun n => (ob.ps[n]?).map Pr.de) = some p.de := by
        show (ob.ps[n]?).map Pr.de = _
        rw [hn']
        rfl
      rw [e]
      exact get_any h o o0 o1 ho hi hp hn' hnt hk

end

end Go.Proofs.YtahhionlbfhinaaGreatDoor.Hp
