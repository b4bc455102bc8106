/- Objects, made, at. -/
import Derived.Test.YtahhionlbfhinaaGreatDoorHE
namespace Go.Proofs.YtahhionlbfhinaaGreatDoor.Hp
open Go.RowKit
set_option linter.unusedVariables false

section
variable {w : World} {B hb : Nat} {O S : Nat → Prop} {H : He} {M : HV} {tg : Nat → Nat}

set_option maxRecDepth 100000 in
theorem objects_at (h : HeapAt w B hb tg H M) : Calls Tryz.prog 93 #[.pointer (some ⟨hb, 0, none⟩)] w fun e w' => e = .returned (.int .i64 (H.obs.length : Int)) ∧ w' = w := by
  obtain ⟨c0, c1, c2, c3, c4, c5, fz⟩ := h.box
  obtain ⟨ad, cap, hv, h1, h2⟩ := h.vol
  rw [hv] at c2
  unfold SV.val at c2
  simp only at c2
  clear h hv h1 h2 fz
  go_enter Tryz.func93, Tryz.ntmps93
  go_wp2_with fail
  go_ret
  exact ⟨rfl, rfl⟩

set_option maxRecDepth 100000 in
theorem made_at (h : HeapAt w B hb tg H M) : Calls Tryz.prog 45 #[.pointer (some ⟨hb, 0, none⟩)] w fun e w' => e = .returned (.bool true) ∧ w' = w := by
  obtain ⟨c0, c1, c2, c3, c4, c5, fz⟩ := h.box
  have q51 : ∀ (w : World) (r : Option Nat), (binOp .eql 68 (.map r) (.map none)).run Tryz.prog w = .ok (.bool r.isNone) w := fun w r => run_eql_map_nil w _ _ _ r Tryz.underlying68
  clear h c0 c2 c3 c4 c5 fz
  go_enter Tryz.func45, Tryz.ntmps45
  go_wp2_with fail
  go_ret
  exact ⟨rfl, rfl⟩

/-- the object of a word -/
def obI (H : He) (o : Int) : Option Nat := if isT o 65530 = true ∧ payN o 65530 < (H.obs.length : Int) then some (payN o 65530).toNat else none

theorem obI_some {H : He} {o : Int} {i : Nat} (h : obI H o = some i) : isT o 65530 = true ∧ payN o 65530 = (i : Int) ∧ i < H.obs.length ∧ o = objW (i : Int) := by
  unfold obI at h
  split at h
  · rename_i c
    have := payN_bd o 65530
    have e : payN o 65530 = (i : Int) := by
      have := Option.some.inj h
      omega
    refine ⟨c.1, e, by omega, ?_⟩
    rw [obj_of o c.1, e]
  · cases h
theorem obI_none {H : He} {o : Int} (h : obI H o = none) (ht : isT o 65530 = true) : (H.obs.length : Int) ≤ payN o 65530 := by
  unfold obI at h
  split at h
  · cases h
  · rename_i c
    rcases Int.lt_or_le (payN o 65530) (H.obs.length : Int) with q | q
    · exact absurd ⟨ht, q⟩ c
    · exact q
theorem obI_of {H : He} {i : Nat} (hi : i < H.obs.length) (hl : H.obs.length ≤ 65536) : obI H (objW (i : Int)) = some i := by
  have h := isT_obj (i : Int) (by omega) (by omega)
  unfold obI
  rw [h.1, h.2, if_pos ⟨rfl, by omega⟩]
  simp

set_option maxRecDepth 100000 in
theorem at_hit (h : HeapAt w B hb tg H M) (o : Int) (o0 : 0 ≤ o) (o1 : o < 18446744073709551616) (i g cap : Nat) (hi : obI H o = some i) (hvo : M.vo = ⟨some ⟨g, 0, none⟩, H.obs.length, cap⟩) :
    Calls Tryz.prog 50 #[.pointer (some ⟨hb, 0, none⟩), .int .u64 o] w fun e w' => e = .returned (.pointer (some ⟨g, i * 12, none⟩)) ∧ w' = w := by
  obtain ⟨k1, k2, k3, k4⟩ := obI_some hi
  have c := isObject_any o w o0 o1
  rw [k1, k2] at c
  have ko := objects_at h
  obtain ⟨c0, c1, c2, c3, c4, c5, fz⟩ := h.box
  obtain ⟨ad, cap', hv, h1, h2⟩ := h.vol
  rw [hvo] at c2
  unfold SV.val at c2
  simp only at c2
  have hol := h.wf.ol
  have hil : (i : Int) < (H.obs.length : Int) := by omega
  have hlim : (H.obs.length : Int) ≤ 65536 := by omega
  generalize H.obs.length = n at *
  have hd : ¬ ((n : Int) ≤ (i : Int)) := by omega
  clear h hi k1 k2 k4 hv hvo fz c0 c1 c3 c4 c5 h1 h2 k3 hol
  go_enter Tryz.func50, Tryz.ntmps50
  go_wp2_with fail
  refine c.mono ?_
  rintro e w2 ⟨rfl, rfl⟩
  clear c
  go_wp2_with fail
  refine ko.mono ?_
  rintro e w2 ⟨rfl, rfl⟩
  clear ko
  go_wp2_with fail
  go_ret
  exact ⟨rfl, rfl⟩

set_option maxRecDepth 100000 in
theorem at_miss (h : HeapAt w B hb tg H M) (o : Int) (o0 : 0 ≤ o) (o1 : o < 18446744073709551616) (hi : obI H o = none) :
    Calls Tryz.prog 50 #[.pointer (some ⟨hb, 0, none⟩), .int .u64 o] w fun e w' => e = .returned (.pointer none) ∧ w' = w := by
  have c := isObject_any o w o0 o1
  have ko := objects_at h
  have hol := h.wf.ol
  have hbd := payN_bd o 65530
  cases ht : isT o 65530 with
  | false =>
    rw [ht] at c
    generalize payN o 65530 = x at *
    clear h hi ko hol ht
    go_enter Tryz.func50, Tryz.ntmps50
    go_wp2_with fail
    refine c.mono ?_
    rintro e w2 ⟨rfl, rfl⟩
    clear c
    go_wp2_with fail
    go_ret
    exact ⟨rfl, rfl⟩
  | true =>
    rw [ht] at c
    have hle := obI_none hi ht
    generalize payN o 65530 = x at *
    have hlim : (H.obs.length : Int) ≤ 65536 := by omega
    generalize H.obs.length = n at *
    clear h hi ht hol
    go_enter Tryz.func50, Tryz.ntmps50
    go_wp2_with fail
    refine c.mono ?_
    rintro e w2 ⟨rfl, rfl⟩
    clear c
    go_wp2_with fail
    refine ko.mono ?_
    rintro e w2 ⟨rfl, rfl⟩
    clear ko
    go_wp2_with fail
    go_ret
    exact ⟨rfl, rfl⟩

end

end Go.Proofs.YtahhionlbfhinaaGreatDoor.Hp

/- New. -/
namespace Go.Proofs.YtahhionlbfhinaaGreatDoor.Hp
open Go.RowKit
set_option linter.unusedVariables false

theorem tree_low {w : World} {B B' tb : Nat} {O : Nat → Prop} {most : Int} {L : List Sp.Sh} (h : Sp.Tree w B tb O most L) (hB : B' ≤ B) : Sp.Tree w B' tb O most L := by
  obtain ⟨T, v, mb, h⟩ := h
  exact ⟨T, v, mb, h.box, h.own.low hB, h.map, h.rel, h.wf, h.cap, Nat.le_trans hB h.b1, Nat.le_trans hB h.b2, h.n1, h.n2, h.n3, h.os⟩
theorem cs_low {w : World} {B B' cb : Nat} {O : Nat → Prop} {l : List Ce.Cel} (h : Ce.Cs w B cb O l) (hB : B' ≤ B) : Ce.Cs w B' cb O l := by
  obtain ⟨E, v, h1, h2⟩ := h
  exact ⟨E, v, ⟨h1.box, h1.own.low hB, Nat.le_trans hB h1.b1, h1.n2, h1.os⟩, h2⟩

set_option maxRecDepth 100000 in
theorem treeOf_any (w : World) (m k : Int) (hk : k = if m ≤ 256 then m else 256) :
    Calls Tryz.prog 29 #[.int .i64 m] w fun e w' => ∃ tb O, e = .returned (.pointer (some ⟨tb, 0, none⟩)) ∧ Sp.Tree w' w.heap.size tb O k [] ∧ Below w.heap.size w w' := by
  have kc := Sp.new_any w k
  by_cases c : m ≤ 256
  · rw [if_pos c] at hk
    subst hk
    have h1 : min k 256 = k := by omega
    go_enter Tryz.func29, Tryz.ntmps29
    go_wp2_with fail
    refine kc.mono ?_
    rintro e w2 ⟨tb, O, rfl, h1, h2⟩
    clear kc
    go_wp2_with fail
    go_ret
    exact ⟨tb, O, rfl, h1, h2⟩
  · rw [if_neg c] at hk
    subst hk
    have h1 : min m 256 = 256 := by omega
    go_enter Tryz.func29, Tryz.ntmps29
    go_wp2_with fail
    refine kc.mono ?_
    rintro e w2 ⟨tb, O, rfl, h1, h2⟩
    clear kc
    go_wp2_with fail
    go_ret
    exact ⟨tb, O, rfl, h1, h2⟩

def He.new (m : Int) : He := ⟨[], [], if m ≤ 256 then m else 256, [], [], 0⟩

theorem He.new_wf (m : Int) : (He.new m).wf := ⟨fun o h => by simp [He.new] at h, by simp [He.new], by simp [He.new], fun o h => by simp [He.new] at h, by simp [He.new], by simp only [He.new]; split <;> omega, by simp [He.new]⟩

open Classical in
theorem heap_new (w w2 w3 : World) (m : Int) (tb cb : Nat) (Ot Oc : Nat → Prop) (ht : Sp.Tree w2 (w.alloc (.map #[] 0)).heap.size tb Ot (if m ≤ 256 then m else 256) []) (hb2 : Below (w.alloc (.map #[] 0)).heap.size (w.alloc (.map #[] 0)) w2) (hcs : Ce.Cs w3 w2.heap.size cb Oc []) (hb3 : Below w2.heap.size w2 w3) :
    ∃ O, Heap (w3.alloc (.cells #[.slice none 0 0, .map (some w.heap.size), .slice none 0 0, .pointer (some ⟨tb, 0, none⟩), .pointer (some ⟨cb, 0, none⟩), .int .i64 0] 75)) w.heap.size w3.heap.size O (He.new m) ∧ Below w.heap.size w (w3.alloc (.cells #[.slice none 0 0, .map (some w.heap.size), .slice none 0 0, .pointer (some ⟨tb, 0, none⟩), .pointer (some ⟨cb, 0, none⟩), .int .i64 0] 75)) := by
  generalize hw4 : w3.alloc (.cells #[.slice none 0 0, .map (some w.heap.size), .slice none 0 0, .pointer (some ⟨tb, 0, none⟩), .pointer (some ⟨cb, 0, none⟩), .int .i64 0] 75) = w4
  have s1 := size_new w (.map #[] 0)
  have l2 := ht.lt
  have l3 := hcs.lt
  have z2 := hb2.size
  have z3 := hb3.size
  have b4 : Below w3.heap.size w3 w4 := by rw [← hw4]; exact (Below.refl _ _).alloc (Nat.le_refl _) _
  have z4 : w4.heap.size = w3.heap.size + 1 := by rw [← hw4, size_new]
  have e0 : w4.heap[w3.heap.size]? = some (.cells #[.slice none 0 0, .map (some w.heap.size), .slice none 0 0, .pointer (some ⟨tb, 0, none⟩), .pointer (some ⟨cb, 0, none⟩), .int .i64 0] 75 (0, 0)) := by rw [← hw4]; exact at_new _ _
  have em : w4.heap[w.heap.size]? = some (.map #[] 0) := by
    rw [b4.block _ (by omega), hb3.block _ (by omega), hb2.block _ (by omega)]
    exact at_new _ _
  have ht4 : Sp.Tree w4 w.heap.size tb Ot (if m ≤ 256 then m else 256) [] := tree_low ((ht.below hb3).below b4) (by omega)
  have hc4 : Ce.Cs w4 w.heap.size cb Oc [] := cs_low (hcs.below b4) (by omega)
  let tg : Nat → Nat := fun b => if b = w3.heap.size then 1 else if b = w.heap.size then 3 else if Ot b then 5 else if Oc b then 6 else 0
  have t1 : tg w3.heap.size = 1 := if_pos rfl
  have t3 : tg w.heap.size = 3 := by
    show (if _ then _ else _) = 3
    rw [if_neg (by omega), if_pos rfl]
  have t5 : ∀ b, Ot b → tg b = 5 := fun b q => by
    have := l2 b q
    show (if _ then _ else _) = 5
    rw [if_neg (by omega), if_neg (by omega), if_pos q]
  have t6 : ∀ b, Oc b → tg b = 6 := fun b q => by
    have := l3 b q
    show (if _ then _ else _) = 6
    rw [if_neg (by omega), if_neg (by omega), if_neg (fun q2 => by have := l2 b q2; omega), if_pos q]
  refine ⟨fun b => tg b ≠ 0, ⟨tg, ⟨.nil, w.heap.size, .nil, tb, cb, []⟩, ⟨fun j => ?_, fun b q => ?_, rfl, He.new_wf m⟩, fun b => Iff.rfl⟩, ?_⟩
  · match j with
    | 0 => trivial
    | 1 => exact ⟨t1, e0⟩
    | 2 => exact ⟨OwnR.nil _ _, fun b q => by simp [SV.nil, SV.val, Value.ownBlock] at q⟩
    | 3 => exact ⟨t3, #[], 0, em, rfl⟩
    | 4 => exact ⟨OwnR.nil _ _, fun b q => by simp [SV.nil, SV.val, Value.ownBlock] at q⟩
    | 5 => exact ⟨Ot, ht4, t5⟩
    | 6 => exact ⟨Oc, hc4, t6⟩
    | j + 7 => exact fun ob ov e1 _ => by simp [He.new] at e1
  · have q : (if b = w3.heap.size then 1 else if b = w.heap.size then 3 else if Ot b then 5 else if Oc b then 6 else 0) ≠ 0 := q
    by_cases c1 : b = w3.heap.size
    · omega
    · by_cases c2 : b = w.heap.size
      · omega
      · by_cases c3 : Ot b
        · have := l2 b c3; omega
        · by_cases c4 : Oc b
          · have := l3 b c4; omega
          · rw [if_neg c1, if_neg c2, if_neg c3, if_neg c4] at q
            exact absurd rfl q
  · refine ⟨?_, ?_, ?_, by omega, fun k hk => ?_⟩
    · rw [b4.os, hb3.os, hb2.os]; rfl
    · rw [b4.tape, hb3.tape, hb2.tape]; rfl
    · rw [b4.output, hb3.output, hb2.output]; rfl
    · rw [b4.block k (by omega), hb3.block k (by omega), hb2.block k (by omega)]
      show (w.heap.push _)[k]? = _
      rw [Array.getElem?_push, if_neg (by omega)]

set_option maxRecDepth 100000 in
theorem new_any (w : World) (m : Int) :
    Calls Tryz.prog 8 #[.int .i64 m] w fun e w' => ∃ hb O, e = .returned (.pointer (some ⟨hb, 0, none⟩)) ∧ Heap w' w.heap.size hb O (He.new m) ∧ Below w.heap.size w w' := by
  have hmm : (Instr.makeMap 68 none).run Tryz.prog w = .ok (.map (some w.heap.size)) (w.alloc (.map #[] 0)) := rfl
  have kt := treeOf_any (w.alloc (.map #[] 0)) m _ rfl
  have HK : Hid (∀ w2 w3 tb cb Ot Oc, Sp.Tree w2 (w.alloc (.map #[] 0)).heap.size tb Ot (if m ≤ 256 then m else 256) [] → Below (w.alloc (.map #[] 0)).heap.size (w.alloc (.map #[] 0)) w2 → Ce.Cs w3 w2.heap.size cb Oc [] → Below w2.heap.size w2 w3 → ∃ O, Heap (w3.alloc (.cells #[.slice none 0 0, .map (some w.heap.size), .slice none 0 0, .pointer (some ⟨tb, 0, none⟩), .pointer (some ⟨cb, 0, none⟩), .int .i64 0] 75)) w.heap.size w3.heap.size O (He.new m) ∧ Below w.heap.size w (w3.alloc (.cells #[.slice none 0 0, .map (some w.heap.size), .slice none 0 0, .pointer (some ⟨tb, 0, none⟩), .pointer (some ⟨cb, 0, none⟩), .int .i64 0] 75))) := fun w2 w3 tb cb Ot Oc h1 h2 h3 h4 => heap_new w w2 w3 m tb cb Ot Oc h1 h2 h3 h4
  generalize (if m ≤ 256 then m else 256) = k at *
  generalize He.new m = H0 at *
  go_enter Tryz.func8, Tryz.ntmps8
  go_wp2_with fail
  refine kt.mono ?_
  rintro e w2 ⟨tb, Ot, rfl, h1, h2⟩
  have HA : Hid (Sp.Tree w2 (w.alloc (.map #[] 0)).heap.size tb Ot k [] ∧ Below (w.alloc (.map #[] 0)).heap.size (w.alloc (.map #[] 0)) w2) := ⟨h1, h2⟩
  clear h1 h2 kt
  go_wp2_with fail
  refine (Ce.new_any _).mono ?_
  rintro e w3 ⟨rfl, h3, h4⟩
  have HC : Hid (∃ O, Heap (w3.alloc (.cells #[.slice none 0 0, .map (some w.heap.size), .slice none 0 0, .pointer (some ⟨tb, 0, none⟩), .pointer (some ⟨w2.heap.size, 0, none⟩), .int .i64 0] 75)) w.heap.size w3.heap.size O H0 ∧ Below w.heap.size w (w3.alloc (.cells #[.slice none 0 0, .map (some w.heap.size), .slice none 0 0, .pointer (some ⟨tb, 0, none⟩), .pointer (some ⟨w2.heap.size, 0, none⟩), .int .i64 0] 75))) := HK.out _ _ _ _ _ _ HA.out.1 HA.out.2 h3 h4
  clear h3 h4 HA HK
  go_wp2_with fail
  go_ret
  obtain ⟨O, k1, k2⟩ := HC.out
  exact ⟨_, O, rfl, k1, k2⟩

end Go.Proofs.YtahhionlbfhinaaGreatDoor.Hp
