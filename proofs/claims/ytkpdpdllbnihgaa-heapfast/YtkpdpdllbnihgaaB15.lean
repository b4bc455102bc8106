/- One object, put upon over and over: the heap. -/
import Derived.Test.YtkpdpdllbnihgaaB14
import Derived.Test.YtkpdpdllbnihgaaHM
import Derived.Test.YtkpdpdllbnihgaaB10
namespace Go.Proofs.Ytkpdpdllbnihgaa.Hp
open Go.RowKit
set_option linter.unusedVariables false

/-- a heap with one object, behind m calls of Put -/
def OneS (w0 w : World) (hb : Nat) (un : List ByteArray) (m : Nat) : Prop := ∃ tg M H ob, HeapAt w w0.heap.size hb tg H M ∧ OneI H ob un m ∧ 256 ≤ H.most ∧ Below w0.heap.size w0 w

theorem putH_most (H : He) (i : Nat) (ob : Ob) (k : ByteArray) (d : De) : (putH H i ob k d).most = H.most := by
  unfold putH
  cases plc ob.ps k with
  | some n =>
    simp only
    unfold replH
    split <;> rfl
  | none =>
    simp only
    split <;> rfl

section
variable {w0 w : World} {hb : Nat} {un : List ByteArray} {m : Nat}

theorem ones_put (h : OneS w0 w hb un m) (hm : m ≤ 200) (k : ByteArray) (hk : k.size ≤ maxLen) (d : De) (hd : (keptD d).fl = 7) :
    Calls Try.prog 15 #[.pointer (some ⟨hb, 0, none⟩), .int .u64 (objW 0), .string k, deV d] w fun e w' => e = .returned (.tuple #[]) ∧ OneS w0 w' hb (addU un k) (m + 1) := by
  obtain ⟨tg, M, H, ob, h1, h2, h3, h4⟩ := h
  have hi : H.obs[0]? = some ob := by rw [h2.obs]; rfl
  have ho : obI H (objW 0) = some 0 := obI_of (i := 0) (by rw [h2.obs]; exact Nat.one_pos) (by rw [h2.obs]; show (1 : Nat) ≤ 65536; omega)
  have hnx := h2.nx
  refine (put_any h1 (objW 0) (by decide) (by decide) ho hi h2.neat (fun q => by
    have e1 := h2.sh
    rw [q] at e1
    have := of_decide_eq_true e1.symm
    rw [h2.hm]
    exact decide_eq_false (by omega)) k hk d (by omega)).mono ?_
  rintro e w' ⟨rfl, M', _, tg', k1, k2, k3⟩
  obtain ⟨ob', h5⟩ := h2.put (by omega) k d hd
  exact ⟨rfl, tg', M', _, ob', k1, h5, by rw [putH_most]; exact h3, k2.below h4 h4.size (fun b q => (h1.lt b q).1)⟩

theorem ones_shape (h : OneS w0 w hb un m) :
    Calls Try.prog 17 #[.pointer (some ⟨hb, 0, none⟩), .int .u64 (objW 0)] w fun e w' => ∃ n, e = .returned (.tuple #[.int .i64 n, .bool (decide (un.length ≤ 16))]) ∧ OneS w0 w' hb un m := by
  obtain ⟨tg, M, H, ob, h1, h2, h3, h4⟩ := h
  have hi : H.obs[0]? = some ob := by rw [h2.obs]; rfl
  have ho : obI H (objW 0) = some 0 := obI_of (i := 0) (by rw [h2.obs]; exact Nat.one_pos) (by rw [h2.obs]; show (1 : Nat) ≤ 65536; omega)
  refine (shape_at h1 (objW 0) (by decide) (by decide) ho hi).mono ?_
  rintro e w' ⟨rfl, hB⟩
  exact ⟨ob.shape, by rw [h2.sh], tg, M, H, ob, h1.below hB, h2, h3, h4.trans (hB.mono h4.size)⟩

end

end Go.Proofs.Ytkpdpdllbnihgaa.Hp

/- Get, whatever the table. -/
namespace Go.Proofs.Ytkpdpdllbnihgaa.Hp
open Go.RowKit
set_option linter.unusedVariables false

section
variable {w w' w1 : World} {B hb : Nat} {O S : Nat → Prop} {H H' : He} {M M' : HV} {tg : Nat → Nat}

set_option maxRecDepth 100000 in
set_option maxHeartbeats 1000000 in
theorem get_any (h : HeapAt w B hb tg H M) (o : Int) (o0 : 0 ≤ o) (o1 : o < 18446744073709551616) {i n : Nat} {ob : Ob} {k : ByteArray} {p : Pr} (ho : obI H o = some i) (hi : H.obs[i]? = some ob) (hn : plc ob.ps k = some n) (hp : ob.ps[n]? = some p) (hnt : ob.neat) (hk : k.size ≤ maxLen) :
    Calls Try.prog 20 #[.pointer (some ⟨hb, 0, none⟩), .int .u64 o, .string k] w fun e w' => e = .returned (.tuple #[deV p.de, .bool true]) ∧ Below w.heap.size w w' := by
  obtain ⟨wb, hwb⟩ : ∃ wb, wb = w.alloc (.cells #[.int .u64 0, .int .u64 0, .int .i64 0] 43) := ⟨_, rfl⟩
  have hB : Below w.heap.size w wb := by rw [hwb]; exact (Below.refl _ _).alloc (Nat.le_refl _) _
  have hbx : wb.heap[w.heap.size]? = some (.cells #[.int .u64 0, .int .u64 0, .int .i64 0] 43 (0, 0)) := by rw [hwb]; exact at_new _ _
  have h2 := h.below hB
  obtain ⟨g, cap, ov, hvo, hov, t4, hne, hgl, hcell, hfz, hl1, hl2, hrow⟩ := h2.obj hi
  have ka := at_hit h2 o o0 o1 i g cap ho hvo
  have kf2 := (show FindB _ _ _ _ _ from find_any (ob := ob) h2 hi hvo hnt k hk)
  unfold FindB at kf2
  rw [hn] at kf2
  have hr : RowIn prC 5 _ B wb _ ov.vl ob.ps := h2.part hi hov 0 (by omega)
  obtain ⟨q1, q2, q3, q4⟩ := hr.open rtPr.len
  have hnl : n < ob.ps.length := (List.getElem?_eq_some_iff.1 hp).1
  obtain ⟨gl, e1, _, _, _, hc, _⟩ := q4 (by intro e; rw [e] at hnl; simp at hnl)
  have hnl2 : (n : Int) < (ob.ps.length : Int) := by omega
  have hlim : (ob.ps.length : Int) ≤ 9223372036854775807 := by unfold maxLen at q3; omega
  unfold nOf at kf2
  simp only [Option.map_some, Option.getD_some, Option.isSome_some] at kf2
  have HF : Hid (∀ w6, Below wb.heap.size wb w6 → w6.cell? ⟨g, i * 12 + 4, none⟩ = some (.slice (some ⟨gl, 0, none⟩) ob.ps.length ov.vl.cap) ∧ (w6.cell? ⟨gl, n * 5 + 2, none⟩ = some (.int .u64 p.de.va) ∧ w6.cell? ⟨gl, n * 5 + 3, none⟩ = some (.int .u64 p.de.se) ∧ w6.cell? ⟨gl, n * 5 + 4, none⟩ = some (.int .i64 p.de.fl)) ∧ (w6.frozen? ⟨w.heap.size, 0, none⟩ = false ∧ w6.frozen? ⟨w.heap.size, 1, none⟩ = false ∧ w6.frozen? ⟨w.heap.size, 2, none⟩ = false) ∧ (w6.cell? ⟨w.heap.size, 0, none⟩ = some (.int .u64 0) ∧ w6.cell? ⟨w.heap.size, 1, none⟩ = some (.int .u64 0) ∧ w6.cell? ⟨w.heap.size, 2, none⟩ = some (.int .i64 0)) ∧ (((w6.setCell ⟨w.heap.size, 0, none⟩ (.int .u64 p.de.va)).setCell ⟨w.heap.size, 1, none⟩ (.int .u64 p.de.se)).setCell ⟨w.heap.size, 2, none⟩ (.int .i64 p.de.fl) |>.heap[w.heap.size]? = some (.cells #[.int .u64 p.de.va, .int .u64 p.de.se, .int .i64 p.de.fl] 43 (0, 0))) ∧ Below w.heap.size w (((w6.setCell ⟨w.heap.size, 0, none⟩ (.int .u64 p.de.va)).setCell ⟨w.heap.size, 1, none⟩ (.int .u64 p.de.se)).setCell ⟨w.heap.size, 2, none⟩ (.int .i64 p.de.fl))) := fun w6 hB6 => by
    have d4 := hcell 4 _ rfl
    unfold SV.val at d4
    simp only at d4
    rw [q1, e1] at d4
    have hxs : w.heap.size < wb.heap.size := (Array.getElem?_eq_some_iff.1 hbx).1
    have hbx6 : w6.heap[w.heap.size]? = some (.cells #[.int .u64 0, .int .u64 0, .int .i64 0] 43 (0, 0)) := by rw [hB6.block _ hxs]; exact hbx
    have s0 := heap_setCell_same w6 w.heap.size 0 _ _ (.int .u64 p.de.va) hbx6
    have s1 := heap_setCell_same _ w.heap.size 1 _ _ (.int .u64 p.de.se) s0
    have hBW : Below w.heap.size w w6 := hB.trans (hB6.mono (Nat.le_of_lt hxs))
    exact ⟨cells_below hB6 _ _ d4, ⟨cells_below hB6 _ _ (hc n p hp 2 _ rfl), cells_below hB6 _ _ (hc n p hp 3 _ rfl), cells_below hB6 _ _ (hc n p hp 4 _ rfl)⟩, ⟨frozen_of_row w6 w.heap.size 0 _ _ hbx6, frozen_of_row w6 w.heap.size 1 _ _ hbx6, frozen_of_row w6 w.heap.size 2 _ _ hbx6⟩, ⟨cell_of_row w6 w.heap.size 0 _ _ (0, 0) hbx6, cell_of_row w6 w.heap.size 1 _ _ (0, 0) hbx6, cell_of_row w6 w.heap.size 2 _ _ (0, 0) hbx6⟩, heap_setCell_same _ w.heap.size 2 _ _ (.int .i64 p.de.fl) s1, ((hBW.setCell (by simp) _).setCell (by simp) _).setCell (by simp) _⟩
  unfold deV
  obtain ⟨pk, pc, pv, ps', pf⟩ := p
  simp only at *
  generalize ob.ps.length = len at *
  generalize ov.vl.cap = cp at *
  clear h h2 hB hbx hi ho hvo hov t4 hne hgl hcell hfz hl1 hl2 hrow hn hp hr q1 q2 q3 q4 hc hnl e1 hnt hk
  go_enter Try.func20, Try.ntmps20
  go_upto_region 1 with fail
  rw [← hwb]
  clear hwb
  go_wp2_with fail
  refine ka.mono ?_
  rintro e w2 ⟨rfl, rfl⟩
  clear ka
  go_wp2_with fail
  refine kf2.mono ?_
  rintro e w6 ⟨rfl, hB6⟩
  obtain ⟨d4, ⟨m2, m3, m4⟩, ⟨f0, f1, f2⟩, ⟨b0, b1, b2⟩, hbx, hbl⟩ := HF.out w6 hB6
  have HBX := (show Hid _ from hbx)
  have HBL := (show Hid _ from hbl)
  clear kf2 HF hB6 hbx hbl
  go_wp2_with fail
  refine bodyPost_ret (res2 rfl _ _ w.heap.size 43 _ (0, 0) _ rfl HBX.out Try.underlying43 rfl (by kernel_rfl)) rfl ?_
  exact ⟨rfl, HBL.out⟩

end

end Go.Proofs.Ytkpdpdllbnihgaa.Hp

/- One object: Drop, and Put of the same name again. -/
namespace Go.Proofs.Ytkpdpdllbnihgaa.Hp
open Go.RowKit
set_option linter.unusedVariables false

/-- a heap with one object that has no shape -/
def DroS (w0 w : World) (hb : Nat) (ks : List ByteArray) : Prop := ∃ tg M H ob, HeapAt w w0.heap.size hb tg H M ∧ H.obs = [ob] ∧ ob.shaped = false ∧ ob.neat ∧ ob.ps.map Pr.key = ks ∧ ob.next ≤ 300 ∧ Below w0.heap.size w0 w

/-- and the last of its properties has this value -/
def EndS (w0 w : World) (hb : Nat) (ks : List ByteArray) (k : ByteArray) (d : De) : Prop := ∃ tg M H ob n p, HeapAt w w0.heap.size hb tg H M ∧ H.obs = [ob] ∧ ob.shaped = false ∧ ob.neat ∧ ob.ps.map Pr.key = ks ++ [k] ∧ plc ob.ps k = some n ∧ ob.ps[n]? = some p ∧ p.de = d ∧ Below w0.heap.size w0 w

section
variable {w0 w : World} {hb : Nat} {un : List ByteArray} {m : Nat}

theorem ones_drop (h : OneS w0 w hb un m) (hm : m ≤ 200) {k : ByteArray} (hk : k.size ≤ maxLen) (hin : k ∈ un) :
    Calls Try.prog 18 #[.pointer (some ⟨hb, 0, none⟩), .int .u64 (objW 0), .string k] w fun e w' => e = .returned (.bool true) ∧ ∃ ks, ks.length + 1 = un.length ∧ k ∉ ks ∧ DroS w0 w' hb ks := by
  obtain ⟨tg, M, H, ob, h1, h2, h3, h4⟩ := h
  have hi : H.obs[0]? = some ob := by rw [h2.obs]; rfl
  have ho : obI H (objW 0) = some 0 := obI_of (i := 0) (by rw [h2.obs]; exact Nat.one_pos) (by rw [h2.obs]; show (1 : Nat) ≤ 65536; omega)
  have hnx := h2.nx
  cases hp : plc ob.ps k with
  | none =>
    rw [← h2.keys] at hin
    obtain ⟨p, q1, q2⟩ := List.mem_map.1 hin
    exact absurd q2 (plc_none hp p q1)
  | some n =>
    obtain ⟨⟨p, hn, hpk⟩, _⟩ := plc_some hp
    have hnl : n < ob.ps.length := (List.getElem?_eq_some_iff.1 hn).1
    refine (drop_hit h1 (objW 0) (by decide) (by decide) ho hi h2.neat k hk hp).mono ?_
    rintro e w' ⟨rfl, M', _, tg', k1, k2, k3⟩
    refine ⟨rfl, (ob.ps.eraseIdx n).map Pr.key, ?_, ?_, tg', M', _, (ob.less n).lost, k1, ?_, rfl, (h2.neat.less n).lost, rfl, ?_, k2.below h4 h4.size (fun b q => (h1.lt b q).1)⟩
    · rw [List.length_map, List.length_eraseIdx_of_lt hnl, ← h2.keys, List.length_map]
      omega
    · intro hx
      rw [era_map] at hx
      have hnd := h2.neat.kn
      have hg : (ob.ps.map Pr.key)[n]? = some k := by rw [List.getElem?_map, hn, ← hpk]; rfl
      rw [List.eraseIdx_eq_take_drop_succ] at hx
      obtain ⟨hgl, hge⟩ := List.getElem?_eq_some_iff.1 hg
      rcases List.mem_append.1 hx with q | q
      · obtain ⟨j, hj, e⟩ := List.mem_take_iff_getElem.1 q
        have := (List.getElem_inj hnd).1 (e.trans hge.symm)
        omega
      · obtain ⟨j, hj, e⟩ := List.mem_drop_iff_getElem.1 q
        have := (List.getElem_inj hnd).1 (e.trans hge.symm)
        omega
    · show H.obs.set 0 _ = _
      rw [h2.obs]
      rfl
    · show ob.next ≤ 300
      omega

theorem dros_put {ks : List ByteArray} (h : DroS w0 w hb ks) {k : ByteArray} (hk : k.size ≤ maxLen) (hno : k ∉ ks) (d : De) :
    Calls Try.prog 15 #[.pointer (some ⟨hb, 0, none⟩), .int .u64 (objW 0), .string k, deV d] w fun e w' => e = .returned (.tuple #[]) ∧ EndS w0 w' hb ks k (keptD d) := by
  obtain ⟨tg, M, H, ob, h1, h2, h3, h5, h6, h7, h4⟩ := h
  have hi : H.obs[0]? = some ob := by rw [h2]; rfl
  have ho : obI H (objW 0) = some 0 := obI_of (i := 0) (by rw [h2]; exact Nat.one_pos) (by rw [h2]; show (1 : Nat) ≤ 65536; omega)
  have hpn : plc ob.ps k = none := by
    cases hp : plc ob.ps k with
    | none => rfl
    | some n =>
      obtain ⟨⟨p, hn, hpk⟩, _⟩ := plc_some hp
      exact absurd (by rw [← h6, ← hpk]; exact List.mem_map.2 ⟨p, List.mem_of_getElem? hn, rfl⟩) hno
  refine (put_any h1 (objW 0) (by decide) (by decide) ho hi h5 (fun q => by rw [h3] at q; cases q) k hk d (by omega)).mono ?_
  rintro e w' ⟨rfl, M', _, tg', k1, k2, k3⟩
  have e1 : putH H 0 ob k d = { touchH H ob.cell with obs := H.obs.set 0 (ob.bare k (keptD d)) } := by
    unfold putH
    rw [hpn]
    simp only
    rw [if_neg (by rw [h3]; simp)]
  rw [e1] at k1
  have hps : (ob.bare k (keptD d)).ps = ob.ps ++ [⟨k, ob.next, keptD d⟩] := by
    unfold Ob.bare
    split
    · exact (plus_len ob k (keptD d)).1
    · exact (plus_len ob k (keptD d)).1
  have hsh : (ob.bare k (keptD d)).shaped = false := by
    unfold Ob.bare
    split
    · rfl
    · rw [(plus_len ob k (keptD d)).2.2]; exact h3
  refine ⟨rfl, tg', M', _, ob.bare k (keptD d), ob.ps.length, ⟨k, ob.next, keptD d⟩, k1, ?_, hsh, h5.bare hpn _, ?_, ?_, ?_, rfl, k2.below h4 h4.size (fun b q => (h1.lt b q).1)⟩
  · show H.obs.set 0 _ = _
    rw [h2]
    rfl
  · rw [hps, List.map_append, h6]
    rfl
  · rw [hps]
    unfold plc at hpn ⊢
    rw [List.findIdx?_append, hpn]
    simp
  · rw [hps]
    simp

end

end Go.Proofs.Ytkpdpdllbnihgaa.Hp
