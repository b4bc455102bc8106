/- alive. -/
import Derived.Test.YtkpdpdllbnihgaaHP
import Derived.Test.YtkpdpdllbnihgaaHM
import Derived.Deep.RegionLaw
import Derived.Laws.IdiomCopy
import Derived.Deep.Upon
namespace Go.Proofs.Ytkpdpdllbnihgaa.Hp
open Go.RowKit
set_option linter.unusedVariables false

def keyA : ByteArray := { data := #[97] }
def obA : Ob := ⟨0, nulW, false, false, [], 0, [], [], 0, true, -1, false, []⟩
def HA1 : He := ⟨[], [obA], 5, [⟨rootN 0 nulW, [], [], []⟩], [], 0⟩
def deA : De := ⟨intW 7, 0, 7⟩
def obB : Ob := ⟨0, nulW, false, false, [⟨keyA, 0, deA⟩], 1, [], [], 1, true, -1, false, []⟩
def HA2 : He := ⟨[], [obB], 5, [⟨rootN 0 nulW, [], [], []⟩, ⟨rootN 0 nulW, [keyA], [7], [(false, keyA, 7)]⟩], [], 0⟩

theorem mk1 : makeH (He.new 5) 0 nulW = HA1 := by
  have h1 : obI (He.new 5) nulW = none := by
    unfold obI
    rw [if_neg (by intro q; have := q.1; rw [isT_nul] at this; cases this)]
  have h2 : raiseH (He.new 5) nulW = He.new 5 := by unfold raiseH; rw [h1]
  unfold makeH
  rw [h2]
  rfl
theorem put1 : layH (touchH HA1 obA.cell) 0 obA keyA (keptD deA) = HA2 := by
  have h1 : touchH HA1 obA.cell = HA1 := rfl
  have h2 : keptD deA = deA := rfl
  rw [h1, h2]
  rfl

theorem ob1 : obI HA1 (objW 0) = some 0 := obI_of (H := HA1) (i := 0) (by decide) (by decide)
theorem ob2 : obI HA2 (objW 0) = some 0 := obI_of (H := HA2) (i := 0) (by decide) (by decide)
theorem may1 : mayB (He.new 5) nulW = true := by unfold mayB; simp
theorem pl2 : plc obB.ps keyA = some 0 := by
  refine plc_at (p := ⟨keyA, 0, deA⟩) rfl rfl (fun j q hj => by omega)
theorem fd2 : Sp.findR HA2.L 1 keyA = some (0, 7) := by
  unfold Sp.findR Sp.shOf Sp.idx
  rfl

theorem find_of {B hb : Nat} {H : He} {M : HV} {tg : Nat → Nat} {i : Nat} {ob : Ob} (hi : H.obs[i]? = some ob) (hm : ob.hm = false) (k : ByteArray) : ∀ W g cap, HeapAt W B hb tg H M → M.vo = ⟨some ⟨g, 0, none⟩, H.obs.length, cap⟩ → FindSays W g i k (plc ob.ps k) := fun W g cap hW hv => by
  obtain ⟨_, _, ov, _, hov, _⟩ := hW.obj hi
  exact find_at hW hi hov hv hm k

set_option maxRecDepth 100000 in
set_option maxHeartbeats 2000000 in
theorem alive_any (w : World) : Calls Try.prog 7 #[] w fun e w' => e = .returned (.bool true) ∧ Below w.heap.size w w' := by
  have kn := new_any w 5
  have ki := fun w => refInt_any 7 w
  have HOW : Hid (0 ≤ objW 0 ∧ objW 0 < 18446744073709551616) := by show _ ∧ _; decide
  have HO1 : Hid (obI HA1 (objW 0) = some 0 ∧ obI HA2 (objW 0) = some 0) := ⟨ob1, ob2⟩
  have HOL : Hid (objW ((He.new 5).obs.length : Int) = objW 0) := rfl
  have HDA : Hid (deV deA = .agg #[.int .u64 (intW 7), .int .u64 0, .int .i64 7]) := rfl
  generalize objW 0 = ow at *
  generalize hiw : intW 7 = iw at *
  clear hiw
  go_enter Try.func7, Try.ntmps7
  go_wp2_with fail
  refine kn.mono ?_
  rintro e w1 ⟨hb, O, rfl, ⟨tg, M, h, hO⟩, hB⟩
  have HB1 : Hid (Below w.heap.size w w1) := hB
  have HT1 : Hid (∀ b, tg b ≠ 0 → w.heap.size ≤ b) := fun b q => (h.lt b q).1
  have km := make_hit h 0 nulW (by omega) (by omega) (by decide) (by decide) may1 (by decide)
  rw [mk1, HOL.out] at km
  unfold nulW at km
  clear kn h hO hB
  go_wp2_with fail
  refine km.mono ?_
  rintro e w2 ⟨rfl, M2, tg2, h2, c2, n2⟩
  have HB2 : Hid (Below w.heap.size w w2 ∧ ∀ b, tg2 b ≠ 0 → w.heap.size ≤ b) := ⟨c2.below HB1.out HB1.out.size HT1.out, fun b q => by rcases n2 b q with c | c; exact HT1.out b c; exact Nat.le_trans HB1.out.size c⟩
  have kp := put_new h2 ow HOW.out.1 HOW.out.2 HO1.out.1 (ob := obA) rfl rfl rfl keyA (by unfold maxLen; decide) deA (by decide) (by decide) rfl
  rw [put1, HDA.out] at kp
  unfold keyA at kp
  clear km c2 n2 h2 HB1 HT1
  go_wp2_with fail
  refine (ki _).mono ?_
  rintro e w2' ⟨rfl, rfl⟩
  go_wp2_with fail
  refine kp.mono ?_
  rintro e w3 ⟨rfl, M3, tg3, h3, c3, n3⟩
  have HB3 : Hid (Below w.heap.size w w3 ∧ ∀ b, tg3 b ≠ 0 → w.heap.size ≤ b) := ⟨c3.below HB2.out.1 HB2.out.1.size HB2.out.2, fun b q => by rcases n3 b q with c | c; exact HB2.out.2 b c; exact Nat.le_trans HB2.out.1.size c⟩
  have kg := get_at h3 ow HOW.out.1 HOW.out.2 HO1.out.2 (ob := obB) (n := 0) (k := keyA) (p := ⟨keyA, 0, deA⟩) rfl pl2 rfl (find_of rfl rfl keyA)
  rw [show deV (Pr.mk keyA 0 deA).de = deV deA from rfl, HDA.out] at kg
  unfold keyA at kg
  have H3 : Hid (HeapAt w3 w.heap.size hb tg3 HA2 M3) := h3
  clear kp c3 n3 h3 HB2
  go_wp2_with fail
  refine kg.mono ?_
  rintro e w4 ⟨rfl, hb4⟩
  have HB4 : Hid (Below w3.heap.size w3 w4) := hb4
  clear kg hb4
  go_upto_region 7 with fail
  obtain ⟨w5, hw5⟩ : ∃ w5, w5 = w4.alloc (.cells #[.int .u64 iw, .int .u64 0, .int .i64 7] 43) := ⟨_, rfl⟩
  rw [← hw5]
  have hb5 : Below w4.heap.size w4 w5 := by rw [hw5]; exact (Below.refl _ _).alloc (Nat.le_refl _) _
  have b0 : w5.cell? ⟨w4.heap.size, 0, none⟩ = some (.int .u64 iw) := by rw [hw5]; exact box_new w4 _ _ 0 _ rfl
  have H5 : Hid (HeapAt w5 w.heap.size hb tg3 HA2 M3) := (H3.out.below HB4.out).below hb5
  have HB5 : Hid (Below w.heap.size w w5) := by
    have z1 := HB4.out.size
    have z2 := HB3.out.1.size
    refine ⟨?_, ?_, ?_, ?_, fun k hk => ?_⟩
    · rw [hb5.os, HB4.out.os, HB3.out.1.os]
    · rw [hb5.tape, HB4.out.tape, HB3.out.1.tape]
    · rw [hb5.output, HB4.out.output, HB3.out.1.output]
    · have := hb5.size; omega
    · rw [hb5.block k (by omega), HB4.out.block k (by omega), HB3.out.1.block k hk]
  generalize w4.heap.size = db at *
  have ks := shape_at H5.out ow HOW.out.1 HOW.out.2 HO1.out.2 (ob := obB) rfl
  unfold obB at ks
  simp only at ks
  clear hw5 hb5 HB4 HB3 H3
  go_wp2_with fail
  refine ks.mono ?_
  rintro e w6 ⟨rfl, hb6⟩
  have HB6 : Hid (Below w5.heap.size w5 w6) := hb6
  have H6 : Hid (HeapAt w6 w.heap.size hb tg3 HA2 M3) := H5.out.below hb6
  have b0 := cells_below hb6 _ _ b0
  have kf := findS_at H6.out 1 keyA
  rw [fd2] at kf
  unfold keyA Sp.slotI Sp.flagI at kf
  simp only [Option.isSome_some] at kf
  clear ks hb6
  go_wp2_with fail
  refine kf.mono ?_
  rintro e w7 ⟨rfl, hb7⟩
  have HB7 : Hid (Below w6.heap.size w6 w7) := hb7
  have b0 := cells_below hb7 _ _ b0
  have ko := objects_at (H6.out.below hb7)
  have HB8 : Hid (Below w.heap.size w w7) := by
    have z1 := HB6.out.size
    have z2 := HB5.out.size
    have z3 := hb7.size
    refine ⟨?_, ?_, ?_, by omega, fun k hk => ?_⟩
    · rw [hb7.os, HB6.out.os, HB5.out.os]
    · rw [hb7.tape, HB6.out.tape, HB5.out.tape]
    · rw [hb7.output, HB6.out.output, HB5.out.output]
    · rw [hb7.block k (by omega), HB6.out.block k (by omega), HB5.out.block k hk]
  have ko3 : ∀ n, Calls Try.prog 24 #[.pointer (some ⟨hb, 0, none⟩)] (w7.drewN n) fun e w' => e = .returned (.int .i64 1) ∧ w' = w7.drewN n := fun n => objects_at ((H6.out.below hb7).below (below_drewN (Below.refl _ _) n))
  have ki3 : ∀ n, Calls Try.prog 16 #[.int .i32 7] (w7.drewN n) fun e w' => e = .returned (.int .u64 iw) ∧ w' = w7.drewN n := fun n => ki _
  clear kf hb7 ko H5 H6 HB5 HB6 HB7
  go_wp2_with fail
  go_quiet (first | (go_at_call 16; refine Calls.quiet_of_same (ki3 _)) | (go_at_call 24; refine Calls.quiet_of_same (ko3 _)))
  go_wp2_with fail
  go_ret
  exact ⟨rfl, below_drewN HB8.out _⟩

end Go.Proofs.Ytkpdpdllbnihgaa.Hp

/- slices.Delete of one property: the row behind it. -/
namespace Go.Proofs.Ytkpdpdllbnihgaa.Hp
open Go.RowKit
set_option linter.unusedVariables false

/-- an array with values laid over it -/
def setAll : Array Value → Nat → List Value → Array Value
  | cur, _, [] => cur
  | cur, o, v :: vs => setAll (cur.setIfInBounds o v) (o + 1) vs

theorem setAll_size : ∀ (vs : List Value) (cur : Array Value) (o : Nat), (setAll cur o vs).size = cur.size
  | [], cur, o => rfl
  | v :: vs, cur, o => by
    rw [setAll, setAll_size vs, Array.size_setIfInBounds]

theorem setAll_take : ∀ (vs : List Value) (cur : Array Value) (o : Nat), o + vs.length ≤ cur.size → (setAll cur o vs).toList.take (o + vs.length) = cur.toList.take o ++ vs
  | [], cur, o, h => by simp [setAll]
  | v :: vs, cur, o, h => by
    rw [List.length_cons] at h
    rw [setAll, List.length_cons, show o + (vs.length + 1) = (o + 1) + vs.length by omega, setAll_take vs _ (o + 1) (by rw [Array.size_setIfInBounds]; omega), Array.toList_setIfInBounds]
    have hl : o < cur.toList.length := by rw [Array.length_toList]; omega
    rw [List.take_add_one, List.getElem?_set_self hl, List.take_set_of_le (Nat.le_refl _)]
    simp

theorem setAll_before : ∀ (vs : List Value) (cur : Array Value) (o n : Nat), n ≤ o → (setAll cur o vs).toList.take n = cur.toList.take n
  | [], cur, o, n, h => rfl
  | v :: vs, cur, o, n, h => by
    rw [setAll, setAll_before vs _ (o + 1) n (by omega), Array.toList_setIfInBounds, List.take_set_of_le h]

theorem heap_setCells (b : Nat) (t : TypeId) : ∀ (vs : List Value) (o : Nat) (w : World) (cur : Array Value), w.heap[b]? = some (.cells cur t (0, 0)) → (w.setCells b o vs).heap[b]? = some (.cells (setAll cur o vs) t (0, 0))
  | [], o, w, cur, h => h
  | v :: vs, o, w, cur, h => heap_setCells b t vs (o + 1) _ _ (heap_setCell_same w b o cur t v h)

theorem chg_setCells (b : Nat) : ∀ (vs : List Value) (o : Nat) (w : World), Chg (fun k => k = b) w (w.setCells b o vs)
  | [], o, w => Chg.refl _ _
  | v :: vs, o, w => (Chg.set (S := fun k => k = b) w ⟨b, o, none⟩ v rfl).trans (chg_setCells b vs (o + 1) _) (fun _ _ q => q)

theorem erase_flat {ps : List Pr} {a : Nat} (ha : a < ps.length) : (ps.eraseIdx a).flatMap prC = (ps.take a).flatMap prC ++ (ps.drop (a + 1)).flatMap prC := by
  rw [List.eraseIdx_eq_take_drop_succ, List.flatMap_append]

/-- the row without one of its properties -/
theorem del_row {B : Nat} {w : World} {gl cap a : Nat} {ps : List Pr} (h : OwnR prC 5 87 B w (.slice (some ⟨gl, 0, none⟩) ps.length cap) ps) (ha : a < ps.length) (zs : List Value) (hz : zs.length = 5) :
    OwnR prC 5 87 B ((w.setCells gl (a * 5) ((ps.drop (a + 1)).flatMap prC)).setCells gl ((ps.length - 1) * 5) zs) (.slice (some ⟨gl, 0, none⟩) (ps.length - 1) cap) (ps.eraseIdx a) := by
  rcases h.2 with ⟨h1, _⟩ | ⟨g', cap', cur, h1, hb, hg, hn, hc, hs, ht⟩
  · cases h1
  · cases h1
    have hnl : ((ps.drop (a + 1)).flatMap prC).length = (ps.length - (a + 1)) * 5 := by rw [flat_len rtPr.len, List.length_drop]
    have hfit : a * 5 + ((ps.drop (a + 1)).flatMap prC).length ≤ cur.size := by
      rw [hnl, hs]
      have : a * 5 + (ps.length - (a + 1)) * 5 = (ps.length - 1) * 5 := by rw [← Nat.add_mul]; congr 1; omega
      rw [this]
      exact Nat.mul_le_mul_right _ (by omega)
    have h1 := heap_setCells gl _ ((ps.drop (a + 1)).flatMap prC) (a * 5) w cur hg
    have h2 := heap_setCells gl _ zs ((ps.length - 1) * 5) _ _ h1
    have hel : (ps.eraseIdx a).length = ps.length - 1 := List.length_eraseIdx_of_lt ha
    refine ⟨by rw [flat_len rtPr.len], Or.inr ⟨gl, cap, _, by rw [hel], hb, h2, by rw [hel]; omega, hc, by rw [setAll_size, setAll_size]; exact hs, ?_⟩⟩
    rw [hel, setAll_before _ _ _ _ (Nat.le_refl _)]
    have e : (ps.length - 1) * 5 = a * 5 + ((ps.drop (a + 1)).flatMap prC).length := by
      rw [hnl, ← Nat.add_mul]
      congr 1
      omega
    rw [e, setAll_take _ _ _ hfit, erase_flat ha]
    congr 1
    have h3 : cur.toList.take (a * 5) = (cur.toList.take (ps.length * 5)).take (a * 5) := by
      rw [List.take_take, Nat.min_eq_left (Nat.mul_le_mul_right _ (by omega))]
    rw [h3, ht]
    have h4 : ps.flatMap prC = (ps.take a).flatMap prC ++ (ps.drop a).flatMap prC := by rw [← List.flatMap_append, List.take_append_drop]
    rw [h4, List.take_append_of_le_length (by rw [flat_len rtPr.len, List.length_take]; omega), List.take_of_length_le (by rw [flat_len rtPr.len, List.length_take]; omega)]

end Go.Proofs.Ytkpdpdllbnihgaa.Hp
