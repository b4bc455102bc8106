/- HeapFast: the law's walk. -/
import Derived.Test.YtkpdpdllbnihgaaB9
import Derived.Test.YtkpdpdllbnihgaaB16
import Derived.Deep.QuietTactic
namespace Go.Proofs.Ytkpdpdllbnihgaa.Hp
open Go.RowKit
set_option linter.unusedVariables false

def nwB (un : List ByteArray) (k : ByteArray) (i : Nat) : Bool := (un.take i).all (fun u => !decide (u = k))

theorem nwB_step {un : List ByteArray} {k u : ByteArray} {i : Nat} (h : un[i]? = some u) : nwB un k (i + 1) = (nwB un k i && !decide (u = k)) := by
  unfold nwB
  rw [take_at un i u h, List.all_append]
  simp
theorem nwB_end (un : List ByteArray) (k : ByteArray) : nwB un k un.length = !(un.any (fun u => decide (u = k))) := by
  unfold nwB
  rw [List.take_length, List.all_eq_not_any_not]
  simp

/-- the row's cells -/
def RwC (w : World) (ad : Option Addr) (un : List ByteArray) : Prop := ∀ (i : Nat) (u : ByteArray), un[i]? = some u → ∃ b, ad = some ⟨b, 0, none⟩ ∧ w.cell? ⟨b, i, none⟩ = some (.string u)

theorem row_cells {B : Nat} {w : World} {ad : Option Addr} {n cap : Nat} {un : List ByteArray} (h : OwnR strC 1 9 B w (.slice ad n cap) un) : n = un.length ∧ RwC w ad un := by
  rcases h.2 with ⟨e, h0⟩ | ⟨g, cap', cur, e, hb, hg, hnc, hcm, hcs, ht⟩
  · injection e with e1 e2 e3
    refine ⟨by omega, fun i u hi => ?_⟩
    rw [List.eq_nil_of_length_eq_zero h0] at hi
    simp at hi
  · injection e with e1 e2 e3
    subst e1
    refine ⟨e2, fun i u hi => ⟨g, rfl, ?_⟩⟩
    have := h.at' rtStr.len hi (j := 0) rfl
    simpa using this

/-- on the way -/
structure FaAt (w wr : World) (hb : Nat) (l un : List ByteArray) (j : Nat) (ad : Option Addr) (cap : Nat) : Prop where
  fas : FaS w wr hb un j (.slice ad un.length cap) un
  len : un.length ≤ j
  sz : ∀ u ∈ un, u.size ≤ maxLen

theorem FaAt.low {w wr : World} {hb : Nat} {l un : List ByteArray} {j : Nat} {ad : Option Addr} {cap : Nat} (h : FaAt w wr hb l un j ad cap) : RwC wr ad un ∧ Below w.heap.size w wr := ⟨(row_cells h.fas.row.1).2, h.fas.row.2⟩

set_option maxRecDepth 100000 in
set_option maxHeartbeats 4000000 in
theorem fast_walk (w : World) (m : Sli ByteArray) (hm : m.ok strC 1 w) (hg : ∀ y ∈ m.xs, y.size ≤ maxLen) (dr : Int) (hdr : -9223372036854775808 ≤ dr ∧ dr ≤ 9223372036854775807) :
    Calls Try.prog 5 #[m.val, .int .i64 dr] w fun e w' => e = .returned (.bool true) ∧ Below w.heap.size w w' := by
  obtain ⟨ad, cap, l⟩ := m
  have kn := new_any w 256
  have ka := fun w => alive_any w
  have hlen := hm.len
  have hcap := hm.cap
  have hcells := hm.cells
  simp only at hlen hcap hcells hg
  have hlim : (l.length : Int) ≤ 9223372036854775807 := by unfold maxLen at hcap; omega
  have HC : Hid (l ≠ [] → ∃ b off, ad = some ⟨b, off, none⟩ ∧ ∀ (i : Nat) (y : ByteArray), l[i]? = some y → ∀ (j : Nat) (u : Value), (strC y)[j]? = some u → w.cell? ⟨b, off + i * 1 + j, none⟩ = some u) := hcells
  have HG : Hid (∀ y ∈ l, y.size ≤ maxLen) := hg
  unfold Sli.val
  simp only
  clear hm hlen hcap hcells hg
  obtain ⟨hd1, hd2⟩ := hdr
  go_enter Try.func5, Try.ntmps5
  go_wp2_with fail
  refine kn.mono ?_
  rintro e w1 ⟨hb, O, rfl, ⟨tg, M, h, hO⟩, hB⟩
  have HB1 : Hid (Below w.heap.size w w1) := hB
  have HH1 : Hid (HeapAt w1 w.heap.size hb tg (He.new 256) M) := h
  clear kn h hO hB
  go_wp2_with fail
  refine (ka _).mono ?_
  rintro e w2 ⟨rfl, hB2⟩
  have HH2 : Hid (HeapAt w2 w.heap.size hb tg (He.new 256) M) := HH1.out.below hB2
  have HB2 : Hid (Below w.heap.size w w2) := HB1.out.trans ⟨hB2.os, hB2.tape, hB2.output, hB2.size, fun k hk => hB2.block k (Nat.lt_of_lt_of_le hk HB1.out.size)⟩
  clear hB2 HB1 HH1
  by_cases cl : 100 < l.length
  · have hgt : decide ((100 : Int) < (l.length : Int)) = true := decide_eq_true (by omega)
    have hgt2 : (100 : Int) < (l.length : Int) := by omega
    have ka2 := ka w2
    clear HH2 HC HG cl ka
    go_wp2_with fail
    refine ka2.mono ?_
    rintro e w3 ⟨rfl, hB3⟩
    clear ka2
    have HB3 : Hid (Below w.heap.size w w3) := HB2.out.trans ⟨hB3.os, hB3.tape, hB3.output, hB3.size, fun k hk => hB3.block k (Nat.lt_of_lt_of_le hk HB2.out.size)⟩
    clear hB3
    go_wp2_with fail
    go_ret
    exact ⟨rfl, HB3.out⟩
  · have hgt : decide ((100 : Int) < (l.length : Int)) = false := decide_eq_false (by omega)
    have HL : Hid (l.length ≤ 100) := by show l.length ≤ 100; omega
    have may : mayB (He.new 256) nulW = true := by unfold mayB; simp
    have km := make_hit HH2.out 0 nulW (by omega) (by omega) (by decide) (by decide) may (by decide)
    rw [show objW ((He.new 256).obs.length : Int) = objW 0 from rfl] at km
    have HST : Hid (∀ M' w3, WentM w2 w.heap.size hb tg (makeH (He.new 256) 0 nulW) M' w3 → FaAt w w3 hb l [] 0 none 0) := fun M' w3 q => ⟨FaS.start (ones_start HH2.out HB2.out q), by simp, by simp⟩
    generalize hmk : makeH (He.new 256) 0 nulW = HK at *
    unfold nulW at km
    clear ka may hmk HB2 HH2 cl
    go_wp2_with fail
    refine km.mono ?_
    rintro e w3 ⟨rfl, M3, hq3⟩
    have HE0 : Hid (FaAt w w3 hb l [] 0 none 0) := HST.out M3 w3 hq3
    clear km hq3 HST
    generalize how : objW 0 = ow at *
    have HOW : Hid (objW 0 = ow) := how
    clear how
    go_wp2_with fail
    go_loopw [45, 8] (fun p q wr => ∃ (j : Nat) (un : List ByteArray) (ad : Option Addr) (cap : Nat), j ≤ l.length ∧ Hid (FaAt w wr hb l un j ad cap) ∧ p = .int .i64 (j : Int) ∧ q = .slice ad un.length cap) (fun p q wr => ((l.length : Int) - intOf p).toNat)
    case atStart => exact ⟨0, [], none, 0, Nat.zero_le _, HE0, rfl, rfl⟩
    case round =>
      clear HE0
      obtain ⟨j, un, ua, uc, hj, HS, rfl, rfl⟩ := hrel
      by_cases c : j < l.length
      · have hex : ∃ n, l[j]? = some n := ⟨_, List.getElem?_eq_getElem c⟩
        obtain ⟨k, hk⟩ := hex
        obtain ⟨b, off, rfl, hcc⟩ := HC.out (by intro e; rw [e] at c; simp at c)
        have e0 := hcc j k hk 0 _ rfl
        simp only [Nat.mul_one, Nat.add_zero] at e0
        have d0 := cells_below HS.out.low.2 _ _ e0
        have hjj : (j : Int) < (l.length : Int) := by omega
        have hjd : decide ((j : Int) < (l.length : Int)) = true := decide_eq_true hjj
        have hw1 : IntKind.i64.wrap ((j : Int) + 1) = ((j + 1 : Nat) : Int) := by rw [IntKind.wrap_i64]; omega
        have HKZ : Hid (k.size ≤ maxLen) := HG.out k (List.mem_of_getElem? hk)
        have HJ : Hid (j < l.length ∧ l[j]? = some k) := ⟨c, hk⟩
        have ki := fun w => refInt_any (wrap32 (j : Int)) w
        have kp := fas_put HS.out.fas (by have := HL.out; omega) k HKZ.out ⟨intW (wrap32 (j : Int)), 0, 7⟩ (by rfl)
        rw [HOW.out] at kp
        unfold deV at kp
        simp only at kp
        generalize intW (wrap32 (j : Int)) = jw at *
        have HUL : Hid (un.length ≤ j ∧ ∀ u ∈ un, u.size ≤ maxLen) := ⟨HS.out.len, HS.out.sz⟩
        clear hcc e0 hk c hj HS
        go_wp2_with fail
        refine (ki _).mono ?_
        rintro e w4 ⟨rfl, rfl⟩
        clear ki
        go_wp2_with fail
        refine kp.mono ?_
        rintro e w5 ⟨rfl, hq5⟩
        have HF5 : Hid (FaS w w5 hb (addU un k) (j + 1) (.slice ua un.length uc) un) := hq5
        have HR5 : Hid (RwC w5 ua un) := (row_cells hq5.row.1).2
        clear kp hq5 d0
        go_wp2_with fail
        go_loopw [60, 11] (fun p q wr => ∃ (i : Nat), i ≤ un.length ∧ p = .int .i64 (i : Int) ∧ q = .bool (nwB un k i) ∧ wr = w5) (fun p q wr => ((un.length : Int) - intOf p).toNat)
        case atStart => exact ⟨0, Nat.zero_le _, rfl, rfl, rfl⟩
        case round =>
          obtain ⟨i, hi, rfl, rfl, hww⟩ := hrel
          have hw' := hww.symm
          subst hw'
          clear hww
          by_cases ci : i < un.length
          · have hex : ∃ n, un[i]? = some n := ⟨_, List.getElem?_eq_getElem ci⟩
            obtain ⟨u, hu⟩ := hex
            obtain ⟨ub, rfl, du⟩ := HR5.out i u hu
            have hii : (i : Int) < (un.length : Int) := by omega
            have hil : (un.length : Int) ≤ 9223372036854775807 := by have := HUL.out.1; have := HJ.out.1; have := HL.out; omega
            have hid : decide ((i : Int) < (un.length : Int)) = true := decide_eq_true hii
            have hw2 : IntKind.i64.wrap ((i : Int) + 1) = ((i + 1 : Nat) : Int) := by rw [IntKind.wrap_i64]; omega
            have hst := nwB_step (k := k) hu
            have HI : Hid (i < un.length) := ci
            have hb1 : (u.toList == k.toList) = decide (u = k) := by
              by_cases q : u = k
              · rw [q, decide_eq_true rfl]; exact Sp.bytes_yes k
              · rw [decide_eq_false q]; exact Sp.bytes_no q
            have hbn : (u.toList != k.toList) = !decide (u = k) := by rw [bne, hb1]
            generalize decide (u = k) = uk at *
            generalize hnw : nwB un k (i + 1) = nx at *
            cases hnb : nwB un k i with
            | false =>
              rw [hnb] at hst
              simp only [Bool.false_and] at hst
              subst hst
              have HNW := (show Hid _ from hnw)
              clear hu ci hi HC HG HF5 HR5 hnw
              go_wp2_with fail
              refine ⟨⟨i + 1, by have := HI.out; omega, rfl, by rw [HNW.out], by first | rfl | trivial⟩, ?_⟩
              have := HI.out
              simp [intOf]
              omega
            | true =>
              rw [hnb] at hst
              simp only [Bool.true_and] at hst
              subst hst
              have HNW := (show Hid _ from hnw)
              clear hu ci hi HC HG HF5 HR5 hnw
              go_wp2_with fail
              refine ⟨⟨i + 1, by have := HI.out; omega, rfl, by rw [HNW.out], by first | rfl | trivial⟩, ?_⟩
              have := HI.out
              simp [intOf]
              omega
          · have hie : i = un.length := by omega
            subst hie
            have hii : ¬ ((un.length : Int) < (un.length : Int)) := by omega
            have hne := nwB_end un k
            rw [hne]
            cases han : un.any (fun u => decide (u = k)) with
            | true =>
              have hau : addU un k = un := by unfold addU; rw [if_pos han]
              rw [hau] at HF5
              have ks := fas_shape HF5.out
              rw [HOW.out] at ks
              have HNX : Hid (∀ w6, FaS w w6 hb un (j + 1) (.slice ua un.length uc) un → FaAt w w6 hb l un (j + 1) ua uc) := fun w6 q => ⟨q, by have := HUL.out.1; omega, HUL.out.2⟩
              clear HF5 HR5 ci hi hne han hau HUL HG HC
              simp only [Bool.not_true]
              by_cases c16 : un.length ≤ 16
              · rw [decide_eq_true c16] at ks
                have d1 : decide ((un.length : Int) ≤ 16) = true := decide_eq_true (by omega)
                have d2 : (un.length : Int) ≤ 16 := by omega
                go_wp2_with fail
                refine ks.mono ?_
                rintro e w7 ⟨sn, rfl, hq7⟩
                have HQ7 := (show Hid _ from HNX.out w7 hq7)
                clear ks hq7 HNX c16
                go_wp2_with fail
                refine ⟨⟨j + 1, un, ua, uc, by have := HJ.out.1; omega, HQ7, rfl, rfl⟩, ?_⟩
                have := HJ.out.1
                simp [intOf]
                omega
              · rw [decide_eq_false c16] at ks
                have d1 : decide ((un.length : Int) ≤ 16) = false := decide_eq_false (by omega)
                go_wp2_with fail
                refine ks.mono ?_
                rintro e w7 ⟨sn, rfl, hq7⟩
                have HQ7 := (show Hid _ from HNX.out w7 hq7)
                clear ks hq7 HNX c16
                go_wp2_with fail
                refine ⟨⟨j + 1, un, ua, uc, by have := HJ.out.1; omega, HQ7, rfl, rfl⟩, ?_⟩
                have := HJ.out.1
                simp [intOf]
                omega
            | false =>
              have hau : addU un k = un ++ [k] := by unfold addU; rw [if_neg (by rw [han]; simp)]
              rw [hau] at HF5
              have hown := HF5.out.row.1
              have hb5 := HF5.out.row.2
              have HBX : Hid (((un.length + 1) + (un.length + 1) / 4 + 192) * 16 ≤ 281474976710656 ∧ un.length + 1 ≤ maxLen) := by
                have h1 := HUL.out.1
                have h2 := HJ.out.1
                have h3 := HL.out
                exact ⟨by omega, by unfold maxLen; omega⟩
              have HAL : Hid (Below w5.heap.size w5 (w5.alloc (.cells #[.string k] 9))) := (Below.refl _ _).alloc (Nat.le_refl _) _
              have HOWN : Hid (OwnR strC 1 9 w.heap.size (w5.alloc (.cells #[.string k] 9)) (.slice ua un.length uc) un) := hown.below HAL.out
              have HONE : Hid (Sli.ok strC 1 (w5.alloc (.cells #[.string k] 9)) ⟨some ⟨w5.heap.size, 0, none⟩, 1, [k]⟩) := one_sli rtStr (at_new _ _) rfl
              have HSZ : Hid (w.heap.size ≤ (w5.alloc (.cells #[.string k] 9)).heap.size) := Nat.le_trans hb5.size HAL.out.size
              clear HR5 ci hi hne han hau HG HC hown hb5
              simp only [Bool.not_false]
              go_wp2_with (at_builtin; refine app_row rtStr rfl _ _ rfl w.heap.size (.slice ua un.length uc) un ?h1 HOWN.out ⟨some ⟨w5.heap.size, 0, none⟩, 1, [k]⟩ ?h3 HONE.out HBX.out.2 HBX.out.1 HSZ.out ?_)
              case h3 => rfl
              intro v6 w6 ho6 hg6 hl6
              have hll : (un ++ [k]).length = un.length + 1 := by simp
              have ho7 : w6.ownsRow w.heap.size 9 1 v6 (un.length + 1) ((un ++ [k]).flatMap strC) := by rw [← hll]; exact ho6
              obtain ⟨g6, c6, rfl, _, _⟩ := ho7.form (by omega)
              have hch : Chg (fun b => (Value.slice ua un.length uc).ownBlock = some b) w5 w6 := (Chg.of_below HAL.out).trans (Chg.of_grown (S := fun b => (Value.slice ua un.length uc).ownBlock = some b) hg6 (fun k q => q)) (fun _ _ q => q)
              have hF6 : FaS w w6 hb (un ++ [k]) (j + 1) (.slice (some ⟨g6, 0, none⟩) (un.length + 1) c6) (un ++ [k]) := HF5.out.grow ho6 hch (hl6.imp id (fun q => ⟨w5.heap.size + 1, Nat.le_add_right _ _, q⟩))
              have ks := fas_shape hF6
              rw [HOW.out, hll] at ks
              have HNX : Hid (∀ w7, FaS w w7 hb (un ++ [k]) (j + 1) (.slice (some ⟨g6, 0, none⟩) (un.length + 1) c6) (un ++ [k]) → FaAt w w7 hb l (un ++ [k]) (j + 1) (some ⟨g6, 0, none⟩) c6) := fun w7 q => ⟨by rw [hll]; exact q, by have := HUL.out.1; rw [hll]; omega, fun u hu => by
                rcases List.mem_append.1 hu with q | q
                · exact HUL.out.2 u q
                · rw [List.mem_singleton.1 q]; exact HKZ.out⟩
              have HLL : Hid ((un ++ [k]).length = un.length + 1) := hll
              generalize un ++ [k] = un2 at *
              clear ho6 ho7 hg6 hl6 hch hF6 HF5 HUL HBX HAL HOWN HONE HSZ hll hii
              by_cases c16 : un.length + 1 ≤ 16
              · rw [decide_eq_true c16] at ks
                have d1 : decide (((un.length + 1 : Nat) : Int) ≤ 16) = true := decide_eq_true (by omega)
                have d2 : ((un.length + 1 : Nat) : Int) ≤ 16 := by omega
                generalize hul : un.length + 1 = ul at *
                go_wp2_with fail
                refine ks.mono ?_
                rintro e w7 ⟨sn, rfl, hq7⟩
                have HQ7 := (show Hid _ from HNX.out w7 hq7)
                clear ks hq7 HNX c16
                go_wp2_with fail
                refine ⟨⟨j + 1, un2, some ⟨g6, 0, none⟩, c6, by have := HJ.out.1; omega, HQ7, rfl, by rw [HLL.out]⟩, ?_⟩
                have := HJ.out.1
                simp [intOf]
                omega
              · rw [decide_eq_false c16] at ks
                have d1 : decide (((un.length + 1 : Nat) : Int) ≤ 16) = false := decide_eq_false (by omega)
                generalize hul : un.length + 1 = ul at *
                go_wp2_with fail
                refine ks.mono ?_
                rintro e w7 ⟨sn, rfl, hq7⟩
                have HQ7 := (show Hid _ from HNX.out w7 hq7)
                clear ks hq7 HNX c16
                go_wp2_with fail
                refine ⟨⟨j + 1, un2, some ⟨g6, 0, none⟩, c6, by have := HJ.out.1; omega, HQ7, rfl, by rw [HLL.out]⟩, ?_⟩
                have := HJ.out.1
                simp [intOf]
                omega
      · have hjj : ¬ ((j : Int) < (l.length : Int)) := by omega
        have hul : un.length ≤ 100 := by have := HS.out.len; have := HL.out; omega
        have HBW : Hid (Below w.heap.size w wr) := HS.out.low.2
        clear HC HG c
        by_cases c0 : dr < 0 ∨ (un.length : Int) ≤ dr
        · rcases c0 with c0 | c0
          · have d1 : decide (dr < 0) = true := decide_eq_true c0
            clear HS hul hj
            go_wp2_with fail
            go_ret
            exact ⟨rfl, HBW.out⟩
          · have d1 : decide (dr < 0) = false := decide_eq_false (by omega)
            have d2 : decide ((un.length : Int) ≤ dr) = true := decide_eq_true c0
            clear HS hul hj
            go_wp2_with fail
            go_ret
            exact ⟨rfl, HBW.out⟩
        · obtain ⟨dn, rfl⟩ : ∃ n : Nat, dr = n := ⟨dr.toNat, by omega⟩
          have hdn : dn < un.length := by omega
          have hex : ∃ n, un[dn]? = some n := ⟨_, List.getElem?_eq_getElem hdn⟩
          obtain ⟨k, hk⟩ := hex
          obtain ⟨ub, rfl, du⟩ := HS.out.low.1 dn k hk
          have hkm : k ∈ un := List.mem_of_getElem? hk
          have kd := fas_drop HS.out.fas (by have := HL.out; omega) (HS.out.sz k hkm) hkm
          rw [HOW.out] at kd
          have HKZ : Hid (k.size ≤ maxLen) := HS.out.sz k hkm
          have d1 : decide ((dn : Int) < 0) = false := decide_eq_false (by omega)
          have d2 : decide ((un.length : Int) ≤ (dn : Int)) = false := decide_eq_false (by omega)
          have d3 : (dn : Int) < (un.length : Int) := by omega
          have d4 : (un.length : Int) ≤ 9223372036854775807 := by omega
          have HKU : Hid (un[dn]? = some k) := hk
          clear c0 hul hkm HS hj HBW hk hdn
          go_wp2_with fail
          refine kd.mono ?_
          rintro e w4 ⟨rfl, ks, hks, hno, hdr4⟩
          have kp := drof_put hdr4 HKZ.out hno ⟨18445336698825998339, 0, 0⟩
          rw [HOW.out] at kp
          unfold deV at kp
          simp only at kp
          have hrw : OwnR strC 1 9 w.heap.size w4 (.slice (some ⟨ub, 0, none⟩) un.length uc) un := by obtain ⟨_, _, _, _, _, _, _, _, _, _, _, q, _⟩ := hdr4; exact q
          obtain ⟨ub', hub, du⟩ := (row_cells hrw).2 dn k HKU.out
          cases hub
          clear kd hdr4 hno hrw
          go_wp2_with fail
          refine kp.mono ?_
          rintro e w5 ⟨rfl, hE, hrw⟩
          have hke : (keptD ⟨18445336698825998339, 0, 0⟩) = ⟨18445336698825998339, 0, 0⟩ := rfl
          rw [hke] at hE
          have HE5 : Hid (EndS w w5 hb ks k ⟨18445336698825998339, 0, 0⟩) := hE
          have HRW5 : Hid (OwnR strC 1 9 w.heap.size w5 (.slice (some ⟨ub, 0, none⟩) un.length uc) un) := hrw
          have ks1 := ends_shape hE
          rw [HOW.out] at ks1
          clear kp hE hrw hke du
          go_wp2_with fail
          refine ks1.mono ?_
          rintro e w6 ⟨sn, rfl, hB6⟩
          have HE6 : Hid (EndS w w6 hb ks k ⟨18445336698825998339, 0, 0⟩) := EndS.below HE5.out hB6
          have HRW6 : Hid (OwnR strC 1 9 w.heap.size w6 (.slice (some ⟨ub, 0, none⟩) un.length uc) un) := OwnR.below HRW5.out hB6
          have kk := ends_keys HE6.out
          rw [HOW.out] at kk
          clear ks1 hB6 HE5 HRW5
          go_wp2_with fail
          refine kk.mono ?_
          rintro e w7 ⟨⟨la, ln, lc⟩, rfl, hl7, hB7⟩
          have HE7 : Hid (EndS w w7 hb ks k ⟨18445336698825998339, 0, 0⟩) := EndS.below HE6.out hB7
          have HRW7 : Hid (OwnR strC 1 9 w.heap.size w7 (.slice (some ⟨ub, 0, none⟩) un.length uc) un) := OwnR.below HRW6.out hB7
          have HLR7 : Hid (OwnR strC 1 9 w6.heap.size w7 (.slice la ln lc) (ks ++ [k])) := hl7
          have kg := ends_get HE7.out HKZ.out
          rw [HOW.out] at kg
          obtain ⟨ub', hub, du⟩ := (row_cells HRW7.out).2 dn k HKU.out
          cases hub
          unfold SV.val deV at *
          simp only at kg hl7
          clear kk hB7 HE6 HRW6 hl7
          go_wp2_with fail
          refine kg.mono ?_
          rintro e w8 ⟨rfl, hB8⟩
          have hB9 : Below w8.heap.size w8 (w8.alloc (.cells #[.int .u64 18445336698825998339, .int .u64 0, .int .i64 0] 43)) := (Below.refl _ _).alloc (Nat.le_refl _) _
          obtain ⟨ub', hub, du⟩ := (row_cells (OwnR.below HRW7.out hB8)).2 dn k HKU.out
          cases hub
          obtain ⟨hln, hlr⟩ := row_cells (OwnR.below HLR7.out hB8)
          have hlk : ln = un.length := by rw [hln]; simp; omega
          have hlast : (ks ++ [k])[un.length - 1]? = some k := by rw [List.getElem?_append_right (by omega)]; simp [show un.length - 1 - ks.length = 0 by omega]
          obtain ⟨lb, hlb, dl⟩ := hlr _ _ hlast
          subst hlb
          subst hlk
          have HBE : Hid (Below w.heap.size w w8) := by
            obtain ⟨_, _, _, _, _, _, _, _, _, _, _, _, _, _, q⟩ := HE7.out
            exact q.trans (hB8.mono q.size)
          have du := cells_below hB9 _ _ du
          have dl := cells_below hB9 _ _ dl
          have dv : (w8.alloc (.cells #[.int .u64 18445336698825998339, .int .u64 0, .int .i64 0] 43)).cell? ⟨w8.heap.size, 0, none⟩ = some (.int .u64 18445336698825998339) := box_new w8 #[.int .u64 18445336698825998339, .int .u64 0, .int .i64 0] 43 0 _ rfl
          have HBN : Hid (Below w.heap.size w (w8.alloc (.cells #[.int .u64 18445336698825998339, .int .u64 0, .int .i64 0] 43))) := HBE.out.trans (hB9.mono HBE.out.size)
          have hs1 : IntKind.i64.wrap ((un.length : Int) - 1) = ((un.length - 1 : Nat) : Int) := by rw [IntKind.wrap_i64]; omega
          have hl1 : ((un.length - 1 : Nat) : Int) < (un.length : Int) := by omega
          have hee : ((un.length : Int) == (un.length : Int)) = true := by simp
          have hkk := Sp.bytes_yes k
          generalize hl2 : un.length - 1 = l1 at *
          clear kg hlr hln hlast HLR7 HRW7 HE7 hB8 hB9 HBE
          go_upto_region 29 with fail
          generalize hw9 : (w8.alloc (.cells #[.int .u64 18445336698825998339, .int .u64 0, .int .i64 0] 43)) = w9 at *
          go_quiet (fail)
          go_wp2_with fail
          go_ret
          exact ⟨rfl, ⟨HBN.out.os, HBN.out.tape, HBN.out.output, HBN.out.size, HBN.out.block⟩⟩

end Go.Proofs.Ytkpdpdllbnihgaa.Hp
