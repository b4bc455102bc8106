/- VQ, MD, ME, MF, MG -/
import Derived.Test.YtkpdpdllbnihgaaGreatB1
import Derived.Test.YtkpdpdllbnihgaaGreatB17
set_option linter.unusedVariables false
set_option linter.unusedSimpArgs false
set_option maxRecDepth 100000
set_option maxHeartbeats 40000000
/- Below, one behind the other. -/
namespace Go.Proofs.YtkpdpdllbnihgaaGreat.Hp
open Go.RowKit
theorem bel_dr {a b c : World} (h : Below a.heap.size a b) (q : Below b.drew.heap.size b.drew c) : Below a.heap.size a c := h.trans ⟨q.os, q.tape, q.output, q.size, fun k hk => q.block k (Nat.lt_of_lt_of_le hk h.size)⟩
theorem bel_sm {a b c : World} (h : Below a.heap.size a b) (q : Below b.heap.size b c) : Below a.heap.size a c := h.trans ⟨q.os, q.tape, q.output, q.size, fun k hk => q.block k (Nat.lt_of_lt_of_le hk h.size)⟩
end Go.Proofs.YtkpdpdllbnihgaaGreat.Hp
/- The document's At, Array, Open, Proto where there is no object. -/
namespace Go.Proofs.YtkpdpdllbnihgaaGreat.Hp
open Go.RowKit
/-- the object's place in the store -/
def obS (S : List So) (o : Int) : Option Nat := if isT o 65530 = true ∧ payN o 65530 < (S.length : Int) then some (payN o 65530).toNat else none
section
variable {w W W' w' w1 : World} {B b n : Nat} {tg : Nat → Nat} {S : List So} {vo vt : SV} {qs : List QV}
theorem payN_rng (o : Int) (h0 : 0 ≤ o) : 0 ≤ payN o 65530 ∧ payN o 65530 < 4294967296 := by
  unfold payN
  split <;> omega
theorem obS_some {o : Int} (o0 : 0 ≤ o) (o1 : o < 18446744073709551616) {i : Nat} (h : obS S o = some i) : i < S.length ∧ o = objW (i : Int) := by
  unfold obS at h
  split at h
  · rename_i c
    have e : (payN o 65530).toNat = i := Option.some.inj h
    have hr := payN_rng o o0
    have hp : payN o 65530 = o % 4294967296 := by unfold payN; rw [if_pos c.1]
    have ht : o / 4294967296 = 65530 * 65536 := by have := c.1; unfold isT at this; simpa using this
    refine ⟨by omega, ?_⟩
    unfold objW
    omega
  · cases h
set_option maxRecDepth 100000 in
theorem rat_miss (h : StAt w B tg S vo qs) (vt : SV) (o : Int) (o0 : 0 ≤ o) (o1 : o < 18446744073709551616) (hm : obS S o = none) :
    Calls Tryz.prog 13 #[stV vo vt, .int .u64 o] w fun e w' => e = .returned (.int .i64 (-1)) ∧ Below w.heap.size w w' := by
  obtain ⟨ad, cap, hv, h1, h2⟩ := h.vol
  have hbig := h.big
  have HB : Hid (Below w.heap.size w (w.alloc (.cells #[vo.val, vt.val] 28))) := (Below.refl _ _).alloc (Nat.le_refl _) _
  have HX : Hid (BxS (w.alloc (.cells #[vo.val, vt.val] 28)) w.heap.size vo vt) := BxS.new w vo vt
  have kt := fun W => isTag_any o o0 o1 W
  obtain ⟨p0, p1⟩ := payN_rng o o0
  have hsl : (S.length : Int) ≤ 65536 := by omega
  have HM : Hid (isT o 65530 = true → (S.length : Int) ≤ payN o 65530) := fun q => by
    unfold obS at hm
    split at hm
    · cases hm
    · rename_i c
      rcases Int.lt_or_le (payN o 65530) (S.length : Int) with r | r
      · exact absurd ⟨q, r⟩ c
      · exact r
  have hpn : isT o 65530 = false → payN o 65530 = 0 := fun q => by unfold payN; rw [q]; rfl
  subst hv
  unfold stV SV.val at *
  simp only at *
  generalize payN o 65530 = p at *
  cases ht : isT o 65530 with
  | false =>
    have hp := hpn ht
    subst hp
    rw [ht] at kt
    clear h HM hpn hm
    go_enter Tryz.func13, Tryz.ntmps13
    go_wp2_with fail
    refine (kt _).mono ?_
    rintro e w2 ⟨rfl, hB2⟩
    have HB2 : Hid (Below w.heap.size w w2) := bel_sm HB.out hB2
    clear kt hB2
    go_wp2_with fail
    go_ret
    exact ⟨rfl, HB2.out⟩
  | true =>
    have hle := HM.out ht
    rw [ht] at kt
    clear h HM hpn hm
    go_enter Tryz.func13, Tryz.ntmps13
    go_wp2_with fail
    refine (kt _).mono ?_
    rintro e w2 ⟨rfl, hB2⟩
    have HB2 : Hid (Below w.heap.size w w2) := bel_sm HB.out hB2
    obtain ⟨b0, b1⟩ := (HX.out.below hB2).ce
    unfold SV.val at b0 b1
    simp only at b0 b1
    clear kt hB2
    go_wp2_with fail
    go_ret
    exact ⟨rfl, HB2.out⟩
end
end Go.Proofs.YtkpdpdllbnihgaaGreat.Hp
/- The document's Array, Open, Proto, Get of any word. -/
namespace Go.Proofs.YtkpdpdllbnihgaaGreat.Hp
open Go.RowKit
/-- the store's object at a word -/
def soO (S : List So) (o : Int) : Option So := (obS S o).bind (fun i => S[i]?)
section
variable {w W W' w' w1 : World} {B b n : Nat} {tg : Nat → Nat} {S : List So} {vo vt : SV} {qs : List QV}
theorem soO_none {o : Int} (h : soO S o = none) (o0 : 0 ≤ o) (o1 : o < 18446744073709551616) : obS S o = none := by
  cases hq : obS S o with
  | none => rfl
  | some i =>
    have := (obS_some o0 o1 hq).1
    unfold soO at h
    rw [hq] at h
    simp at h
    omega
theorem soO_some {o : Int} {x : So} (h : soO S o = some x) (o0 : 0 ≤ o) (o1 : o < 18446744073709551616) : ∃ i : Nat, S[i]? = some x ∧ o = objW (i : Int) ∧ i < S.length := by
  unfold soO at h
  obtain ⟨i, h1, h2⟩ := Option.bind_eq_some_iff.1 h
  have := obS_some o0 o1 h1
  exact ⟨i, h2, this.2, this.1⟩
set_option maxRecDepth 100000 in
theorem rproto_miss (h : StAt w B tg S vo qs) (vt : SV) (o : Int) (o0 : 0 ≤ o) (o1 : o < 18446744073709551616) (hm : obS S o = none) :
    Calls Tryz.prog 16 #[stV vo vt, .int .u64 o] w fun e w' => e = .returned (.int .u64 18445336698825998337) ∧ Below w.heap.size w w' := by
  obtain ⟨wb, hwb⟩ : ∃ wb, wb = w.alloc (.cells #[vo.val, vt.val] 28) := ⟨_, rfl⟩
  have hB : Below w.heap.size w wb := by rw [hwb]; exact (Below.refl _ _).alloc (Nat.le_refl _) _
  have hbx : BxS wb w.heap.size vo vt := by rw [hwb]; exact BxS.new w vo vt
  have ka := rat_miss (h.below hB) vt o o0 o1 hm
  have HB : Hid (Below w.heap.size w wb) := hB
  obtain ⟨b0, b1⟩ := hbx.ce
  unfold stV SV.val at *
  clear h hB hbx hm
  go_enter Tryz.func16, Tryz.ntmps16
  go_upto_region 1 with fail
  rw [← hwb]
  clear hwb
  go_wp2_with fail
  refine ka.mono ?_
  rintro e w2 ⟨rfl, hB2⟩
  have HB2 : Hid (Below w.heap.size w w2) := bel_sm HB.out hB2
  clear ka hB2 HB
  go_wp2_with fail
  go_ret
  exact ⟨rfl, HB2.out⟩
set_option maxRecDepth 100000 in
theorem rproto_hit (h : StAt w B tg S vo qs) (vt : SV) {i : Nat} {x : So} (hi : S[i]? = some x) :
    Calls Tryz.prog 16 #[stV vo vt, .int .u64 (objW (i : Int))] w fun e w' => e = .returned (.int .u64 x.proto) ∧ Below w.heap.size w w' := by
  obtain ⟨wb, hwb⟩ : ∃ wb, wb = w.alloc (.cells #[vo.val, vt.val] 28) := ⟨_, rfl⟩
  have hB : Below w.heap.size w wb := by rw [hwb]; exact (Below.refl _ _).alloc (Nat.le_refl _) _
  have hbx : BxS wb w.heap.size vo vt := by rw [hwb]; exact BxS.new w vo vt
  have hil : i < S.length := (List.getElem?_eq_some_iff.1 hi).1
  have ka := rat_any (h.below hB) vt hil
  obtain ⟨g, cap, q, hv, hq, t1, hgl, hcell, hfz, hl1, hl2, hrow⟩ := (h.below hB).obj hi
  have hbig := h.big
  have HN : Hid (∀ W, Below wb.heap.size wb W → W.cell? ⟨w.heap.size, 0, none⟩ = some vo.val ∧ W.cell? ⟨w.heap.size, 1, none⟩ = some vt.val ∧ W.cell? ⟨g, i * 7 + 1, none⟩ = some (.int .u64 x.proto) ∧ Below w.heap.size w W) := fun W r => ⟨(hbx.below r).ce.1, (hbx.below r).ce.2, cells_below r _ _ (hcell 1 _ rfl), hB.trans (r.mono hB.size)⟩
  have hii : (i : Int) < (S.length : Int) := by omega
  have hsl : (S.length : Int) ≤ 65536 := by omega
  obtain ⟨b0, b1⟩ := hbx.ce
  have h0i : (0 : Int) ≤ (i : Int) := by omega
  subst hv
  unfold stV SV.val at *
  simp only at *
  generalize objW (i : Int) = o at *
  generalize x.proto = pr at *
  clear h hB hbx hi hq t1 hgl hcell hfz hrow
  go_enter Tryz.func16, Tryz.ntmps16
  go_upto_region 1 with fail
  rw [← hwb]
  clear hwb
  go_wp2_with fail
  refine ka.mono ?_
  rintro e w2 ⟨rfl, hB2⟩
  obtain ⟨b0, b1, c0, hbel⟩ := HN.out w2 hB2
  have HB2 := (show Hid _ from hbel)
  clear ka hB2 HN hbel
  go_wp2_with fail
  go_ret
  exact ⟨rfl, HB2.out⟩
theorem rproto_o (h : StAt w B tg S vo qs) (vt : SV) (o : Int) (o0 : 0 ≤ o) (o1 : o < 18446744073709551616) :
    Calls Tryz.prog 16 #[stV vo vt, .int .u64 o] w fun e w' => e = .returned (.int .u64 (((soO S o).map So.proto).getD 18445336698825998337)) ∧ Below w.heap.size w w' := by
  cases hq : soO S o with
  | none => exact rproto_miss h vt o o0 o1 (soO_none hq o0 o1)
  | some x =>
    obtain ⟨i, h1, rfl, _⟩ := soO_some hq o0 o1
    exact rproto_hit h vt h1
end
end Go.Proofs.YtkpdpdllbnihgaaGreat.Hp
/- The document's Get and Len of any word. -/
namespace Go.Proofs.YtkpdpdllbnihgaaGreat.Hp
open Go.RowKit
section
variable {w W W' w' w1 : World} {B b n : Nat} {tg : Nat → Nat} {S : List So} {vo vt : SV} {qs : List QV}
set_option maxRecDepth 100000 in
set_option maxHeartbeats 1000000 in
theorem rget_miss (h : StAt w B tg S vo qs) (vt : SV) (o : Int) (o0 : 0 ≤ o) (o1 : o < 18446744073709551616) (hm : obS S o = none) (k : ByteArray) :
    Calls Tryz.prog 17 #[stV vo vt, .int .u64 o, .string k] w fun e w' => e = .returned (.tuple #[deV zDe, .bool false]) ∧ Below w.heap.size w w' := by
  obtain ⟨wb, hwb⟩ : ∃ wb, wb = (w.alloc (.cells #[vo.val, vt.val] 28)).alloc (.cells #[.int .u64 0, .int .u64 0, .int .i64 0] 35) := ⟨_, rfl⟩
  obtain ⟨hbs, hbd, hB⟩ := boxSD w vo vt
  rw [← hwb] at hbs hbd hB
  have ka := rat_miss (h.below hB) vt o o0 o1 hm
  have HFI : Hid (∀ w6 d, Below wb.heap.size wb w6 → Bx3 w6 (w.heap.size + 1) zDe ∧ Bx3 (st3 w6 (w.heap.size + 1) d) (w.heap.size + 1) d ∧ Below w.heap.size w (st3 w6 (w.heap.size + 1) d)) := fun w6 d r => fin3b hB hbd (by omega) r d
  obtain ⟨b0, b1⟩ := hbs.ce
  unfold stV SV.val at *
  unfold deV
  clear h hB hbs hbd hm
  go_enter Tryz.func17, Tryz.ntmps17
  go_upto_region 1 with fail
  rw [← hwb]
  clear hwb
  go_wp2_with fail
  refine ka.mono ?_
  rintro e w3 ⟨rfl, hB3⟩
  obtain ⟨q1, q2, q3⟩ := HFI.out w3 zDe hB3
  obtain ⟨f0, f1, f2⟩ := q1.fz
  obtain ⟨d0, d1, d2⟩ := q1.ce
  unfold zDe at d0 d1 d2
  have HF := (show Hid _ from And.intro q2 q3)
  clear ka hB3 HFI q1 q2 q3
  go_wp2_with fail
  refine bodyPost_ret (res2 rfl _ _ (w.heap.size + 1) 35 _ (0, 0) _ rfl HF.out.1 Tryz.underlying35 rfl (by kernel_rfl)) rfl ?_
  exact ⟨rfl, HF.out.2⟩
theorem rget_o (h : StAt w B tg S vo qs) (vt : SV) (o : Int) (o0 : 0 ≤ o) (o1 : o < 18446744073709551616) (k : ByteArray) :
    Calls Tryz.prog 17 #[stV vo vt, .int .u64 o, .string k] w fun e w' => e = .returned (.tuple #[deV (((soO S o).bind (fun x => getS x k)).getD zDe), .bool ((soO S o).bind (fun x => getS x k)).isSome]) ∧ Below w.heap.size w w' := by
  cases hq : soO S o with
  | none => exact rget_miss h vt o o0 o1 (soO_none hq o0 o1) k
  | some x =>
    obtain ⟨i, h1, rfl, _⟩ := soO_some hq o0 o1
    exact rget_any h vt h1 k
theorem StAt.elen (h : StAt w B tg S vo qs) {i : Nat} {x : So} {q : QV} (hi : S[i]? = some x) (hq : qs[i]? = some q) : ∃ ad cap, q.ve = ⟨ad, x.el.length, cap⟩ ∧ x.el.length ≤ maxLen := by
  have hr : RowIn wC 1 33 B w (fun b => tg b = 2 + 4 * i + 2) q.ve x.el := h.ob i x q 2 hi hq (by omega)
  obtain ⟨q1, q2, q3, q4⟩ := hr.open rtW.len
  refine ⟨q.ve.ad, q.ve.cap, ?_, by omega⟩
  rw [← q1]
set_option maxRecDepth 100000 in
theorem rlen_hit (h : StAt w B tg S vo qs) (vt : SV) {i : Nat} {x : So} (hi : S[i]? = some x) :
    Calls Tryz.prog 79 #[stV vo vt, .int .u64 (objW (i : Int))] w fun e w' => e = .returned (.int .i64 (x.el.length : Int)) ∧ Below w.heap.size w w' := by
  obtain ⟨wb, hwb⟩ : ∃ wb, wb = w.alloc (.cells #[vo.val, vt.val] 28) := ⟨_, rfl⟩
  have hB : Below w.heap.size w wb := by rw [hwb]; exact (Below.refl _ _).alloc (Nat.le_refl _) _
  have hbx : BxS wb w.heap.size vo vt := by rw [hwb]; exact BxS.new w vo vt
  have hil : i < S.length := (List.getElem?_eq_some_iff.1 hi).1
  have ka := rat_any (h.below hB) vt hil
  obtain ⟨g, cap, q, hv, hq, t1, hgl, hcell, hfz, hl1, hl2, hrow⟩ := (h.below hB).obj hi
  obtain ⟨ad5, cap5, hve, hel⟩ := (h.below hB).elen hi hq
  have hbig := h.big
  have HN : Hid (∀ W, Below wb.heap.size wb W → W.cell? ⟨w.heap.size, 0, none⟩ = some vo.val ∧ W.cell? ⟨w.heap.size, 1, none⟩ = some vt.val ∧ W.cell? ⟨g, i * 7 + 5, none⟩ = some (.slice ad5 x.el.length cap5) ∧ Below w.heap.size w W) := fun W r => ⟨(hbx.below r).ce.1, (hbx.below r).ce.2, cells_below r _ _ (hcell 5 _ (by rw [show (soC (x, q))[5]? = some q.ve.val from rfl, hve]; rfl)), hB.trans (r.mono hB.size)⟩
  have hii : (i : Int) < (S.length : Int) := by omega
  have hsl : (S.length : Int) ≤ 65536 := by omega
  obtain ⟨b0, b1⟩ := hbx.ce
  have h0i : (0 : Int) ≤ (i : Int) := by omega
  subst hv
  unfold stV SV.val at *
  simp only at *
  generalize objW (i : Int) = o at *
  generalize x.el.length = ln at *
  clear h hB hbx hi hq t1 hgl hcell hfz hrow hve hel
  go_enter Tryz.func79, Tryz.ntmps79
  go_upto_region 1 with fail
  rw [← hwb]
  clear hwb
  go_wp2_with fail
  refine ka.mono ?_
  rintro e w2 ⟨rfl, hB2⟩
  obtain ⟨b0, b1, c0, hbel⟩ := HN.out w2 hB2
  have HB2 := (show Hid _ from hbel)
  clear ka hB2 HN hbel
  go_wp2_with fail
  go_ret
  exact ⟨rfl, HB2.out⟩
end
end Go.Proofs.YtkpdpdllbnihgaaGreat.Hp
/- The document's Len and Elem of any word. -/
namespace Go.Proofs.YtkpdpdllbnihgaaGreat.Hp
open Go.RowKit
section
variable {w W W' w' w1 : World} {B b n : Nat} {tg : Nat → Nat} {S : List So} {vo vt : SV} {qs : List QV}
set_option maxRecDepth 100000 in
theorem rlen_miss (h : StAt w B tg S vo qs) (vt : SV) (o : Int) (o0 : 0 ≤ o) (o1 : o < 18446744073709551616) (hm : obS S o = none) :
    Calls Tryz.prog 79 #[stV vo vt, .int .u64 o] w fun e w' => e = .returned (.int .i64 0) ∧ Below w.heap.size w w' := by
  obtain ⟨wb, hwb⟩ : ∃ wb, wb = w.alloc (.cells #[vo.val, vt.val] 28) := ⟨_, rfl⟩
  have hB : Below w.heap.size w wb := by rw [hwb]; exact (Below.refl _ _).alloc (Nat.le_refl _) _
  have hbx : BxS wb w.heap.size vo vt := by rw [hwb]; exact BxS.new w vo vt
  have ka := rat_miss (h.below hB) vt o o0 o1 hm
  have HB : Hid (Below w.heap.size w wb) := hB
  obtain ⟨b0, b1⟩ := hbx.ce
  unfold stV SV.val at *
  clear h hB hbx hm
  go_enter Tryz.func79, Tryz.ntmps79
  go_upto_region 1 with fail
  rw [← hwb]
  clear hwb
  go_wp2_with fail
  refine ka.mono ?_
  rintro e w2 ⟨rfl, hB2⟩
  have HB2 : Hid (Below w.heap.size w w2) := bel_sm HB.out hB2
  clear ka hB2 HB
  go_wp2_with fail
  go_ret
  exact ⟨rfl, HB2.out⟩
def lenO (S : List So) (o : Int) : Nat := ((soO S o).map (fun x => x.el.length)).getD 0
theorem rlen_o (h : StAt w B tg S vo qs) (vt : SV) (o : Int) (o0 : 0 ≤ o) (o1 : o < 18446744073709551616) :
    Calls Tryz.prog 79 #[stV vo vt, .int .u64 o] w fun e w' => e = .returned (.int .i64 (lenO S o : Int)) ∧ Below w.heap.size w w' := by
  unfold lenO
  cases hq : soO S o with
  | none => exact rlen_miss h vt o o0 o1 (soO_none hq o0 o1)
  | some x =>
    obtain ⟨i, h1, rfl, _⟩ := soO_some hq o0 o1
    exact rlen_hit h vt h1
/-- what Elem answers -/
def elS (l : List Int) (n : Int) : Option Int := if n < 0 then none else (l[n.toNat]?).bind (fun v => if v = 18445336698825998340 then none else some v)
set_option maxRecDepth 100000 in
theorem relem_low (h : StAt w B tg S vo qs) (vt : SV) (o : Int) (o0 : 0 ≤ o) (o1 : o < 18446744073709551616) (n : Int) (hn : n < 0 ∨ (lenO S o : Int) ≤ n) :
    Calls Tryz.prog 53 #[stV vo vt, .int .u64 o, .int .i64 n] w fun e w' => e = .returned (.tuple #[.int .u64 18445336698825998336, .bool false]) ∧ Below w.heap.size w w' := by
  obtain ⟨wb, hwb⟩ : ∃ wb, wb = w.alloc (.cells #[vo.val, vt.val] 28) := ⟨_, rfl⟩
  have hB : Below w.heap.size w wb := by rw [hwb]; exact (Below.refl _ _).alloc (Nat.le_refl _) _
  have hbx : BxS wb w.heap.size vo vt := by rw [hwb]; exact BxS.new w vo vt
  have ka := rlen_o (h.below hB) vt o o0 o1
  have HB : Hid (Below w.heap.size w wb) := hB
  obtain ⟨b0, b1⟩ := hbx.ce
  unfold stV SV.val at *
  generalize (lenO S o : Int) = ln at *
  clear h hB hbx
  by_cases c : n < 0
  · have c1 : decide (n < 0) = true := decide_eq_true c
    go_enter Tryz.func53, Tryz.ntmps53
    go_upto_region 1 with fail
    rw [← hwb]
    clear hwb
    go_wp2_with fail
    go_ret2
    exact ⟨rfl, HB.out⟩
  · have c1 : decide (n < 0) = false := decide_eq_false c
    have c2 : decide (ln ≤ n) = true := decide_eq_true (by omega)
    clear hn
    go_enter Tryz.func53, Tryz.ntmps53
    go_upto_region 1 with fail
    rw [← hwb]
    clear hwb
    go_wp2_with fail
    refine ka.mono ?_
    rintro e w2 ⟨rfl, hB2⟩
    have HB2 : Hid (Below w.heap.size w w2) := bel_sm HB.out hB2
    clear ka hB2 HB
    go_wp2_with fail
    go_ret2
    exact ⟨rfl, HB2.out⟩
set_option maxRecDepth 100000 in
set_option maxHeartbeats 2000000 in
theorem relem_in (h : StAt w B tg S vo qs) (vt : SV) {i : Nat} {x : So} (hi : S[i]? = some x) (n : Nat) (v : Int) (hv : x.el[n]? = some v) :
    Calls Tryz.prog 53 #[stV vo vt, .int .u64 (objW (i : Int)), .int .i64 (n : Int)] w fun e w' => e = .returned (.tuple #[.int .u64 (if v = 18445336698825998340 then 18445336698825998336 else v), .bool (if v = 18445336698825998340 then false else true)]) ∧ Below w.heap.size w w' := by
  obtain ⟨wb, hwb⟩ : ∃ wb, wb = w.alloc (.cells #[vo.val, vt.val] 28) := ⟨_, rfl⟩
  have hB : Below w.heap.size w wb := by rw [hwb]; exact (Below.refl _ _).alloc (Nat.le_refl _) _
  have hbx : BxS wb w.heap.size vo vt := by rw [hwb]; exact BxS.new w vo vt
  have hil : i < S.length := (List.getElem?_eq_some_iff.1 hi).1
  have hnl : n < x.el.length := (List.getElem?_eq_some_iff.1 hv).1
  have kl := rlen_hit (h.below hB) vt hi
  have HA : Hid (∀ W, Below wb.heap.size wb W → Calls Tryz.prog 13 #[stV vo vt, .int .u64 (objW (i : Int))] W fun e w' => e = .returned (.int .i64 (i : Int)) ∧ Below W.heap.size W w') := fun W r => rat_any ((h.below hB).below r) vt hil
  obtain ⟨g, cap, q, hvo, hq, t1, hgl, hcell, hfz, hl1, hl2, hrow⟩ := (h.below hB).obj hi
  obtain ⟨ad5, cap5, hve, hel⟩ := (h.below hB).elen hi hq
  have hr : RowIn wC 1 33 B wb (fun b => tg b = 2 + 4 * i + 2) q.ve x.el := (h.below hB).ob i x q 2 hi hq (by omega)
  obtain ⟨_, hlc, hcm, q4⟩ := hr.open rtW.len
  obtain ⟨ge, e1, _, hgel, _, hce, _⟩ := q4 (by intro e; rw [e] at hnl; simp at hnl)
  rw [hve] at e1 hlc hcm
  simp only at e1 hlc hcm
  subst e1
  have hvc := hce n v hv 0 _ rfl
  simp only [Nat.mul_one, Nat.add_zero] at hvc
  have hbig := h.big
  have HN : Hid (∀ W, Below wb.heap.size wb W → W.cell? ⟨w.heap.size, 0, none⟩ = some vo.val ∧ W.cell? ⟨w.heap.size, 1, none⟩ = some vt.val ∧ W.cell? ⟨g, i * 7 + 5, none⟩ = some (.slice (some ⟨ge, 0, none⟩) x.el.length cap5) ∧ W.cell? ⟨ge, n, none⟩ = some (.int .u64 v) ∧ Below w.heap.size w W) := fun W r => ⟨(hbx.below r).ce.1, (hbx.below r).ce.2, cells_below r _ _ (hcell 5 _ (by rw [show (soC (x, q))[5]? = some q.ve.val from rfl, hve]; rfl)), cells_below r _ _ hvc, hB.trans (r.mono hB.size)⟩
  have hii : (i : Int) < (S.length : Int) := by omega
  have hsl : (S.length : Int) ≤ 65536 := by omega
  obtain ⟨b0, b1⟩ := hbx.ce
  have h0i : (0 : Int) ≤ (i : Int) := by omega
  have c1 : decide ((n : Int) < 0) = false := decide_eq_false (by omega)
  have c2 : decide ((x.el.length : Int) ≤ (n : Int)) = false := decide_eq_false (by omega)
  have hn3 : (n : Int) < (x.el.length : Int) := by omega
  have hel3 : (x.el.length : Int) ≤ 9223372036854775807 := by unfold maxLen at hel; omega
  have HV : Hid ((v = 18445336698825998340 → (if v = 18445336698825998340 then 18445336698825998336 else v) = 18445336698825998336 ∧ (if v = 18445336698825998340 then false else true) = false) ∧ (¬ v = 18445336698825998340 → (if v = 18445336698825998340 then 18445336698825998336 else v) = v ∧ (if v = 18445336698825998340 then false else true) = true)) := ⟨fun e => ⟨if_pos e, if_pos e⟩, fun e => ⟨if_neg e, if_neg e⟩⟩
  generalize (if v = 18445336698825998340 then 18445336698825998336 else v) = rv at *
  generalize (if v = 18445336698825998340 then false else true) = rb at *
  subst hvo
  unfold stV SV.val at *
  simp only at *
  generalize objW (i : Int) = o at *
  generalize x.el.length = ln at *
  clear h hB hbx hi hq t1 hgl hcell hfz hrow hve hel hr q4 hce hvc hv hlc hcm hgel
  go_enter Tryz.func53, Tryz.ntmps53
  go_upto_region 1 with fail
  rw [← hwb]
  clear hwb
  go_wp2_with fail
  refine kl.mono ?_
  rintro e w2 ⟨rfl, hB2⟩
  obtain ⟨b0, b1, c5, cv, hbel⟩ := HN.out w2 hB2
  have HB2 : Hid (Below wb.heap.size wb w2) := hB2
  have ka := HA.out w2.drew hB2.drew
  clear kl hB2 hbel
  go_upto_region 3 with fail
  go_region_with ((go_at_call 13; refine ka.mono ?_; rintro e w3 ⟨rfl, hB3⟩; have HX := (show Hid _ from HN.out w3 (bel_dr HB2.out hB3)); obtain ⟨b0, b1, c5, cv, _⟩ := HX.out; clear hB3))
  all_goals
    by_cases ch : v = 18445336698825998340
    · subst ch
      have HE : Hid (Below w.heap.size w w3) := HX.out.2.2.2.2
      clear HX HN HA HB2
      have HG := (show Hid _ from HV.out.1 rfl)
      clear HV
      go_wp2_with fail
      go_ret2
      rw [HG.out.1, HG.out.2]
      exact ⟨rfl, HE.out⟩
    · have c9 : (v == 18445336698825998340) = false := by simpa using ch
      have HE : Hid (Below w.heap.size w w3) := HX.out.2.2.2.2
      clear HX HN HA HB2
      have HG := (show Hid _ from HV.out.2 ch)
      clear HV
      go_wp2_with fail
      go_ret2
      rw [HG.out.1, HG.out.2]
      exact ⟨rfl, HE.out⟩
end
end Go.Proofs.YtkpdpdllbnihgaaGreat.Hp
