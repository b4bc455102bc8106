/- UF, UG, UH, UI -/
import Derived.Test.YtkpdpdllbnihgaaGreatUE
import Derived.Test.YtkpdpdllbnihgaaGreatB15
set_option linter.unusedVariables false
set_option linter.unusedSimpArgs false
set_option maxRecDepth 100000
set_option maxHeartbeats 40000000
/- The document's Reproto: refused. -/
namespace Go.Proofs.YtkpdpdllbnihgaaGreat.Hp
open Go.RowKit
section
variable {w W W' w' w1 : World} {B b : Nat} {tg : Nat → Nat} {S S' : List So} {vo vt : SV} {qs : List QV} {i : Nat} {x x' : So} {q : QV}
set_option maxRecDepth 100000 in
set_option maxHeartbeats 1000000 in
theorem rrepro_miss (h : StAt w B tg S vo qs) (vt : SV) (p : Int) (o : Int) (o0 : 0 ≤ o) (o1 : o < 18446744073709551616) (hm : obS S o = none) :
    Calls Tryz.prog 30 #[stV vo vt, .int .u64 o, .int .u64 p] w fun e w' => e = .returned (stV vo vt) ∧ SWent w B tg S vo w' := by
  obtain ⟨wb, hwb⟩ : ∃ wb, wb = (w.alloc (.cells #[vo.val, vt.val] 28)).alloc (.cells #[.slice none 0 0, .slice none 0 0] 28) := ⟨_, rfl⟩
  obtain ⟨hbs, hbr, hB⟩ := boxS2 w vo vt
  rw [← hwb] at hbs hbr hB
  have ka := rat_miss (h.below hB) vt o o0 o1 hm
  have HBS : Hid (∀ W, Below wb.heap.size wb W → W.cell? ⟨w.heap.size, 0, none⟩ = some vo.val ∧ W.cell? ⟨w.heap.size, 1, none⟩ = some vt.val) := fun W r => (hbs.below r).ce
  have HE : Hid (∀ W, Below wb.heap.size wb W → BxS W (w.heap.size + 1) .nil .nil ∧ BxS ((W.setCell ⟨w.heap.size + 1, 0, none⟩ vo.val).setCell ⟨w.heap.size + 1, 1, none⟩ vt.val) (w.heap.size + 1) vo vt ∧ SWent w B tg S vo ((W.setCell ⟨w.heap.size + 1, 0, none⟩ vo.val).setCell ⟨w.heap.size + 1, 1, none⟩ vt.val)) := fun W r => st_res h (bel_sm' hB r) (hbr.below r) (SWent.same (h.below (bel_sm' hB r)) (Below.refl _ _)) vt
  obtain ⟨b0, b1⟩ := hbs.ce
  obtain ⟨va, vl, vc⟩ := vo
  obtain ⟨ta, tl, tc⟩ := vt
  rw [show (SV.mk va vl vc).val = .slice va vl vc from rfl, show (SV.mk ta tl tc).val = .slice ta tl tc from rfl] at HBS HE hwb
  rw [show (SV.mk va vl vc).val = .slice va vl vc from rfl] at b0
  rw [show (SV.mk ta tl tc).val = .slice ta tl tc from rfl] at b1
  unfold stV at ka ⊢
  rw [show (SV.mk va vl vc).val = .slice va vl vc from rfl, show (SV.mk ta tl tc).val = .slice ta tl tc from rfl] at ka ⊢
  clear h hB hbs hbr hm
  go_enter Tryz.func30, Tryz.ntmps30
  go_upto_region 1 with fail
  rw [← hwb]
  clear hwb
  go_wp2_with fail
  refine ka.mono ?_
  rintro e w2 ⟨rfl, hB2⟩
  obtain ⟨b0, b1⟩ := HBS.out w2 hB2
  obtain ⟨k1, k2, k3⟩ := HE.out w2 hB2
  obtain ⟨r0, r1⟩ := k1.ce
  obtain ⟨f0, f1⟩ := k1.fz
  have HF := (show Hid _ from And.intro k2 k3)
  clear ka hB2 HE HBS k1 k2 k3
  unfold SV.nil SV.val at r0 r1
  simp only at r0 r1
  go_wp2_with fail
  refine bodyPost_ret (res1 rfl _ _ (w.heap.size + 1) 28 _ (0, 0) _ rfl HF.out.1 Tryz.underlying28 rfl (by kernel_rfl)) rfl ?_
  exact ⟨rfl, HF.out.2⟩
set_option maxRecDepth 100000 in
set_option maxHeartbeats 1000000 in
theorem rrepro_nop (h : StAt w B tg S vo qs) (vt : SV) (hi : S[i]? = some x) (p : Int) (p0 : 0 ≤ p) (p1 : p < 18446744073709551616) (hm : obS S p = none) (hnb : (p != 18445336698825998337) = true) :
    Calls Tryz.prog 30 #[stV vo vt, .int .u64 (objW (i : Int)), .int .u64 p] w fun e w' => e = .returned (stV vo vt) ∧ SWent w B tg S vo w' := by
  obtain ⟨wb, hwb⟩ : ∃ wb, wb = (w.alloc (.cells #[vo.val, vt.val] 28)).alloc (.cells #[.slice none 0 0, .slice none 0 0] 28) := ⟨_, rfl⟩
  obtain ⟨hbs, hbr, hB⟩ := boxS2 w vo vt
  rw [← hwb] at hbs hbr hB
  have hil : i < S.length := (List.getElem?_eq_some_iff.1 hi).1
  have ka := rat_any (h.below hB) vt hil
  have HK2 : Hid (∀ W, Below wb.heap.size wb W → Calls Tryz.prog 13 #[stV vo vt, .int .u64 p] W fun e w' => e = .returned (.int .i64 (-1)) ∧ Below W.heap.size W w') := fun W r => rat_miss ((h.below hB).below r) vt p p0 p1 hm
  have hidd : decide ((i : Int) < 0) = false := decide_eq_false (by omega)
  have h0i : ¬ ((i : Int) < 0) := by omega
  have HBS : Hid (∀ W, Below wb.heap.size wb W → W.cell? ⟨w.heap.size, 0, none⟩ = some vo.val ∧ W.cell? ⟨w.heap.size, 1, none⟩ = some vt.val) := fun W r => (hbs.below r).ce
  have HE : Hid (∀ W, Below wb.heap.size wb W → BxS W (w.heap.size + 1) .nil .nil ∧ BxS ((W.setCell ⟨w.heap.size + 1, 0, none⟩ vo.val).setCell ⟨w.heap.size + 1, 1, none⟩ vt.val) (w.heap.size + 1) vo vt ∧ SWent w B tg S vo ((W.setCell ⟨w.heap.size + 1, 0, none⟩ vo.val).setCell ⟨w.heap.size + 1, 1, none⟩ vt.val)) := fun W r => st_res h (bel_sm' hB r) (hbr.below r) (SWent.same (h.below (bel_sm' hB r)) (Below.refl _ _)) vt
  obtain ⟨b0, b1⟩ := hbs.ce
  obtain ⟨va, vl, vc⟩ := vo
  obtain ⟨ta, tl, tc⟩ := vt
  rw [show (SV.mk va vl vc).val = .slice va vl vc from rfl, show (SV.mk ta tl tc).val = .slice ta tl tc from rfl] at HBS HE hwb
  rw [show (SV.mk va vl vc).val = .slice va vl vc from rfl] at b0
  rw [show (SV.mk ta tl tc).val = .slice ta tl tc from rfl] at b1
  unfold stV at ka ⊢
  rw [show (SV.mk va vl vc).val = .slice va vl vc from rfl, show (SV.mk ta tl tc).val = .slice ta tl tc from rfl] at ka ⊢
  clear h hB hbs hbr hm hi hil p0 p1
  generalize objW (i : Int) = o at *
  go_enter Tryz.func30, Tryz.ntmps30
  go_upto_region 1 with fail
  rw [← hwb]
  clear hwb
  generalize hnul : (18445336698825998337 : Int) = nul at *
  clear hnul
  go_wp2_with fail
  refine ka.mono ?_
  rintro e w2 ⟨rfl, hB2⟩
  have kq := HK2.out w2 hB2
  unfold stV at kq
  rw [show (SV.mk va vl vc).val = .slice va vl vc from rfl, show (SV.mk ta tl tc).val = .slice ta tl tc from rfl] at kq
  obtain ⟨b0, b1⟩ := HBS.out w2 hB2
  have HB2 : Hid (Below wb.heap.size wb w2) := hB2
  clear ka hB2 HK2
  go_wp2_with fail
  refine kq.mono ?_
  rintro e w3 ⟨rfl, hB3⟩
  have hB2 := bel_sm' HB2.out hB3
  obtain ⟨b0, b1⟩ := HBS.out w3 hB2
  obtain ⟨k1, k2, k3⟩ := HE.out w3 hB2
  obtain ⟨r0, r1⟩ := k1.ce
  obtain ⟨f0, f1⟩ := k1.fz
  have HF := (show Hid _ from And.intro k2 k3)
  clear kq hB2 hB3 HB2 HE HBS k1 k2 k3
  unfold SV.nil SV.val at r0 r1
  simp only at r0 r1
  go_wp2_with fail
  refine bodyPost_ret (res1 rfl _ _ (w.heap.size + 1) 28 _ (0, 0) _ rfl HF.out.1 Tryz.underlying28 rfl (by kernel_rfl)) rfl ?_
  exact ⟨rfl, HF.out.2⟩
end
end Go.Proofs.YtkpdpdllbnihgaaGreat.Hp
/- The document's Text. -/
namespace Go.Proofs.YtkpdpdllbnihgaaGreat.Hp
open Go.RowKit
section
variable {w W W' w' w1 : World} {B b : Nat} {O : Nat → Prop} {tg : Nat → Nat} {S S' : List So} {vo vt : SV} {ts : List ByteArray}
theorem tx_res {wb : World} (hB : Below w.heap.size w wb) (hbr : BxS wb (w.heap.size + 1) .nil .nil) (W : World) (r : Below wb.heap.size wb W) (vo vt : SV) : BxS W (w.heap.size + 1) .nil .nil ∧ BxS ((W.setCell ⟨w.heap.size + 1, 0, none⟩ vo.val).setCell ⟨w.heap.size + 1, 1, none⟩ vt.val) (w.heap.size + 1) vo vt ∧ Below w.heap.size w ((W.setCell ⟨w.heap.size + 1, 0, none⟩ vo.val).setCell ⟨w.heap.size + 1, 1, none⟩ vt.val) := by
  have h1 := hbr.below r
  have z0 := heap_setCell_same _ (w.heap.size + 1) 0 _ _ vo.val h1
  have z1 := heap_setCell_same _ (w.heap.size + 1) 1 _ _ vt.val z0
  exact ⟨h1, z1, ((bel_sm' hB r).setCell (by show w.heap.size ≤ w.heap.size + 1; omega) _).setCell (by show w.heap.size ≤ w.heap.size + 1; omega) _⟩
set_option maxRecDepth 100000 in
set_option maxHeartbeats 2000000 in
theorem rtext_hit (hr : RowIn strC 1 9 B w O vt ts) (vo : SV) (k : ByteArray) (n : Nat) (hp : plS ts k = some n) (hl : ts.length ≤ 16384) :
    Calls Tryz.prog 41 #[stV vo vt, .string k] w fun e w' => e = .returned (.tuple #[stV vo vt, .int .u64 (txtW (n : Int)), .bool true]) ∧ Below w.heap.size w w' := by
  obtain ⟨wb, hwb⟩ : ∃ wb, wb = (w.alloc (.cells #[vo.val, vt.val] 28)).alloc (.cells #[.slice none 0 0, .slice none 0 0] 28) := ⟨_, rfl⟩
  obtain ⟨hbs, hbr, hB⟩ := boxS2 w vo vt
  rw [← hwb] at hbs hbr hB
  obtain ⟨q1, q2, q3, q4⟩ := hr.open rtStr.len
  have H4 : Hid (∀ i u, ts[i]? = some u → ∃ gl, vt.ad = some ⟨gl, 0, none⟩ ∧ wb.cell? ⟨gl, i, none⟩ = some (.string u)) := fun i u hi => by
    obtain ⟨gl, e1, _, _, _, hc, _⟩ := q4 (by intro e; rw [e] at hi; simp at hi)
    have := hc i u hi 0 _ rfl
    simp only [Nat.mul_one, Nat.add_zero] at this
    exact ⟨gl, e1, cells_below hB _ _ this⟩
  obtain ⟨b0, b1⟩ := hbs.ce
  have hr2 := tx_res hB hbr wb (Below.refl _ _) vo vt
  obtain ⟨k1, k2, k3⟩ := hr2
  obtain ⟨r0, r1⟩ := k1.ce
  obtain ⟨f0, f1⟩ := k1.fz
  have HE : Hid (plS ts k = some n) := hp
  have HNL : Hid (n < ts.length ∧ ts.length ≤ 16384) := by
    refine ⟨?_, hl⟩
    have h1 := hp
    unfold plS at h1
    rw [List.findIdx?_eq_some_iff_getElem] at h1
    exact h1.1
  obtain ⟨va, vl, vc⟩ := vo
  obtain ⟨ta, tl, tc⟩ := vt
  rw [show (SV.mk va vl vc).val = .slice va vl vc from rfl, show (SV.mk ta tl tc).val = .slice ta tl tc from rfl] at *
  simp only at q1
  subst q1
  have HF := (show Hid _ from And.intro k2 k3)
  unfold stV
  rw [show (SV.mk va vl vc).val = .slice va vl vc from rfl, show (SV.mk ta ts.length tc).val = .slice ta ts.length tc from rfl]
  unfold SV.nil SV.val at r0 r1
  simp only at r0 r1
  simp only at H4
  generalize hT : ts.length = T at *
  have hlim : (T : Int) ≤ 9223372036854775807 := by omega
  clear hr hbs hbr hB q2 q3 q4 k1 k2 k3 hp
  go_enter Tryz.func41, Tryz.ntmps41
  go_wp2_with fail
  rw [← hwb]
  clear hwb
  go_loopw [7] (fun p wr => ∃ (i : Nat), i ≤ T ∧ p = .int .i64 (i : Int) ∧ wr = wb ∧ Hid (∀ j, j < i → ts[j]? ≠ some k)) (fun p wr => ((T : Int) - intOf p).toNat)
  case atStart => exact ⟨0, Nat.zero_le _, rfl, rfl, fun j hj => by omega⟩
  case round =>
    obtain ⟨i, hi, rfl, hww, HI⟩ := hrel
    have hw' := hww.symm
    subst hw'
    clear hww
    by_cases c : i < T
    · have hex : ∃ u, ts[i]? = some u := ⟨_, List.getElem?_eq_getElem (by omega)⟩
      obtain ⟨u, hu⟩ := hex
      obtain ⟨gl, rfl, du⟩ := H4.out i u hu
      have hii : (i : Int) < (T : Int) := by omega
      have hw1 : IntKind.i64.wrap ((i : Int) + 1) = ((i + 1 : Nat) : Int) := by rw [IntKind.wrap_i64]; omega
      have hi0 : ¬ ((i : Int) < 0) := by omega
      have HC : Hid (i < T ∧ T ≤ 16384) := ⟨c, by have := HNL.out.2; omega⟩
      by_cases cu : u = k
      · have hee : (u.toList == k.toList) = true := by rw [cu]; exact Sp.bytes_yes k
        have HR : Hid ((n : Int) = (i : Int)) := by
          have e := HE.out
          rw [plS_hit hu cu HI.out] at e
          have e := Option.some.inj e
          show _ = _
          omega
        have hcv : IntKind.u64.wrap (i : Int) = (i : Int) := by rw [IntKind.wrap_u64]; omega
        have hadd : IntKind.u64.wrap (18445618173802708992 + (i : Int)) = 18445618173802708992 + (i : Int) := by rw [IntKind.wrap_u64]; have := HC.out; omega
        clear HE HI hu c hi H4 cu hT hl
        go_wp2_with fail
        refine bodyPost_ret (res4 rfl _ _ (w.heap.size + 1) 28 _ (0, 0) _ rfl HF.out.1 Tryz.underlying28 rfl (by kernel_rfl)) rfl ?_
        rw [HR.out]
        exact ⟨rfl, HF.out.2⟩
      · have hee : (u.toList == k.toList) = false := Sp.bytes_no cu
        have HI2 : Hid (∀ j, j < i + 1 → ts[j]? ≠ some k) := fun j hj => by
          by_cases q : j = i
          · rw [q, hu]; simpa using cu
          · exact HI.out j (by omega)
        clear HE HI hu c hi H4 cu hT hl
        go_wp2_with fail
        refine ⟨⟨i + 1, by have := HC.out; omega, rfl, by first | rfl | trivial, HI2⟩, ?_⟩
        have := HC.out
        simp [intOf]
        omega
    · have hie : i = T := by omega
      exact absurd (plS_miss (k := k) (nm := ts) (by rw [hT, ← hie]; exact HI.out)) (by rw [HE.out]; simp)
end
end Go.Proofs.YtkpdpdllbnihgaaGreat.Hp
/- The document's Text: refused. -/
namespace Go.Proofs.YtkpdpdllbnihgaaGreat.Hp
open Go.RowKit
section
variable {w W W' w' w1 : World} {B b : Nat} {O : Nat → Prop} {tg : Nat → Nat} {S S' : List So} {vo vt : SV} {ts : List ByteArray}
set_option maxRecDepth 100000 in
set_option maxHeartbeats 2000000 in
theorem rtext_long (hr : RowIn strC 1 9 B w O vt ts) (vo : SV) (k : ByteArray) (hp : plS ts k = none) (hl : ts.length ≤ 16384) (hk : 4096 < k.size) :
    Calls Tryz.prog 41 #[stV vo vt, .string k] w fun e w' => e = .returned (.tuple #[stV vo vt, .int .u64 18445336698825998336, .bool false]) ∧ Below w.heap.size w w' := by
  obtain ⟨wb, hwb⟩ : ∃ wb, wb = (w.alloc (.cells #[vo.val, vt.val] 28)).alloc (.cells #[.slice none 0 0, .slice none 0 0] 28) := ⟨_, rfl⟩
  obtain ⟨hbs, hbr, hB⟩ := boxS2 w vo vt
  rw [← hwb] at hbs hbr hB
  obtain ⟨q1, q2, q3, q4⟩ := hr.open rtStr.len
  have H4 : Hid (∀ i u, ts[i]? = some u → ∃ gl, vt.ad = some ⟨gl, 0, none⟩ ∧ wb.cell? ⟨gl, i, none⟩ = some (.string u)) := fun i u hi => by
    obtain ⟨gl, e1, _, _, _, hc, _⟩ := q4 (by intro e; rw [e] at hi; simp at hi)
    have := hc i u hi 0 _ rfl
    simp only [Nat.mul_one, Nat.add_zero] at this
    exact ⟨gl, e1, cells_below hB _ _ this⟩
  obtain ⟨b0, b1⟩ := hbs.ce
  have hr2 := tx_res hB hbr wb (Below.refl _ _) vo vt
  obtain ⟨k1, k2, k3⟩ := hr2
  obtain ⟨r0, r1⟩ := k1.ce
  obtain ⟨f0, f1⟩ := k1.fz
  have HE : Hid (plS ts k = none) := hp
  have HNL : Hid (True ∧ ts.length ≤ 16384) := ⟨trivial, hl⟩
  have kk0 : decide ((4096 : Int) < (k.size : Int)) = true := decide_eq_true (by omega)
  clear hk
  obtain ⟨va, vl, vc⟩ := vo
  obtain ⟨ta, tl, tc⟩ := vt
  rw [show (SV.mk va vl vc).val = .slice va vl vc from rfl, show (SV.mk ta tl tc).val = .slice ta tl tc from rfl] at *
  simp only at q1
  subst q1
  have HF := (show Hid _ from And.intro k2 k3)
  unfold stV
  rw [show (SV.mk va vl vc).val = .slice va vl vc from rfl, show (SV.mk ta ts.length tc).val = .slice ta ts.length tc from rfl]
  unfold SV.nil SV.val at r0 r1
  simp only at r0 r1
  simp only at H4
  generalize hT : ts.length = T at *
  have hlim : (T : Int) ≤ 9223372036854775807 := by omega
  clear hr hbs hbr hB q2 q3 q4 k1 k2 k3 hp
  go_enter Tryz.func41, Tryz.ntmps41
  go_wp2_with fail
  rw [← hwb]
  clear hwb
  go_loopw [7] (fun p wr => ∃ (i : Nat), i ≤ T ∧ p = .int .i64 (i : Int) ∧ wr = wb ∧ Hid (∀ j, j < i → ts[j]? ≠ some k)) (fun p wr => ((T : Int) - intOf p).toNat)
  case atStart => exact ⟨0, Nat.zero_le _, rfl, rfl, fun j hj => by omega⟩
  case round =>
    obtain ⟨i, hi, rfl, hww, HI⟩ := hrel
    have hw' := hww.symm
    subst hw'
    clear hww
    by_cases c : i < T
    · have hex : ∃ u, ts[i]? = some u := ⟨_, List.getElem?_eq_getElem (by omega)⟩
      obtain ⟨u, hu⟩ := hex
      obtain ⟨gl, rfl, du⟩ := H4.out i u hu
      have hii : (i : Int) < (T : Int) := by omega
      have hw1 : IntKind.i64.wrap ((i : Int) + 1) = ((i + 1 : Nat) : Int) := by rw [IntKind.wrap_i64]; omega
      have hi0 : ¬ ((i : Int) < 0) := by omega
      have HC : Hid (i < T ∧ T ≤ 16384) := ⟨c, by have := HNL.out.2; omega⟩
      by_cases cu : u = k
      · have e := HE.out
        rw [plS_hit hu cu HI.out] at e
        simp at e
      · have hee : (u.toList == k.toList) = false := Sp.bytes_no cu
        have HI2 : Hid (∀ j, j < i + 1 → ts[j]? ≠ some k) := fun j hj => by
          by_cases q : j = i
          · rw [q, hu]; simpa using cu
          · exact HI.out j (by omega)
        clear HE HI hu c hi H4 cu hT hl
        go_wp2_with fail
        refine ⟨⟨i + 1, by have := HC.out; omega, rfl, by first | rfl | trivial, HI2⟩, ?_⟩
        have := HC.out
        simp [intOf]
        omega
    · have hie : i = T := by omega
      subst hie
      have hii : ¬ ((i : Int) < (i : Int)) := by omega
      clear HE HI c hi H4 hT hl
      go_wp2_with fail
      refine bodyPost_ret (res4 rfl _ _ (w.heap.size + 1) 28 _ (0, 0) _ rfl HF.out.1 Tryz.underlying28 rfl (by kernel_rfl)) rfl ?_
      exact ⟨rfl, HF.out.2⟩
set_option maxRecDepth 100000 in
set_option maxHeartbeats 2000000 in
theorem rtext_full (hr : RowIn strC 1 9 B w O vt ts) (vo : SV) (k : ByteArray) (hp : plS ts k = none) (hl : ts.length ≤ 16384) (hk : k.size ≤ 4096) (hfu : 16384 ≤ ts.length) :
    Calls Tryz.prog 41 #[stV vo vt, .string k] w fun e w' => e = .returned (.tuple #[stV vo vt, .int .u64 18445336698825998336, .bool false]) ∧ Below w.heap.size w w' := by
  obtain ⟨wb, hwb⟩ : ∃ wb, wb = (w.alloc (.cells #[vo.val, vt.val] 28)).alloc (.cells #[.slice none 0 0, .slice none 0 0] 28) := ⟨_, rfl⟩
  obtain ⟨hbs, hbr, hB⟩ := boxS2 w vo vt
  rw [← hwb] at hbs hbr hB
  obtain ⟨q1, q2, q3, q4⟩ := hr.open rtStr.len
  have H4 : Hid (∀ i u, ts[i]? = some u → ∃ gl, vt.ad = some ⟨gl, 0, none⟩ ∧ wb.cell? ⟨gl, i, none⟩ = some (.string u)) := fun i u hi => by
    obtain ⟨gl, e1, _, _, _, hc, _⟩ := q4 (by intro e; rw [e] at hi; simp at hi)
    have := hc i u hi 0 _ rfl
    simp only [Nat.mul_one, Nat.add_zero] at this
    exact ⟨gl, e1, cells_below hB _ _ this⟩
  obtain ⟨b0, b1⟩ := hbs.ce
  have hr2 := tx_res hB hbr wb (Below.refl _ _) vo vt
  obtain ⟨k1, k2, k3⟩ := hr2
  obtain ⟨r0, r1⟩ := k1.ce
  obtain ⟨f0, f1⟩ := k1.fz
  have HE : Hid (plS ts k = none) := hp
  have HNL : Hid (True ∧ ts.length ≤ 16384) := ⟨trivial, hl⟩
  have kk0 : decide ((4096 : Int) < (k.size : Int)) = false := decide_eq_false (by omega)
  have kk1 : decide ((16384 : Int) ≤ (ts.length : Int)) = true := decide_eq_true (by omega)
  clear hk hfu
  obtain ⟨va, vl, vc⟩ := vo
  obtain ⟨ta, tl, tc⟩ := vt
  rw [show (SV.mk va vl vc).val = .slice va vl vc from rfl, show (SV.mk ta tl tc).val = .slice ta tl tc from rfl] at *
  simp only at q1
  subst q1
  have HF := (show Hid _ from And.intro k2 k3)
  unfold stV
  rw [show (SV.mk va vl vc).val = .slice va vl vc from rfl, show (SV.mk ta ts.length tc).val = .slice ta ts.length tc from rfl]
  unfold SV.nil SV.val at r0 r1
  simp only at r0 r1
  simp only at H4
  generalize hT : ts.length = T at *
  have hlim : (T : Int) ≤ 9223372036854775807 := by omega
  clear hr hbs hbr hB q2 q3 q4 k1 k2 k3 hp
  go_enter Tryz.func41, Tryz.ntmps41
  go_wp2_with fail
  rw [← hwb]
  clear hwb
  go_loopw [7] (fun p wr => ∃ (i : Nat), i ≤ T ∧ p = .int .i64 (i : Int) ∧ wr = wb ∧ Hid (∀ j, j < i → ts[j]? ≠ some k)) (fun p wr => ((T : Int) - intOf p).toNat)
  case atStart => exact ⟨0, Nat.zero_le _, rfl, rfl, fun j hj => by omega⟩
  case round =>
    obtain ⟨i, hi, rfl, hww, HI⟩ := hrel
    have hw' := hww.symm
    subst hw'
    clear hww
    by_cases c : i < T
    · have hex : ∃ u, ts[i]? = some u := ⟨_, List.getElem?_eq_getElem (by omega)⟩
      obtain ⟨u, hu⟩ := hex
      obtain ⟨gl, rfl, du⟩ := H4.out i u hu
      have hii : (i : Int) < (T : Int) := by omega
      have hw1 : IntKind.i64.wrap ((i : Int) + 1) = ((i + 1 : Nat) : Int) := by rw [IntKind.wrap_i64]; omega
      have hi0 : ¬ ((i : Int) < 0) := by omega
      have HC : Hid (i < T ∧ T ≤ 16384) := ⟨c, by have := HNL.out.2; omega⟩
      by_cases cu : u = k
      · have e := HE.out
        rw [plS_hit hu cu HI.out] at e
        simp at e
      · have hee : (u.toList == k.toList) = false := Sp.bytes_no cu
        have HI2 : Hid (∀ j, j < i + 1 → ts[j]? ≠ some k) := fun j hj => by
          by_cases q : j = i
          · rw [q, hu]; simpa using cu
          · exact HI.out j (by omega)
        clear HE HI hu c hi H4 cu hT hl
        go_wp2_with fail
        refine ⟨⟨i + 1, by have := HC.out; omega, rfl, by first | rfl | trivial, HI2⟩, ?_⟩
        have := HC.out
        simp [intOf]
        omega
    · have hie : i = T := by omega
      subst hie
      have hii : ¬ ((i : Int) < (i : Int)) := by omega
      clear HE HI c hi H4 hT hl
      go_wp2_with fail
      refine bodyPost_ret (res4 rfl _ _ (w.heap.size + 1) 28 _ (0, 0) _ rfl HF.out.1 Tryz.underlying28 rfl (by kernel_rfl)) rfl ?_
      exact ⟨rfl, HF.out.2⟩
end
end Go.Proofs.YtkpdpdllbnihgaaGreat.Hp
/- The document's Text: a new one. -/
namespace Go.Proofs.YtkpdpdllbnihgaaGreat.Hp
open Go.RowKit
section
variable {w W W' w' w1 : World} {B b : Nat} {O : Nat → Prop} {tg : Nat → Nat} {S S' : List So} {vo vt : SV} {ts : List ByteArray}
set_option maxRecDepth 100000 in
set_option maxHeartbeats 2000000 in
theorem rtext_new (hr : RowIn strC 1 9 B w O vt ts) (vo : SV) (k : ByteArray) (hp : plS ts k = none) (hl : ts.length < 16384) (hk : k.size ≤ 4096) (hB0 : B ≤ w.heap.size) :
    Calls Tryz.prog 41 #[stV vo vt, .string k] w fun e w' => ∃ vt', e = .returned (.tuple #[stV vo vt', .int .u64 (txtW (ts.length : Int)), .bool true]) ∧ OwnR strC 1 9 B w' vt'.val (ts ++ [k]) ∧ Chg (fun b => vt.val.ownBlock = some b) w w' ∧ (vt'.val.ownBlock = vt.val.ownBlock ∨ ∃ b, w.heap.size ≤ b ∧ vt'.val.ownBlock = some b) := by
  obtain ⟨wb, hwb⟩ : ∃ wb, wb = (w.alloc (.cells #[vo.val, vt.val] 28)).alloc (.cells #[.slice none 0 0, .slice none 0 0] 28) := ⟨_, rfl⟩
  obtain ⟨hbs, hbr, hB⟩ := boxS2 w vo vt
  rw [← hwb] at hbs hbr hB
  obtain ⟨q1, q2, q3, q4⟩ := hr.open rtStr.len
  have H4 : Hid (∀ i u, ts[i]? = some u → ∃ gl, vt.ad = some ⟨gl, 0, none⟩ ∧ wb.cell? ⟨gl, i, none⟩ = some (.string u)) := fun i u hi => by
    obtain ⟨gl, e1, _, _, _, hc, _⟩ := q4 (by intro e; rw [e] at hi; simp at hi)
    have := hc i u hi 0 _ rfl
    simp only [Nat.mul_one, Nat.add_zero] at this
    exact ⟨gl, e1, cells_below hB _ _ this⟩
  obtain ⟨b0, b1⟩ := hbs.ce
  have HE : Hid (plS ts k = none) := hp
  have HNL : Hid (True ∧ ts.length ≤ 16384) := ⟨trivial, by omega⟩
  have kk0 : decide ((4096 : Int) < (k.size : Int)) = false := decide_eq_false (by omega)
  have kk1 : decide ((16384 : Int) ≤ (ts.length : Int)) = false := decide_eq_false (by omega)
  have HAL : Hid (Below wb.heap.size wb (wb.alloc (.cells #[.string k] 9))) := (Below.refl _ _).alloc (Nat.le_refl _) _
  have hwal := hB.trans (HAL.out.mono hB.size)
  have HOWN : Hid (OwnR strC 1 9 B (wb.alloc (.cells #[.string k] 9)) vt.val ts) := OwnR.below hr.1 hwal
  have HONE : Hid (Sli.ok strC 1 (wb.alloc (.cells #[.string k] 9)) ⟨some ⟨wb.heap.size, 0, none⟩, 1, [k]⟩) := one_sli rtStr (at_new _ _) rfl
  have HBX : Hid (((ts.length + 1) + (ts.length + 1) / 4 + 192) * 16 ≤ 281474976710656 ∧ ts.length + 1 ≤ maxLen) := ⟨by omega, by unfold maxLen; omega⟩
  have HSZ : Hid (B ≤ (wb.alloc (.cells #[.string k] 9)).heap.size) := Nat.le_trans hB0 hwal.size
  have HPU : Hid (∀ (w5 : World) (g5 c5 : Nat), OwnR strC 1 9 B w5 (.slice (some ⟨g5, 0, none⟩) (ts.length + 1) c5) (ts ++ [k]) → Chg (fun b => vt.val.ownBlock = some b) wb w5 → (vt.val.ownBlock = some g5 ∨ wb.heap.size ≤ g5) → (BxS w5 w.heap.size vo vt ∧ BxS w5 (w.heap.size + 1) .nil .nil) ∧ ∀ W'', Chg (fun b => b = w.heap.size ∨ b = w.heap.size + 1) w5 W'' → OwnR strC 1 9 B W'' (.slice (some ⟨g5, 0, none⟩) (ts.length + 1) c5) (ts ++ [k]) ∧ Chg (fun b => vt.val.ownBlock = some b) w W'' ∧ ((Value.slice (some ⟨g5, 0, none⟩) (ts.length + 1) c5).ownBlock = vt.val.ownBlock ∨ ∃ b, w.heap.size ≤ b ∧ (Value.slice (some ⟨g5, 0, none⟩) (ts.length + 1) c5).ownBlock = some b)) := fun w5 g5 c5 q1 q2 q3 => by
    have hvb : ∀ b, w.heap.size ≤ b → ¬ vt.val.ownBlock = some b := fun b hb r => by
      have := (hr.1.lt b r).2
      omega
    refine ⟨⟨hbs.kept q2 (hvb _ (Nat.le_refl _)), hbr.kept q2 (hvb _ (by omega))⟩, fun W'' q4 => ?_⟩
    have hg5 : g5 ≠ w.heap.size ∧ g5 ≠ w.heap.size + 1 := by
      rcases q3 with q | q
      · have := (hr.1.lt g5 q).2
        omega
      · have := hbr.lt
        omega
    have o1 := q1.kept q4 (fun b r s => by have r : g5 = b := (by simpa [Value.ownBlock] using r); omega)
    have c1 : Chg (fun b => vt.val.ownBlock = some b ∨ w.heap.size ≤ b) w W'' := (((Chg.of_below hB).trans q2 (fun b _ r => Or.inl r)).trans q4 (fun b _ r => Or.inr (by omega)))
    refine ⟨o1, ⟨c1.os, c1.tape, c1.output, c1.size, fun b hb hn => c1.block b hb (fun r => by rcases r with r | r; exact hn r; omega)⟩, ?_⟩
    rcases q3 with q | q
    · exact Or.inl (by rw [q]; rfl)
    · exact Or.inr ⟨g5, Nat.le_trans hB.size q, rfl⟩
  obtain ⟨va, vl, vc⟩ := vo
  obtain ⟨ta, tl, tc⟩ := vt
  rw [show (SV.mk va vl vc).val = .slice va vl vc from rfl, show (SV.mk ta tl tc).val = .slice ta tl tc from rfl] at *
  simp only at q1
  subst q1
  unfold stV
  rw [show (SV.mk va vl vc).val = .slice va vl vc from rfl, show (SV.mk ta ts.length tc).val = .slice ta ts.length tc from rfl]
  simp only at H4
  generalize hT : ts.length = T at *
  have hlim : (T : Int) ≤ 9223372036854775807 := by omega
  clear hr hbs hbr hB q2 q3 q4 hp hwal hB0 hk
  go_enter Tryz.func41, Tryz.ntmps41
  go_wp2_with fail
  rw [← hwb]
  clear hwb
  go_loopw [7] (fun p wr => ∃ (i : Nat), i ≤ T ∧ p = .int .i64 (i : Int) ∧ wr = wb ∧ Hid (∀ j, j < i → ts[j]? ≠ some k)) (fun p wr => ((T : Int) - intOf p).toNat)
  case atStart => exact ⟨0, Nat.zero_le _, rfl, rfl, fun j hj => by omega⟩
  case round =>
    obtain ⟨i, hi, rfl, hww, HI⟩ := hrel
    have hw' := hww.symm
    subst hw'
    clear hww
    by_cases c : i < T
    · have hex : ∃ u, ts[i]? = some u := ⟨_, List.getElem?_eq_getElem (by omega)⟩
      obtain ⟨u, hu⟩ := hex
      obtain ⟨gl, rfl, du⟩ := H4.out i u hu
      have hii : (i : Int) < (T : Int) := by omega
      have hw1 : IntKind.i64.wrap ((i : Int) + 1) = ((i + 1 : Nat) : Int) := by rw [IntKind.wrap_i64]; omega
      have hi0 : ¬ ((i : Int) < 0) := by omega
      have HC : Hid (i < T ∧ T ≤ 16384) := ⟨c, by have := HNL.out.2; omega⟩
      by_cases cu : u = k
      · have e := HE.out
        rw [plS_hit hu cu HI.out] at e
        simp at e
      · have hee : (u.toList == k.toList) = false := Sp.bytes_no cu
        have HI2 : Hid (∀ j, j < i + 1 → ts[j]? ≠ some k) := fun j hj => by
          by_cases q : j = i
          · rw [q, hu]; simpa using cu
          · exact HI.out j (by omega)
        clear HE HI hu c hi H4 cu hT hl
        go_wp2_with fail
        refine ⟨⟨i + 1, by have := HC.out; omega, rfl, by first | rfl | trivial, HI2⟩, ?_⟩
        have := HC.out
        simp [intOf]
        omega
    · have hie : i = T := by omega
      subst hie
      have hii : ¬ ((i : Int) < (i : Int)) := by omega
      have HT : Hid (ts.length = i) := hT
      clear HE HI c hi H4 hT hl
      go_wp2_with (at_builtin; refine app_row rtStr rfl _ _ rfl B (.slice ta i tc) ts (by rfl) HOWN.out ⟨some ⟨wb.heap.size, 0, none⟩, 1, [k]⟩ (by rfl) HONE.out (by rw [HT.out]; exact HBX.out.2) (by rw [HT.out]; exact HBX.out.1) HSZ.out ?_)
      intro v5 w5 ho5 hg5 hl5
      have hll : (ts ++ [k]).length = i + 1 := by rw [List.length_append, HT.out]; rfl
      have ho6 : w5.ownsRow B 9 1 v5 (i + 1) ((ts ++ [k]).flatMap strC) := by rw [← hll]; exact ho5
      obtain ⟨g5, c5, rfl, _, _⟩ := ho6.form (by omega)
      have hch : Chg (fun b => (Value.slice ta i tc).ownBlock = some b) wb w5 := (Chg.of_below HAL.out).trans (Chg.of_grown (S := fun b => (Value.slice ta i tc).ownBlock = some b) hg5 (fun k q => q)) (fun _ _ q => q)
      obtain ⟨⟨hb1, hb2⟩, hfin⟩ := HPU.out w5 g5 c5 ho5 hch (hl5.imp (fun q => by rw [← q]; rfl) (fun q => by
        have q : g5 = wb.heap.size + 1 := by simpa [Value.ownBlock] using q
        omega))
      obtain ⟨p0, p1⟩ := hb1.ce
      rw [show (SV.mk va vl vc).val = .slice va vl vc from rfl] at p0
      rw [show (SV.mk ta i tc).val = .slice ta i tc from rfl] at p1
      obtain ⟨pf0, pf1⟩ := hb1.fz
      have hs1 := heap_setCell_same _ w.heap.size 1 _ _ (.slice (some ⟨g5, 0, none⟩) (i + 1) c5) hb1
      have hc6 : Chg (fun b => b = w.heap.size) w5 (w5.setCell ⟨w.heap.size, 1, none⟩ (.slice (some ⟨g5, 0, none⟩) (i + 1) c5)) := Chg.set (S := fun b => b = w.heap.size) w5 ⟨w.heap.size, 1, none⟩ _ rfl
      have hb3 := hb2.kept hc6 (by omega)
      have HFI := (show Hid _ from hfin)
      have HC6 := (show Hid _ from hc6)
      clear ho5 ho6 hg5 hl5 hch HPU HAL HOWN HONE HBX HSZ hb1 hb2 hfin hc6
      go_upto_region 9 with fail
      generalize (w5.setCell ⟨w.heap.size, 1, none⟩ (.slice (some ⟨g5, 0, none⟩) (i + 1) c5)) = w6 at *
      have m0 : w6.cell? ⟨w.heap.size, 0, none⟩ = some (.slice va vl vc) := cell_of_row w6 w.heap.size 0 _ _ (0, 0) hs1
      have m1 : w6.cell? ⟨w.heap.size, 1, none⟩ = some (.slice (some ⟨g5, 0, none⟩) (i + 1) c5) := cell_of_row w6 w.heap.size 1 _ _ (0, 0) hs1
      obtain ⟨r0, r1⟩ := hb3.ce
      obtain ⟨rf0, rf1⟩ := hb3.fz
      have z0 := heap_setCell_same _ (w.heap.size + 1) 0 _ _ (.slice va vl vc) hb3
      have z1 := heap_setCell_same _ (w.heap.size + 1) 1 _ _ (.slice (some ⟨g5, 0, none⟩) (i + 1) c5) z0
      have HZ := (show Hid _ from z1)
      have hi4 : i ≤ 16384 := HNL.out.2
      have hsub : IntKind.i64.wrap (((i + 1 : Nat) : Int) - 1) = (i : Int) := by rw [IntKind.wrap_i64]; omega
      have hcv : IntKind.u64.wrap (i : Int) = (i : Int) := by rw [IntKind.wrap_u64]; omega
      have hw64 : IntKind.u64.wrap (18445618173802708992 + (i : Int)) = txtW (i : Int) := by rw [IntKind.wrap_u64]; unfold txtW; omega
      clear p0 p1 pf0 pf1 hs1 hb3 z0 z1 b0 b1
      go_region
      all_goals
        go_wp2_with fail
        refine bodyPost_ret (res4 rfl _ _ (w.heap.size + 1) 28 _ (0, 0) _ rfl HZ.out Tryz.underlying28 rfl (by kernel_rfl)) rfl ?_
        refine ⟨⟨some ⟨g5, 0, none⟩, i + 1, c5⟩, rfl, HFI.out _ ?_⟩
        exact (((HC6.out.mono (fun b r => Or.inl r)).trans (Chg.set (S := fun b => b = w.heap.size ∨ b = w.heap.size + 1) w6 ⟨w.heap.size + 1, 0, none⟩ _ (Or.inr rfl)) (fun _ _ q => q)).trans (Chg.set (S := fun b => b = w.heap.size ∨ b = w.heap.size + 1) _ ⟨w.heap.size + 1, 1, none⟩ _ (Or.inr rfl)) (fun _ _ q => q)).drew
end
end Go.Proofs.YtkpdpdllbnihgaaGreat.Hp
