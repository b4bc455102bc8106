/- HP, LK, VT -/
import Derived.Test.YtkpdpdllbnihgaaGreatB13
import Derived.Test.YtkpdpdllbnihgaaGreatB16
import Derived.Test.YtkpdpdllbnihgaaGreatB17
import Derived.Test.YtkpdpdllbnihgaaGreatB20
set_option linter.unusedVariables false
set_option linter.unusedSimpArgs false
set_option maxRecDepth 100000
set_option maxHeartbeats 40000000
/- Put of a new key, as long as there is no map. -/
namespace Go.Proofs.YtkpdpdllbnihgaaGreat.Hp
open Go.RowKit
section
variable {w w' w1 : World} {B hb : Nat} {O S : Nat → Prop} {H H' : He} {M M' : HV} {tg : Nat → Nat}
def keptD (d : De) : De := { d with fl := keptI d.fl }
set_option maxRecDepth 100000 in
set_option maxHeartbeats 4000000 in
theorem put_new (h : HeapAt w B hb tg H M) (o : Int) (o0 : 0 ≤ o) (o1 : o < 18446744073709551616) {i : Nat} {ob : Ob} (ho : obI H o = some i) (hi : H.obs[i]? = some ob) (hm : ob.hm = false) (hsh : ob.shaped = true) (k : ByteArray) (hk : k.size ≤ maxLen) (d : De) (hlen : ob.ps.length + 1 ≤ 16) (hnx : ob.next < 2000000000000) (hpl : plc ob.ps k = none) :
    Calls Tryz.prog 21 #[.pointer (some ⟨hb, 0, none⟩), .int .u64 o, .string k, deV d] w fun e w' => e = .returned (.tuple #[]) ∧ ∃ M', WentM w B hb tg (layH (touchH H ob.cell) i ob k (keptD d)) M' w' := by
  obtain ⟨wb, hwb⟩ : ∃ wb, wb = w.alloc (.cells #[.int .u64 d.va, .int .u64 d.se, .int .i64 d.fl] 35) := ⟨_, rfl⟩
  have hB : Below w.heap.size w wb := by rw [hwb]; exact (Below.refl _ _).alloc (Nat.le_refl _) _
  have hbx : wb.heap[w.heap.size]? = some (.cells #[.int .u64 d.va, .int .u64 d.se, .int .i64 d.fl] 35 (0, 0)) := by rw [hwb]; exact at_new _ _
  have h2 : HeapAt wb B hb tg H M := h.below hB
  obtain ⟨g, cap, ov, hvo, hov, _⟩ := h2.obj hi
  have ka := at_hit h2 o o0 o1 i g cap ho hvo
  have kt := touch_at h2 hi hvo
  have kk := fun w => kept_any w d.fl
  have htx : tg w.heap.size = 0 := by
    by_cases c : tg w.heap.size = 0
    · exact c
    · have := (h.lt _ c).2; omega
  have hxs : w.heap.size < wb.heap.size := (Array.getElem?_eq_some_iff.1 hbx).1
  have HA : Hid (∀ w2, WentM wb B hb tg (touchH H ob.cell) M w2 →
      (w2.cell? ⟨w.heap.size, 0, none⟩ = some (.int .u64 d.va) ∧ w2.cell? ⟨w.heap.size, 1, none⟩ = some (.int .u64 d.se) ∧ w2.cell? ⟨w.heap.size, 2, none⟩ = some (.int .i64 d.fl) ∧ w2.frozen? ⟨w.heap.size, 2, none⟩ = false) ∧
      ∀ w3, w3 = w2.setCell ⟨w.heap.size, 2, none⟩ (.int .i64 (keptI d.fl)) →
      (w3.cell? ⟨w.heap.size, 0, none⟩ = some (.int .u64 d.va) ∧ w3.cell? ⟨w.heap.size, 1, none⟩ = some (.int .u64 d.se) ∧ w3.cell? ⟨w.heap.size, 2, none⟩ = some (.int .i64 (keptI d.fl))) ∧
      Calls Tryz.prog 70 #[.pointer (some ⟨g, i * 12 + 4, none⟩), .string k] w3 (fun e w' => e = .returned (.tuple #[.int .i64 0, .bool false]) ∧ w' = w3) ∧
      Calls Tryz.prog 72 #[.pointer (some ⟨hb, 0, none⟩), .pointer (some ⟨g, i * 12, none⟩), .string k, .agg #[.int .u64 d.va, .int .u64 d.se, .int .i64 (keptI d.fl)]] w3 (fun e w' => e = .returned (.tuple #[]) ∧ ∃ M', WentM w B hb tg (layH (touchH H ob.cell) i ob k (keptD d)) M' w')) := fun w2 hw2 => by
    obtain ⟨tg2, p1, p2, p3⟩ := hw2
    have hbx2 : w2.heap[w.heap.size]? = some (.cells #[.int .u64 d.va, .int .u64 d.se, .int .i64 d.fl] 35 (0, 0)) := by
      rw [p2.block _ hxs (fun q => q htx)]
      exact hbx
    refine ⟨⟨cell_of_row w2 w.heap.size 0 _ _ (0, 0) hbx2, cell_of_row w2 w.heap.size 1 _ _ (0, 0) hbx2, cell_of_row w2 w.heap.size 2 _ _ (0, 0) hbx2, frozen_of_row w2 w.heap.size 2 _ _ hbx2⟩, ?_⟩
    rintro w3 rfl
    have hbx3 := heap_setCell_same w2 w.heap.size 2 _ _ (.int .i64 (keptI d.fl)) hbx2
    have hx2 : tg2 w.heap.size = 0 := by
      by_cases c : tg2 w.heap.size = 0
      · exact c
      · rcases p3 _ c with q | q
        · exact absurd htx q
        · omega
    have cs : Chg (fun b => b = w.heap.size) w2 (w2.setCell ⟨w.heap.size, 2, none⟩ (.int .i64 (keptI d.fl))) := Chg.set (S := fun b => b = w.heap.size) w2 ⟨w.heap.size, 2, none⟩ _ rfl
    have h3 := p1.kept cs (fun b q e => by rw [show b = w.heap.size from e] at q; exact q hx2)
    refine ⟨⟨cell_of_row _ w.heap.size 0 _ _ (0, 0) hbx3, cell_of_row _ w.heap.size 1 _ _ (0, 0) hbx3, cell_of_row _ w.heap.size 2 _ _ (0, 0) hbx3⟩, ?_, ?_⟩
    · have hf := find_at h3 hi hov hvo hm k
      unfold FindSays at hf
      rw [hpl] at hf
      exact hf
    · refine (lay_small h3 hi hov hvo hm hsh k hk (keptD d) (kept_bd d.fl) hlen hnx).mono ?_
      rintro e w' ⟨rfl, vl', hq⟩
      have p2w : Chg (fun b => tg b ≠ 0) w (w2.setCell ⟨w.heap.size, 2, none⟩ (.int .i64 (keptI d.fl))) := ((Chg.of_below (S := fun b => tg b ≠ 0) hB).trans p2 (fun _ _ q => q)).trans cs (fun b hb q => by have q : b = w.heap.size := q; omega)
      exact ⟨rfl, _, WentM.next p2w (fun b q => by rcases p3 b q with c | c; exact Or.inl c; exact Or.inr (by omega)) hq⟩
  have b0 : wb.cell? ⟨w.heap.size, 0, none⟩ = some (.int .u64 d.va) := cell_of_row wb w.heap.size 0 _ _ (0, 0) hbx
  have b1 : wb.cell? ⟨w.heap.size, 1, none⟩ = some (.int .u64 d.se) := cell_of_row wb w.heap.size 1 _ _ (0, 0) hbx
  have b2 : wb.cell? ⟨w.heap.size, 2, none⟩ = some (.int .i64 d.fl) := cell_of_row wb w.heap.size 2 _ _ (0, 0) hbx
  generalize layH (touchH H ob.cell) i ob k (keptD d) = HL at *
  generalize touchH H ob.cell = HT at *
  unfold deV
  obtain ⟨va, se, fl⟩ := d
  simp only at *
  generalize keptI fl = kf at *
  clear h h2 hB hbx ho hi hm hsh hk hlen hnx hpl hvo hov htx hxs
  go_enter Tryz.func21, Tryz.ntmps21
  go_upto_region 1 with fail
  rw [← hwb]
  clear hwb
  generalize w.heap.size = xb at b0 b1 b2 HA ⊢
  go_wp2_with fail
  refine ka.mono ?_
  rintro e w2 ⟨rfl, rfl⟩
  clear ka
  go_wp2_with fail
  refine kt.mono ?_
  rintro e w3 ⟨rfl, hw3⟩
  obtain ⟨⟨a0, a1, a2, a3⟩, HB0⟩ := HA.out w3 hw3
  have HB := (show Hid _ from HB0 _ rfl)
  clear hw3 kt HB0 HA b0 b1 b2
  go_wp2_with fail
  refine (kk _).mono ?_
  rintro e w4 ⟨rfl, rfl⟩
  clear kk
  go_upto_region 5 with fail
  generalize (w4.setCell ⟨xb, 2, none⟩ (.int .i64 kf)) = w5 at *
  obtain ⟨⟨y0, y1, y2⟩, kfd, kly⟩ := HB.out
  clear HB a0 a1 a2 a3
  go_wp2_with fail
  refine kfd.mono ?_
  rintro e w6 ⟨rfl, rfl⟩
  clear kfd
  go_wp2_with fail
  refine kly.mono ?_
  rintro e w7 ⟨rfl, M', hq⟩
  have HQ := (show Hid _ from hq)
  clear kly hq
  go_wp2_with fail
  go_end0
  exact ⟨rfl, M', HQ.out⟩
end
end Go.Proofs.YtkpdpdllbnihgaaGreat.Hp
/- The document's Put. -/
namespace Go.Proofs.YtkpdpdllbnihgaaGreat.Hp
open Go.RowKit
def putS (x : So) (k : ByteArray) (d : De) : So := match plS x.nm k with
  | some m => { x with ds := x.ds.set m (keptD d) }
  | none => { x with nm := x.nm ++ [k], ds := x.ds ++ [keptD d] }
/-- Put's boxes -/
def wPu (w : World) (vo vt : SV) (d : De) : World := ((w.alloc (.cells #[vo.val, vt.val] 28)).alloc (.cells #[.int .u64 d.va, .int .u64 d.se, .int .i64 d.fl] 35)).alloc (.cells #[.slice none 0 0, .slice none 0 0] 28)
theorem wPu_facts (w : World) (vo vt : SV) (d : De) : BxS (wPu w vo vt d) w.heap.size vo vt ∧ Bx3 (wPu w vo vt d) (w.heap.size + 1) d ∧ BxS (wPu w vo vt d) (w.heap.size + 2) .nil .nil ∧ Below w.heap.size w (wPu w vo vt d) ∧ (wPu w vo vt d).heap.size = w.heap.size + 3 := by
  have s1 : (w.alloc (.cells #[vo.val, vt.val] 28)).heap.size = w.heap.size + 1 := size_new _ _
  have s2 : ((w.alloc (.cells #[vo.val, vt.val] 28)).alloc (.cells #[.int .u64 d.va, .int .u64 d.se, .int .i64 d.fl] 35)).heap.size = w.heap.size + 2 := by rw [size_new, s1]
  refine ⟨at_old _ _ _ _ (at_old _ _ _ _ (at_new _ _)), at_old _ _ _ _ (at_two w _ _), ?_, below_new (below_new (below_new (Below.refl _ _) (Nat.le_refl _) _) (by rw [s1]; omega) _) (by rw [s2]; omega) _, by unfold wPu; rw [size_new, s2]⟩
  have := at_new ((w.alloc (.cells #[vo.val, vt.val] 28)).alloc (.cells #[.int .u64 d.va, .int .u64 d.se, .int .i64 d.fl] 35)) (.cells #[.slice none 0 0, .slice none 0 0] 28)
  rw [s2] at this
  exact this
/-- all that Put has at hand; bo: its variable x -/
structure PuA (w W : World) (B : Nat) (tg : Nat → Nat) (i : Nat) (N : Nat → Nat) (y : So × QV) (vo vt : SV) (d : De) (bo : Nat) : Prop where
  pus : PuS w W B tg i N y
  bs : BxS W w.heap.size vo vt
  bd : Bx3 W (w.heap.size + 1) d
  br : BxS W (w.heap.size + 2) .nil .nil
  bo' : BxO W bo y
  lo : w.heap.size + 3 ≤ bo
  nn : ∀ b, N b ≠ 0 → bo < b
section
variable {w W W' : World} {B : Nat} {tg : Nat → Nat} {S : List So} {vo vt : SV} {qs : List QV} {i bo : Nat} {N : Nat → Nat} {y : So × QV} {x : So} {q : QV} {d : De}
theorem PuA.below (h : PuA w W B tg i N y vo vt d bo) (hb : Below W.heap.size W W') : PuA w W' B tg i N y vo vt d bo := ⟨h.pus.below hb, h.bs.below hb, h.bd.below hb, h.br.below hb, h.bo'.below hb, h.lo, h.nn⟩
theorem Bx3.kept {b : Nat} {T : Nat → Prop} (h : Bx3 W b d) (hc : Chg T W W') (hn : ¬ T b) : Bx3 W' b d := by
  unfold Bx3
  rw [hc.block b h.lt hn]
  exact h
/-- a row is laid anew, and told to the variable x -/
theorem PuA.row (h : PuA w W B tg i N y vo vt d bo) {c0 : Nat} (hc0 : c0 < 4) {v v' : Value} (hv : ∀ b, v.ownBlock = some b → ntg tg N w.heap.size b = 2 + 4 * i + c0) (hc : Chg (fun b => v.ownBlock = some b) W W') (hn : v'.ownBlock = v.ownBlock ∨ ∃ b, W.heap.size ≤ b ∧ b < W'.heap.size ∧ v'.ownBlock = some b)
    (y' : So × QV) (hrow : ∀ O : Nat → Prop, (∀ b, v'.ownBlock = some b → O b) → SoP W' B O y'.1 y'.2 c0)
    (hsame : ∀ c (O : Nat → Prop), c < 4 → c ≠ c0 → SoP W' B O y.1 y.2 c → SoP W' B O y'.1 y'.2 c) (j : Nat) (u : Value) (hbo : ∀ W'', BxO W'' bo y → BxO (W''.setCell ⟨bo, j, none⟩ u) bo y') :
    BxO W' bo y ∧ PuA w (W'.setCell ⟨bo, j, none⟩ u) B tg i (nuN w N v' (2 + 4 * i + c0)) y' vo vt d bo := by
  have hvb : ∀ b, w.heap.size ≤ b → b ≤ bo → ¬ v.ownBlock = some b := fun b hb hb2 r => by
    have h1 := hv b r
    unfold ntg at h1
    rw [if_neg (by omega)] at h1
    have := h.nn b (by omega)
    omega
  have hlo := h.lo
  have hbx := h.bo'.kept hc (hvb bo (by omega) (Nat.le_refl _))
  have hset : Chg (fun b => b = bo) W' (W'.setCell ⟨bo, j, none⟩ u) := Chg.set (S := fun b => b = bo) W' ⟨bo, j, none⟩ u rfl
  have hnn : ∀ b, nuN w N v' (2 + 4 * i + c0) b ≠ 0 → bo < b := fun b r => by
    unfold nuN at r
    by_cases cb : v'.ownBlock = some b ∧ w.heap.size ≤ b
    · rcases hn with e | ⟨b', e1, e2, e3⟩
      · rcases Nat.lt_or_ge bo b with q | q
        · exact q
        · exact absurd (by rw [← e]; exact cb.1) (hvb b cb.2 q)
      · have h1 := cb.1
        rw [e3] at h1
        have := Option.some.inj h1
        have := h.bo'.lt
        omega
    · rw [if_neg cb] at r
      exact h.nn b r
  refine ⟨hbx, (h.pus.row hc0 hv hc hn y' hrow hsame).own hset (fun b _ r => ⟨by omega, ?_⟩), (h.bs.kept hc (hvb _ (by omega) (by omega))).kept hset (by omega), (h.bd.kept hc (hvb _ (by omega) (by omega))).kept hset (by omega), (h.br.kept hc (hvb _ (by omega) (by omega))).kept hset (by omega), hbo _ hbx, h.lo, hnn⟩
  rcases Nat.eq_zero_or_pos (nuN w N v' (2 + 4 * i + c0) b) with e | e
  · exact e
  · have := hnn b (by omega)
    omega
/-- the end of it -/
theorem PuA.fin (h0 : StAt w B tg S vo qs) (hi : S[i]? = some x) (hq : qs[i]? = some q) {g cap : Nat} (hvo : vo = ⟨some ⟨g, 0, none⟩, S.length, cap⟩) (h : PuA w W B tg i N y vo vt d bo) (hl : y.1.ds.length = y.1.nm.length) {w5 : World} (hb : Below W.heap.size W w5) (hc : Chg (fun b => b = W.heap.size + 2) (st7 w5 g (i * 7) y) W') :
    BxS W' (w.heap.size + 2) .nil .nil ∧ ∀ W'', Chg (fun b => b = w.heap.size + 2) W' W'' → SWent w B tg (S.set i y.1) vo W'' := by
  have hp := h.pus.below hb
  have hlo := h.lo
  have hbl := h.bo'.lt
  obtain ⟨k1, k2⟩ := h0.set' hi hq hvo hp.chg y.1 y.2 N hp.new hp.rows hl
  have hg : g < w.heap.size := by
    have hblk := h0.row.2
    rw [hvo] at hblk
    have t1 : tg g = 1 := hblk g rfl
    exact (h0.lt g (by omega)).2
  refine ⟨(((h.br.below hb).kept (st7_chg w5 g (i * 7) y) (by omega)).kept hc (by omega)), fun W'' hc2 => ?_⟩
  have hz : ∀ b, ntg tg N w.heap.size b ≠ 0 → b ≠ W.heap.size + 2 ∧ b ≠ w.heap.size + 2 := fun b r => by
    unfold ntg at r
    by_cases cb : b < w.heap.size
    · have := h.pus.chg.size
      omega
    · rw [if_neg cb] at r
      have h1 := h.nn b r
      have h2 := h.pus.new b r
      omega
  have k3 := (k1.kept hc (fun b r s => (hz b r).1 s)).kept hc2 (fun b r s => (hz b r).2 s)
  refine SWent.ntg k3 ?_
  have hsz : w.heap.size ≤ W.heap.size := h.pus.chg.size
  have k4 : Chg (fun b => tg b ≠ 0 ∨ w.heap.size ≤ b) w W'' := ((k2.mono (fun b r => Or.inl r)).trans hc (fun b _ r => Or.inr (by omega))).trans hc2 (fun b _ r => Or.inr (by omega))
  exact ⟨k4.os, k4.tape, k4.output, k4.size, fun b hb' hn => k4.block b hb' (fun r => by rcases r with r | r; exact hn r; omega)⟩
end
end Go.Proofs.YtkpdpdllbnihgaaGreat.Hp
/- The document's SetInner and Put of words that are no object. -/
namespace Go.Proofs.YtkpdpdllbnihgaaGreat.Hp
open Go.RowKit
section
variable {w W W' w' w1 : World} {B b n : Nat} {tg : Nat → Nat} {S S' : List So} {vo vt : SV} {qs : List QV} {i : Nat} {x x' : So} {q : QV}
/-- the result is stored behind what was done -/
theorem st_resk (k : Nat) {W0 : World} (h0 : StAt w B tg S vo qs) (hb : Below w.heap.size w W0) (hr : BxS W0 (w.heap.size + k) .nil .nil) (hp : SWent W0 B tg S' vo W) (vt : SV) :
    BxS W (w.heap.size + k) .nil .nil ∧ BxS ((W.setCell ⟨w.heap.size + k, 0, none⟩ vo.val).setCell ⟨w.heap.size + k, 1, none⟩ vt.val) (w.heap.size + k) vo vt ∧ SWent w B tg S' vo ((W.setCell ⟨w.heap.size + k, 0, none⟩ vo.val).setCell ⟨w.heap.size + k, 1, none⟩ vt.val) := by
  have hz0 : tg (w.heap.size + k) = 0 := by
    rcases Nat.eq_zero_or_pos (tg (w.heap.size + k)) with e | e
    · exact e
    · have := (h0.lt _ (by omega : tg (w.heap.size + k) ≠ 0)).2
      omega
  have hlt := hr.lt
  obtain ⟨tg', qs', g1, g2, g3⟩ := hp
  have hr2 := hr.kept g2 (fun r => r hz0)
  have z0 := heap_setCell_same _ (w.heap.size + k) 0 _ _ vo.val hr2
  have z1 := heap_setCell_same _ (w.heap.size + k) 1 _ _ vt.val z0
  refine ⟨hr2, z1, ?_⟩
  have hc : Chg (fun b => b = w.heap.size + k) W ((W.setCell ⟨w.heap.size + k, 0, none⟩ vo.val).setCell ⟨w.heap.size + k, 1, none⟩ vt.val) :=
    (Chg.set (S := fun b => b = w.heap.size + k) W ⟨w.heap.size + k, 0, none⟩ vo.val rfl).trans (Chg.set (S := fun b => b = w.heap.size + k) _ ⟨w.heap.size + k, 1, none⟩ vt.val rfl) (fun _ _ e => e)
  have hz : tg' (w.heap.size + k) = 0 := by
    rcases Nat.eq_zero_or_pos (tg' (w.heap.size + k)) with e | e
    · exact e
    · rcases g3 _ (by omega : tg' (w.heap.size + k) ≠ 0) with c | c
      · exact absurd hz0 c
      · omega
  refine ⟨tg', qs', g1.kept hc (fun b r e => r (by rw [e]; exact hz)), ((Chg.of_below (S := fun b => tg b ≠ 0) hb).trans g2 (fun _ _ r => r)).trans hc (fun b hb2 e => by omega), fun b r => (g3 b r).imp id (fun r => Nat.le_trans hb.size r)⟩
set_option maxRecDepth 100000 in
set_option maxHeartbeats 1000000 in
theorem rinner_miss (h : StAt w B tg S vo qs) (vt : SV) (v : Value) (o : Int) (o0 : 0 ≤ o) (o1 : o < 18446744073709551616) (hm : obS S o = none) :
    Calls Tryz.prog 39 #[stV vo vt, .int .u64 o, v] w fun e w' => e = .returned (stV vo vt) ∧ SWent w B tg S vo w' := by
  obtain ⟨wb, hwb⟩ : ∃ wb, wb = (w.alloc (.cells #[vo.val, vt.val] 28)).alloc (.cells #[.slice none 0 0, .slice none 0 0] 28) := ⟨_, rfl⟩
  obtain ⟨hbs, hbr, hB⟩ := boxS2 w vo vt
  rw [← hwb] at hbs hbr hB
  have ka := rat_miss (h.below hB) vt o o0 o1 hm
  have HBS : Hid (∀ W, Below wb.heap.size wb W → W.cell? ⟨w.heap.size, 0, none⟩ = some vo.val ∧ W.cell? ⟨w.heap.size, 1, none⟩ = some vt.val) := fun W r => (hbs.below r).ce
  have HE : Hid (∀ W, Below wb.heap.size wb W → BxS W (w.heap.size + 1) .nil .nil ∧ BxS ((W.setCell ⟨w.heap.size + 1, 0, none⟩ vo.val).setCell ⟨w.heap.size + 1, 1, none⟩ vt.val) (w.heap.size + 1) vo vt ∧ SWent w B tg S vo ((W.setCell ⟨w.heap.size + 1, 0, none⟩ vo.val).setCell ⟨w.heap.size + 1, 1, none⟩ vt.val)) := fun W r => st_res h (bel_sm' hB r) (hbr.below r) (SWent.same (h.below (bel_sm' hB r)) (Below.refl _ _)) vt
  obtain ⟨b0, b1⟩ := hbs.ce
  obtain ⟨va, vl, vc⟩ := vo
  obtain ⟨ta, tl, tc⟩ := vt
  rw [show (SV.mk va vl vc).val = .slice va vl vc from rfl, show (SV.mk ta tl tc).val = .slice ta tl tc from rfl] at HBS HE hwb
  rw [show (SV.mk va vl vc).val = .slice va vl vc from rfl] at b0
  rw [show (SV.mk ta tl tc).val = .slice ta tl tc from rfl] at b1
  unfold stV at ka ⊢
  rw [show (SV.mk va vl vc).val = .slice va vl vc from rfl, show (SV.mk ta tl tc).val = .slice ta tl tc from rfl] at ka ⊢
  clear h hB hbs hbr hm
  go_enter Tryz.func39, Tryz.ntmps39
  go_upto_region 1 with fail
  rw [← hwb]
  clear hwb
  go_wp2_with fail
  refine ka.mono ?_
  rintro e w2 ⟨rfl, hB2⟩
  obtain ⟨b0, b1⟩ := HBS.out w2 hB2
  obtain ⟨k1, k2, k3⟩ := HE.out w2 hB2
  obtain ⟨r0, r1⟩ := k1.ce
  obtain ⟨f0, f1⟩ := k1.fz
  have HF := (show Hid _ from And.intro k2 k3)
  clear ka hB2 HE HBS k1 k2 k3
  unfold SV.nil SV.val at r0 r1
  simp only at r0 r1
  go_wp2_with fail
  refine bodyPost_ret (res1 rfl _ _ (w.heap.size + 1) 28 _ (0, 0) _ rfl HF.out.1 Tryz.underlying28 rfl (by kernel_rfl)) rfl ?_
  exact ⟨rfl, HF.out.2⟩
set_option maxRecDepth 100000 in
set_option maxHeartbeats 1000000 in
theorem rput_miss (h : StAt w B tg S vo qs) (vt : SV) (k : ByteArray) (d : De) (o : Int) (o0 : 0 ≤ o) (o1 : o < 18446744073709551616) (hm : obS S o = none) :
    Calls Tryz.prog 26 #[stV vo vt, .int .u64 o, .string k, deV d] w fun e w' => e = .returned (stV vo vt) ∧ SWent w B tg S vo w' := by
  obtain ⟨wb, hwb⟩ : ∃ wb, wb = wPu w vo vt d := ⟨_, rfl⟩
  obtain ⟨hbs, hbd, hbr, hB, hsz⟩ := wPu_facts w vo vt d
  rw [← hwb] at hbs hbd hbr hB hsz
  unfold wPu at hwb
  have ka := rat_miss (h.below hB) vt o o0 o1 hm
  have HBS : Hid (∀ W, Below wb.heap.size wb W → W.cell? ⟨w.heap.size, 0, none⟩ = some vo.val ∧ W.cell? ⟨w.heap.size, 1, none⟩ = some vt.val) := fun W r => (hbs.below r).ce
  have HE : Hid (∀ W, Below wb.heap.size wb W → BxS W (w.heap.size + 2) .nil .nil ∧ BxS ((W.setCell ⟨w.heap.size + 2, 0, none⟩ vo.val).setCell ⟨w.heap.size + 2, 1, none⟩ vt.val) (w.heap.size + 2) vo vt ∧ SWent w B tg S vo ((W.setCell ⟨w.heap.size + 2, 0, none⟩ vo.val).setCell ⟨w.heap.size + 2, 1, none⟩ vt.val)) := fun W r => st_resk 2 h (bel_sm' hB r) (hbr.below r) (SWent.same (h.below (bel_sm' hB r)) (Below.refl _ _)) vt
  obtain ⟨b0, b1⟩ := hbs.ce
  obtain ⟨va, vl, vc⟩ := vo
  obtain ⟨ta, tl, tc⟩ := vt
  rw [show (SV.mk va vl vc).val = .slice va vl vc from rfl, show (SV.mk ta tl tc).val = .slice ta tl tc from rfl] at HBS HE hwb
  rw [show (SV.mk va vl vc).val = .slice va vl vc from rfl] at b0
  rw [show (SV.mk ta tl tc).val = .slice ta tl tc from rfl] at b1
  unfold stV at ka ⊢
  rw [show (SV.mk va vl vc).val = .slice va vl vc from rfl, show (SV.mk ta tl tc).val = .slice ta tl tc from rfl] at ka ⊢
  unfold deV
  clear h hB hbs hbd hbr hm hsz
  go_enter Tryz.func26, Tryz.ntmps26
  go_upto_region 1 with fail
  rw [← hwb]
  clear hwb
  go_wp2_with fail
  refine ka.mono ?_
  rintro e w2 ⟨rfl, hB2⟩
  obtain ⟨b0, b1⟩ := HBS.out w2 hB2
  obtain ⟨k1, k2, k3⟩ := HE.out w2 hB2
  obtain ⟨r0, r1⟩ := k1.ce
  obtain ⟨f0, f1⟩ := k1.fz
  have HF := (show Hid _ from And.intro k2 k3)
  clear ka hB2 HE HBS k1 k2 k3
  unfold SV.nil SV.val at r0 r1
  simp only at r0 r1
  go_wp2_with fail
  refine bodyPost_ret (res1 rfl _ _ (w.heap.size + 2) 28 _ (0, 0) _ rfl HF.out.1 Tryz.underlying28 rfl (by kernel_rfl)) rfl ?_
  exact ⟨rfl, HF.out.2⟩
end
end Go.Proofs.YtkpdpdllbnihgaaGreat.Hp
