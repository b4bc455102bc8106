/- MM, VR, MN, VS -/
import Derived.Test.YtkpdpdllbnihgaaGreatB19
import Derived.Test.YtkpdpdllbnihgaaGreatB16
set_option linter.unusedVariables false
set_option linter.unusedSimpArgs false
set_option maxRecDepth 100000
set_option maxHeartbeats 40000000
/- The document's Shut. -/
namespace Go.Proofs.YtkpdpdllbnihgaaGreat.Hp
open Go.RowKit
section
variable {w W W' w' w1 : World} {B b n : Nat} {tg : Nat → Nat} {S S' : List So} {vo vt : SV} {qs : List QV} {i : Nat} {x x' : So} {q : QV}
theorem boxS2 (w : World) (vo vt : SV) : BxS ((w.alloc (.cells #[vo.val, vt.val] 28)).alloc (.cells #[.slice none 0 0, .slice none 0 0] 28)) w.heap.size vo vt ∧ BxS ((w.alloc (.cells #[vo.val, vt.val] 28)).alloc (.cells #[.slice none 0 0, .slice none 0 0] 28)) (w.heap.size + 1) .nil .nil ∧ Below w.heap.size w ((w.alloc (.cells #[vo.val, vt.val] 28)).alloc (.cells #[.slice none 0 0, .slice none 0 0] 28)) :=
  ⟨at_old _ _ _ _ (at_new _ _), at_two w _ _, B2 w _ _⟩
/-- the result is stored behind what was done -/
theorem st_res {W0 : World} (h0 : StAt w B tg S vo qs) (hb : Below w.heap.size w W0) (hr : BxS W0 (w.heap.size + 1) .nil .nil) (hp : SWent W0 B tg S' vo W) (vt : SV) :
    BxS W (w.heap.size + 1) .nil .nil ∧ BxS ((W.setCell ⟨w.heap.size + 1, 0, none⟩ vo.val).setCell ⟨w.heap.size + 1, 1, none⟩ vt.val) (w.heap.size + 1) vo vt ∧ SWent w B tg S' vo ((W.setCell ⟨w.heap.size + 1, 0, none⟩ vo.val).setCell ⟨w.heap.size + 1, 1, none⟩ vt.val) := by
  have hz0 : tg (w.heap.size + 1) = 0 := by
    rcases Nat.eq_zero_or_pos (tg (w.heap.size + 1)) with e | e
    · exact e
    · have := (h0.lt _ (by omega : tg (w.heap.size + 1) ≠ 0)).2
      omega
  have hlt := hr.lt
  obtain ⟨tg', qs', g1, g2, g3⟩ := hp
  have hr2 := hr.kept g2 (fun r => r hz0)
  have z0 := heap_setCell_same _ (w.heap.size + 1) 0 _ _ vo.val hr2
  have z1 := heap_setCell_same _ (w.heap.size + 1) 1 _ _ vt.val z0
  refine ⟨hr2, z1, ?_⟩
  have hc : Chg (fun b => b = w.heap.size + 1) W ((W.setCell ⟨w.heap.size + 1, 0, none⟩ vo.val).setCell ⟨w.heap.size + 1, 1, none⟩ vt.val) :=
    (Chg.set (S := fun b => b = w.heap.size + 1) W ⟨w.heap.size + 1, 0, none⟩ vo.val rfl).trans (Chg.set (S := fun b => b = w.heap.size + 1) _ ⟨w.heap.size + 1, 1, none⟩ vt.val rfl) (fun _ _ e => e)
  have hz : tg' (w.heap.size + 1) = 0 := by
    rcases Nat.eq_zero_or_pos (tg' (w.heap.size + 1)) with e | e
    · exact e
    · rcases g3 _ (by omega : tg' (w.heap.size + 1) ≠ 0) with c | c
      · exact absurd hz0 c
      · omega
  refine ⟨tg', qs', g1.kept hc (fun b r e => r (by rw [e]; exact hz)), ((Chg.of_below (S := fun b => tg b ≠ 0) hb).trans g2 (fun _ _ r => r)).trans hc (fun b hb2 e => by omega), fun b r => (g3 b r).imp id (fun r => Nat.le_trans hb.size r)⟩
theorem soP_shut : ∀ (W : World) (O : Nat → Prop) (c : Nat), SoP W B O x q c → SoP W B O { x with shut := true } q c
  | _, _, 0, h => h
  | _, _, 1, h => h
  | _, _, 2, h => h
  | _, _, _ + 3, h => h
set_option maxRecDepth 100000 in
set_option maxHeartbeats 1000000 in
theorem rshut_hit (h : StAt w B tg S vo qs) (vt : SV) (hi : S[i]? = some x) :
    Calls Tryz.prog 37 #[stV vo vt, .int .u64 (objW (i : Int))] w fun e w' => e = .returned (stV vo vt) ∧ SWent w B tg (S.set i { x with shut := true }) vo w' := by
  obtain ⟨wb, hwb⟩ : ∃ wb, wb = (w.alloc (.cells #[vo.val, vt.val] 28)).alloc (.cells #[.slice none 0 0, .slice none 0 0] 28) := ⟨_, rfl⟩
  obtain ⟨hbs, hbr, hB⟩ := boxS2 w vo vt
  rw [← hwb] at hbs hbr hB
  have hil : i < S.length := (List.getElem?_eq_some_iff.1 hi).1
  have h2 := h.below hB
  have ka := rat_any h2 vt hil
  obtain ⟨g, cap, q, hv, hq, t1, hgl, hcell, hfz, hl1, hl2, hrow⟩ := h2.obj hi
  have hbig := h.big
  have hsame := h.same x (List.mem_of_getElem? hi)
  have HN : Hid (∀ W, Below wb.heap.size wb W → (W.cell? ⟨w.heap.size, 0, none⟩ = some vo.val ∧ W.cell? ⟨w.heap.size, 1, none⟩ = some vt.val) ∧ (∀ j u, (soC (x, q))[j]? = some u → W.cell? ⟨g, i * 7 + j, none⟩ = some u)) := fun W r => ⟨(hbs.below r).ce, fun j u hj => cells_below r _ _ (hcell j u hj)⟩
  have HW : Hid (∀ W, Below wb.heap.size wb W → Calls Tryz.prog 73 #[stV vo vt, .int .i64 (i : Int), soV ({ x with shut := true }, q)] W fun e w' => e = .returned (stV vo vt) ∧ SWent W B tg (S.set i { x with shut := true }) vo w') := fun W r => with_same (h2.below r) vt hi hq soP_shut hsame
  have HE : Hid (∀ W0 W', Below wb.heap.size wb W0 → SWent W0 B tg (S.set i { x with shut := true }) vo W' → BxS W' (w.heap.size + 1) .nil .nil ∧ BxS ((W'.setCell ⟨w.heap.size + 1, 0, none⟩ vo.val).setCell ⟨w.heap.size + 1, 1, none⟩ vt.val) (w.heap.size + 1) vo vt ∧ SWent w B tg (S.set i { x with shut := true }) vo ((W'.setCell ⟨w.heap.size + 1, 0, none⟩ vo.val).setCell ⟨w.heap.size + 1, 1, none⟩ vt.val)) := fun W0 W' r s => st_res h (bel_sm' hB r) (hbr.below r) s vt
  have hii : (i : Int) < (S.length : Int) := by omega
  have hsl : (S.length : Int) ≤ 65536 := by omega
  obtain ⟨b0, b1⟩ := hbs.ce
  have h0i : ¬ ((i : Int) < 0) := by omega
  have hvv : vo.val = .slice (some ⟨g, 0, none⟩) S.length cap := by rw [hv]; rfl
  have HVV : Hid (vo.val = .slice (some ⟨g, 0, none⟩) S.length cap) := hvv
  have HXE : Hid (x = ⟨x.kind, x.proto, x.shut, x.nm, x.ds, x.el, x.inn⟩) := rfl
  unfold stV at ka ⊢
  rw [hvv] at hwb ka b0 ⊢
  rw [show vt.val = .slice vt.ad vt.len vt.cap from rfl] at *
  generalize objW (i : Int) = o at *
  clear h h2 hB hbs hbr hq t1 hgl hcell hfz hrow hi hsame hil hbig hv hvv
  go_enter Tryz.func37, Tryz.ntmps37
  go_upto_region 1 with fail
  rw [← hwb]
  clear hwb
  go_wp2_with fail
  refine ka.mono ?_
  rintro e w2 ⟨rfl, hB2⟩
  obtain ⟨⟨b0, b1⟩, hc⟩ := HN.out w2 hB2
  rw [HVV.out] at b0
  have c0 := hc 0 _ rfl
  have c1 := hc 1 _ rfl
  have c2 := hc 2 _ rfl
  have c3 := hc 3 _ rfl
  have c4 := hc 4 _ rfl
  have c5 := hc 5 _ rfl
  have c6 := hc 6 _ rfl
  simp only [Nat.add_zero] at c0 c3 c4 c5 c6
  unfold SV.val at c3 c4 c5 c6
  simp only at c0 c1 c2 c3 c4 c5 c6
  have HB2 : Hid (Below wb.heap.size wb w2) := hB2
  clear ka hB2 hc
  have HO3 : Hid (BxO (w2.alloc (.cells #[.int .i64 x.kind, .int .u64 x.proto, .bool x.shut, .slice q.vn.ad q.vn.len q.vn.cap, .slice q.vd.ad q.vd.len q.vd.cap, .slice q.ve.ad q.ve.len q.ve.cap, .slice q.vi.ad q.vi.len q.vi.cap] 45)) w2.heap.size (x, q)) := BxO.new w2 (x, q)
  have HB3 : Hid (Below wb.heap.size wb (w2.alloc (.cells #[.int .i64 x.kind, .int .u64 x.proto, .bool x.shut, .slice q.vn.ad q.vn.len q.vn.cap, .slice q.vd.ad q.vd.len q.vd.cap, .slice q.ve.ad q.ve.len q.ve.cap, .slice q.vi.ad q.vi.len q.vi.cap] 45)) ∧ wb.heap.size ≤ w2.heap.size) := ⟨bel_sm' HB2.out ((Below.refl _ _).alloc (Nat.le_refl _) _), HB2.out.size⟩
  clear HB2
  go_upto_region 5 with fail
  generalize w2.alloc (.cells #[.int .i64 x.kind, .int .u64 x.proto, .bool x.shut, .slice q.vn.ad q.vn.len q.vn.cap, .slice q.vd.ad q.vd.len q.vd.cap, .slice q.ve.ad q.ve.len q.ve.cap, .slice q.vi.ad q.vi.len q.vi.cap] 45) = w3 at *
  generalize w2.heap.size = bo at *
  have e2 := HO3.out.fz 2
  have e3 : w3.cell? ⟨bo, 2, none⟩ = some (.bool x.shut) := HO3.out.ce.2.2.1
  have HO4 : Hid (BxO (w3.setCell ⟨bo, 2, none⟩ (.bool true)) bo ({ x with shut := true }, q)) := heap_setCell_same _ bo 2 _ _ (.bool true) HO3.out
  have HB4 : Hid (Below wb.heap.size wb (w3.setCell ⟨bo, 2, none⟩ (.bool true))) := HB3.out.1.setCell HB3.out.2 _
  clear c0 c1 c2 c3 c4 c5 c6 b0 b1 HB3 HO3
  go_upto_region 6 with fail
  generalize w3.setCell ⟨bo, 2, none⟩ (.bool true) = w4 at *
  obtain ⟨⟨b0, b1⟩, _⟩ := HN.out w4 HB4.out
  rw [HVV.out] at b0
  obtain ⟨c0, c1, c2, c3, c4, c5, c6⟩ := HO4.out.ce
  unfold SV.val at c3 c4 c5 c6
  simp only at c0 c1 c2 c3 c4 c5 c6
  have kw := HW.out w4 HB4.out
  unfold stV soV at kw
  rw [HVV.out, show vt.val = .slice vt.ad vt.len vt.cap from rfl] at kw
  unfold SV.val at kw
  simp only at kw
  clear HN HW HO4 e2 e3
  go_wp2_with fail
  refine kw.mono ?_
  rintro e w5 ⟨rfl, hs5⟩
  obtain ⟨k1, k2, k3⟩ := HE.out w4 w5 HB4.out hs5
  obtain ⟨r0, r1⟩ := k1.ce
  obtain ⟨f0, f1⟩ := k1.fz
  rw [HVV.out] at k2 k3
  have HF := (show Hid _ from And.intro k2 k3)
  clear kw hs5 HE HB4 k1 k2 k3 b0 b1 c0 c1 c2 c3 c4 c5 c6
  unfold SV.nil SV.val at r0 r1
  simp only at r0 r1
  go_wp2_with fail
  refine bodyPost_ret (res1 rfl _ _ (w.heap.size + 1) 28 _ (0, 0) _ rfl HF.out.1 Tryz.underlying28 rfl (by kernel_rfl)) rfl ?_
  exact ⟨by rw [HVV.out]; rfl, HF.out.2⟩
end
end Go.Proofs.YtkpdpdllbnihgaaGreat.Hp
/- The document's with, where an object's rows were laid anew. -/
namespace Go.Proofs.YtkpdpdllbnihgaaGreat.Hp
open Go.RowKit
section
variable {w W W' w' w1 : World} {B b n : Nat} {tg : Nat → Nat} {S : List So} {vo vt : SV} {qs : List QV} {i : Nat} {N : Nat → Nat} {y : So × QV} {x : So} {q : QV}
theorem with_pus (h0 : StAt w B tg S vo qs) (vt : SV) (hi : S[i]? = some x) (hq : qs[i]? = some q) (hp : PuS w W B tg i N y) (hl : y.1.ds.length = y.1.nm.length) :
    Calls Tryz.prog 73 #[stV vo vt, .int .i64 (i : Int), soV y] W fun e w' => e = .returned (stV vo vt) ∧ SWent w B tg (S.set i y.1) vo w' := by
  have hil : i < S.length := (List.getElem?_eq_some_iff.1 hi).1
  obtain ⟨g, cap, q', hv, hq', t1, hgl, hcell, hfz, hl1, hl2, hrow⟩ := h0.obj hi
  have hcel : CelO W g (i * 7) := (h0.celO hi hv).kept hp.chg (fun r => by obtain ⟨c, hc, r⟩ := r; omega)
  have k := with_any (cap := cap) vt i hcel hil h0.big y
  rw [← hv] at k
  refine k.mono ?_
  rintro e w' ⟨rfl, w5, hB5, hC⟩
  have hp5 := hp.below hB5
  obtain ⟨k1, k2⟩ := h0.set' hi hq hv hp5.chg y.1 y.2 N hp5.new hp5.rows hl
  have hsz : w.heap.size ≤ W.heap.size := hp.chg.size
  have hz : ∀ b, ntg tg N w.heap.size b ≠ 0 → b ≠ W.heap.size + 2 := fun b r => by
    unfold ntg at r
    by_cases cb : b < w.heap.size
    · omega
    · rw [if_neg cb] at r
      have h2 := hp.new b r
      omega
  have k3 := k1.kept hC (fun b r s => hz b r s)
  refine ⟨rfl, SWent.ntg k3 (k2.trans hC (fun b hb e => ?_))⟩
  omega
end
end Go.Proofs.YtkpdpdllbnihgaaGreat.Hp
/- The document's Shut of any word. -/
namespace Go.Proofs.YtkpdpdllbnihgaaGreat.Hp
open Go.RowKit
section
variable {w W W' w' w1 : World} {B b n : Nat} {tg : Nat → Nat} {S S' : List So} {vo vt : SV} {qs : List QV} {i : Nat} {x x' : So} {q : QV}
set_option maxRecDepth 100000 in
set_option maxHeartbeats 1000000 in
theorem rshut_miss (h : StAt w B tg S vo qs) (vt : SV) (o : Int) (o0 : 0 ≤ o) (o1 : o < 18446744073709551616) (hm : obS S o = none) :
    Calls Tryz.prog 37 #[stV vo vt, .int .u64 o] w fun e w' => e = .returned (stV vo vt) ∧ SWent w B tg S vo w' := by
  obtain ⟨wb, hwb⟩ : ∃ wb, wb = (w.alloc (.cells #[vo.val, vt.val] 28)).alloc (.cells #[.slice none 0 0, .slice none 0 0] 28) := ⟨_, rfl⟩
  obtain ⟨hbs, hbr, hB⟩ := boxS2 w vo vt
  rw [← hwb] at hbs hbr hB
  have ka := rat_miss (h.below hB) vt o o0 o1 hm
  have HBS : Hid (∀ W, Below wb.heap.size wb W → W.cell? ⟨w.heap.size, 0, none⟩ = some vo.val ∧ W.cell? ⟨w.heap.size, 1, none⟩ = some vt.val) := fun W r => (hbs.below r).ce
  have HE : Hid (∀ W, Below wb.heap.size wb W → BxS W (w.heap.size + 1) .nil .nil ∧ BxS ((W.setCell ⟨w.heap.size + 1, 0, none⟩ vo.val).setCell ⟨w.heap.size + 1, 1, none⟩ vt.val) (w.heap.size + 1) vo vt ∧ SWent w B tg S vo ((W.setCell ⟨w.heap.size + 1, 0, none⟩ vo.val).setCell ⟨w.heap.size + 1, 1, none⟩ vt.val)) := fun W r => st_res h (bel_sm' hB r) (hbr.below r) (SWent.same (h.below (bel_sm' hB r)) (Below.refl _ _)) vt
  obtain ⟨b0, b1⟩ := hbs.ce
  obtain ⟨va, vl, vc⟩ := vo
  obtain ⟨ta, tl, tc⟩ := vt
  rw [show (SV.mk va vl vc).val = .slice va vl vc from rfl, show (SV.mk ta tl tc).val = .slice ta tl tc from rfl] at HBS HE hwb
  rw [show (SV.mk va vl vc).val = .slice va vl vc from rfl] at b0
  rw [show (SV.mk ta tl tc).val = .slice ta tl tc from rfl] at b1
  unfold stV at ka ⊢
  rw [show (SV.mk va vl vc).val = .slice va vl vc from rfl, show (SV.mk ta tl tc).val = .slice ta tl tc from rfl] at ka ⊢
  clear h hB hbs hbr hm
  go_enter Tryz.func37, Tryz.ntmps37
  go_upto_region 1 with fail
  rw [← hwb]
  clear hwb
  go_wp2_with fail
  refine ka.mono ?_
  rintro e w2 ⟨rfl, hB2⟩
  obtain ⟨b0, b1⟩ := HBS.out w2 hB2
  obtain ⟨k1, k2, k3⟩ := HE.out w2 hB2
  obtain ⟨r0, r1⟩ := k1.ce
  obtain ⟨f0, f1⟩ := k1.fz
  have HF := (show Hid _ from And.intro k2 k3)
  clear ka hB2 HE HBS k1 k2 k3
  unfold SV.nil SV.val at r0 r1
  simp only at r0 r1
  go_wp2_with fail
  refine bodyPost_ret (res1 rfl _ _ (w.heap.size + 1) 28 _ (0, 0) _ rfl HF.out.1 Tryz.underlying28 rfl (by kernel_rfl)) rfl ?_
  exact ⟨rfl, HF.out.2⟩
end
end Go.Proofs.YtkpdpdllbnihgaaGreat.Hp
/- The document's SetInner. -/
namespace Go.Proofs.YtkpdpdllbnihgaaGreat.Hp
open Go.RowKit
section
variable {w W W' w' w1 : World} {B b n : Nat} {tg : Nat → Nat} {S S' : List So} {vo vt : SV} {qs : List QV} {i : Nat} {x x' : So} {q : QV}
/-- a row that was laid anew (v: what it is now) takes the place of an object's c-th -/
theorem PuS.fresh {W0 : World} {N : Nat → Nat} {y y' : So × QV} (hp : PuS W0 W B tg i N y) {c0 : Nat} (hc0 : c0 < 4) (hc : Chg (fun _ => False) W W') {v' : Value} {g : Nat} (hg : v'.ownBlock = some g) (hg0 : W.heap.size ≤ g) (hg1 : g < W'.heap.size)
    (hrow : ∀ O : Nat → Prop, (∀ b, v'.ownBlock = some b → O b) → SoP W' B O y'.1 y'.2 c0) (hsame : ∀ c (O : Nat → Prop), c < 4 → c ≠ c0 → SoP W' B O y.1 y.2 c → SoP W' B O y'.1 y'.2 c) :
    PuS W0 W' B tg i (nuN W0 N v' (2 + 4 * i + c0)) y' :=
  hp.row hc0 (v := .slice none 0 0) (fun b s => by simp [Value.ownBlock] at s) (hc.mono (fun b r => r.elim)) (Or.inr ⟨g, hg0, hg1, hg⟩) y' hrow hsame
set_option maxRecDepth 100000 in
set_option maxHeartbeats 1000000 in
theorem rinner_hit (h : StAt w B tg S vo qs) (vt : SV) (hi : S[i]? = some x) {la : Option Addr} {lc : Nat} {xs : List Int} (hl : Sli.ok wC 1 w ⟨la, lc, xs⟩) (hx : xs.length ≤ 2000000) :
    Calls Tryz.prog 39 #[stV vo vt, .int .u64 (objW (i : Int)), .slice la xs.length lc] w fun e w' => e = .returned (stV vo vt) ∧ SWent w B tg (S.set i { x with inn := xs }) vo w' := by
  obtain ⟨wb, hwb⟩ : ∃ wb, wb = (w.alloc (.cells #[vo.val, vt.val] 28)).alloc (.cells #[.slice none 0 0, .slice none 0 0] 28) := ⟨_, rfl⟩
  obtain ⟨hbs, hbr, hB⟩ := boxS2 w vo vt
  rw [← hwb] at hbs hbr hB
  have hil : i < S.length := (List.getElem?_eq_some_iff.1 hi).1
  have h2 := h.below hB
  have ka := rat_any h2 vt hil
  obtain ⟨g, cap, q, hv, hq, t1, hgl, hcell, hfz, hl1, hl2, hrow⟩ := h2.obj hi
  have hbig := h.big
  have hsame := h.same x (List.mem_of_getElem? hi)
  have HBw : Hid (B ≤ wb.heap.size) := by show _ ≤ _; have := h2.lt g (by omega); omega
  have HN : Hid (∀ W, Below wb.heap.size wb W → (W.cell? ⟨w.heap.size, 0, none⟩ = some vo.val ∧ W.cell? ⟨w.heap.size, 1, none⟩ = some vt.val) ∧ (∀ j u, (soC (x, q))[j]? = some u → W.cell? ⟨g, i * 7 + j, none⟩ = some u)) := fun W r => ⟨(hbs.below r).ce, fun j u hj => cells_below r _ _ (hcell j u hj)⟩
  have HBS : Hid (∀ W, Below wb.heap.size wb W → BxS W w.heap.size vo vt ∧ Sli.ok wC 1 W ⟨la, lc, xs⟩) := fun W r => ⟨hbs.below r, hl.kept (cells_below (bel_sm' hB r))⟩
  have HP : Hid (∀ W, Below wb.heap.size wb W → PuS wb W B tg i (fun _ => 0) (x, q)) := fun W r => (h2.pus hi hq).below r
  have HW : Hid (∀ W N y, PuS wb W B tg i N y → y.1.ds.length = y.1.nm.length → Calls Tryz.prog 73 #[stV vo vt, .int .i64 (i : Int), soV y] W fun e w' => e = .returned (stV vo vt) ∧ SWent wb B tg (S.set i y.1) vo w') := fun W N y a b => with_pus h2 vt hi hq a b
  have HE : Hid (∀ S' W', SWent wb B tg S' vo W' → BxS W' (w.heap.size + 1) .nil .nil ∧ BxS ((W'.setCell ⟨w.heap.size + 1, 0, none⟩ vo.val).setCell ⟨w.heap.size + 1, 1, none⟩ vt.val) (w.heap.size + 1) vo vt ∧ SWent w B tg S' vo ((W'.setCell ⟨w.heap.size + 1, 0, none⟩ vo.val).setCell ⟨w.heap.size + 1, 1, none⟩ vt.val)) := fun S' W' s => st_res h hB hbr s vt
  have HLO : Hid (w.heap.size < wb.heap.size ∧ x.ds.length = x.nm.length) := ⟨hbs.lt, hsame⟩
  have hii : (i : Int) < (S.length : Int) := by omega
  have hsl : (S.length : Int) ≤ 65536 := by omega
  obtain ⟨b0, b1⟩ := hbs.ce
  have h0i : ¬ ((i : Int) < 0) := by omega
  have hvv : vo.val = .slice (some ⟨g, 0, none⟩) S.length cap := by rw [hv]; rfl
  have HVV : Hid (vo.val = .slice (some ⟨g, 0, none⟩) S.length cap) := hvv
  unfold stV at ka ⊢
  rw [hvv] at hwb ka b0 ⊢
  rw [show vt.val = .slice vt.ad vt.len vt.cap from rfl] at *
  generalize objW (i : Int) = o at *
  clear h h2 hB hbs hbr hq t1 hgl hcell hfz hrow hi hsame hil hbig hv hvv hl
  go_enter Tryz.func39, Tryz.ntmps39
  go_upto_region 1 with fail
  rw [← hwb]
  clear hwb
  go_wp2_with fail
  refine ka.mono ?_
  rintro e w2 ⟨rfl, hB2⟩
  obtain ⟨⟨b0, b1⟩, hc⟩ := HN.out w2 hB2
  rw [HVV.out] at b0
  have c0 := hc 0 _ rfl
  have c1 := hc 1 _ rfl
  have c2 := hc 2 _ rfl
  have c3 := hc 3 _ rfl
  have c4 := hc 4 _ rfl
  have c5 := hc 5 _ rfl
  have c6 := hc 6 _ rfl
  simp only [Nat.add_zero] at c0 c3 c4 c5 c6
  unfold SV.val at c3 c4 c5 c6
  simp only at c0 c1 c2 c3 c4 c5 c6
  have HB2 : Hid (Below wb.heap.size wb w2) := hB2
  clear ka hB2 hc
  have HO3 : Hid (BxO (w2.alloc (.cells #[.int .i64 x.kind, .int .u64 x.proto, .bool x.shut, .slice q.vn.ad q.vn.len q.vn.cap, .slice q.vd.ad q.vd.len q.vd.cap, .slice q.ve.ad q.ve.len q.ve.cap, .slice q.vi.ad q.vi.len q.vi.cap] 45)) w2.heap.size (x, q)) := BxO.new w2 (x, q)
  have HB3 : Hid (Below wb.heap.size wb (w2.alloc (.cells #[.int .i64 x.kind, .int .u64 x.proto, .bool x.shut, .slice q.vn.ad q.vn.len q.vn.cap, .slice q.vd.ad q.vd.len q.vd.cap, .slice q.ve.ad q.ve.len q.ve.cap, .slice q.vi.ad q.vi.len q.vi.cap] 45)) ∧ wb.heap.size ≤ w2.heap.size) := ⟨bel_sm' HB2.out ((Below.refl _ _).alloc (Nat.le_refl _) _), HB2.out.size⟩
  clear HB2
  go_upto_region 5 with fail
  generalize w2.alloc (.cells #[.int .i64 x.kind, .int .u64 x.proto, .bool x.shut, .slice q.vn.ad q.vn.len q.vn.cap, .slice q.vd.ad q.vd.len q.vd.cap, .slice q.ve.ad q.ve.len q.ve.cap, .slice q.vi.ad q.vi.len q.vi.cap] 45) = w3 at *
  generalize w2.heap.size = bo at *
  have HAL : Hid (Below w3.heap.size w3 (w3.alloc (.cells #[] 33))) := (Below.refl _ _).alloc (Nat.le_refl _) _
  have HSZ : Hid (B ≤ (w3.alloc (.cells #[] 33)).heap.size ∧ B ≤ w3.heap.size) := ⟨Nat.le_trans HBw.out (Nat.le_trans HB3.out.1.size HAL.out.size), Nat.le_trans HBw.out HB3.out.1.size⟩
  have HEM : Hid (OwnR wC 1 33 B (w3.alloc (.cells #[] 33)) (.slice (some ⟨w3.heap.size, 0, none⟩) 0 0) []) := empty_own (at_new _ _) HSZ.out.2
  have HSL : Hid (Sli.ok wC 1 (w3.alloc (.cells #[] 33)) ⟨la, lc, xs⟩) := (HBS.out _ HB3.out.1).2.kept (cells_below HAL.out)
  have HBX : Hid ((((([] : List Int).length + xs.length) + (([] : List Int).length + xs.length) / 4 + 192) * 8 ≤ 281474976710656) ∧ ([] : List Int).length + xs.length ≤ maxLen) := by simp only [List.length_nil, Nat.zero_add]; exact ⟨by omega, by unfold maxLen; omega⟩
  clear c0 c1 c2 c3 c4 c5 c6 b0 b1 HN
  obtain ⟨_, _, _, _, _, _, o6⟩ := HO3.out.ce
  have o6 := cells_below HAL.out _ _ o6
  go_wp2_with (at_builtin; refine app_row rtW rfl _ _ rfl B (.slice (some ⟨w3.heap.size, 0, none⟩) 0 0) [] (by rfl) HEM.out ⟨la, lc, xs⟩ (by rfl) HSL.out HBX.out.2 HBX.out.1 HSZ.out.1 ?_)
  intro v7 w7 ho7 hg7 hl7
  obtain ⟨g7, hb7, hg7'⟩ : ∃ g7, v7.ownBlock = some g7 ∧ w3.heap.size ≤ g7 := by
    rcases hl7 with e | e
    · exact ⟨w3.heap.size, by rw [e]; rfl, Nat.le_refl _⟩
    · exact ⟨_, e, by first | exact HAL.out.size | exact Nat.le_succ _⟩
  have hch : Chg (fun _ => False) w3 w7 := ⟨by rw [hg7.os]; rfl, by rw [hg7.tape]; rfl, by rw [hg7.output]; rfl, Nat.le_trans HAL.out.size hg7.size, fun b hb _ => by rw [hg7.block b (Nat.lt_of_lt_of_le hb HAL.out.size) (by intro e; have e : w3.heap.size = b := (by simpa [Value.ownBlock] using e.symm); omega)]; exact HAL.out.block b hb⟩
  have ho7 : OwnR wC 1 33 B w7 v7 xs := ho7
  obtain ⟨⟨sa, sc, sx⟩, hv7, hsx, _, _⟩ := ho7.sl rtW.len
  simp only at hsx
  subst hsx
  change v7 = .slice sa sx.length sc at hv7
  subst hv7
  have hp7 := (HP.out w3 HB3.out.1).fresh (c0 := 3) (by omega) hch hb7 hg7' (OwnR.lt ho7 g7 hb7).2 (y' := ({ x with inn := sx }, { q with vi := ⟨sa, sx.length, sc⟩ })) (fun O hO => ⟨ho7, hO⟩) (fun c O hc4 hcn hs => by
    rcases (show c = 0 ∨ c = 1 ∨ c = 2 by omega) with rfl | rfl | rfl
    · exact hs
    · exact hs
    · exact hs)
  have hO7 := HO3.out.kept hch (fun r => r)
  have hbo := hO7.lt
  have hbo3 := HO3.out.lt
  have hlo := HB3.out.2
  have hset : Chg (fun b => b = bo) w7 (w7.setCell ⟨bo, 6, none⟩ (.slice sa sx.length sc)) := Chg.set (S := fun b => b = bo) w7 ⟨bo, 6, none⟩ _ rfl
  have hp8 := hp7.own hset (fun b _ r => by
    subst r
    refine ⟨hlo, ?_⟩
    unfold nuN
    rw [if_neg]
    rintro ⟨e, _⟩
    rw [hb7] at e
    have := Option.some.inj e
    omega)
  have HP8 := (show Hid _ from hp8)
  have HO8 : Hid (BxO (w7.setCell ⟨bo, 6, none⟩ (.slice sa sx.length sc)) bo ({ x with inn := sx }, { q with vi := ⟨sa, sx.length, sc⟩ })) := heap_setCell_same _ bo 6 _ _ _ hO7
  have HS8 : Hid (BxS (w7.setCell ⟨bo, 6, none⟩ (.slice sa sx.length sc)) w.heap.size vo vt) := ((HBS.out w3 HB3.out.1).1.kept hch (fun r => r)).kept hset (by have := HLO.out.1; omega)
  have e2 := hO7.fz 6
  obtain ⟨_, _, _, _, _, _, o6⟩ := hO7.ce
  clear hp7 hO7 hbo hbo3 hlo hset hp8 ho7 hg7 hl7 hb7 hg7' hch HAL HSZ HEM HSL HBX HB3 HO3 HP HBS
  go_upto_region 6 with fail
  generalize w7.setCell ⟨bo, 6, none⟩ (.slice sa sx.length sc) = w8 at *
  obtain ⟨b0, b1⟩ := HS8.out.ce
  rw [HVV.out] at b0
  obtain ⟨c0, c1, c2, c3, c4, c5, c6⟩ := HO8.out.ce
  have kw := HW.out w8 _ _ HP8.out HLO.out.2
  unfold stV soV at kw
  rw [HVV.out] at kw
  unfold SV.val at c3 c4 c5 c6 kw b1
  simp only at c0 c1 c2 c3 c4 c5 c6 kw
  clear HW HO8 HS8 HP8 e2 o6
  go_wp2_with fail
  refine kw.mono ?_
  rintro e w5 ⟨rfl, hs5⟩
  obtain ⟨k1, k2, k3⟩ := HE.out _ w5 hs5
  obtain ⟨r0, r1⟩ := k1.ce
  obtain ⟨f0, f1⟩ := k1.fz
  rw [HVV.out] at k2 k3
  have HF := (show Hid _ from And.intro k2 k3)
  clear kw hs5 HE k1 k2 k3 b0 b1 c0 c1 c2 c3 c4 c5 c6
  unfold SV.nil SV.val at r0 r1
  simp only at r0 r1
  go_wp2_with fail
  refine bodyPost_ret (res1 rfl _ _ (w.heap.size + 1) 28 _ (0, 0) _ rfl HF.out.1 Tryz.underlying28 rfl (by kernel_rfl)) rfl ?_
  exact ⟨by rw [HVV.out]; rfl, HF.out.2⟩
end
end Go.Proofs.YtkpdpdllbnihgaaGreat.Hp
