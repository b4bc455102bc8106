/- The document's with. -/
import Derived.Test.YtahhionlbfhinaaGreatDoorB15
namespace Go.Proofs.YtahhionlbfhinaaGreatDoor.Hp
open Go.RowKit
set_option linter.unusedVariables false

section
variable {w W W' w' w1 : World} {B b n : Nat} {tg : Nat → Nat} {S : List So} {vo vt : SV} {qs : List QV}

/-- the world in which with lays an object: its three boxes -/
def wWi (w : World) (vo vt : SV) (y : So × QV) : World := ((w.alloc (.cells #[vo.val, vt.val] 28)).alloc (.cells #[.int .i64 y.1.kind, .int .u64 y.1.proto, .bool y.1.shut, y.2.vn.val, y.2.vd.val, y.2.ve.val, y.2.vi.val] 104)).alloc (.cells #[.slice none 0 0, .slice none 0 0] 28)

theorem wWi_facts (w : World) (vo vt : SV) (y : So × QV) : BxS (wWi w vo vt y) w.heap.size vo vt ∧ BxO (wWi w vo vt y) (w.heap.size + 1) y ∧ BxS (wWi w vo vt y) (w.heap.size + 2) .nil .nil ∧ Below w.heap.size w (wWi w vo vt y) := by
  have s1 : (w.alloc (.cells #[vo.val, vt.val] 28)).heap.size = w.heap.size + 1 := size_new _ _
  have s2 : ((w.alloc (.cells #[vo.val, vt.val] 28)).alloc (.cells #[.int .i64 y.1.kind, .int .u64 y.1.proto, .bool y.1.shut, y.2.vn.val, y.2.vd.val, y.2.ve.val, y.2.vi.val] 104)).heap.size = w.heap.size + 2 := by rw [size_new, s1]
  refine ⟨at_old _ _ _ _ (at_old _ _ _ _ (at_new _ _)), at_old _ _ _ _ (at_two w _ _), ?_, below_new (below_new (below_new (Below.refl _ _) (Nat.le_refl _) _) (by rw [s1]; omega) _) (by rw [s2]; omega) _⟩
  have := at_new ((w.alloc (.cells #[vo.val, vt.val] 28)).alloc (.cells #[.int .i64 y.1.kind, .int .u64 y.1.proto, .bool y.1.shut, y.2.vn.val, y.2.vd.val, y.2.ve.val, y.2.vi.val] 104)) (.cells #[.slice none 0 0, .slice none 0 0] 28)
  rw [s2] at this
  exact this

/-- an object's cells that are there, and may be written -/
def CelO (w : World) (g n : Nat) : Prop := (∀ j, j < 7 → ∃ u, w.cell? ⟨g, n + j, none⟩ = some u) ∧ ∀ j, w.frozen? ⟨g, j, none⟩ = false
theorem StAt.celO (h : StAt w B tg S vo qs) {i g cap : Nat} {x : So} (hi : S[i]? = some x) (hvo : vo = ⟨some ⟨g, 0, none⟩, S.length, cap⟩) : CelO w g (i * 7) := by
  obtain ⟨g', cap', q, hv, hq, t1, hgl, hcell, hfz, hl1, hl2, hrow⟩ := h.obj hi
  rw [hvo] at hv
  injection hv with e1 e2 e3
  injection e1 with e1
  injection e1 with e1
  subst e1
  refine ⟨fun j hj => ?_, hfz⟩
  have : j = 0 ∨ j = 1 ∨ j = 2 ∨ j = 3 ∨ j = 4 ∨ j = 5 ∨ j = 6 := by omega
  rcases this with rfl | rfl | rfl | rfl | rfl | rfl | rfl
  · exact ⟨_, hcell 0 _ rfl⟩
  · exact ⟨_, hcell 1 _ rfl⟩
  · exact ⟨_, hcell 2 _ rfl⟩
  · exact ⟨_, hcell 3 _ rfl⟩
  · exact ⟨_, hcell 4 _ rfl⟩
  · exact ⟨_, hcell 5 _ rfl⟩
  · exact ⟨_, hcell 6 _ rfl⟩
theorem CelO.kept {T : Nat → Prop} {g : Nat} (h : CelO w g n) (hc : Chg T w w') (hn : ¬ T g) : CelO w' g n := by
  have hg : g < w.heap.size := by obtain ⟨u, hu⟩ := h.1 0 (by omega); exact World.block_lt_of_cell? w _ hu
  refine ⟨fun j hj => ?_, fun j => ?_⟩
  · obtain ⟨u, hu⟩ := h.1 j hj
    exact ⟨u, hc.cell hu hn⟩
  · rw [World.frozen?_of_block (w := w) (hc.block g hg hn)]
    exact h.2 j

set_option maxRecDepth 100000 in
set_option maxHeartbeats 2000000 in
theorem with_any {g cap len : Nat} (vt : SV) (i : Nat) (hc : CelO w g (i * 7)) (hil : i < len) (hl : len ≤ 65536) (y : So × QV) :
    Calls Tryz.prog 57 #[stV ⟨some ⟨g, 0, none⟩, len, cap⟩ vt, .int .i64 (i : Int), soV y] w fun e w' => e = .returned (stV ⟨some ⟨g, 0, none⟩, len, cap⟩ vt) ∧ ∃ w5, Below w.heap.size w w5 ∧ Chg (fun b => b = w.heap.size + 2) (st7 w5 g (i * 7) y) w' := by
  obtain ⟨wb, hwb⟩ : ∃ wb, wb = wWi w ⟨some ⟨g, 0, none⟩, len, cap⟩ vt y := ⟨_, rfl⟩
  obtain ⟨hs, ho, hr, hB⟩ := wWi_facts w ⟨some ⟨g, 0, none⟩, len, cap⟩ vt y
  rw [← hwb] at hs ho hr hB
  have hgl : g < w.heap.size := by obtain ⟨u, hu⟩ := hc.1 0 (by omega); exact World.block_lt_of_cell? w _ hu
  have hcb : CelO wb g (i * 7) := hc.kept (Chg.of_below (S := fun _ => False) hB) (fun q => q)
  obtain ⟨b0, b1⟩ := hs.ce
  obtain ⟨y0, y1, y2, y3, y4, y5, y6⟩ := ho.ce
  obtain ⟨u0, g0⟩ := hcb.1 0 (by omega)
  obtain ⟨u1, g1⟩ := hcb.1 1 (by omega)
  obtain ⟨u2, g2⟩ := hcb.1 2 (by omega)
  obtain ⟨u3, g3⟩ := hcb.1 3 (by omega)
  obtain ⟨u4, g4⟩ := hcb.1 4 (by omega)
  obtain ⟨u5, g5⟩ := hcb.1 5 (by omega)
  obtain ⟨u6, g6⟩ := hcb.1 6 (by omega)
  have f0 := hcb.2 (i * 7)
  have f1 := hcb.2 (i * 7 + 1)
  have f2 := hcb.2 (i * 7 + 2)
  have f3 := hcb.2 (i * 7 + 3)
  have f4 := hcb.2 (i * 7 + 4)
  have f5 := hcb.2 (i * 7 + 5)
  have f6 := hcb.2 (i * 7 + 6)
  have HCH : Hid (∀ W, Chg (fun b => b = w.heap.size + 2) (st7 wb g (i * 7) y) W → ∃ w5, Below w.heap.size w w5 ∧ Chg (fun b => b = w.heap.size + 2) (st7 w5 g (i * 7) y) W) := fun W q => ⟨wb, hB, q⟩
  have hch := st7_chg wb g (i * 7) y
  have hs7 := hs.kept hch (show ¬ w.heap.size = g by omega)
  have hr7 := hr.kept hch (show ¬ w.heap.size + 2 = g by omega)
  obtain ⟨e0, e1⟩ := hs7.ce
  obtain ⟨r0, r1⟩ := hr7.ce
  obtain ⟨t0, t1⟩ := hr7.fz
  have HB : Hid (Below w.heap.size w wb) := hB
  have hii : (i : Int) < (len : Int) := by omega
  have hll : (len : Int) ≤ 65536 := by omega
  have hrs := heap_setCell_same _ (w.heap.size + 2) 0 _ _ (SV.mk (some ⟨g, 0, none⟩) len cap).val hr7
  have hrs2 := heap_setCell_same _ (w.heap.size + 2) 1 _ _ vt.val hrs
  have HRS := (show Hid _ from hrs2)
  obtain ⟨⟨kd, pr, sh, nm, ds, el, inn⟩, ⟨⟨na, nl, nc⟩, ⟨da, dl, dc⟩, ⟨ea, el', ec⟩, ⟨ia, il, ic⟩⟩⟩ := y
  obtain ⟨ta, tl, tc⟩ := vt
  have hst : st7 wb g (i * 7) (⟨kd, pr, sh, nm, ds, el, inn⟩, ⟨⟨na, nl, nc⟩, ⟨da, dl, dc⟩, ⟨ea, el', ec⟩, ⟨ia, il, ic⟩⟩) = ((((((wb.setCell ⟨g, i * 7, none⟩ (.int .i64 kd)).setCell ⟨g, i * 7 + 1, none⟩ (.int .u64 pr)).setCell ⟨g, i * 7 + 2, none⟩ (.bool sh)).setCell ⟨g, i * 7 + 3, none⟩ (.slice na nl nc)).setCell ⟨g, i * 7 + 4, none⟩ (.slice da dl dc)).setCell ⟨g, i * 7 + 5, none⟩ (.slice ea el' ec)).setCell ⟨g, i * 7 + 6, none⟩ (.slice ia il ic) := rfl
  generalize st7 wb g (i * 7) (⟨kd, pr, sh, nm, ds, el, inn⟩, ⟨⟨na, nl, nc⟩, ⟨da, dl, dc⟩, ⟨ea, el', ec⟩, ⟨ia, il, ic⟩⟩) = w7 at *
  unfold wWi at hwb
  unfold stV soV
  unfold SV.nil at *
  unfold SV.val at *
  simp only at *
  clear hs ho hr hB hc hcb hch hs7 hr7 hrs hrs2
  go_enter Tryz.func57, Tryz.ntmps57
  go_upto_region 1 with fail
  rw [← hwb]
  clear hwb
  simp only [Nat.add_zero] at g0
  go_upto_region 2 with fail
  rw [← hst]
  clear hst g0 g1 g2 g3 g4 g5 g6 f0 f1 f2 f3 f4 f5 f6 b0 b1 y0 y1 y2 y3 y4 y5 y6
  go_wp2_with fail
  refine bodyPost_ret (res1 rfl _ _ (w.heap.size + 2) 28 _ (0, 0) _ rfl HRS.out Tryz.underlying28 rfl (by kernel_rfl)) rfl ?_
  refine ⟨rfl, HCH.out _ ?_⟩
  exact (Chg.set (S := fun b => b = w.heap.size + 2) w7 ⟨w.heap.size + 2, 0, none⟩ _ rfl).trans (Chg.set (S := fun b => b = w.heap.size + 2) _ ⟨w.heap.size + 2, 1, none⟩ _ rfl) (fun _ _ q => q)

end

end Go.Proofs.YtahhionlbfhinaaGreatDoor.Hp

/- On the way of a Put of the document: an object's rows. -/
namespace Go.Proofs.YtahhionlbfhinaaGreatDoor.Hp
open Go.RowKit
set_option linter.unusedVariables false

/-- an object's rows are being laid anew; N: the tags of new blocks -/
structure PuS (w W : World) (B : Nat) (tg : Nat → Nat) (i : Nat) (N : Nat → Nat) (y : So × QV) : Prop where
  chg : Chg (fun b => ∃ c, c < 4 ∧ tg b = 2 + 4 * i + c) w W
  rows : ∀ c, c < 4 → SoP W B (fun b => ntg tg N w.heap.size b = 2 + 4 * i + c) y.1 y.2 c
  new : ∀ b, N b ≠ 0 → w.heap.size ≤ b ∧ b < W.heap.size ∧ ∃ c, c < 4 ∧ N b = 2 + 4 * i + c

section
variable {w W W' : World} {B : Nat} {tg : Nat → Nat} {S : List So} {vo vt : SV} {qs : List QV} {i : Nat} {N : Nat → Nat} {y : So × QV} {x : So} {q : QV}

theorem StAt.pus (h : StAt w B tg S vo qs) (hi : S[i]? = some x) (hq : qs[i]? = some q) : PuS w w B tg i (fun _ => 0) (x, q) := by
  refine ⟨Chg.refl _ _, fun c hc => SoP.mono c (h.ob i x q c hi hq hc) (fun b hb r => ?_), fun b r => absurd rfl r⟩
  show ntg tg _ w.heap.size b = _
  unfold ntg
  rw [if_pos hb]
  exact r

/-- blocks that are none of its own are written, or laid -/
theorem PuS.own {T : Nat → Prop} (h : PuS w W B tg i N y) (hc : Chg T W W') (hT : ∀ b, b < W.heap.size → T b → w.heap.size ≤ b ∧ N b = 0) : PuS w W' B tg i N y := by
  refine ⟨h.chg.trans hc (fun b hb r => ?_), fun c hc4 => ?_, fun b r => ?_⟩
  · have := hT b (Nat.lt_of_lt_of_le hb h.chg.size) r
    omega
  · have k1 : SoP W B (fun b => ntg tg N w.heap.size b = 2 + 4 * i + c ∧ b < W.heap.size) y.1 y.2 c := SoP.mono c (h.rows c hc4) (fun b hb r => ⟨r, hb⟩)
    refine SoP.mono c (SoP.kept c k1 hc (fun b r s => ?_)) (fun b _ r => r.1)
    have h1 := hT b r.2 s
    have h2 := r.1
    unfold ntg at h2
    rw [if_neg (by omega)] at h2
    omega
  · have h1 := h.new b r
    have h2 := hc.size
    exact ⟨h1.1, by omega, h1.2.2⟩
theorem PuS.below (h : PuS w W B tg i N y) (hb : Below W.heap.size W W') : PuS w W' B tg i N y := h.own (T := fun _ => False) (Chg.of_below hb) (fun _ _ r => r.elim)

/-- the tags, where a row of the part c was laid anew -/
def nuN (w : World) (N : Nat → Nat) (v : Value) (t : Nat) (b : Nat) : Nat := if v.ownBlock = some b ∧ w.heap.size ≤ b then t else N b

/-- its c-th row is another one now -/
theorem PuS.row (h : PuS w W B tg i N y) {c0 : Nat} (hc0 : c0 < 4) {v v' : Value} (hv : ∀ b, v.ownBlock = some b → ntg tg N w.heap.size b = 2 + 4 * i + c0) (hc : Chg (fun b => v.ownBlock = some b) W W') (hn : v'.ownBlock = v.ownBlock ∨ ∃ b, W.heap.size ≤ b ∧ b < W'.heap.size ∧ v'.ownBlock = some b)
    (y' : So × QV) (hrow : ∀ O : Nat → Prop, (∀ b, v'.ownBlock = some b → O b) → SoP W' B O y'.1 y'.2 c0)
    (hsame : ∀ c (O : Nat → Prop), c < 4 → c ≠ c0 → SoP W' B O y.1 y.2 c → SoP W' B O y'.1 y'.2 c) : PuS w W' B tg i (nuN w N v' (2 + 4 * i + c0)) y' := by
  have hvl : ∀ b, v.ownBlock = some b → b < w.heap.size ∧ tg b = 2 + 4 * i + c0 ∨ w.heap.size ≤ b ∧ N b = 2 + 4 * i + c0 := fun b r => by
    have h1 := hv b r
    unfold ntg at h1
    by_cases cb : b < w.heap.size
    · rw [if_pos cb] at h1; exact Or.inl ⟨cb, h1⟩
    · rw [if_neg cb] at h1; exact Or.inr ⟨by omega, h1⟩
  refine ⟨h.chg.trans hc (fun b hb r => ?_), fun c hc4 => ?_, fun b r => ?_⟩
  · rcases hvl b r with q | q
    · exact ⟨c0, hc0, q.2⟩
    · omega
  · by_cases cc : c = c0
    · subst cc
      refine hrow _ (fun b r => ?_)
      show ntg tg _ w.heap.size b = _
      unfold ntg nuN
      by_cases cb : b < w.heap.size
      · rw [if_pos cb]
        rcases hn with e | ⟨b', e1, e2, e3⟩
        · rcases hvl b (by rw [← e]; exact r) with q | q
          · exact q.2
          · omega
        · rw [e3] at r
          have := Option.some.inj r
          have := h.chg.size
          omega
      · rw [if_neg cb, if_pos ⟨r, by omega⟩]
    · have k1 : SoP W B (fun b => ntg tg N w.heap.size b = 2 + 4 * i + c ∧ b < W.heap.size) y.1 y.2 c := SoP.mono c (h.rows c hc4) (fun b hb r => ⟨r, hb⟩)
      have k2 : SoP W' B (fun b => ntg tg N w.heap.size b = 2 + 4 * i + c ∧ b < W.heap.size) y.1 y.2 c := SoP.kept c k1 hc (fun b r s => by
        have h1 := hv b s
        have h2 := r.1
        omega)
      refine hsame c _ hc4 cc (SoP.mono c k2 (fun b _ r => ?_))
      obtain ⟨r, hb⟩ := r
      show ntg tg _ w.heap.size b = _
      unfold ntg at r ⊢
      by_cases cb : b < w.heap.size
      · rw [if_pos cb] at r ⊢; exact r
      · rw [if_neg cb] at r ⊢
        unfold nuN
        rw [if_neg]
        · exact r
        · rintro ⟨e, _⟩
          rcases hn with e' | ⟨b', e1, e2, e3⟩
          · have := hv b (by rw [← e']; exact e)
            unfold ntg at this
            rw [if_neg cb] at this
            omega
          · rw [e3] at e
            have := Option.some.inj e
            omega
  · unfold nuN at r
    by_cases cb : v'.ownBlock = some b ∧ w.heap.size ≤ b
    · refine ⟨cb.2, ?_, c0, hc0, by unfold nuN; rw [if_pos cb]⟩
      rcases hn with e | ⟨b', e1, e2, e3⟩
      · rcases hvl b (by rw [← e]; exact cb.1) with q | q
        · omega
        · have h1 := h.new b (by omega)
          have := hc.size
          omega
      · have h1 := cb.1
        rw [e3] at h1
        have := Option.some.inj h1
        omega
    · rw [if_neg cb] at r
      have h1 := h.new b r
      have h2 := hc.size
      refine ⟨h1.1, by omega, ?_⟩
      unfold nuN
      rw [if_neg cb]
      exact h1.2.2

end

end Go.Proofs.YtahhionlbfhinaaGreatDoor.Hp

/- The document's Get. -/
namespace Go.Proofs.YtahhionlbfhinaaGreatDoor.Hp
open Go.RowKit
set_option linter.unusedVariables false

def getS (x : So) (k : ByteArray) : Option De := (plS x.nm k).bind (fun n => x.ds[n]?)

section
variable {w W W' w' w1 : World} {B b n : Nat} {tg : Nat → Nat} {S : List So} {vo vt : SV} {qs : List QV}

theorem bel_sm' {a b c : World} (h : Below a.heap.size a b) (q : Below b.heap.size b c) : Below a.heap.size a c := h.trans ⟨q.os, q.tape, q.output, q.size, fun k hk => q.block k (Nat.lt_of_lt_of_le hk h.size)⟩

/-- a store and a property's variable, just laid -/
theorem boxSD (w : World) (vo vt : SV) : BxS ((w.alloc (.cells #[vo.val, vt.val] 28)).alloc (.cells #[.int .u64 0, .int .u64 0, .int .i64 0] 41)) w.heap.size vo vt ∧ Bx3 ((w.alloc (.cells #[vo.val, vt.val] 28)).alloc (.cells #[.int .u64 0, .int .u64 0, .int .i64 0] 41)) (w.heap.size + 1) zDe ∧ Below w.heap.size w ((w.alloc (.cells #[vo.val, vt.val] 28)).alloc (.cells #[.int .u64 0, .int .u64 0, .int .i64 0] 41)) :=
  ⟨at_old _ _ _ _ (at_new _ _), at_two w _ _, B2 w _ _⟩

theorem fin3b {wb w6 : World} (hB : Below w.heap.size w wb) (hbx : Bx3 wb n zDe) (hn : w.heap.size ≤ n) (q : Below wb.heap.size wb w6) (d : De) : Bx3 w6 n zDe ∧ Bx3 (st3 w6 n d) n d ∧ Below w.heap.size w (st3 w6 n d) :=
  ⟨hbx.below q, (hbx.below q).put _, st3_below (hB.trans (q.mono hB.size)) hn _⟩

set_option maxRecDepth 100000 in
set_option maxHeartbeats 1000000 in
theorem rget_any (h : StAt w B tg S vo qs) (vt : SV) {i : Nat} {x : So} (hi : S[i]? = some x) (k : ByteArray) :
    Calls Tryz.prog 76 #[stV vo vt, .int .u64 (objW (i : Int)), .string k] w fun e w' => e = .returned (.tuple #[deV ((getS x k).getD zDe), .bool (getS x k).isSome]) ∧ Below w.heap.size w w' := by
  obtain ⟨wb, hwb⟩ : ∃ wb, wb = (w.alloc (.cells #[vo.val, vt.val] 28)).alloc (.cells #[.int .u64 0, .int .u64 0, .int .i64 0] 41) := ⟨_, rfl⟩
  obtain ⟨hbs, hbd, hB⟩ := boxSD w vo vt
  rw [← hwb] at hbs hbd hB
  have hil : i < S.length := (List.getElem?_eq_some_iff.1 hi).1
  have h2 := h.below hB
  have ka := rat_any h2 vt hil
  obtain ⟨g, cap, q, hv, hq, t1, hgl, hcell, hfz, hl1, hl2, hrow⟩ := h2.obj hi
  have hbig := h.big
  have HN : Hid (∀ W, Below wb.heap.size wb W → (W.cell? ⟨w.heap.size, 0, none⟩ = some vo.val ∧ W.cell? ⟨w.heap.size, 1, none⟩ = some vt.val) ∧ (∀ j u, (soC (x, q))[j]? = some u → W.cell? ⟨g, i * 7 + j, none⟩ = some u) ∧ SoP W B (fun b => tg b = 2 + 4 * i + 0) x q 0 ∧ SoP W B (fun b => tg b = 2 + 4 * i + 1) x q 1) := fun W r => ⟨(hbs.below r).ce, fun j u hj => cells_below r _ _ (hcell j u hj), (h2.below r).ob i x q 0 hi hq (by omega), (h2.below r).ob i x q 1 hi hq (by omega)⟩
  have HFI : Hid (∀ w6 d, Below wb.heap.size wb w6 → Bx3 w6 (w.heap.size + 1) zDe ∧ Bx3 (st3 w6 (w.heap.size + 1) d) (w.heap.size + 1) d ∧ Below w.heap.size w (st3 w6 (w.heap.size + 1) d)) := fun w6 d r => fin3b hB hbd (by omega) r d
  have hii : (i : Int) < (S.length : Int) := by omega
  have hsl : (S.length : Int) ≤ 65536 := by omega
  obtain ⟨b0, b1⟩ := hbs.ce
  have h0i : ¬ ((i : Int) < 0) := by omega
  have hsame := h.same x (List.mem_of_getElem? hi)
  have HPL : Hid (∀ W, Below wb.heap.size wb W → Calls Tryz.prog 56 #[soV (x, q), .string k] W fun e w' => e = .returned (.int .i64 (plI x.nm k)) ∧ Below W.heap.size W w') := fun W r => place_any (x, q) (HN.out W r).2.2.1 k
  subst hv
  unfold getS
  unfold stV at *
  rw [show (SV.mk (some ⟨g, 0, none⟩) S.length cap).val = .slice (some ⟨g, 0, none⟩) S.length cap from rfl] at *
  generalize objW (i : Int) = o at *
  clear h h2 hB hbs hbd hq t1 hgl hcell hfz hrow hi
  cases hp : plS x.nm k with
  | none =>
    have HPL2 : Hid (∀ W, Below wb.heap.size wb W → Calls Tryz.prog 56 #[soV (x, q), .string k] W fun e w' => e = .returned (.int .i64 (-1)) ∧ Below W.heap.size W w') := by
      have e : plI x.nm k = -1 := by unfold plI; rw [hp]
      rw [e] at HPL
      exact HPL
    simp only [Option.bind_none, Option.getD_none, Option.isSome_none]
    unfold deV
    clear HPL hp hsame
    go_enter Tryz.func76, Tryz.ntmps76
    go_upto_region 1 with fail
    rw [← hwb]
    clear hwb
    go_wp2_with fail
    refine ka.mono ?_
    rintro e w2 ⟨rfl, hB2⟩
    obtain ⟨⟨b0, b1⟩, hc, _, _⟩ := HN.out w2 hB2
    have c0 := hc 0 _ rfl
    have c1 := hc 1 _ rfl
    have c2 := hc 2 _ rfl
    have c3 := hc 3 _ rfl
    have c4 := hc 4 _ rfl
    have c5 := hc 5 _ rfl
    have c6 := hc 6 _ rfl
    simp only [Nat.add_zero] at c0
    have kp := HPL2.out w2 hB2
    unfold soV at kp
    simp only at kp
    have HB2 : Hid (Below wb.heap.size wb w2) := hB2
    clear ka hB2 hc HPL2 HN
    go_wp2_with fail
    refine kp.mono ?_
    rintro e w3 ⟨rfl, hB3⟩
    obtain ⟨q1, q2, q3⟩ := HFI.out w3 zDe (bel_sm' HB2.out hB3)
    obtain ⟨f0, f1, f2⟩ := q1.fz
    obtain ⟨d0, d1, d2⟩ := q1.ce
    unfold zDe at d0 d1 d2
    have HF := (show Hid _ from And.intro q2 q3)
    clear kp hB3 HB2 HFI q1 q2 q3
    go_wp2_with fail
    refine bodyPost_ret (res2 rfl _ _ (w.heap.size + 1) 41 _ (0, 0) _ rfl HF.out.1 Tryz.underlying41 rfl (by kernel_rfl)) rfl ?_
    exact ⟨rfl, HF.out.2⟩
  | some m =>
    have hm : m < x.nm.length := by
      unfold plS at hp
      rw [List.findIdx?_eq_some_iff_getElem] at hp
      exact hp.1
    have hex : ∃ d, x.ds[m]? = some d := ⟨_, List.getElem?_eq_getElem (by omega)⟩
    obtain ⟨d, hd⟩ := hex
    have HPL2 : Hid (∀ W, Below wb.heap.size wb W → Calls Tryz.prog 56 #[soV (x, q), .string k] W fun e w' => e = .returned (.int .i64 (m : Int)) ∧ Below W.heap.size W w') := by
      have e : plI x.nm k = (m : Int) := by unfold plI; rw [hp]
      rw [e] at HPL
      exact HPL
    have e0 : (some m).bind (fun n => x.ds[n]?) = some d := hd
    rw [e0]
    simp only [Option.getD_some, Option.isSome_some]
    have HDC : Hid (∀ W, Below wb.heap.size wb W → ∃ gd, q.vd.val = .slice (some ⟨gd, 0, none⟩) x.ds.length q.vd.cap ∧ W.cell? ⟨gd, m * 3, none⟩ = some (.int .u64 d.va) ∧ W.cell? ⟨gd, m * 3 + 1, none⟩ = some (.int .u64 d.se) ∧ W.cell? ⟨gd, m * 3 + 2, none⟩ = some (.int .i64 d.fl) ∧ x.ds.length ≤ 9223372036854775807) := fun W r => by
      have hrow : RowIn deC 3 41 B W _ q.vd x.ds := (HN.out W r).2.2.2
      obtain ⟨r1, r2, r3, r4⟩ := hrow.open rtDe.len
      obtain ⟨gd, r5, _, _, _, r6, _⟩ := r4 (by intro e; rw [e] at hd; simp at hd)
      refine ⟨gd, by unfold SV.val; rw [r1, r5], r6 m d hd 0 _ rfl, r6 m d hd 1 _ rfl, r6 m d hd 2 _ rfl, by unfold maxLen at r3; omega⟩
    have hmm : (m : Int) < (x.ds.length : Int) := by omega
    have hm0 : ¬ ((m : Int) < 0) := by omega
    unfold deV
    clear HPL hp hsame hm hd e0
    go_enter Tryz.func76, Tryz.ntmps76
    go_upto_region 1 with fail
    rw [← hwb]
    clear hwb
    go_wp2_with fail
    refine ka.mono ?_
    rintro e w2 ⟨rfl, hB2⟩
    obtain ⟨⟨b0, b1⟩, hc, _, _⟩ := HN.out w2 hB2
    have c0 := hc 0 _ rfl
    have c1 := hc 1 _ rfl
    have c2 := hc 2 _ rfl
    have c3 := hc 3 _ rfl
    have c4 := hc 4 _ rfl
    have c5 := hc 5 _ rfl
    have c6 := hc 6 _ rfl
    simp only [Nat.add_zero] at c0
    have kp := HPL2.out w2 hB2
    unfold soV at kp
    simp only at kp
    have HB2 : Hid (Below wb.heap.size wb w2) := hB2
    clear ka hB2 hc HPL2
    go_wp2_with fail
    refine kp.mono ?_
    rintro e w3 ⟨rfl, hB3⟩
    have hB3' := bel_sm' HB2.out hB3
    obtain ⟨⟨b0, b1⟩, hc, _, _⟩ := HN.out w3 hB3'
    have c4 := hc 4 _ rfl
    obtain ⟨gd, hvd, e0, e1, e2, hlim⟩ := HDC.out w3 hB3'
    simp only at c4
    rw [hvd] at c4
    have hlim2 : (x.ds.length : Int) ≤ 9223372036854775807 := by omega
    obtain ⟨q1, q2, q3⟩ := HFI.out w3 d hB3'
    obtain ⟨f0, f1, f2⟩ := q1.fz
    obtain ⟨d0, d1, d2⟩ := q1.ce
    unfold zDe at d0 d1 d2
    have HF := (show Hid _ from And.intro q2 q3)
    generalize x.ds.length = dl at *
    generalize q.vd.cap = dc at *
    clear kp hB3 HB2 HFI q1 q2 q3 HN HDC hc hvd hB3' c0 c1 c2 c3 c5 c6
    go_wp2_with fail
    refine bodyPost_ret (res2 rfl _ _ (w.heap.size + 1) 41 _ (0, 0) _ rfl HF.out.1 Tryz.underlying41 rfl (by kernel_rfl)) rfl ?_
    exact ⟨rfl, HF.out.2⟩

end

end Go.Proofs.YtahhionlbfhinaaGreatDoor.Hp
