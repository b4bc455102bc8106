/- The document's lay. -/
import Derived.Test.YtiliffnflamkjaaQB
namespace Go.Proofs.Ytiliffnflamkjaa.Sp
open Go.RowKit
set_option linter.unusedVariables false

theorem res3 {P : Program} {fn : Func} {p a b : Tmp} {ty : TypeId} (h : fn.results = #[.cell p ty, .tmp a, .tmp b]) (tmps : Array Value) (w : World) (g : Nat) (t : TypeId) (cs : Array Value) (fr : Nat × Nat) (d : TypeDesc)
    (hp : tmps.getD p undef = .pointer (some ⟨g, 0, none⟩)) (hg : w.heap[g]? = some (.cells cs t fr))
    (hu : P.underlying ty = some d) (hd : (match d with | .struct _ | .array _ _ => true | _ => false) = true) (hi : (P.info? ty).map (·.size) = some cs.size) :
    (results fn tmps).run P w = .ok (.tuple #[.agg cs, tmps.getD a undef, tmps.getD b undef]) w := by
  have hp' : tmps[p]?.getD undef = .pointer (some ⟨g, 0, none⟩) := by simpa using hp
  simp [results, h, hp', asAddr, run_loadVar_row w g t ty cs fr d hg hu hd hi]

theorem set2_same (w : World) (g : Nat) (a b x y : Value) (h : w.heap[g]? = some (.cells #[a, b] 27 (0, 0))) : ((w.setCell ⟨g, 0, none⟩ x).setCell ⟨g, 1, none⟩ y).heap[g]? = some (.cells #[x, y] 27 (0, 0)) :=
  heap_setCell_same _ g 1 _ 27 y (heap_setCell_same w g 0 _ 27 x h)

theorem set2_below {B : Nat} {a w1 : World} {g : Nat} (h : Below B a w1) (hg : B ≤ g) (v0 v1 : Value) : Below B a ((w1.setCell ⟨g, 0, none⟩ v0).setCell ⟨g, 1, none⟩ v1) :=
  (h.setCell (p := ⟨g, 0, none⟩) hg v0).setCell (p := ⟨g, 1, none⟩) hg v1

theorem rtRS : RT rsC 25 74 4 80 := ⟨fun _ => rfl, Try.underlying25, rt_inf (z := .agg #[.int .u64 0, .slice none 0 0, .slice none 0 0, .slice none 0 0]) (by kernel_rfl) rfl, by decide, fun y u h => by simp [rsC] at h; rcases h with rfl | rfl | rfl | rfl <;> rfl⟩

theorem at_three (w : World) (o1 o2 o3 : Obj) : (((w.alloc o1).alloc o2).alloc o3).heap[w.heap.size + 1 + 1]? = some o3 := by
  have := at_new ((w.alloc o1).alloc o2) o3
  rw [size_new, size_new] at this
  exact this

structure RlAt (wb wr : World) (L : List Sh) (s : Sh) (i : Nat) : Prop where
  le : i ≤ L.length
  no : ∀ j z, j < i → L[j]? = some z → ¬ (z.pr = s.pr ∧ z.st = s.st)
  bel : Below wb.heap.size wb wr

theorem lay_found {L : List Sh} {s z : Sh} {i : Nat} (hz : L[i]? = some z) (hs : z.pr = s.pr ∧ z.st = s.st) (hn : ∀ (j : Nat) (z : Sh), j < i → L[j]? = some z → ¬ (z.pr = s.pr ∧ z.st = s.st)) (m : Int) : layD m L s = (L, (i : Int), true) := by
  have : hit L s = some i := by
    cases e : hit L s with
    | none => exact absurd hs (hit_none e i z hz)
    | some j =>
      obtain ⟨y, g1, g2, g3, g4⟩ := hit_some e
      rcases Nat.lt_trichotomy i j with c | c | c
      · exact absurd hs (g4 i z c hz)
      · rw [c]
      · exact absurd ⟨g2, g3⟩ (hn j y c g1)
  unfold layD
  rw [this]

theorem hit_no {L : List Sh} {s : Sh} (hn : ∀ (j : Nat) (z : Sh), j < L.length → L[j]? = some z → ¬ (z.pr = s.pr ∧ z.st = s.st)) : hit L s = none := by
  cases e : hit L s with
  | none => rfl
  | some j =>
    obtain ⟨y, g1, g2, g3, g4⟩ := hit_some e
    exact absurd ⟨g2, g3⟩ (hn j y (List.getElem?_eq_some_iff.1 g1).1 g1)

/-- what the document's calls leave -/
def RWent (N : Nat → Prop) (w : World) (m : Int) (r : List Sh × Int × Bool) (e : Ending) (w' : World) : Prop :=
  ∃ s' : Sli RS, e = .returned (.tuple #[.agg #[.int .i64 m, .slice s'.at' s'.xs.length s'.cap], .int .i64 r.2.1, .bool r.2.2]) ∧ RTree N w' s' r.1 ∧ Below w.heap.size w w'

set_option maxRecDepth 100000 in
set_option maxHeartbeats 4000000 in
theorem rlay_any (N : Nat → Prop) (w : World) (m : Int) (s : Sli RS) (L : List Sh) (h : RTree N w s L) (r : RS) (hr : r.okn N w) (hN : ∀ b, w.heap.size ≤ b → N b) (hcap : m ≤ top ∨ L.length + 1 ≤ top) :
    Calls Try.prog 28 #[.agg #[.int .i64 m, .slice s.at' s.xs.length s.cap], rsV r] w fun e w' => RWent N w m (layD m L r.sh) e w' := by
  obtain ⟨hlim, hlen⟩ := h.lim
  have HLEN : Hid (s.xs.length = L.length) := hlen
  clear hlen
  unfold rsV
  obtain ⟨pr, ⟨ka, kc, kx⟩, ⟨fa, fc, fx⟩, ⟨ta, tc, tx⟩⟩ := r
  obtain ⟨sa, sc, sx⟩ := s
  unfold RS.sh
  simp only at *
  obtain ⟨wb, hwb⟩ : ∃ wb, wb = ((w.alloc (.cells #[.int .i64 m, .slice sa sx.length sc] 27)).alloc (.cells #[.int .u64 pr, .slice ka kx.length kc, .slice fa fx.length fc, .slice ta tx.length tc] 74)).alloc (.cells #[.int .i64 0, .slice none 0 0] 27) := ⟨_, rfl⟩
  have hB : Below w.heap.size w wb := by rw [hwb]; exact below_new (B2 _ _ _) (by rw [size_new, size_new]; omega) _
  have g0 : wb.heap[w.heap.size]? = some (.cells #[.int .i64 m, .slice sa sx.length sc] 27 (0, 0)) := by rw [hwb]; exact at_old _ _ _ _ (at_old _ _ _ _ (at_new _ _))
  have g1 : wb.heap[w.heap.size + 1]? = some (.cells #[.int .u64 pr, .slice ka kx.length kc, .slice fa fx.length fc, .slice ta tx.length tc] 74 (0, 0)) := by rw [hwb]; exact at_old _ _ _ _ (at_two _ _ _)
  have g2 : wb.heap[w.heap.size + 1 + 1]? = some (.cells #[.int .i64 0, .slice none 0 0] 27 (0, 0)) := by rw [hwb]; exact at_three _ _ _ _
  have hsz : wb.heap.size = w.heap.size + 3 := by rw [hwb, size_new, size_new, size_new]
  have HG : Hid (∀ wr, Below wb.heap.size wb wr → wr.heap[w.heap.size]? = some (.cells #[.int .i64 m, .slice sa sx.length sc] 27 (0, 0)) ∧ wr.heap[w.heap.size + 1]? = some (.cells #[.int .u64 pr, .slice ka kx.length kc, .slice fa fx.length fc, .slice ta tx.length tc] 74 (0, 0)) ∧ wr.heap[w.heap.size + 1 + 1]? = some (.cells #[.int .i64 0, .slice none 0 0] 27 (0, 0)) ∧ Below w.heap.size w wr ∧ w.heap.size + 3 ≤ wr.heap.size) := fun wr hb => ⟨(hb.block _ (by omega)).trans g0, (hb.block _ (by omega)).trans g1, (hb.block _ (by omega)).trans g2, hB.trans (hb.mono hB.size), by have := hb.size; omega⟩
  have HR : Hid (RTree N wb ⟨sa, sc, sx⟩ L ∧ RS.okn N wb ⟨pr, ⟨ka, kc, kx⟩, ⟨fa, fc, fx⟩, ⟨ta, tc, tx⟩⟩) := ⟨h.below hB, hr.below hB⟩
  have HI : Hid (RlAt wb wb L ⟨pr, kx, fx, tx⟩ 0) := ⟨Nat.zero_le _, fun j z hj => by omega, Below.refl _ _⟩
  have HN : Hid (∀ b, w.heap.size ≤ b → N b) := hN
  have HRW : Hid (RTree N w ⟨sa, sc, sx⟩ L) := h
  have HRR : Hid (RS.okn N w ⟨pr, ⟨ka, kc, kx⟩, ⟨fa, fc, fx⟩, ⟨ta, tc, tx⟩⟩) := hr
  have HCAP : Hid (m ≤ top ∨ L.length + 1 ≤ top) := hcap
  clear h hr hN hcap hB g0 g1 g2 hsz
  go_enter Try.func28, Try.ntmps28
  go_upto_region 1 with fail
  rw [← hwb]
  clear hwb
  go_wp2_with fail
  go_loopw [7] (fun i wr => ∃ k : Nat, RlAt wb wr L ⟨pr, kx, fx, tx⟩ k ∧ i = .int .i64 k) (fun i wr => L.length - (intOf i).toNat)
  case atStart => exact ⟨0, HI.out, rfl⟩
  case round =>
    clear HI
    obtain ⟨k, hr, rfl⟩ := hrel
    have HQ := (show Hid _ from hr)
    have ple := hr.le
    clear hr
    obtain ⟨q0, q1, q2, hbw, hsz⟩ := HG.out wr HQ.out.bel
    have a0 : wr.cell? ⟨w.heap.size, 0, none⟩ = some (.int .i64 m) := by rw [cell_of_row wr _ 0 _ 27 (0, 0) q0]; rfl
    have a1 : wr.cell? ⟨w.heap.size, 1, none⟩ = some (.slice sa sx.length sc) := by rw [cell_of_row wr _ 1 _ 27 (0, 0) q0]; rfl
    have s0 : wr.cell? ⟨w.heap.size + 1, 0, none⟩ = some (.int .u64 pr) := by rw [cell_of_row wr _ 0 _ 74 (0, 0) q1]; rfl
    have s1 : wr.cell? ⟨w.heap.size + 1, 1, none⟩ = some (.slice ka kx.length kc) := by rw [cell_of_row wr _ 1 _ 74 (0, 0) q1]; rfl
    have s2 : wr.cell? ⟨w.heap.size + 1, 2, none⟩ = some (.slice fa fx.length fc) := by rw [cell_of_row wr _ 2 _ 74 (0, 0) q1]; rfl
    have s3 : wr.cell? ⟨w.heap.size + 1, 3, none⟩ = some (.slice ta tx.length tc) := by rw [cell_of_row wr _ 3 _ 74 (0, 0) q1]; rfl
    have r0 : wr.cell? ⟨w.heap.size + 1 + 1, 0, none⟩ = some (.int .i64 0) := by rw [cell_of_row wr _ 0 _ 27 (0, 0) q2]; rfl
    have r1 : wr.cell? ⟨w.heap.size + 1 + 1, 1, none⟩ = some (.slice none 0 0) := by rw [cell_of_row wr _ 1 _ 27 (0, 0) q2]; rfl
    have f0 := frozen_of_row wr _ 0 _ 27 q2
    have f1 := frozen_of_row wr _ 1 _ 27 q2
    have HQQ : Hid (wr.heap[w.heap.size]? = some (.cells #[.int .i64 m, .slice sa sx.length sc] 27 (0, 0)) ∧ wr.heap[w.heap.size + 1 + 1]? = some (.cells #[.int .i64 0, .slice none 0 0] 27 (0, 0)) ∧ Below w.heap.size w wr ∧ w.heap.size + 3 ≤ wr.heap.size) := ⟨q0, q2, hbw, hsz⟩
    clear q0 q1 q2 hbw hsz
    rcases Nat.lt_or_ge k L.length with c | c
    · have hex : ∃ q, L[k]? = some q := ⟨_, List.getElem?_eq_getElem c⟩
      obtain ⟨q, hq⟩ := hex
      obtain ⟨b, off, rr, e1, e2, e3, hc, hkl, hx1, hx2⟩ := (HR.out.1.below HQ.out.bel).open hq
      clear hx1 hx2
      simp only at e1 hkl
      subst e1
      have d0 := hc 0 _ rfl
      have d3 := hc 3 _ rfl
      rw [Nat.add_zero] at d0
      have ks := same_any wr.drew rr.st ⟨ta, tc, tx⟩ (e3.st.ok.kept (cells_below ((Below.refl _ _).drew))) ((HR.out.2.below HQ.out.bel).st.ok.kept (cells_below ((Below.refl _ _).drew)))
      have hkx : (k : Int) < sx.length := by omega
      have HQ2 : Hid (L[k]? = some q ∧ rr.pr = q.pr ∧ rr.st.xs = q.st) := ⟨hq, by rw [← e2]; rfl, by rw [← e2]; rfl⟩
      clear hc e2 e3 hq
      simp only at ks
      obtain ⟨rp, ⟨x1, x2, x3⟩, ⟨y1, y2, y3⟩, ⟨z1, z2, z3⟩⟩ := rr
      simp only at *
      have HTX : Hid (decide (z3 = tx) = true ↔ q.st = tx) := by rw [HQ2.out.2.2]; exact decide_eq_true_iff
      generalize decide (z3 = tx) = D at *
      go_wp2_with fail
      go_region_held_law (fun w' => w'.cell? ⟨w.heap.size, 1, none⟩ = some (.slice (some ⟨b, off, none⟩) sx.length sc) ∧ w'.cell? ⟨b, off + k * 4 + 3, none⟩ = some (.slice z1 z3.length z2) ∧ w'.cell? ⟨w.heap.size + 1, 3, none⟩ = some (.slice ta tx.length tc)) (first | exact ⟨cells_below hb5 _ _ a1, cells_below hb5 _ _ d3, cells_below hb5 _ _ s3⟩ | go_keep) ((go_at_call 30; refine ks.mono ?_; rintro e w5 ⟨rfl, hb5⟩))
      have hb5' : Below wr.heap.size wr w5 := (Below.refl wr.heap.size wr).drew.trans hb5
      have x1 := cells_below hb5' _ _ a1
      have x2 := cells_below hb5' _ _ d0
      have x3 := cells_below hb5' _ _ s0
      have x4 := cells_below hb5' _ _ a0
      have x5 := cells_below hb5' _ _ r0
      have x6 := cells_below hb5' _ _ r1
      have bl0 := (hb5'.block (w.heap.size) (by have := HQQ.out.2.2.2; omega)).trans HQQ.out.1
      have bl2 := (hb5'.block (w.heap.size + 1 + 1) (by have := HQQ.out.2.2.2; omega)).trans HQQ.out.2.1
      have y0 := frozen_of_row w5 _ 0 _ 27 bl2
      have y1 := frozen_of_row w5 _ 1 _ 27 bl2
      have HB5 : Hid (Below wb.heap.size wb w5 ∧ Below w.heap.size w w5) := ⟨HQ.out.bel.trans (hb5'.mono HQ.out.bel.size), HQQ.out.2.2.1.trans (hb5'.mono HQQ.out.2.2.1.size)⟩
      have HBL : Hid (w5.heap[w.heap.size + 1 + 1]? = some (.cells #[.int .i64 0, .slice none 0 0] 27 (0, 0))) := bl2
      have HNO : Hid (¬ (q.pr = pr ∧ q.st = tx) → ∀ w6, Below wb.heap.size wb w6 → RlAt wb w6 L ⟨pr, kx, fx, tx⟩ (k + 1)) := fun hno w6 hb6 => ⟨c, fun j z hj hz => by
        rcases Nat.lt_or_ge j k with u | u
        · exact HQ.out.no j z u hz
        · have : j = k := by omega
          subst this
          rw [HQ2.out.1] at hz
          cases hz
          exact hno, hb6⟩
      have HYE : Hid (q.pr = pr ∧ q.st = tx → layD m L ⟨pr, kx, fx, tx⟩ = (L, (k : Int), true)) := fun hyes => lay_found HQ2.out.1 hyes HQ.out.no m
      have HPR : Hid (rp = q.pr) := HQ2.out.2.1
      clear hb5 hb5' bl0 bl2 HQQ HQ HQ2 a0 a1 s0 s1 s2 s3 r0 r1 f0 f1 d0 d3 ks
      cases D with
      | false =>
        have HN2 := HNO.out (fun e => by have := HTX.out.2 e.2; cases this)
        have HN3 : Hid (∀ w6, Below wb.heap.size wb w6 → RlAt wb w6 L ⟨pr, kx, fx, tx⟩ (k + 1)) := HN2
        clear HN2 HNO HYE HTX HR HG
        go_wp2_with fail
        go_region
        all_goals
          go_wp2_with fail
          refine ⟨⟨k + 1, HN3.out _ HB5.out.1.drew, by go_num⟩, ?_⟩
          simp [intOf]
          omega
      | true =>
        by_cases t : rp = pr
        · subst t
          have t1 : (rp == rp) = true := by simp
          have hlay := HYE.out ⟨HPR.out.symm, HTX.out.1 rfl⟩
          have HE : Hid (layD m L ⟨rp, kx, fx, tx⟩ = (L, (k : Int), true)) := hlay
          clear hlay HNO HYE HTX HR
          go_wp2_with fail
          go_region
          all_goals
            go_wp2_with fail
            refine bodyPost_ret (res3 rfl _ _ (w.heap.size + 1 + 1) 27 _ (0, 0) _ rfl (set2_same w5 _ _ _ _ _ HBL.out) Try.underlying27 rfl (by kernel_rfl)) rfl ?_
            rw [HE.out]
            have hbf := (set2_below HB5.out.2 (show w.heap.size ≤ w.heap.size + 1 + 1 by omega) (.int .i64 m) (.slice (some ⟨b, off, none⟩) sx.length sc)).drew
            exact ⟨⟨some ⟨b, off, none⟩, sc, sx⟩, rfl, HRW.out.below hbf, hbf⟩
        · have t1 : (rp == pr) = false := by simpa using t
          have HN2 := HNO.out (fun e => t (HPR.out.trans e.1))
          have HN3 : Hid (∀ w6, Below wb.heap.size wb w6 → RlAt wb w6 L ⟨pr, kx, fx, tx⟩ (k + 1)) := HN2
          clear HN2 HNO HYE HTX HR HG
          go_wp2_with fail
          go_region
          all_goals
            go_wp2_with fail
            refine ⟨⟨k + 1, HN3.out _ HB5.out.1.drew, by go_num⟩, ?_⟩
            simp [intOf]
            omega
    · have hkl : k = L.length := by omega
      have hhit : hit L ⟨pr, kx, fx, tx⟩ = none := hit_no (fun j z hj hz => HQ.out.no j z (by omega) hz)
      have hkx : ¬ (k : Int) < sx.length := by have := HLEN.out; omega
      have HB5 : Hid (Below w.heap.size w wr) := HQQ.out.2.2.1
      by_cases t : m ≤ (sx.length : Int)
      · have HE : Hid (layD m L ⟨pr, kx, fx, tx⟩ = (L, 0, false)) := by
          show _ = _
          unfold layD
          rw [hhit]
          simp only
          rw [if_pos (by have := HLEN.out; omega)]
        have HBL : Hid (wr.heap[w.heap.size + 1 + 1]? = some (.cells #[.int .i64 0, .slice none 0 0] 27 (0, 0))) := HQQ.out.2.1
        clear HQQ HQ HR HG hhit hkl s0 s1 s2 s3
        go_wp2_with fail
        refine bodyPost_ret (res3 rfl _ _ (w.heap.size + 1 + 1) 27 _ (0, 0) _ rfl (set2_same wr _ _ _ _ _ HBL.out) Try.underlying27 rfl (by kernel_rfl)) rfl ?_
        rw [HE.out]
        have hbf := (set2_below HB5.out (show w.heap.size ≤ w.heap.size + 1 + 1 by omega) (.int .i64 m) (.slice sa sx.length sc))
        exact ⟨⟨sa, sc, sx⟩, rfl, HRW.out.below hbf, hbf⟩
      · have HE : Hid (layD m L ⟨pr, kx, fx, tx⟩ = (L ++ [⟨pr, kx, fx, tx⟩], (L.length : Int), true)) := by
          show _ = _
          unfold layD
          rw [hhit]
          simp only
          rw [if_neg (by have := HLEN.out; omega)]
        have hcp : sx.length + 1 ≤ 1700000000000 := by
          have := HLEN.out
          rcases HCAP.out with q | q
          · unfold top at q; omega
          · unfold top at q; omega
        have HCP : Hid (sx.length + 1 ≤ 1700000000000) := hcp
        have t2 : (sx.length : Int) < m := by omega
        have HA1 : Hid (Below wr.heap.size wr (wr.alloc (.cells #[] 74))) := (Below.refl _ _).alloc (Nat.le_refl _) _
        have HRA : Hid (Sli.ok rsC 4 (wr.alloc (.cells #[] 74)) ⟨sa, sc, sx⟩) := ((HRW.out.below HB5.out).below HA1.out).row.ok
        clear HQ HR HG hhit hkl hcp
        have a1' := cells_below HA1.out _ _ a1
        go_wp2_with (at_builtin; refine app_row rtRS rfl _ _ rfl wr.heap.size (.slice (some ⟨wr.heap.size, 0, none⟩) 0 0) [] rfl (empty_own (at_new _ _) (Nat.le_refl _)) ⟨sa, sc, sx⟩ rfl HRA.out ?o3 ?o4 ?o5 ?_)
        case o3 => have := HCP.out; unfold maxLen; (try simp only [List.length_nil]); omega
        case o4 => have := HCP.out; (try simp only [List.length_nil]); omega
        intro v1 w1 ho1 hg1 hl1
        have hc1 : Chg (fun b => b = wr.heap.size) wr w1 := (Chg.of_below HA1.out).trans (Chg.of_grown (S := fun b => b = wr.heap.size) hg1 (fun k q => by simp [Value.ownBlock] at q; exact q.symm)) (fun _ _ q => q)
        have HB1 : Hid (Below wr.heap.size wr w1) := hc1.below (Below.refl _ _) (Nat.le_refl _) (fun k q => by omega)
        have HO1 : Hid (OwnR rsC 4 74 wr.heap.size w1 v1 sx) := ho1
        have HA2 : Hid (∀ o, Below w1.heap.size w1 (w1.alloc o)) := fun o => (Below.refl _ _).alloc (Nat.le_refl _) _
        have x0 := cells_below HB1.out _ _ s0
        have x1 := cells_below HB1.out _ _ s1
        have x2 := cells_below HB1.out _ _ s2
        have x3 := cells_below HB1.out _ _ s3
        clear ho1 hg1 hl1 hc1 a1' HRA HA1
        go_wp2_with (at_builtin; refine app_row rtRS rfl _ _ rfl wr.heap.size v1 sx rfl (HO1.out.below (HA2.out _)) ⟨some ⟨w1.heap.size, 0, none⟩, 1, [⟨pr, ⟨ka, kc, kx⟩, ⟨fa, fc, fx⟩, ⟨ta, tc, tx⟩⟩]⟩ rfl (one_sli rtRS (at_new _ _) rfl) ?p3 ?p4 ?p5 ?_)
        case p3 => have := HCP.out; unfold maxLen; (try simp only [List.length_singleton]); omega
        case p4 => have := HCP.out; (try simp only [List.length_singleton]); omega
        case p5 => exact Nat.le_trans HB1.out.size (HA2.out _).size
        intro v2 w2 ho2 hg2 hl2
        have hb2 : Below wr.heap.size wr w2 := Chg.below (Chg.of_grown (S := fun b => v1.ownBlock = some b) hg2 (fun k q => q)) (HB1.out.trans ((HA2.out _).mono HB1.out.size)) (Nat.le_trans HB1.out.size (HA2.out _).size) (fun k q => (HO1.out.lt k q).1)
        obtain ⟨⟨za, zc, zx⟩, rfl, hzx, hzok⟩ := ho2.okn (N := fun b => wr.heap.size ≤ b) rtRS.len (fun b q => q)
        have HZX : Hid (zx = sx ++ [⟨pr, ⟨ka, kc, kx⟩, ⟨fa, fc, fx⟩, ⟨ta, tc, tx⟩⟩]) := hzx
        have HZO : Hid (Sli.okn (fun b => wr.heap.size ≤ b) rsC 4 w2 ⟨za, zc, zx⟩) := hzok
        have hzl : zx.length = sx.length + 1 := by rw [HZX.out]; simp
        have HZL : Hid ((zx.length : Int) = sx.length + 1) := by show _ = _; omega
        have hz1 : (1 : Int) ≤ zx.length := by omega
        have hz2 : (zx.length : Int) ≤ 9223372036854775807 := by have := HCP.out; omega
        have bk0 : w2.heap[w.heap.size]? = some (.cells #[.int .i64 m, .slice sa sx.length sc] 27 (0, 0)) := (hb2.block _ (by have := HQQ.out.2.2.2; omega)).trans HQQ.out.1
        have bk2 : w2.heap[w.heap.size + 1 + 1]? = some (.cells #[.int .i64 0, .slice none 0 0] 27 (0, 0)) := (hb2.block _ (by have := HQQ.out.2.2.2; omega)).trans HQQ.out.2.1
        have n1 := cell_of_row w2 _ 1 _ 27 (0, 0) bk0
        have n1' : w2.cell? ⟨w.heap.size, 1, none⟩ = some (.slice sa sx.length sc) := n1
        have nf := frozen_of_row w2 _ 1 _ 27 bk0
        unfold Sli.val
        simp only
        have HK3 := heap_setCell_same w2 w.heap.size 1 _ 27 (.slice za zx.length zc) bk0
        have hk3 : (w2.setCell ⟨w.heap.size, 1, none⟩ (.slice za zx.length zc)).heap[w.heap.size]? = some (.cells #[.int .i64 m, .slice za zx.length zc] 27 (0, 0)) := HK3
        have hk4 : (w2.setCell ⟨w.heap.size, 1, none⟩ (.slice za zx.length zc)).heap[w.heap.size + 1 + 1]? = some (.cells #[.int .i64 0, .slice none 0 0] 27 (0, 0)) := (Below.heap_setCell w2 ⟨w.heap.size, 1, none⟩ _ _ (by simp only; omega)).trans bk2
        have HK5 : Hid (_ ∧ _) := ⟨hk3, hk4⟩
        have hb2w : Below w.heap.size w w2 := HB5.out.trans (hb2.mono HB5.out.size)
        have HB2 : Hid (Below w.heap.size w w2 ∧ w.heap.size + 3 ≤ wr.heap.size) := ⟨hb2w, HQQ.out.2.2.2⟩
        clear ho2 hg2 hl2 hb2 hzx hzok hzl n1 HK3 hk3 hk4 hb2w bk0 bk2 HO1 HA2 HB1 x0 x1 x2 x3 s0 s1 s2 s3 a0 a1 r0 r1 f0 f1 HQQ
        go_upto_region 11 with fail
        obtain ⟨w3, hw3⟩ : ∃ w3, w3 = w2.setCell ⟨w.heap.size, 1, none⟩ (.slice za zx.length zc) := ⟨_, rfl⟩
        have HW3 : Hid (w3 = w2.setCell ⟨w.heap.size, 1, none⟩ (.slice za zx.length zc)) := hw3
        obtain ⟨k3, k4⟩ := HK5.out
        rw [← hw3] at k3 k4 ⊢
        have c0 : w3.cell? ⟨w.heap.size, 0, none⟩ = some (.int .i64 m) := by rw [cell_of_row w3 _ 0 _ 27 (0, 0) k3]; rfl
        have c1 : w3.cell? ⟨w.heap.size, 1, none⟩ = some (.slice za zx.length zc) := by rw [cell_of_row w3 _ 1 _ 27 (0, 0) k3]; rfl
        have c2 : w3.cell? ⟨w.heap.size + 1 + 1, 0, none⟩ = some (.int .i64 0) := by rw [cell_of_row w3 _ 0 _ 27 (0, 0) k4]; rfl
        have c3 : w3.cell? ⟨w.heap.size + 1 + 1, 1, none⟩ = some (.slice none 0 0) := by rw [cell_of_row w3 _ 1 _ 27 (0, 0) k4]; rfl
        have v0 := frozen_of_row w3 _ 0 _ 27 k4
        have v1' := frozen_of_row w3 _ 1 _ 27 k4
        have HK4 : Hid (w3.heap[w.heap.size + 1 + 1]? = some (.cells #[.int .i64 0, .slice none 0 0] 27 (0, 0))) := k4
        clear hw3 k3 k4 HK5 n1' nf
        go_region
        all_goals
          go_wp2_with fail
          refine bodyPost_ret (res3 rfl _ _ (w.heap.size + 1 + 1) 27 _ (0, 0) _ rfl (set2_same w3 _ _ _ _ _ HK4.out) Try.underlying27 rfl (by kernel_rfl)) rfl ?_
          rw [HE.out]
          have hb3 : Below w.heap.size w w3 := by rw [HW3.out]; exact HB2.out.1.setCell (p := ⟨w.heap.size, 1, none⟩) (Nat.le_refl _) _
          have hbf := (set2_below hb3 (show w.heap.size ≤ w.heap.size + 1 + 1 by omega) (.int .i64 m) (.slice za zx.length zc)).drew
          have hcf : Chg (fun b => b = w.heap.size ∨ b = w.heap.size + 1 + 1) w2 ((w3.setCell ⟨w.heap.size + 1 + 1, 0, none⟩ (.int .i64 m)).setCell ⟨w.heap.size + 1 + 1, 1, none⟩ (.slice za zx.length zc)).drew := by
            rw [HW3.out]
            exact (((Chg.set (S := fun b => b = w.heap.size ∨ b = w.heap.size + 1 + 1) _ _ _ (Or.inl rfl)).trans (Chg.set (S := fun b => b = w.heap.size ∨ b = w.heap.size + 1 + 1) _ _ _ (Or.inr rfl)) (fun _ _ q => q)).trans (Chg.set (S := fun b => b = w.heap.size ∨ b = w.heap.size + 1 + 1) _ _ _ (Or.inr rfl)) (fun _ _ q => q)).drew
          have hrow := (HZO.out.kept hcf (fun b q _ => by have := HB2.out.2; omega)).mono (N' := N) (fun b q _ => HN.out b (by have := HB2.out.2; omega))
          refine ⟨⟨za, zc, zx⟩, ?_, ⟨hrow, ?_, ?_⟩, hbf⟩
          · have e5 : ((zx.length : Int) - 1) = (L.length : Int) := by have := HZL.out; have := HLEN.out; omega
            simp only
            rw [← e5]
            rfl
          · intro r hr
            simp only at hr
            rw [HZX.out] at hr
            rcases List.mem_append.1 hr with q | q
            · exact (HRW.out.below hbf).each r q
            · rw [List.mem_singleton.1 q]
              exact HRR.out.below hbf
          · simp only
            rw [HZX.out, List.map_append, ← HRW.out.is]
            rfl

end Go.Proofs.Ytiliffnflamkjaa.Sp
