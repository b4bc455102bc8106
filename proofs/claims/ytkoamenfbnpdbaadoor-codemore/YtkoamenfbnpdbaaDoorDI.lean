/- CodeMore: the law's walk. -/
import Derived.Test.YtkoamenfbnpdbaaDoorDH
import Derived.Test.YtkoamenfbnpdbaaDoorDG
import Derived.Deep.RegionHeldLaw
namespace Go.Proofs.YtkoamenfbnpdbaaDoor.Cd
open Go.RowKit Go.Deep
set_option linter.unusedVariables false

set_option maxRecDepth 100000 in
set_option maxHeartbeats 64000000 in
theorem more_walk (s : Sli Fn) (mc : Cst) (w : World) (hS : ShAt w) (hs : FnsOk w s) :
    Calls Tryd.prog 7 #[.agg #[s.val], .agg #[.bool mc.isText, .int .u64 mc.bits, .string mc.text]] w fun e w' => e = .returned (.bool true) ∧ Below w.heap.size w w' := by
  obtain ⟨ad, cap, fs⟩ := s
  obtain ⟨mt, mb, ms⟩ := mc
  have hml : fs.length ≤ maxLen := Nat.le_trans hs.all.len hs.all.cap
  unfold maxLen at hml
  have B0 : Below w.heap.size w ((w.alloc (.cells #[.slice ad fs.length cap] 24)).alloc (.cells #[.bool mt, .int .u64 mb, .string ms] 46)) := below_new (below_new (Below.refl _ _) (Nat.le_refl _) _) (by rw [size_new]; omega) _
  have hs1 := hs.kept (cells_below B0)
  have hS1 := hS.below B0
  have HF : Hid (∀ w', Below ((w.alloc (.cells #[.slice ad fs.length cap] 24)).alloc (.cells #[.bool mt, .int .u64 mb, .string ms] 46)).heap.size ((w.alloc (.cells #[.slice ad fs.length cap] 24)).alloc (.cells #[.bool mt, .int .u64 mb, .string ms] 46)) w' → FnsOk w' ⟨ad, cap, fs⟩ ∧ ShAt w' ∧ w'.cell? ⟨w.heap.size, 0, none⟩ = some (.slice ad fs.length cap) ∧ (∀ j u, ([.bool mt, .int .u64 mb, .string ms] : List Value)[j]? = some u → w'.cell? ⟨w.heap.size + 1, j, none⟩ = some u) ∧ Below w.heap.size w w') := by
    intro w' h
    refine ⟨hs1.kept (cells_below h), hS1.below h, cells_below h _ _ (cells_below (below_new (Below.refl _ _) (Nat.le_refl _) _) _ _ (progB_cell _ w)), fun j u hj => cells_below h _ _ ?_, B0.trans (h.mono B0.size)⟩
    rw [cell_of_row _ (w.heap.size + 1) j _ 46 (0, 0) (by show ((w.heap.push _).push _)[w.heap.size + 1]? = _; rw [show w.heap.size + 1 = (w.heap.push (.cells #[.slice ad fs.length cap] 24)).size from by simp, Array.getElem?_push_size])]
    rw [← hj]
    exact List.getElem?_toArray
  have kc := check_any ⟨ad, cap, fs⟩ _ hs1 hS1
  have HR : Hid (Below ((w.alloc (.cells #[.slice ad fs.length cap] 24)).alloc (.cells #[.bool mt, .int .u64 mb, .string ms] 46)).heap.size ((w.alloc (.cells #[.slice ad fs.length cap] 24)).alloc (.cells #[.bool mt, .int .u64 mb, .string ms] 46)) ((w.alloc (.cells #[.slice ad fs.length cap] 24)).alloc (.cells #[.bool mt, .int .u64 mb, .string ms] 46))) := Below.refl _ _
  unfold Sli.val at kc ⊢
  simp only at kc ⊢
  clear hs hs1 hS hS1 B0
  rcases check_cases fs with ⟨hcb, hci⟩ | ⟨hcb, hci⟩
  · rw [hci] at kc
    have HCB : Hid (checkB fs = true) := hcb
    clear hcb hci
    obtain ⟨i36, hi36, hz36, hs36, hb36⟩ := info_parts info36
    obtain ⟨i46, hi46, hz46, hs46, hb46⟩ := info_parts info46
    go_enter Tryd.func7, Tryd.ntmps7
    go_wp2_with fail
    refine kc.mono ?_
    rintro e w2 ⟨rfl, hb2⟩
    generalize ((w.alloc (.cells #[.slice ad fs.length cap] 24)).alloc (.cells #[.bool mt, .int .u64 mb, .string ms] 46)) = w1 at *
    have HB2 : Hid (Below w1.heap.size w1 w2) := hb2
    have HQ0 : Hid (QAt w2 (w2.alloc (.cells #[.slice none 0 0] 24)) w2.heap.size (.slice none 0 0) []) := ⟨below_new (Below.refl _ _) (Nat.le_refl _) _, Nat.le_refl _, by show (w2.heap.push _)[w2.heap.size]? = _; rw [Array.getElem?_push_size], ⟨rfl, Or.inl ⟨rfl, rfl⟩⟩, fun g hg => by cases hg⟩
    have m0 := cells_below (below_new (Below.refl w2.heap.size w2) (Nat.le_refl _) (.cells #[.slice none 0 0] 24)) _ _ (HF.out w2 hb2).2.2.1
    clear kc hb2
    go_wp2_with fail
    generalize hwq : w2.alloc (.cells #[.slice none 0 0] 24) = wq at *
    clear hwq m0
    have hfl : fs.length ≤ 200 := (check_each HCB.out).1
    have HFS : Hid (∀ wr v gs, QAt w2 wr w2.heap.size v gs → Below w1.heap.size w1 wr) := fun wr v gs h => HB2.out.trans (h.bel.mono HB2.out.size)
    have HOF : Hid (∀ (j : Nat) f, fs[j]? = some f → f.ok w2 ∧ fnOkB fs f = true) := fun j f h => ⟨(HF.out w2 HB2.out).1.each f (List.mem_of_getElem? h), (check_each HCB.out).2.2 f (List.mem_of_getElem? h)⟩
    generalize hgq : w2.heap.size = gq at *
    have HGQ : Hid (w2.heap.size = gq) := hgq
    clear hgq
    go_loopw [15] (fun i wr => ∃ (k : Nat) (v : Value) (gs : List Fn), (k ≤ fs.length ∧ QAt w2 wr gq v gs ∧ MoAt fs gs k) ∧ i = .int .i64 k) (fun i wr => fs.length - (intOf i).toNat)
    case atStart => exact ⟨0, _, [], ⟨Nat.zero_le _, HQ0.out, ⟨rfl, fun j f hj => by omega, fun g hg => by cases hg⟩⟩, rfl⟩
    case round =>
      obtain ⟨k, v, gs, ⟨kle, hq, hm⟩, rfl⟩ := hrel
      have HQ : Hid (QAt w2 wr gq v gs) := hq
      have HM : Hid (MoAt fs gs k) := hm
      clear hq hm HQ0
      rcases Nat.lt_or_ge k fs.length with c | c
      · have hex : ∃ y, fs[k]? = some y := ⟨_, List.getElem?_eq_getElem c⟩
        obtain ⟨f, hy⟩ := hex
        obtain ⟨okf, fob⟩ := HOF.out k f hy
        obtain ⟨z0, z1, z2, z3, z4, z5, z6⟩ := sized_out (fnOk_out fob).1
        obtain ⟨okr, shr, m0, mm, _⟩ := HF.out wr (HFS.out wr v gs HQ.out)
        obtain ⟨b, off, had, hcc⟩ := okr.all.cells (by intro e; simp at e; subst e; simp at c)
        simp only at had
        subst had
        have g0 := hcc k f hy 0 _ rfl
        have g1 := hcc k f hy 1 _ rfl
        have g2 := hcc k f hy 2 _ rfl
        have g3 := hcc k f hy 3 _ rfl
        have g4 := hcc k f hy 4 _ rfl
        have g5 := hcc k f hy 5 _ rfl
        have g6 := hcc k f hy 6 _ rfl
        have g7 := hcc k f hy 7 _ rfl
        simp only [Nat.add_zero] at g0
        have HMP : Hid (∀ g : Fn, More f g → MoAt fs (gs ++ [g]) (k + 1)) := fun g h => HM.out.put hy h
        have HOK2 : Hid (f.ok w2) := okf
        have HFR : Hid (More f f) := more_refl fob
        have hb0 := mm 0 _ rfl
        have hb1 := mm 1 _ rfl
        have hb2 := mm 2 _ rfl
        have HML : Hid (gs.length = k) := HM.out.len
        clear hcc okr shr mm okf fob hy HM
        obtain ⟨nm, pa, re, ge, ⟨ca, c1, cx⟩, ⟨ka, kc, kx⟩, ⟨pa', pc, px⟩, ⟨ha, hc, hx⟩⟩ := f
        unfold Sli.val at *
        simp only at *
        have HZ : Hid (cx.length ≤ 65536 ∧ kx.length ≤ 65536 ∧ 0 ≤ re ∧ re ≤ 400 ∧ 0 ≤ pa ∧ pa ≤ re) := ⟨z1, z2, z3, z4, z5, z6⟩
        clear z0 z1 z2 z5 z6
        have HGL : Hid (gs.length ≤ 200) := by have := HML.out; show gs.length ≤ 200; omega
        clear HML
        by_cases hr : re < 400
        · by_cases hk : (kx.length : Int) < 65536
          · have HMF0 : Hid (∀ g2 cap2, More (⟨nm, pa, re, ge, ⟨ca, c1, cx⟩, ⟨ka, kc, kx⟩, ⟨pa', pc, px⟩, ⟨ha, hc, hx⟩⟩ : Fn) (⟨nm, pa, re + 1, ge, ⟨ca, c1, cx⟩, ⟨some ⟨g2, 0, none⟩, cap2, kx ++ [⟨mt, mb, ms⟩]⟩, ⟨pa', pc, px⟩, ⟨ha, hc, hx⟩⟩ : Fn)) := fun g2 cap2 => ⟨rfl, rfl, rfl, rfl, rfl, by show re ≤ re + 1; omega, by show re + 1 ≤ 400; omega, ⟨[⟨mt, mb, ms⟩], rfl⟩, by show (kx ++ [_]).length ≤ 65536; simp; omega⟩
            have HQA : QAt w2 (wr.alloc (.cells #[.string nm, .int .i64 pa, .int .i64 (re + 1), .bool ge, .slice ca cx.length c1, .slice ka kx.length kc, .slice pa' px.length pc, .slice ha hx.length hc] 36)) gq v gs := HQ.out.new (below_new (Below.refl _ _) (Nat.le_refl _) _)
            have HFA : Hid (Fn.okn (Nq gq v (wr.alloc (.cells #[.string nm, .int .i64 pa, .int .i64 (re + 1), .bool ge, .slice ca cx.length c1, .slice ka kx.length kc, .slice pa' px.length pc, .slice ha hx.length hc] 36))) (wr.alloc (.cells #[.string nm, .int .i64 pa, .int .i64 (re + 1), .bool ge, .slice ca cx.length c1, .slice ka kx.length kc, .slice pa' px.length pc, .slice ha hx.length hc] 36)) (⟨nm, pa, re, ge, ⟨ca, c1, cx⟩, ⟨ka, kc, kx⟩, ⟨pa', pc, px⟩, ⟨ha, hc, hx⟩⟩ : Fn)) := old_okn HQA HGQ.out HOK2.out
            have HBA : Hid ((wr.alloc (.cells #[.string nm, .int .i64 pa, .int .i64 (re + 1), .bool ge, .slice ca cx.length c1, .slice ka kx.length kc, .slice pa' px.length pc, .slice ha hx.length hc] 36)).heap[wr.heap.size]? = some (.cells #[.string nm, .int .i64 pa, .int .i64 (re + 1), .bool ge, .slice ca cx.length c1, .slice ka kx.length kc, .slice pa' px.length pc, .slice ha hx.length hc] 36 (0, 0))) := heap_alloc_new wr _
            have HBW := below_new (Below.refl wr.heap.size wr) (Nat.le_refl _) (.cells #[.string nm, .int .i64 pa, .int .i64 (re + 1), .bool ge, .slice ca cx.length c1, .slice ka kx.length kc, .slice pa' px.length pc, .slice ha hx.length hc] 36)
            have e0 := cells_below HBW _ _ hb0
            have e1 := cells_below HBW _ _ hb1
            have e2 := cells_below HBW _ _ hb2
            have HBW2 : Hid (Below wr.heap.size wr (wr.alloc (.cells #[.string nm, .int .i64 pa, .int .i64 (re + 1), .bool ge, .slice ca cx.length c1, .slice ka kx.length kc, .slice pa' px.length pc, .slice ha hx.length hc] 36))) := HBW
            clear HBW HQA hb0 hb1 hb2
            have HKL : Hid (kx.length ≤ 65536) := by show kx.length ≤ 65536; omega
            go_wp2_with fail
            generalize (wr.alloc (.cells #[.string nm, .int .i64 pa, .int .i64 (re + 1), .bool ge, .slice ca cx.length c1, .slice ka kx.length kc, .slice pa' px.length pc, .slice ha hx.length hc] 36)) = wa at *
            have HFB : Hid (∃ fb, wr.heap.size = fb) := ⟨_, rfl⟩
            generalize hfb : wr.heap.size = fb at *
            have HFE : Hid (wr.heap.size = fb) := hfb
            clear hfb HFB g0 g1 g2 g3 g4 g5 g6 g7 m0
            refine Code.wp_mono ?_ (reg10 wa kx ka kc mt mb ms _ fb _ HKL.out HFA.out.consts.ok e0 e1 e2 HBA.out rfl _ _ _ _ _ _ _ _ _ _ _ _ _ _ _ _ _ _ _ _ _ _ _ _ _ _ _ _ _ _ _ _ _ _ _ _ _ _ _ _ _ _ _ _ _ _ _ _ _ _ _ _ _ _ _ _ _ _ _ _ _ _)
            intro ex10 a10 w10 hp10
            obtain ⟨rfl, g2, cap2, w5, u30, u31, u32, u33, u34, u35, u36, u37, rfl, rfl, bl5, ho5⟩ := P10_out hp10
            clear hp10
            obtain ⟨q1, q2, q3⟩ := after10 (re' := re + 1) HQ.out HGQ.out HOK2.out (by rw [HFE.out]; exact HBW2.out) HFE.out HBA.out bl5 ho5
            have HQZ : Hid (QAt w2 (w5.setCell ⟨fb, 5, none⟩ (.slice (some ⟨g2, 0, none⟩) (kx.length + 1) cap2)) gq v gs) := q1
            have HFZ : Hid (Fn.okn (Nq gq v (w5.setCell ⟨fb, 5, none⟩ (.slice (some ⟨g2, 0, none⟩) (kx.length + 1) cap2))) (w5.setCell ⟨fb, 5, none⟩ (.slice (some ⟨g2, 0, none⟩) (kx.length + 1) cap2)) (⟨nm, pa, re + 1, ge, ⟨ca, c1, cx⟩, ⟨some ⟨g2, 0, none⟩, cap2, kx ++ [⟨mt, mb, ms⟩]⟩, ⟨pa', pc, px⟩, ⟨ha, hc, hx⟩⟩ : Fn)) := q2
            have HBX : Hid ((w5.setCell ⟨fb, 5, none⟩ (.slice (some ⟨g2, 0, none⟩) (kx.length + 1) cap2)).heap[fb]? = some (.cells #[.string nm, .int .i64 pa, .int .i64 (re + 1), .bool ge, .slice ca cx.length c1, .slice (some ⟨g2, 0, none⟩) (kx.length + 1) cap2, .slice pa' px.length pc, .slice ha hx.length hc] 36 (0, 0))) := q3
            have HMF := HMF0.out g2 cap2
            have HMF : Hid (More (⟨nm, pa, re, ge, ⟨ca, c1, cx⟩, ⟨ka, kc, kx⟩, ⟨pa', pc, px⟩, ⟨ha, hc, hx⟩⟩ : Fn) (⟨nm, pa, re + 1, ge, ⟨ca, c1, cx⟩, ⟨some ⟨g2, 0, none⟩, cap2, kx ++ [⟨mt, mb, ms⟩]⟩, ⟨pa', pc, px⟩, ⟨ha, hc, hx⟩⟩ : Fn)) := HMF
            clear q1 q2 q3 HMF0 HFA HBA e0 e1 e2 HBW2 HKL
            generalize w5.setCell ⟨fb, 5, none⟩ (.slice (some ⟨g2, 0, none⟩) (kx.length + 1) cap2) = wz at *
            clear bl5 ho5 w5
            have kle : (kx ++ [(⟨mt, mb, ms⟩ : Cst)]).length = kx.length + 1 := by simp
            have x0 := cell_of_row wz fb 0 _ 36 (0, 0) HBX.out
            have x1 := cell_of_row wz fb 1 _ 36 (0, 0) HBX.out
            have x2 := cell_of_row wz fb 2 _ 36 (0, 0) HBX.out
            have x3 := cell_of_row wz fb 3 _ 36 (0, 0) HBX.out
            have x4 := cell_of_row wz fb 4 _ 36 (0, 0) HBX.out
            have x5 := cell_of_row wz fb 5 _ 36 (0, 0) HBX.out
            have x6 := cell_of_row wz fb 6 _ 36 (0, 0) HBX.out
            have x7 := cell_of_row wz fb 7 _ 36 (0, 0) HBX.out
            have y0 : wz.cell? ⟨fb, 0, none⟩ = some (.string nm) := x0
            have y1 : wz.cell? ⟨fb, 1, none⟩ = some (.int .i64 pa) := x1
            have y2 : wz.cell? ⟨fb, 2, none⟩ = some (.int .i64 (re + 1)) := x2
            have y3 : wz.cell? ⟨fb, 3, none⟩ = some (.bool ge) := x3
            have y4 : wz.cell? ⟨fb, 4, none⟩ = some (.slice ca cx.length c1) := x4
            have y5 : wz.cell? ⟨fb, 5, none⟩ = some (.slice (some ⟨g2, 0, none⟩) (kx.length + 1) cap2) := x5
            have y6 : wz.cell? ⟨fb, 6, none⟩ = some (.slice pa' px.length pc) := x6
            have y7 : wz.cell? ⟨fb, 7, none⟩ = some (.slice ha hx.length hc) := x7
            clear x0 x1 x2 x3 x4 x5 x6 x7
            have v0 : wz.cell? ⟨gq, 0, none⟩ = some v := by rw [cell_of_row _ gq 0 _ 24 (0, 0) HQZ.out.box]; rfl
            have HBN : Below wz.heap.size wz (wz.alloc (.cells #[.string nm, .int .i64 pa, .int .i64 (re + 1), .bool ge, .slice ca cx.length c1, .slice (some ⟨g2, 0, none⟩) (kx.length + 1) cap2, .slice pa' px.length pc, .slice ha hx.length hc] 36)) := below_new (Below.refl _ _) (Nat.le_refl _) _
            have HQN : Hid (QAt w2 (wz.alloc (.cells #[.string nm, .int .i64 pa, .int .i64 (re + 1), .bool ge, .slice ca cx.length c1, .slice (some ⟨g2, 0, none⟩) (kx.length + 1) cap2, .slice pa' px.length pc, .slice ha hx.length hc] 36)) gq v gs) := HQZ.out.new HBN
            have HFN : Hid (Fn.okn (Nq gq v (wz.alloc (.cells #[.string nm, .int .i64 pa, .int .i64 (re + 1), .bool ge, .slice ca cx.length c1, .slice (some ⟨g2, 0, none⟩) (kx.length + 1) cap2, .slice pa' px.length pc, .slice ha hx.length hc] 36))) (wz.alloc (.cells #[.string nm, .int .i64 pa, .int .i64 (re + 1), .bool ge, .slice ca cx.length c1, .slice (some ⟨g2, 0, none⟩) (kx.length + 1) cap2, .slice pa' px.length pc, .slice ha hx.length hc] 36)) (⟨nm, pa, re + 1, ge, ⟨ca, c1, cx⟩, ⟨some ⟨g2, 0, none⟩, cap2, kx ++ [⟨mt, mb, ms⟩]⟩, ⟨pa', pc, px⟩, ⟨ha, hc, hx⟩⟩ : Fn)) := HFZ.out.move (fun b hb => ⟨by have := hb.1; rw [size_new]; omega, hb.2⟩) (fun b j u hn hcx => by rw [HBN.cell (p := ⟨b, j, none⟩) hn.1]; exact hcx)
            have own1 := HQN.out.own
            have nw : ∀ j u, (fnC (⟨nm, pa, re + 1, ge, ⟨ca, c1, cx⟩, ⟨some ⟨g2, 0, none⟩, cap2, kx ++ [⟨mt, mb, ms⟩]⟩, ⟨pa', pc, px⟩, ⟨ha, hc, hx⟩⟩ : Fn))[j]? = some u → (wz.alloc (.cells #[.string nm, .int .i64 pa, .int .i64 (re + 1), .bool ge, .slice ca cx.length c1, .slice (some ⟨g2, 0, none⟩) (kx.length + 1) cap2, .slice pa' px.length pc, .slice ha hx.length hc] 36)).cell? ((⟨wz.heap.size, 0, none⟩ : Addr).add j) = some u := by
              have hfl : fnC (⟨nm, pa, re + 1, ge, ⟨ca, c1, cx⟩, ⟨some ⟨g2, 0, none⟩, cap2, kx ++ [⟨mt, mb, ms⟩]⟩, ⟨pa', pc, px⟩, ⟨ha, hc, hx⟩⟩ : Fn) = [.string nm, .int .i64 pa, .int .i64 (re + 1), .bool ge, .slice ca cx.length c1, .slice (some ⟨g2, 0, none⟩) (kx.length + 1) cap2, .slice pa' px.length pc, .slice ha hx.length hc] := by simp [fnC, Sli.val]
              rw [hfl]
              exact World.news_of_block (cs := #[.string nm, .int .i64 pa, .int .i64 (re + 1), .bool ge, .slice ca cx.length c1, .slice (some ⟨g2, 0, none⟩) (kx.length + 1) cap2, .slice pa' px.length pc, .slice ha hx.length hc]) (t := 36) (fr := (0, 0)) (heap_alloc_new wz _)
            have ln : gs.length ≤ 200 := by have := HGL.out; omega
            have bq : gq + 1 ≤ (wz.alloc (.cells #[.string nm, .int .i64 pa, .int .i64 (re + 1), .bool ge, .slice ca cx.length c1, .slice (some ⟨g2, 0, none⟩) (kx.length + 1) cap2, .slice pa' px.length pc, .slice ha hx.length hc] 36)).heap.size := by have := HQZ.out.lt; rw [size_new]; omega
            clear HBN HQZ HFZ HBX
            go_wp2_with (at_builtin; refine wpList_append_lies _ rfl _ _ 22 rfl (gq + 1) 36 i36 (.agg #[.string ⟨#[]⟩, .int .i64 0, .int .i64 0, .bool false, .slice none 0 0, .slice none 0 0, .slice none 0 0, .slice none 0 0]) 8 136 Tryd.underlying22 hi36 hz36 hs36 hb36 rfl (by decide) v gs.length (gs.flatMap fnC) rfl own1 ⟨wz.heap.size, 0, none⟩ 1 1 (fnC (⟨nm, pa, re + 1, ge, ⟨ca, c1, cx⟩, ⟨some ⟨g2, 0, none⟩, cap2, kx ++ [⟨mt, mb, ms⟩]⟩, ⟨pa', pc, px⟩, ⟨ha, hc, hx⟩⟩ : Fn)) rfl rfl nw (fn_one _) (by decide) (by unfold maxLen; omega) (by omega) bq _ rfl ?_)
            intro g cap5 w5 ho5 hg5 hl5 hlt5
            have HP : Hid (QAt w2 (w5.setCell ⟨gq, 0, none⟩ (.slice (some ⟨g, 0, none⟩) (gs.length + 1) cap5)) gq (.slice (some ⟨g, 0, none⟩) (gs.length + 1) cap5) (gs ++ [(⟨nm, pa, re + 1, ge, ⟨ca, c1, cx⟩, ⟨some ⟨g2, 0, none⟩, cap2, kx ++ [⟨mt, mb, ms⟩]⟩, ⟨pa', pc, px⟩, ⟨ha, hc, hx⟩⟩ : Fn)])) := HQN.out.put HFN.out ho5 hg5 (by rcases hl5 with e | e; exact Or.inl e; exact Or.inr (by rw [e, size_new]; omega))
            have HBQ : w5.heap[gq]? = some (.cells #[v] 24 (0, 0)) := (hg5.block gq HQN.out.lt (fun e => by have := (own_blk HQN.out.own gq e.symm).1; omega)).trans HQN.out.box
            have c5 : w5.cell? ⟨gq, 0, none⟩ = some v := by rw [cell_of_row _ gq 0 _ 24 (0, 0) HBQ]; rfl
            have f5 : w5.frozen? ⟨gq, 0, none⟩ = false := frozen_of_row w5 gq 0 _ 24 HBQ
            have HMM : Hid (MoAt fs (gs ++ [(⟨nm, pa, re + 1, ge, ⟨ca, c1, cx⟩, ⟨some ⟨g2, 0, none⟩, cap2, kx ++ [⟨mt, mb, ms⟩]⟩, ⟨pa', pc, px⟩, ⟨ha, hc, hx⟩⟩ : Fn)]) (k + 1)) := HMP.out _ HMF.out
            clear own1 nw ho5 hg5 hl5 hlt5 HBQ y0 y1 y2 y3 y4 y5 y6 y7 v0
            go_wp2_with fail
            refine ⟨⟨k + 1, _, _, ⟨c, HP.out, HMM.out⟩, by go_num⟩, ?_⟩
            simp [intOf]
            omega
          · have hkn : 65535 < kx.length := by omega
            clear hk
            have HMF : Hid (More (⟨nm, pa, re, ge, ⟨ca, c1, cx⟩, ⟨ka, kc, kx⟩, ⟨pa', pc, px⟩, ⟨ha, hc, hx⟩⟩ : Fn) (⟨nm, pa, re + 1, ge, ⟨ca, c1, cx⟩, ⟨ka, kc, kx⟩, ⟨pa', pc, px⟩, ⟨ha, hc, hx⟩⟩ : Fn)) := ⟨rfl, rfl, rfl, rfl, rfl, by show re ≤ re + 1; omega, by show re + 1 ≤ 400; omega, ⟨[], by simp⟩, by show kx.length ≤ 65536; exact HZ.out.2.1⟩
            have HQZ : Hid (QAt w2 (wr.alloc (.cells #[.string nm, .int .i64 pa, .int .i64 (re + 1), .bool ge, .slice ca cx.length c1, .slice ka kx.length kc, .slice pa' px.length pc, .slice ha hx.length hc] 36)) gq v gs) := HQ.out.new (below_new (Below.refl _ _) (Nat.le_refl _) _)
            have HFZ0 : Fn.okn (Nq gq v (wr.alloc (.cells #[.string nm, .int .i64 pa, .int .i64 (re + 1), .bool ge, .slice ca cx.length c1, .slice ka kx.length kc, .slice pa' px.length pc, .slice ha hx.length hc] 36))) (wr.alloc (.cells #[.string nm, .int .i64 pa, .int .i64 (re + 1), .bool ge, .slice ca cx.length c1, .slice ka kx.length kc, .slice pa' px.length pc, .slice ha hx.length hc] 36)) (⟨nm, pa, re, ge, ⟨ca, c1, cx⟩, ⟨ka, kc, kx⟩, ⟨pa', pc, px⟩, ⟨ha, hc, hx⟩⟩ : Fn) := old_okn HQZ.out HGQ.out HOK2.out
            have HFZ : Hid (Fn.okn (Nq gq v (wr.alloc (.cells #[.string nm, .int .i64 pa, .int .i64 (re + 1), .bool ge, .slice ca cx.length c1, .slice ka kx.length kc, .slice pa' px.length pc, .slice ha hx.length hc] 36))) (wr.alloc (.cells #[.string nm, .int .i64 pa, .int .i64 (re + 1), .bool ge, .slice ca cx.length c1, .slice ka kx.length kc, .slice pa' px.length pc, .slice ha hx.length hc] 36)) (⟨nm, pa, re + 1, ge, ⟨ca, c1, cx⟩, ⟨ka, kc, kx⟩, ⟨pa', pc, px⟩, ⟨ha, hc, hx⟩⟩ : Fn)) := ⟨HFZ0.code, HFZ0.consts, HFZ0.caps, HFZ0.hnds⟩
            have HBX : Hid ((wr.alloc (.cells #[.string nm, .int .i64 pa, .int .i64 (re + 1), .bool ge, .slice ca cx.length c1, .slice ka kx.length kc, .slice pa' px.length pc, .slice ha hx.length hc] 36)).heap[wr.heap.size]? = some (.cells #[.string nm, .int .i64 pa, .int .i64 (re + 1), .bool ge, .slice ca cx.length c1, .slice ka kx.length kc, .slice pa' px.length pc, .slice ha hx.length hc] 36 (0, 0))) := heap_alloc_new wr _
            clear HFZ0
            have HKN : Hid (65535 < kx.length) := hkn
            clear hkn
            go_upto_if 29 with fail
            rw [show decide ((kx.length : Int) < 65536) = false from decide_eq_false (by have := HKN.out; omega)]
            generalize (wr.alloc (.cells #[.string nm, .int .i64 pa, .int .i64 (re + 1), .bool ge, .slice ca cx.length c1, .slice ka kx.length kc, .slice pa' px.length pc, .slice ha hx.length hc] 36)) = wz at *
            generalize wr.heap.size = fb at *
            clear g0 g1 g2 g3 g4 g5 g6 g7 m0 hb0 hb1 hb2
            have x0 := cell_of_row wz fb 0 _ 36 (0, 0) HBX.out
            have x1 := cell_of_row wz fb 1 _ 36 (0, 0) HBX.out
            have x2 := cell_of_row wz fb 2 _ 36 (0, 0) HBX.out
            have x3 := cell_of_row wz fb 3 _ 36 (0, 0) HBX.out
            have x4 := cell_of_row wz fb 4 _ 36 (0, 0) HBX.out
            have x5 := cell_of_row wz fb 5 _ 36 (0, 0) HBX.out
            have x6 := cell_of_row wz fb 6 _ 36 (0, 0) HBX.out
            have x7 := cell_of_row wz fb 7 _ 36 (0, 0) HBX.out
            have y0 : wz.cell? ⟨fb, 0, none⟩ = some (.string nm) := x0
            have y1 : wz.cell? ⟨fb, 1, none⟩ = some (.int .i64 pa) := x1
            have y2 : wz.cell? ⟨fb, 2, none⟩ = some (.int .i64 (re + 1)) := x2
            have y3 : wz.cell? ⟨fb, 3, none⟩ = some (.bool ge) := x3
            have y4 : wz.cell? ⟨fb, 4, none⟩ = some (.slice ca cx.length c1) := x4
            have y5 : wz.cell? ⟨fb, 5, none⟩ = some (.slice ka kx.length kc) := x5
            have y6 : wz.cell? ⟨fb, 6, none⟩ = some (.slice pa' px.length pc) := x6
            have y7 : wz.cell? ⟨fb, 7, none⟩ = some (.slice ha hx.length hc) := x7
            clear x0 x1 x2 x3 x4 x5 x6 x7
            have v0 : wz.cell? ⟨gq, 0, none⟩ = some v := by rw [cell_of_row _ gq 0 _ 24 (0, 0) HQZ.out.box]; rfl
            have HBN : Below wz.heap.size wz (wz.alloc (.cells #[.string nm, .int .i64 pa, .int .i64 (re + 1), .bool ge, .slice ca cx.length c1, .slice ka kx.length kc, .slice pa' px.length pc, .slice ha hx.length hc] 36)) := below_new (Below.refl _ _) (Nat.le_refl _) _
            have HQN : Hid (QAt w2 (wz.alloc (.cells #[.string nm, .int .i64 pa, .int .i64 (re + 1), .bool ge, .slice ca cx.length c1, .slice ka kx.length kc, .slice pa' px.length pc, .slice ha hx.length hc] 36)) gq v gs) := HQZ.out.new HBN
            have HFN : Hid (Fn.okn (Nq gq v (wz.alloc (.cells #[.string nm, .int .i64 pa, .int .i64 (re + 1), .bool ge, .slice ca cx.length c1, .slice ka kx.length kc, .slice pa' px.length pc, .slice ha hx.length hc] 36))) (wz.alloc (.cells #[.string nm, .int .i64 pa, .int .i64 (re + 1), .bool ge, .slice ca cx.length c1, .slice ka kx.length kc, .slice pa' px.length pc, .slice ha hx.length hc] 36)) (⟨nm, pa, re + 1, ge, ⟨ca, c1, cx⟩, ⟨ka, kc, kx⟩, ⟨pa', pc, px⟩, ⟨ha, hc, hx⟩⟩ : Fn)) := HFZ.out.move (fun b hb => ⟨by have := hb.1; rw [size_new]; omega, hb.2⟩) (fun b j u hn hcx => by rw [HBN.cell (p := ⟨b, j, none⟩) hn.1]; exact hcx)
            have own1 := HQN.out.own
            have nw : ∀ j u, (fnC (⟨nm, pa, re + 1, ge, ⟨ca, c1, cx⟩, ⟨ka, kc, kx⟩, ⟨pa', pc, px⟩, ⟨ha, hc, hx⟩⟩ : Fn))[j]? = some u → (wz.alloc (.cells #[.string nm, .int .i64 pa, .int .i64 (re + 1), .bool ge, .slice ca cx.length c1, .slice ka kx.length kc, .slice pa' px.length pc, .slice ha hx.length hc] 36)).cell? ((⟨wz.heap.size, 0, none⟩ : Addr).add j) = some u := World.news_of_block (cs := #[.string nm, .int .i64 pa, .int .i64 (re + 1), .bool ge, .slice ca cx.length c1, .slice ka kx.length kc, .slice pa' px.length pc, .slice ha hx.length hc]) (t := 36) (fr := (0, 0)) (heap_alloc_new wz _)
            have ln : gs.length ≤ 200 := by have := HGL.out; omega
            have bq : gq + 1 ≤ (wz.alloc (.cells #[.string nm, .int .i64 pa, .int .i64 (re + 1), .bool ge, .slice ca cx.length c1, .slice ka kx.length kc, .slice pa' px.length pc, .slice ha hx.length hc] 36)).heap.size := by have := HQZ.out.lt; rw [size_new]; omega
            clear HBN HQZ HFZ HBX
            go_wp2_with (at_builtin; refine wpList_append_lies _ rfl _ _ 22 rfl (gq + 1) 36 i36 (.agg #[.string ⟨#[]⟩, .int .i64 0, .int .i64 0, .bool false, .slice none 0 0, .slice none 0 0, .slice none 0 0, .slice none 0 0]) 8 136 Tryd.underlying22 hi36 hz36 hs36 hb36 rfl (by decide) v gs.length (gs.flatMap fnC) rfl own1 ⟨wz.heap.size, 0, none⟩ 1 1 (fnC (⟨nm, pa, re + 1, ge, ⟨ca, c1, cx⟩, ⟨ka, kc, kx⟩, ⟨pa', pc, px⟩, ⟨ha, hc, hx⟩⟩ : Fn)) rfl rfl nw (fn_one _) (by decide) (by unfold maxLen; omega) (by omega) bq _ rfl ?_)
            intro g cap5 w5 ho5 hg5 hl5 hlt5
            have HP : Hid (QAt w2 (w5.setCell ⟨gq, 0, none⟩ (.slice (some ⟨g, 0, none⟩) (gs.length + 1) cap5)) gq (.slice (some ⟨g, 0, none⟩) (gs.length + 1) cap5) (gs ++ [(⟨nm, pa, re + 1, ge, ⟨ca, c1, cx⟩, ⟨ka, kc, kx⟩, ⟨pa', pc, px⟩, ⟨ha, hc, hx⟩⟩ : Fn)])) := HQN.out.put HFN.out ho5 hg5 (by rcases hl5 with e | e; exact Or.inl e; exact Or.inr (by rw [e, size_new]; omega))
            have HBQ : w5.heap[gq]? = some (.cells #[v] 24 (0, 0)) := (hg5.block gq HQN.out.lt (fun e => by have := (own_blk HQN.out.own gq e.symm).1; omega)).trans HQN.out.box
            have c5 : w5.cell? ⟨gq, 0, none⟩ = some v := by rw [cell_of_row _ gq 0 _ 24 (0, 0) HBQ]; rfl
            have f5 : w5.frozen? ⟨gq, 0, none⟩ = false := frozen_of_row w5 gq 0 _ 24 HBQ
            have HMM : Hid (MoAt fs (gs ++ [(⟨nm, pa, re + 1, ge, ⟨ca, c1, cx⟩, ⟨ka, kc, kx⟩, ⟨pa', pc, px⟩, ⟨ha, hc, hx⟩⟩ : Fn)]) (k + 1)) := HMP.out _ HMF.out
            clear own1 nw ho5 hg5 hl5 hlt5 HBQ y0 y1 y2 y3 y4 y5 y6 y7 v0
            go_wp2_with fail
            refine ⟨⟨k + 1, _, _, ⟨c, HP.out, HMM.out⟩, by go_num⟩, ?_⟩
            simp [intOf]
            omega
        · by_cases hk : (kx.length : Int) < 65536
          · have HMF0 : Hid (∀ g2 cap2, More (⟨nm, pa, re, ge, ⟨ca, c1, cx⟩, ⟨ka, kc, kx⟩, ⟨pa', pc, px⟩, ⟨ha, hc, hx⟩⟩ : Fn) (⟨nm, pa, re, ge, ⟨ca, c1, cx⟩, ⟨some ⟨g2, 0, none⟩, cap2, kx ++ [⟨mt, mb, ms⟩]⟩, ⟨pa', pc, px⟩, ⟨ha, hc, hx⟩⟩ : Fn)) := fun g2 cap2 => ⟨rfl, rfl, rfl, rfl, rfl, Int.le_refl _, by show re ≤ 400; have := HZ.out.2.2.2.1; omega, ⟨[⟨mt, mb, ms⟩], rfl⟩, by show (kx ++ [_]).length ≤ 65536; simp; omega⟩
            have HQA : QAt w2 (wr.alloc (.cells #[.string nm, .int .i64 pa, .int .i64 (re), .bool ge, .slice ca cx.length c1, .slice ka kx.length kc, .slice pa' px.length pc, .slice ha hx.length hc] 36)) gq v gs := HQ.out.new (below_new (Below.refl _ _) (Nat.le_refl _) _)
            have HFA : Hid (Fn.okn (Nq gq v (wr.alloc (.cells #[.string nm, .int .i64 pa, .int .i64 (re), .bool ge, .slice ca cx.length c1, .slice ka kx.length kc, .slice pa' px.length pc, .slice ha hx.length hc] 36))) (wr.alloc (.cells #[.string nm, .int .i64 pa, .int .i64 (re), .bool ge, .slice ca cx.length c1, .slice ka kx.length kc, .slice pa' px.length pc, .slice ha hx.length hc] 36)) (⟨nm, pa, re, ge, ⟨ca, c1, cx⟩, ⟨ka, kc, kx⟩, ⟨pa', pc, px⟩, ⟨ha, hc, hx⟩⟩ : Fn)) := old_okn HQA HGQ.out HOK2.out
            have HBA : Hid ((wr.alloc (.cells #[.string nm, .int .i64 pa, .int .i64 (re), .bool ge, .slice ca cx.length c1, .slice ka kx.length kc, .slice pa' px.length pc, .slice ha hx.length hc] 36)).heap[wr.heap.size]? = some (.cells #[.string nm, .int .i64 pa, .int .i64 (re), .bool ge, .slice ca cx.length c1, .slice ka kx.length kc, .slice pa' px.length pc, .slice ha hx.length hc] 36 (0, 0))) := heap_alloc_new wr _
            have HBW := below_new (Below.refl wr.heap.size wr) (Nat.le_refl _) (.cells #[.string nm, .int .i64 pa, .int .i64 (re), .bool ge, .slice ca cx.length c1, .slice ka kx.length kc, .slice pa' px.length pc, .slice ha hx.length hc] 36)
            have e0 := cells_below HBW _ _ hb0
            have e1 := cells_below HBW _ _ hb1
            have e2 := cells_below HBW _ _ hb2
            have HBW2 : Hid (Below wr.heap.size wr (wr.alloc (.cells #[.string nm, .int .i64 pa, .int .i64 (re), .bool ge, .slice ca cx.length c1, .slice ka kx.length kc, .slice pa' px.length pc, .slice ha hx.length hc] 36))) := HBW
            clear HBW HQA hb0 hb1 hb2
            have HKL : Hid (kx.length ≤ 65536) := by show kx.length ≤ 65536; omega
            go_wp2_with fail
            generalize (wr.alloc (.cells #[.string nm, .int .i64 pa, .int .i64 (re), .bool ge, .slice ca cx.length c1, .slice ka kx.length kc, .slice pa' px.length pc, .slice ha hx.length hc] 36)) = wa at *
            have HFB : Hid (∃ fb, wr.heap.size = fb) := ⟨_, rfl⟩
            generalize hfb : wr.heap.size = fb at *
            have HFE : Hid (wr.heap.size = fb) := hfb
            clear hfb HFB g0 g1 g2 g3 g4 g5 g6 g7 m0
            refine Code.wp_mono ?_ (reg10 wa kx ka kc mt mb ms _ fb _ HKL.out HFA.out.consts.ok e0 e1 e2 HBA.out rfl _ _ _ _ _ _ _ _ _ _ _ _ _ _ _ _ _ _ _ _ _ _ _ _ _ _ _ _ _ _ _ _ _ _ _ _ _ _ _ _ _ _ _ _ _ _ _ _ _ _ _ _ _ _ _ _ _ _ _ _ _ _)
            intro ex10 a10 w10 hp10
            obtain ⟨rfl, g2, cap2, w5, u30, u31, u32, u33, u34, u35, u36, u37, rfl, rfl, bl5, ho5⟩ := P10_out hp10
            clear hp10
            obtain ⟨q1, q2, q3⟩ := after10 (re' := re) HQ.out HGQ.out HOK2.out (by rw [HFE.out]; exact HBW2.out) HFE.out HBA.out bl5 ho5
            have HQZ : Hid (QAt w2 (w5.setCell ⟨fb, 5, none⟩ (.slice (some ⟨g2, 0, none⟩) (kx.length + 1) cap2)) gq v gs) := q1
            have HFZ : Hid (Fn.okn (Nq gq v (w5.setCell ⟨fb, 5, none⟩ (.slice (some ⟨g2, 0, none⟩) (kx.length + 1) cap2))) (w5.setCell ⟨fb, 5, none⟩ (.slice (some ⟨g2, 0, none⟩) (kx.length + 1) cap2)) (⟨nm, pa, re, ge, ⟨ca, c1, cx⟩, ⟨some ⟨g2, 0, none⟩, cap2, kx ++ [⟨mt, mb, ms⟩]⟩, ⟨pa', pc, px⟩, ⟨ha, hc, hx⟩⟩ : Fn)) := q2
            have HBX : Hid ((w5.setCell ⟨fb, 5, none⟩ (.slice (some ⟨g2, 0, none⟩) (kx.length + 1) cap2)).heap[fb]? = some (.cells #[.string nm, .int .i64 pa, .int .i64 (re), .bool ge, .slice ca cx.length c1, .slice (some ⟨g2, 0, none⟩) (kx.length + 1) cap2, .slice pa' px.length pc, .slice ha hx.length hc] 36 (0, 0))) := q3
            have HMF := HMF0.out g2 cap2
            have HMF : Hid (More (⟨nm, pa, re, ge, ⟨ca, c1, cx⟩, ⟨ka, kc, kx⟩, ⟨pa', pc, px⟩, ⟨ha, hc, hx⟩⟩ : Fn) (⟨nm, pa, re, ge, ⟨ca, c1, cx⟩, ⟨some ⟨g2, 0, none⟩, cap2, kx ++ [⟨mt, mb, ms⟩]⟩, ⟨pa', pc, px⟩, ⟨ha, hc, hx⟩⟩ : Fn)) := HMF
            clear q1 q2 q3 HMF0 HFA HBA e0 e1 e2 HBW2 HKL
            generalize w5.setCell ⟨fb, 5, none⟩ (.slice (some ⟨g2, 0, none⟩) (kx.length + 1) cap2) = wz at *
            clear bl5 ho5 w5
            have kle : (kx ++ [(⟨mt, mb, ms⟩ : Cst)]).length = kx.length + 1 := by simp
            have x0 := cell_of_row wz fb 0 _ 36 (0, 0) HBX.out
            have x1 := cell_of_row wz fb 1 _ 36 (0, 0) HBX.out
            have x2 := cell_of_row wz fb 2 _ 36 (0, 0) HBX.out
            have x3 := cell_of_row wz fb 3 _ 36 (0, 0) HBX.out
            have x4 := cell_of_row wz fb 4 _ 36 (0, 0) HBX.out
            have x5 := cell_of_row wz fb 5 _ 36 (0, 0) HBX.out
            have x6 := cell_of_row wz fb 6 _ 36 (0, 0) HBX.out
            have x7 := cell_of_row wz fb 7 _ 36 (0, 0) HBX.out
            have y0 : wz.cell? ⟨fb, 0, none⟩ = some (.string nm) := x0
            have y1 : wz.cell? ⟨fb, 1, none⟩ = some (.int .i64 pa) := x1
            have y2 : wz.cell? ⟨fb, 2, none⟩ = some (.int .i64 (re)) := x2
            have y3 : wz.cell? ⟨fb, 3, none⟩ = some (.bool ge) := x3
            have y4 : wz.cell? ⟨fb, 4, none⟩ = some (.slice ca cx.length c1) := x4
            have y5 : wz.cell? ⟨fb, 5, none⟩ = some (.slice (some ⟨g2, 0, none⟩) (kx.length + 1) cap2) := x5
            have y6 : wz.cell? ⟨fb, 6, none⟩ = some (.slice pa' px.length pc) := x6
            have y7 : wz.cell? ⟨fb, 7, none⟩ = some (.slice ha hx.length hc) := x7
            clear x0 x1 x2 x3 x4 x5 x6 x7
            have v0 : wz.cell? ⟨gq, 0, none⟩ = some v := by rw [cell_of_row _ gq 0 _ 24 (0, 0) HQZ.out.box]; rfl
            have HBN : Below wz.heap.size wz (wz.alloc (.cells #[.string nm, .int .i64 pa, .int .i64 (re), .bool ge, .slice ca cx.length c1, .slice (some ⟨g2, 0, none⟩) (kx.length + 1) cap2, .slice pa' px.length pc, .slice ha hx.length hc] 36)) := below_new (Below.refl _ _) (Nat.le_refl _) _
            have HQN : Hid (QAt w2 (wz.alloc (.cells #[.string nm, .int .i64 pa, .int .i64 (re), .bool ge, .slice ca cx.length c1, .slice (some ⟨g2, 0, none⟩) (kx.length + 1) cap2, .slice pa' px.length pc, .slice ha hx.length hc] 36)) gq v gs) := HQZ.out.new HBN
            have HFN : Hid (Fn.okn (Nq gq v (wz.alloc (.cells #[.string nm, .int .i64 pa, .int .i64 (re), .bool ge, .slice ca cx.length c1, .slice (some ⟨g2, 0, none⟩) (kx.length + 1) cap2, .slice pa' px.length pc, .slice ha hx.length hc] 36))) (wz.alloc (.cells #[.string nm, .int .i64 pa, .int .i64 (re), .bool ge, .slice ca cx.length c1, .slice (some ⟨g2, 0, none⟩) (kx.length + 1) cap2, .slice pa' px.length pc, .slice ha hx.length hc] 36)) (⟨nm, pa, re, ge, ⟨ca, c1, cx⟩, ⟨some ⟨g2, 0, none⟩, cap2, kx ++ [⟨mt, mb, ms⟩]⟩, ⟨pa', pc, px⟩, ⟨ha, hc, hx⟩⟩ : Fn)) := HFZ.out.move (fun b hb => ⟨by have := hb.1; rw [size_new]; omega, hb.2⟩) (fun b j u hn hcx => by rw [HBN.cell (p := ⟨b, j, none⟩) hn.1]; exact hcx)
            have own1 := HQN.out.own
            have nw : ∀ j u, (fnC (⟨nm, pa, re, ge, ⟨ca, c1, cx⟩, ⟨some ⟨g2, 0, none⟩, cap2, kx ++ [⟨mt, mb, ms⟩]⟩, ⟨pa', pc, px⟩, ⟨ha, hc, hx⟩⟩ : Fn))[j]? = some u → (wz.alloc (.cells #[.string nm, .int .i64 pa, .int .i64 (re), .bool ge, .slice ca cx.length c1, .slice (some ⟨g2, 0, none⟩) (kx.length + 1) cap2, .slice pa' px.length pc, .slice ha hx.length hc] 36)).cell? ((⟨wz.heap.size, 0, none⟩ : Addr).add j) = some u := by
              have hfl : fnC (⟨nm, pa, re, ge, ⟨ca, c1, cx⟩, ⟨some ⟨g2, 0, none⟩, cap2, kx ++ [⟨mt, mb, ms⟩]⟩, ⟨pa', pc, px⟩, ⟨ha, hc, hx⟩⟩ : Fn) = [.string nm, .int .i64 pa, .int .i64 (re), .bool ge, .slice ca cx.length c1, .slice (some ⟨g2, 0, none⟩) (kx.length + 1) cap2, .slice pa' px.length pc, .slice ha hx.length hc] := by simp [fnC, Sli.val]
              rw [hfl]
              exact World.news_of_block (cs := #[.string nm, .int .i64 pa, .int .i64 (re), .bool ge, .slice ca cx.length c1, .slice (some ⟨g2, 0, none⟩) (kx.length + 1) cap2, .slice pa' px.length pc, .slice ha hx.length hc]) (t := 36) (fr := (0, 0)) (heap_alloc_new wz _)
            have ln : gs.length ≤ 200 := by have := HGL.out; omega
            have bq : gq + 1 ≤ (wz.alloc (.cells #[.string nm, .int .i64 pa, .int .i64 (re), .bool ge, .slice ca cx.length c1, .slice (some ⟨g2, 0, none⟩) (kx.length + 1) cap2, .slice pa' px.length pc, .slice ha hx.length hc] 36)).heap.size := by have := HQZ.out.lt; rw [size_new]; omega
            clear HBN HQZ HFZ HBX
            go_wp2_with (at_builtin; refine wpList_append_lies _ rfl _ _ 22 rfl (gq + 1) 36 i36 (.agg #[.string ⟨#[]⟩, .int .i64 0, .int .i64 0, .bool false, .slice none 0 0, .slice none 0 0, .slice none 0 0, .slice none 0 0]) 8 136 Tryd.underlying22 hi36 hz36 hs36 hb36 rfl (by decide) v gs.length (gs.flatMap fnC) rfl own1 ⟨wz.heap.size, 0, none⟩ 1 1 (fnC (⟨nm, pa, re, ge, ⟨ca, c1, cx⟩, ⟨some ⟨g2, 0, none⟩, cap2, kx ++ [⟨mt, mb, ms⟩]⟩, ⟨pa', pc, px⟩, ⟨ha, hc, hx⟩⟩ : Fn)) rfl rfl nw (fn_one _) (by decide) (by unfold maxLen; omega) (by omega) bq _ rfl ?_)
            intro g cap5 w5 ho5 hg5 hl5 hlt5
            have HP : Hid (QAt w2 (w5.setCell ⟨gq, 0, none⟩ (.slice (some ⟨g, 0, none⟩) (gs.length + 1) cap5)) gq (.slice (some ⟨g, 0, none⟩) (gs.length + 1) cap5) (gs ++ [(⟨nm, pa, re, ge, ⟨ca, c1, cx⟩, ⟨some ⟨g2, 0, none⟩, cap2, kx ++ [⟨mt, mb, ms⟩]⟩, ⟨pa', pc, px⟩, ⟨ha, hc, hx⟩⟩ : Fn)])) := HQN.out.put HFN.out ho5 hg5 (by rcases hl5 with e | e; exact Or.inl e; exact Or.inr (by rw [e, size_new]; omega))
            have HBQ : w5.heap[gq]? = some (.cells #[v] 24 (0, 0)) := (hg5.block gq HQN.out.lt (fun e => by have := (own_blk HQN.out.own gq e.symm).1; omega)).trans HQN.out.box
            have c5 : w5.cell? ⟨gq, 0, none⟩ = some v := by rw [cell_of_row _ gq 0 _ 24 (0, 0) HBQ]; rfl
            have f5 : w5.frozen? ⟨gq, 0, none⟩ = false := frozen_of_row w5 gq 0 _ 24 HBQ
            have HMM : Hid (MoAt fs (gs ++ [(⟨nm, pa, re, ge, ⟨ca, c1, cx⟩, ⟨some ⟨g2, 0, none⟩, cap2, kx ++ [⟨mt, mb, ms⟩]⟩, ⟨pa', pc, px⟩, ⟨ha, hc, hx⟩⟩ : Fn)]) (k + 1)) := HMP.out _ HMF.out
            clear own1 nw ho5 hg5 hl5 hlt5 HBQ y0 y1 y2 y3 y4 y5 y6 y7 v0
            go_wp2_with fail
            refine ⟨⟨k + 1, _, _, ⟨c, HP.out, HMM.out⟩, by go_num⟩, ?_⟩
            simp [intOf]
            omega
          · have hkn : 65535 < kx.length := by omega
            clear hk
            have HMF : Hid (More (⟨nm, pa, re, ge, ⟨ca, c1, cx⟩, ⟨ka, kc, kx⟩, ⟨pa', pc, px⟩, ⟨ha, hc, hx⟩⟩ : Fn) (⟨nm, pa, re, ge, ⟨ca, c1, cx⟩, ⟨ka, kc, kx⟩, ⟨pa', pc, px⟩, ⟨ha, hc, hx⟩⟩ : Fn)) := ⟨rfl, rfl, rfl, rfl, rfl, Int.le_refl _, by show re ≤ 400; omega, ⟨[], by simp⟩, by show kx.length ≤ 65536; exact HZ.out.2.1⟩
            have HQZ : Hid (QAt w2 (wr.alloc (.cells #[.string nm, .int .i64 pa, .int .i64 (re), .bool ge, .slice ca cx.length c1, .slice ka kx.length kc, .slice pa' px.length pc, .slice ha hx.length hc] 36)) gq v gs) := HQ.out.new (below_new (Below.refl _ _) (Nat.le_refl _) _)
            have HFZ0 : Fn.okn (Nq gq v (wr.alloc (.cells #[.string nm, .int .i64 pa, .int .i64 (re), .bool ge, .slice ca cx.length c1, .slice ka kx.length kc, .slice pa' px.length pc, .slice ha hx.length hc] 36))) (wr.alloc (.cells #[.string nm, .int .i64 pa, .int .i64 (re), .bool ge, .slice ca cx.length c1, .slice ka kx.length kc, .slice pa' px.length pc, .slice ha hx.length hc] 36)) (⟨nm, pa, re, ge, ⟨ca, c1, cx⟩, ⟨ka, kc, kx⟩, ⟨pa', pc, px⟩, ⟨ha, hc, hx⟩⟩ : Fn) := old_okn HQZ.out HGQ.out HOK2.out
            have HFZ : Hid (Fn.okn (Nq gq v (wr.alloc (.cells #[.string nm, .int .i64 pa, .int .i64 (re), .bool ge, .slice ca cx.length c1, .slice ka kx.length kc, .slice pa' px.length pc, .slice ha hx.length hc] 36))) (wr.alloc (.cells #[.string nm, .int .i64 pa, .int .i64 (re), .bool ge, .slice ca cx.length c1, .slice ka kx.length kc, .slice pa' px.length pc, .slice ha hx.length hc] 36)) (⟨nm, pa, re, ge, ⟨ca, c1, cx⟩, ⟨ka, kc, kx⟩, ⟨pa', pc, px⟩, ⟨ha, hc, hx⟩⟩ : Fn)) := ⟨HFZ0.code, HFZ0.consts, HFZ0.caps, HFZ0.hnds⟩
            have HBX : Hid ((wr.alloc (.cells #[.string nm, .int .i64 pa, .int .i64 (re), .bool ge, .slice ca cx.length c1, .slice ka kx.length kc, .slice pa' px.length pc, .slice ha hx.length hc] 36)).heap[wr.heap.size]? = some (.cells #[.string nm, .int .i64 pa, .int .i64 (re), .bool ge, .slice ca cx.length c1, .slice ka kx.length kc, .slice pa' px.length pc, .slice ha hx.length hc] 36 (0, 0))) := heap_alloc_new wr _
            clear HFZ0
            have HKN : Hid (65535 < kx.length) := hkn
            clear hkn
            go_upto_if 29 with fail
            rw [show decide ((kx.length : Int) < 65536) = false from decide_eq_false (by have := HKN.out; omega)]
            generalize (wr.alloc (.cells #[.string nm, .int .i64 pa, .int .i64 (re), .bool ge, .slice ca cx.length c1, .slice ka kx.length kc, .slice pa' px.length pc, .slice ha hx.length hc] 36)) = wz at *
            generalize wr.heap.size = fb at *
            clear g0 g1 g2 g3 g4 g5 g6 g7 m0 hb0 hb1 hb2
            have x0 := cell_of_row wz fb 0 _ 36 (0, 0) HBX.out
            have x1 := cell_of_row wz fb 1 _ 36 (0, 0) HBX.out
            have x2 := cell_of_row wz fb 2 _ 36 (0, 0) HBX.out
            have x3 := cell_of_row wz fb 3 _ 36 (0, 0) HBX.out
            have x4 := cell_of_row wz fb 4 _ 36 (0, 0) HBX.out
            have x5 := cell_of_row wz fb 5 _ 36 (0, 0) HBX.out
            have x6 := cell_of_row wz fb 6 _ 36 (0, 0) HBX.out
            have x7 := cell_of_row wz fb 7 _ 36 (0, 0) HBX.out
            have y0 : wz.cell? ⟨fb, 0, none⟩ = some (.string nm) := x0
            have y1 : wz.cell? ⟨fb, 1, none⟩ = some (.int .i64 pa) := x1
            have y2 : wz.cell? ⟨fb, 2, none⟩ = some (.int .i64 (re)) := x2
            have y3 : wz.cell? ⟨fb, 3, none⟩ = some (.bool ge) := x3
            have y4 : wz.cell? ⟨fb, 4, none⟩ = some (.slice ca cx.length c1) := x4
            have y5 : wz.cell? ⟨fb, 5, none⟩ = some (.slice ka kx.length kc) := x5
            have y6 : wz.cell? ⟨fb, 6, none⟩ = some (.slice pa' px.length pc) := x6
            have y7 : wz.cell? ⟨fb, 7, none⟩ = some (.slice ha hx.length hc) := x7
            clear x0 x1 x2 x3 x4 x5 x6 x7
            have v0 : wz.cell? ⟨gq, 0, none⟩ = some v := by rw [cell_of_row _ gq 0 _ 24 (0, 0) HQZ.out.box]; rfl
            have HBN : Below wz.heap.size wz (wz.alloc (.cells #[.string nm, .int .i64 pa, .int .i64 (re), .bool ge, .slice ca cx.length c1, .slice ka kx.length kc, .slice pa' px.length pc, .slice ha hx.length hc] 36)) := below_new (Below.refl _ _) (Nat.le_refl _) _
            have HQN : Hid (QAt w2 (wz.alloc (.cells #[.string nm, .int .i64 pa, .int .i64 (re), .bool ge, .slice ca cx.length c1, .slice ka kx.length kc, .slice pa' px.length pc, .slice ha hx.length hc] 36)) gq v gs) := HQZ.out.new HBN
            have HFN : Hid (Fn.okn (Nq gq v (wz.alloc (.cells #[.string nm, .int .i64 pa, .int .i64 (re), .bool ge, .slice ca cx.length c1, .slice ka kx.length kc, .slice pa' px.length pc, .slice ha hx.length hc] 36))) (wz.alloc (.cells #[.string nm, .int .i64 pa, .int .i64 (re), .bool ge, .slice ca cx.length c1, .slice ka kx.length kc, .slice pa' px.length pc, .slice ha hx.length hc] 36)) (⟨nm, pa, re, ge, ⟨ca, c1, cx⟩, ⟨ka, kc, kx⟩, ⟨pa', pc, px⟩, ⟨ha, hc, hx⟩⟩ : Fn)) := HFZ.out.move (fun b hb => ⟨by have := hb.1; rw [size_new]; omega, hb.2⟩) (fun b j u hn hcx => by rw [HBN.cell (p := ⟨b, j, none⟩) hn.1]; exact hcx)
            have own1 := HQN.out.own
            have nw : ∀ j u, (fnC (⟨nm, pa, re, ge, ⟨ca, c1, cx⟩, ⟨ka, kc, kx⟩, ⟨pa', pc, px⟩, ⟨ha, hc, hx⟩⟩ : Fn))[j]? = some u → (wz.alloc (.cells #[.string nm, .int .i64 pa, .int .i64 (re), .bool ge, .slice ca cx.length c1, .slice ka kx.length kc, .slice pa' px.length pc, .slice ha hx.length hc] 36)).cell? ((⟨wz.heap.size, 0, none⟩ : Addr).add j) = some u := World.news_of_block (cs := #[.string nm, .int .i64 pa, .int .i64 (re), .bool ge, .slice ca cx.length c1, .slice ka kx.length kc, .slice pa' px.length pc, .slice ha hx.length hc]) (t := 36) (fr := (0, 0)) (heap_alloc_new wz _)
            have ln : gs.length ≤ 200 := by have := HGL.out; omega
            have bq : gq + 1 ≤ (wz.alloc (.cells #[.string nm, .int .i64 pa, .int .i64 (re), .bool ge, .slice ca cx.length c1, .slice ka kx.length kc, .slice pa' px.length pc, .slice ha hx.length hc] 36)).heap.size := by have := HQZ.out.lt; rw [size_new]; omega
            clear HBN HQZ HFZ HBX
            go_wp2_with (at_builtin; refine wpList_append_lies _ rfl _ _ 22 rfl (gq + 1) 36 i36 (.agg #[.string ⟨#[]⟩, .int .i64 0, .int .i64 0, .bool false, .slice none 0 0, .slice none 0 0, .slice none 0 0, .slice none 0 0]) 8 136 Tryd.underlying22 hi36 hz36 hs36 hb36 rfl (by decide) v gs.length (gs.flatMap fnC) rfl own1 ⟨wz.heap.size, 0, none⟩ 1 1 (fnC (⟨nm, pa, re, ge, ⟨ca, c1, cx⟩, ⟨ka, kc, kx⟩, ⟨pa', pc, px⟩, ⟨ha, hc, hx⟩⟩ : Fn)) rfl rfl nw (fn_one _) (by decide) (by unfold maxLen; omega) (by omega) bq _ rfl ?_)
            intro g cap5 w5 ho5 hg5 hl5 hlt5
            have HP : Hid (QAt w2 (w5.setCell ⟨gq, 0, none⟩ (.slice (some ⟨g, 0, none⟩) (gs.length + 1) cap5)) gq (.slice (some ⟨g, 0, none⟩) (gs.length + 1) cap5) (gs ++ [(⟨nm, pa, re, ge, ⟨ca, c1, cx⟩, ⟨ka, kc, kx⟩, ⟨pa', pc, px⟩, ⟨ha, hc, hx⟩⟩ : Fn)])) := HQN.out.put HFN.out ho5 hg5 (by rcases hl5 with e | e; exact Or.inl e; exact Or.inr (by rw [e, size_new]; omega))
            have HBQ : w5.heap[gq]? = some (.cells #[v] 24 (0, 0)) := (hg5.block gq HQN.out.lt (fun e => by have := (own_blk HQN.out.own gq e.symm).1; omega)).trans HQN.out.box
            have c5 : w5.cell? ⟨gq, 0, none⟩ = some v := by rw [cell_of_row _ gq 0 _ 24 (0, 0) HBQ]; rfl
            have f5 : w5.frozen? ⟨gq, 0, none⟩ = false := frozen_of_row w5 gq 0 _ 24 HBQ
            have HMM : Hid (MoAt fs (gs ++ [(⟨nm, pa, re, ge, ⟨ca, c1, cx⟩, ⟨ka, kc, kx⟩, ⟨pa', pc, px⟩, ⟨ha, hc, hx⟩⟩ : Fn)]) (k + 1)) := HMP.out _ HMF.out
            clear own1 nw ho5 hg5 hl5 hlt5 HBQ y0 y1 y2 y3 y4 y5 y6 y7 v0
            go_wp2_with fail
            refine ⟨⟨k + 1, _, _, ⟨c, HP.out, HMM.out⟩, by go_num⟩, ?_⟩
            simp [intOf]
            omega
      · have hke : k = fs.length := by omega
        obtain ⟨adq, capq, hvq, hfq⟩ := HQ.out.fns
        subst hvq
        have HGL : Hid (gs.length = fs.length) := by show gs.length = fs.length; have := HM.out.len; omega
        have dk : decide ((k : Int) < (fs.length : Int)) = false := decide_eq_false (by omega)
        have v0 : wr.cell? ⟨gq, 0, none⟩ = some (.slice adq gs.length capq) := by rw [cell_of_row _ gq 0 _ 24 (0, 0) HQ.out.box]; rfl
        obtain ⟨okr, shr, m0, _, _⟩ := HF.out wr (HFS.out wr _ gs HQ.out)
        clear hfq
        by_cases h2 : (gs.length : Int) < 200
        · have fne : fs ≠ [] := by
            intro e
            have := (check_each HCB.out).2.1
            rw [e] at this
            cases this
          obtain ⟨f0, hf0⟩ : ∃ f0, fs[0]? = some f0 := ⟨_, List.getElem?_eq_getElem (List.length_pos_iff.2 fne)⟩
          obtain ⟨b, off, had, hcc⟩ := okr.all.cells fne
          simp only at had
          subst had
          have HC0 : Hid (∀ (j : Nat) u, (fnC f0)[j]? = some u → wr.cell? ⟨b, off + j, none⟩ = some u) := fun j u hj => by
            have := hcc 0 f0 hf0 j u hj
            simpa using this
          have HFP : Hid (0 < fs.length) := List.length_pos_iff.2 fne
          have HO2 : Hid (f0.ok w2) := (HOF.out 0 f0 hf0).1
          have HCK : Hid (checkB (gs ++ [f0]) = true) := HM.out.check1 hke HCB.out (List.mem_of_getElem? hf0) (by omega)
          have HG2 : Hid (gs.length < 200) := by show gs.length < 200; omega
          clear hcc okr shr fne hf0 HM
          go_wp2_with fail
          refine Code.wp_mono ?_ (reg14 w2 wr gq _ b off fs.length cap _ gs f0 HQ.out HGQ.out HO2.out HFP.out HG2.out m0 HC0.out _ _ _ _ _ _ _ _ _ _ _ _ _ _ _ _ _ _ _ _ _ _ _ _ _ _ _ _ _ _ _ _ _ _ _ _ _ _ _ _ _ _ _ _ _ _ _ _ _ _ _ _ _ _ _ _ _ _ _ _ _ _)
          intro ex14 a14 w14 hp14
          obtain ⟨rfl, g, cap5, w5, u49, u50, u51, u52, u53, u54, u55, u56, u57, rfl, rfl, hq5⟩ := P14_out hp14
          clear hp14
          have HQE : Hid (QAt w2 (w5.setCell ⟨gq, 0, none⟩ (.slice (some ⟨g, 0, none⟩) (gs.length + 1) cap5)) gq (.slice (some ⟨g, 0, none⟩) (gs.length + 1) cap5) (gs ++ [f0])) := hq5
          have HCE : Hid (checkB (gs ++ [f0]) = true) := HCK.out
          clear hq5 HCK m0 v0
          generalize w5.setCell ⟨gq, 0, none⟩ (.slice (some ⟨g, 0, none⟩) (gs.length + 1) cap5) = wq at *
          have HBE : Hid (Below w.heap.size w wq) := (HF.out wq (HFS.out wq _ _ HQE.out)).2.2.2.2
          have ka := alive_any wq (HF.out wq (HFS.out wq _ _ HQE.out)).2.1
          have HFE : Hid (∀ w7, Below wq.heap.size wq w7 → QAt w2 w7 gq (.slice (some ⟨g, 0, none⟩) (gs.length + 1) cap5) (gs ++ [f0]) ∧ ShAt w7) := fun w7 h => ⟨HQE.out.new h, (HF.out w7 (HFS.out w7 _ _ (HQE.out.new h))).2.1⟩
          go_wp2_with fail
          refine ka.mono ?_
          rintro e w7 ⟨rfl, hb7⟩
          obtain ⟨q7, s7⟩ := HFE.out w7 hb7
          have c7 : w7.cell? ⟨gq, 0, none⟩ = some (.slice (some ⟨g, 0, none⟩) (gs.length + 1) cap5) := by rw [cell_of_row _ gq 0 _ 24 (0, 0) q7.box]; rfl
          obtain ⟨ad8, cap8, he8, hok8⟩ := q7.fns
          have kk := check_any ⟨ad8, cap8, (gs ++ [f0])⟩ w7 hok8 s7
          unfold Sli.val at kk
          simp only at kk
          rw [← he8] at kk
          have hci : checkI ((gs ++ [f0])) = 0 := by unfold checkI; rw [HCE.out]; rfl
          rw [hci] at kk
          have HB7 : Hid (Below w.heap.size w w7) := HBE.out.trans (hb7.mono HBE.out.size)
          clear ka hb7 q7 s7 hok8 he8 hci HQE HCE HFE
          go_wp2_with fail
          refine kk.mono ?_
          rintro e w9 ⟨rfl, hb9⟩
          have HB9 : Hid (Below w.heap.size w w9) := HB7.out.trans (hb9.mono HB7.out.size)
          clear kk hb9 c7
          go_wp2_with fail
          go_ret
          exact ⟨rfl, HB9.out⟩
        · have HQE : Hid (QAt w2 wr gq (.slice adq gs.length capq) gs) := HQ.out
          have HCE : Hid (checkB gs = true) := HM.out.check hke HCB.out
          have d2 : decide ((gs.length : Int) < 200) = false := decide_eq_false h2
          clear okr shr HM m0
          have HBE : Hid (Below w.heap.size w wr) := (HF.out wr (HFS.out wr _ _ HQE.out)).2.2.2.2
          have ka := alive_any wr (HF.out wr (HFS.out wr _ _ HQE.out)).2.1
          have HFE : Hid (∀ w7, Below wr.heap.size wr w7 → QAt w2 w7 gq (.slice adq gs.length capq) gs ∧ ShAt w7) := fun w7 h => ⟨HQE.out.new h, (HF.out w7 (HFS.out w7 _ _ (HQE.out.new h))).2.1⟩
          go_wp2_with fail
          refine ka.mono ?_
          rintro e w7 ⟨rfl, hb7⟩
          obtain ⟨q7, s7⟩ := HFE.out w7 hb7
          have c7 : w7.cell? ⟨gq, 0, none⟩ = some (.slice adq gs.length capq) := by rw [cell_of_row _ gq 0 _ 24 (0, 0) q7.box]; rfl
          obtain ⟨ad8, cap8, he8, hok8⟩ := q7.fns
          have kk := check_any ⟨ad8, cap8, gs⟩ w7 hok8 s7
          unfold Sli.val at kk
          simp only at kk
          rw [← he8] at kk
          have hci : checkI (gs) = 0 := by unfold checkI; rw [HCE.out]; rfl
          rw [hci] at kk
          have HB7 : Hid (Below w.heap.size w w7) := HBE.out.trans (hb7.mono HBE.out.size)
          clear ka hb7 q7 s7 hok8 he8 hci HQE HCE HFE
          go_wp2_with fail
          refine kk.mono ?_
          rintro e w9 ⟨rfl, hb9⟩
          have HB9 : Hid (Below w.heap.size w w9) := HB7.out.trans (hb9.mono HB7.out.size)
          clear kk hb9 c7
          go_wp2_with fail
          go_ret
          exact ⟨rfl, HB9.out⟩
  · rw [hci] at kc
    clear hcb hci
    go_enter Tryd.func7, Tryd.ntmps7
    go_wp2_with fail
    refine kc.mono ?_
    rintro e w2 ⟨rfl, hb2⟩
    have ka := alive_any w2 (HF.out w2 hb2).2.1
    have HB2 : Hid (Below w.heap.size w w2) := (HF.out w2 hb2).2.2.2.2
    clear kc hb2
    go_wp2_with fail
    refine ka.mono ?_
    rintro e w3 ⟨rfl, hb3⟩
    have HB3 : Hid (Below w.heap.size w w3) := HB2.out.trans (hb3.mono HB2.out.size)
    clear ka hb3
    go_wp2_with fail
    go_ret
    exact ⟨rfl, HB3.out⟩

end Go.Proofs.YtkoamenfbnpdbaaDoor.Cd
