/- touch. -/
import Derived.Test.YtkpdpdllbnihgabHH
import Derived.Deep.RegionWith
namespace Go.Proofs.Ytkpdpdllbnihgab.Hp
open Go.RowKit
set_option linter.unusedVariables false

def touchH (H : He) (n : Int) : He := { H with C := (Ce.breakD H.C n).1, br := H.br + ((Ce.breakD H.C n).2 : Int) }

section
variable {w w' w1 : World} {B hb : Nat} {O S : Nat → Prop} {H H' : He} {M M' : HV} {tg : Nat → Nat}

set_option maxRecDepth 100000 in
set_option maxHeartbeats 4000000 in
theorem touch_at (h : HeapAt w B hb tg H M) {i g cap : Nat} {ob : Ob} (hi : H.obs[i]? = some ob) (hvo : M.vo = ⟨some ⟨g, 0, none⟩, H.obs.length, cap⟩) :
    Calls Try.prog 27 #[.pointer (some ⟨hb, 0, none⟩), .pointer (some ⟨g, i * 12, none⟩)] w fun e w' => e = .returned (.tuple #[]) ∧ WentM w B hb tg (touchH H ob.cell) M w' := by
  obtain ⟨g', cap', ov, hvo', hov, t4, hne, hgl, hcell, hfz, hl1, hl2, hrow⟩ := h.obj hi
  rw [hvo] at hvo'
  injection hvo' with e1 e2 e3
  injection e1 with e1
  injection e1 with e1
  subst e1
  obtain ⟨c0, c1, c2, c3, c4, c5, fz⟩ := h.box
  have d11 := hcell 11 _ rfl
  simp only at d11
  obtain ⟨Oc, hcs, hOc⟩ := h.prt 6
  have hcs2 : Ce.Cs w.drew B M.cb Oc H.C := hcs.below ((Below.refl _ _).drew)
  have kb := Ce.break_any w.drew B M.cb Oc H.C hcs2 ob.cell
  have hbr := h.wf.br
  have hcnt := break_cnt H.C ob.cell
  have hlen : H.C.length ≤ Ce.top := by obtain ⟨E, v, _, _, _, q⟩ := hcs; exact q
  have hB0 := h.B0
  have HW : Hid (∀ w5, Ce.Went w.drew B M.cb Oc (Ce.breakD H.C ob.cell).1 w5 → WentM w B hb tg (touchH H ob.cell) M (w5.setCell ⟨hb, 5, none⟩ (.int .i64 (H.br + ((Ce.breakD H.C ob.cell).2 : Int)))) ∧ w5.cell? ⟨hb, 5, none⟩ = some (.int .i64 H.br) ∧ w5.frozen? ⟨hb, 5, none⟩ = false) := fun w5 q => by
    have hd : HeapAt w.drew B hb tg H M := h.below ((Below.refl _ _).drew)
    refine ⟨WentM.behind ((Below.refl _ _).drew) (hd.cels hOc q), ?_⟩
    obtain ⟨O', k1, k2, k3⟩ := q
    have hn : ¬ Oc hb := fun q => by have := hOc hb q; omega
    exact ⟨k2.cell (a := ⟨hb, 5, none⟩) c5 hn, by rw [World.frozen?_of_block (w := w.drew) (k2.block hb hB0.2.1 hn)]; exact fz 5⟩
  have hw1 : IntKind.i64.wrap (H.br + ((Ce.breakD H.C ob.cell).2 : Int)) = H.br + ((Ce.breakD H.C ob.cell).2 : Int) := by
    unfold Ce.top at hlen
    rw [IntKind.wrap_i64]
    omega
  generalize ob.cell = n at *
  generalize touchH H n = HT at *
  generalize ((Ce.breakD H.C n).2 : Int) = x at *
  generalize (Ce.breakD H.C n).1 = C1 at *
  generalize H.br = br at *
  generalize M.cb = cb at *
  have f5 := fz 5
  clear h hi hvo hov t4 hgl hcell hfz hl1 hl2 hrow c0 c1 c2 c3 hcs hcs2 hOc hbr hcnt hlen hB0 fz e2 e3
  go_enter Try.func27, Try.ntmps27
  go_wp2_with fail
  first
  | (go_region_with ((go_at_call 36; refine kb.mono ?_; rintro e w5 ⟨rfl, hq⟩; have HX := HW.out w5 hq; have HY : Hid (WentM w B hb tg HT M (w5.setCell ⟨hb, 5, none⟩ (.int .i64 (br + x)))) := HX.1; have m5 := HX.2.1; have n5 := HX.2.2; clear hq HX)))
  | fail
  all_goals
    go_wp2_with fail
    go_end0
    exact ⟨rfl, HY.out⟩

end

end Go.Proofs.Ytkpdpdllbnihgab.Hp
