/- CodeMore: what a round's constants leave. -/
import Derived.Test.YtkoamenfbnpdbaaDoorDD
namespace Go.Proofs.YtkoamenfbnpdbaaDoor.Cd
open Go.RowKit Go.Deep
set_option linter.unusedVariables false

/-- the functions so far -/
structure MoAt (fs gs : List Fn) (k : Nat) : Prop where
  len : gs.length = k
  each : ∀ (j : Nat) f, j < k → fs[j]? = some f → ∃ g, gs[j]? = some g ∧ More f g
  back : ∀ g ∈ gs, ∃ f ∈ fs, More f g

theorem MoAt.put {fs gs : List Fn} {k : Nat} {f g : Fn} (h : MoAt fs gs k) (hf : fs[k]? = some f) (hm : More f g) : MoAt fs (gs ++ [g]) (k + 1) := by
  refine ⟨by rw [List.length_append, h.len]; rfl, ?_, ?_⟩
  · intro j f' hj hf'
    by_cases e : j = k
    · subst e
      rw [hf] at hf'
      cases hf'
      exact ⟨g, by rw [List.getElem?_append_right (by rw [h.len]; exact Nat.le_refl _), h.len]; simp, hm⟩
    · obtain ⟨g', h1, h2⟩ := h.each j f' (by omega) hf'
      exact ⟨g', by rw [List.getElem?_append_left (by rw [h.len]; omega)]; exact h1, h2⟩
  · intro x hx
    rw [List.mem_append] at hx
    rcases hx with hx | hx
    · exact h.back x hx
    · rw [List.mem_singleton] at hx
      subst hx
      exact ⟨f, List.mem_of_getElem? hf, hm⟩

/-- behind all of them -/
theorem MoAt.moreL {fs gs : List Fn} {k : Nat} (h : MoAt fs gs k) (hk : k = fs.length) (t : List Fn) : MoreL fs (gs ++ t) := by
  refine ⟨by rw [List.length_append, h.len]; omega, fun j f hj => ?_⟩
  have jl : j < fs.length := by
    rcases Nat.lt_or_ge j fs.length with q | q
    · exact q
    · rw [List.getElem?_eq_none q] at hj; cases hj
  obtain ⟨g, h1, h2⟩ := h.each j f (by omega) hj
  exact ⟨g, by rw [List.getElem?_append_left (by rw [h.len]; omega)]; exact h1, h2⟩

/-- the program with more of each function -/
theorem MoAt.check {fs gs : List Fn} {k : Nat} (h : MoAt fs gs k) (hk : k = fs.length) (hc : checkB fs = true) : checkB gs = true := by
  have h2 := h.moreL hk []
  rw [List.append_nil] at h2
  exact check_more hc h2 (by have := (check_each hc).1; rw [h.len]; omega) h.back

/-- and one more behind them -/
theorem MoAt.check1 {fs gs : List Fn} {k : Nat} {f : Fn} (h : MoAt fs gs k) (hk : k = fs.length) (hc : checkB fs = true) (hf : f ∈ fs) (h200 : gs.length < 200) : checkB (gs ++ [f]) = true := by
  refine check_more hc (h.moreL hk [f]) (by simp; omega) (fun g hg => ?_)
  rw [List.mem_append] at hg
  rcases hg with hg | hg
  · exact h.back g hg
  · rw [List.mem_singleton] at hg
    subst hg
    exact ⟨g, hf, more_refl ((check_each hc).2.2 g hf)⟩

theorem after10 {w2 wr wa w5 : World} {gq fb g2 cap2 : Nat} {v : Value} {gs : List Fn} {nm : ByteArray} {pa re re' : Int} {ge : Bool} {co : Sli Ins} {ka : Option Addr} {kc : Nat} {kx : List Cst} {cp : Sli Cap} {hd : Sli Hnd} {mt : Bool} {mb : Int} {ms : ByteArray} {V : Array Value}
    (hq : QAt w2 wr gq v gs) (hgq : w2.heap.size = gq) (hf : (⟨nm, pa, re, ge, co, ⟨ka, kc, kx⟩, cp, hd⟩ : Fn).ok w2)
    (hwa : Below wr.heap.size wr wa) (hfb : wr.heap.size = fb) (hbox : wa.heap[fb]? = some (.cells V 36 (0, 0)))
    (hb : Below wa.heap.size wa w5) (ho : w5.ownsRow wa.heap.size 46 3 (.slice (some ⟨g2, 0, none⟩) (kx.length + 1) cap2) (kx.length + 1) (kx.flatMap cstC ++ [.bool mt, .int .u64 mb, .string ms])) :
    QAt w2 (w5.setCell ⟨fb, 5, none⟩ (.slice (some ⟨g2, 0, none⟩) (kx.length + 1) cap2)) gq v gs
    ∧ Fn.okn (Nq gq v (w5.setCell ⟨fb, 5, none⟩ (.slice (some ⟨g2, 0, none⟩) (kx.length + 1) cap2))) (w5.setCell ⟨fb, 5, none⟩ (.slice (some ⟨g2, 0, none⟩) (kx.length + 1) cap2)) ⟨nm, pa, re', ge, co, ⟨some ⟨g2, 0, none⟩, cap2, kx ++ [⟨mt, mb, ms⟩]⟩, cp, hd⟩
    ∧ (w5.setCell ⟨fb, 5, none⟩ (.slice (some ⟨g2, 0, none⟩) (kx.length + 1) cap2)).heap[fb]? = some (.cells (V.setIfInBounds 5 (.slice (some ⟨g2, 0, none⟩) (kx.length + 1) cap2)) 36 (0, 0)) := by
  have fbl : fb < wa.heap.size := (Array.getElem?_eq_some_iff.1 hbox).1
  have b5 : Below wr.heap.size wr w5 := hwa.trans (hb.mono (by omega))
  have bz : Below wr.heap.size wr (w5.setCell ⟨fb, 5, none⟩ (.slice (some ⟨g2, 0, none⟩) (kx.length + 1) cap2)) := b5.setCell (p := ⟨fb, 5, none⟩) (by show wr.heap.size ≤ fb; omega) _
  have hg2 := own_blk ho g2 rfl
  have qz := hq.new bz
  have oz := old_okn qz hgq hf
  have ownz : (w5.setCell ⟨fb, 5, none⟩ (.slice (some ⟨g2, 0, none⟩) (kx.length + 1) cap2)).ownsRow wa.heap.size 46 3 (.slice (some ⟨g2, 0, none⟩) (kx ++ [(⟨mt, mb, ms⟩ : Cst)]).length cap2) (kx ++ [(⟨mt, mb, ms⟩ : Cst)]).length ((kx ++ [(⟨mt, mb, ms⟩ : Cst)]).flatMap cstC) := by
    rw [List.length_append, List.flatMap_append]
    refine ⟨ho.1, ?_⟩
    rcases ho.2 with ⟨e, _⟩ | ⟨g', cap', cur, e, a1, a2, a3⟩
    · cases e
    · cases e
      exact Or.inr ⟨g2, cap2, cur, rfl, a1, by rw [heap_setCell_other w5 _ _ _ (show g2 ≠ fb from by omega)]; exact a2, a3⟩
  refine ⟨qz, ⟨oz.code, row_okn ownz ⟨?_, ?_, ?_⟩, oz.caps, oz.hnds⟩, ?_⟩
  · rw [World.size_setCell]; exact hg2.2
  · have := hq.lt; omega
  · intro e
    have := (own_blk hq.own g2 e.symm).2
    omega
  · exact heap_setCell_same _ _ 5 _ _ _ ((hb.block fb fbl).trans hbox)

end Go.Proofs.YtkoamenfbnpdbaaDoor.Cd
