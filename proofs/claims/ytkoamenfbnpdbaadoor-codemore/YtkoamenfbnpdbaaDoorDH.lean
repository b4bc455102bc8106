/- CodeMore: one function more: the drawn region. -/
import Derived.Test.YtkoamenfbnpdbaaDoorDF
namespace Go.Proofs.YtkoamenfbnpdbaaDoor.Cd
open Go.RowKit Go.Deep
set_option linter.unusedVariables false

theorem info36 : (Tryd.prog.info? 36).map (fun i => (i.zero, i.size, i.bytes)) = some (some (.agg #[.string ⟨#[]⟩, .int .i64 0, .int .i64 0, .bool false, .slice none 0 0, .slice none 0 0, .slice none 0 0, .slice none 0 0]), 8, 136) := by kernel_rfl

theorem grown_undrew {w w' : World} {row : Option Nat} (h : w.drew.grownBy w' row) : w.grownBy w' row := ⟨h.os, h.tape, h.output, h.size, h.block⟩

/-- what is left behind it -/
def P14 (w2 : World) (gq pb : Nat) (gs : List Fn) (f : Fn) (c0 c1 c3 c4 c6 c7 c8 c9 c10 c11 c12 c13 c14 c15 c16 c17 c18 c19 c20 c21 c22 c23 c24 c25 c26 c27 c28 c29 c30 c31 c32 c33 c34 c35 c36 c37 c38 c39 c40 c41 c42 c43 c44 c45 c46 c47 c48 c49 c50 c51 c52 c53 c54 c55 c56 c57 c58 c59 c60 c61 c62 c63 : Value) : Exit → Act → World → Prop := fun e a w' => match e with
  | .normal => ∃ (g cap5 : Nat) (w5 : World) (u49 u50 u51 u52 u53 u54 u55 u56 u57 : Value), a = ⟨#[c0, c1, .pointer (some ⟨pb, 0, none⟩), c3, c4, .pointer (some ⟨gq, 0, none⟩), c6, c7, c8, c9, c10, c11, c12, c13, c14, c15, c16, c17, c18, c19, c20, c21, c22, c23, c24, c25, c26, c27, c28, c29, c30, c31, c32, c33, c34, c35, c36, c37, c38, c39, c40, c41, c42, c43, c44, c45, c46, c47, c48, u49, u50, u51, u52, u53, u54, u55, u56, u57, c58, c59, c60, c61, c62, c63], []⟩ ∧ w' = w5.setCell ⟨gq, 0, none⟩ (.slice (some ⟨g, 0, none⟩) (gs.length + 1) cap5) ∧ QAt w2 w' gq (.slice (some ⟨g, 0, none⟩) (gs.length + 1) cap5) (gs ++ [f])
  | _ => False

theorem P14_out {w2 : World} {gq pb : Nat} {gs : List Fn} {f : Fn} {c0 c1 c3 c4 c6 c7 c8 c9 c10 c11 c12 c13 c14 c15 c16 c17 c18 c19 c20 c21 c22 c23 c24 c25 c26 c27 c28 c29 c30 c31 c32 c33 c34 c35 c36 c37 c38 c39 c40 c41 c42 c43 c44 c45 c46 c47 c48 c49 c50 c51 c52 c53 c54 c55 c56 c57 c58 c59 c60 c61 c62 c63 : Value} {e : Exit} {a : Act} {w' : World} (h : P14 w2 gq pb gs f c0 c1 c3 c4 c6 c7 c8 c9 c10 c11 c12 c13 c14 c15 c16 c17 c18 c19 c20 c21 c22 c23 c24 c25 c26 c27 c28 c29 c30 c31 c32 c33 c34 c35 c36 c37 c38 c39 c40 c41 c42 c43 c44 c45 c46 c47 c48 c49 c50 c51 c52 c53 c54 c55 c56 c57 c58 c59 c60 c61 c62 c63 e a w') :
    e = .normal ∧ ∃ (g cap5 : Nat) (w5 : World) (u49 u50 u51 u52 u53 u54 u55 u56 u57 : Value), a = ⟨#[c0, c1, .pointer (some ⟨pb, 0, none⟩), c3, c4, .pointer (some ⟨gq, 0, none⟩), c6, c7, c8, c9, c10, c11, c12, c13, c14, c15, c16, c17, c18, c19, c20, c21, c22, c23, c24, c25, c26, c27, c28, c29, c30, c31, c32, c33, c34, c35, c36, c37, c38, c39, c40, c41, c42, c43, c44, c45, c46, c47, c48, u49, u50, u51, u52, u53, u54, u55, u56, u57, c58, c59, c60, c61, c62, c63], []⟩ ∧ w' = w5.setCell ⟨gq, 0, none⟩ (.slice (some ⟨g, 0, none⟩) (gs.length + 1) cap5) ∧ QAt w2 w' gq (.slice (some ⟨g, 0, none⟩) (gs.length + 1) cap5) (gs ++ [f]) := by
  cases e <;> first | exact ⟨rfl, h⟩ | exact False.elim h

set_option maxRecDepth 100000 in
set_option maxHeartbeats 64000000 in
theorem reg14 (w2 wr : World) (gq pb b off n cap : Nat) (v : Value) (gs : List Fn) (f : Fn)
    (hq : QAt w2 wr gq v gs) (hgq : w2.heap.size = gq) (hf : f.ok w2) (hn : 0 < n) (hgs : gs.length < 200)
    (p0 : wr.cell? ⟨pb, 0, none⟩ = some (.slice (some ⟨b, off, none⟩) n cap)) (hc : ∀ (j : Nat) u, (fnC f)[j]? = some u → wr.cell? ⟨b, off + j, none⟩ = some u)
    (c0 c1 c3 c4 c6 c7 c8 c9 c10 c11 c12 c13 c14 c15 c16 c17 c18 c19 c20 c21 c22 c23 c24 c25 c26 c27 c28 c29 c30 c31 c32 c33 c34 c35 c36 c37 c38 c39 c40 c41 c42 c43 c44 c45 c46 c47 c48 c49 c50 c51 c52 c53 c54 c55 c56 c57 c58 c59 c60 c61 c62 c63 : Value) :
    Code.wp Tryd.prog ((Tryd.f7.body.bind (regN 14)).getD .skip) (P14 w2 gq pb gs f c0 c1 c3 c4 c6 c7 c8 c9 c10 c11 c12 c13 c14 c15 c16 c17 c18 c19 c20 c21 c22 c23 c24 c25 c26 c27 c28 c29 c30 c31 c32 c33 c34 c35 c36 c37 c38 c39 c40 c41 c42 c43 c44 c45 c46 c47 c48 c49 c50 c51 c52 c53 c54 c55 c56 c57 c58 c59 c60 c61 c62 c63) ⟨#[c0, c1, .pointer (some ⟨pb, 0, none⟩), c3, c4, .pointer (some ⟨gq, 0, none⟩), c6, c7, c8, c9, c10, c11, c12, c13, c14, c15, c16, c17, c18, c19, c20, c21, c22, c23, c24, c25, c26, c27, c28, c29, c30, c31, c32, c33, c34, c35, c36, c37, c38, c39, c40, c41, c42, c43, c44, c45, c46, c47, c48, c49, c50, c51, c52, c53, c54, c55, c56, c57, c58, c59, c60, c61, c62, c63], []⟩ wr := by
  obtain ⟨i36, hi36, hz36, hs36, hb36⟩ := info_parts info36
  obtain ⟨nm, pa, re, ge, ⟨ca, c1', cx⟩, ⟨ka, kc, kx⟩, ⟨pa', pc, px⟩, ⟨ha, hc', hx⟩⟩ := f
  have g0 := hc 0 _ rfl
  have g1 := hc 1 _ rfl
  have g2 := hc 2 _ rfl
  have g3 := hc 3 _ rfl
  have g4 := hc 4 _ rfl
  have g5 := hc 5 _ rfl
  have g6 := hc 6 _ rfl
  have g7 := hc 7 _ rfl
  unfold Sli.val at g4 g5 g6 g7
  simp only [Nat.add_zero] at g0 g1 g2 g3 g4 g5 g6 g7
  have n0 : (0 : Int) < (n : Int) := by omega
  have v0 : wr.cell? ⟨gq, 0, none⟩ = some v := by rw [cell_of_row _ gq 0 _ 24 (0, 0) hq.box]; rfl
  have HBN : Below wr.heap.size wr (wr.alloc (.cells #[.string nm, .int .i64 pa, .int .i64 re, .bool ge, .slice ca cx.length c1', .slice ka kx.length kc, .slice pa' px.length pc, .slice ha hx.length hc'] 36)) := below_new (Below.refl _ _) (Nat.le_refl _) _
  have v1 := cells_below HBN _ _ v0
  have HQN : Hid (QAt w2 (wr.alloc (.cells #[.string nm, .int .i64 pa, .int .i64 re, .bool ge, .slice ca cx.length c1', .slice ka kx.length kc, .slice pa' px.length pc, .slice ha hx.length hc'] 36)) gq v gs) := hq.new HBN
  have HFN : Hid (Fn.okn (Nq gq v (wr.alloc (.cells #[.string nm, .int .i64 pa, .int .i64 re, .bool ge, .slice ca cx.length c1', .slice ka kx.length kc, .slice pa' px.length pc, .slice ha hx.length hc'] 36))) (wr.alloc (.cells #[.string nm, .int .i64 pa, .int .i64 re, .bool ge, .slice ca cx.length c1', .slice ka kx.length kc, .slice pa' px.length pc, .slice ha hx.length hc'] 36)) (⟨nm, pa, re, ge, ⟨ca, c1', cx⟩, ⟨ka, kc, kx⟩, ⟨pa', pc, px⟩, ⟨ha, hc', hx⟩⟩ : Fn)) := old_okn HQN.out hgq hf
  have own1 := HQN.out.own
  have nw : ∀ j u, (fnC (⟨nm, pa, re, ge, ⟨ca, c1', cx⟩, ⟨ka, kc, kx⟩, ⟨pa', pc, px⟩, ⟨ha, hc', hx⟩⟩ : Fn))[j]? = some u → (wr.alloc (.cells #[.string nm, .int .i64 pa, .int .i64 re, .bool ge, .slice ca cx.length c1', .slice ka kx.length kc, .slice pa' px.length pc, .slice ha hx.length hc'] 36)).cell? ((⟨wr.heap.size, 0, none⟩ : Addr).add j) = some u := World.news_of_block (cs := #[.string nm, .int .i64 pa, .int .i64 re, .bool ge, .slice ca cx.length c1', .slice ka kx.length kc, .slice pa' px.length pc, .slice ha hx.length hc']) (t := 36) (fr := (0, 0)) (heap_alloc_new wr _)
  have bq : gq + 1 ≤ (wr.alloc (.cells #[.string nm, .int .i64 pa, .int .i64 re, .bool ge, .slice ca cx.length c1', .slice ka kx.length kc, .slice pa' px.length pc, .slice ha hx.length hc'] 36)).heap.size := by have := hq.lt; rw [size_new]; omega
  have hml : gs.length ≤ 200 := by omega
  have HOWN : Hid ((wr.alloc (.cells #[.string nm, .int .i64 pa, .int .i64 re, .bool ge, .slice ca cx.length c1', .slice ka kx.length kc, .slice pa' px.length pc, .slice ha hx.length hc'] 36)).ownsRow (gq + 1) 36 8 v gs.length (gs.flatMap fnC)) := own1
  have HNW : Hid (∀ j u, (fnC (⟨nm, pa, re, ge, ⟨ca, c1', cx⟩, ⟨ka, kc, kx⟩, ⟨pa', pc, px⟩, ⟨ha, hc', hx⟩⟩ : Fn))[j]? = some u → (wr.alloc (.cells #[.string nm, .int .i64 pa, .int .i64 re, .bool ge, .slice ca cx.length c1', .slice ka kx.length kc, .slice pa' px.length pc, .slice ha hx.length hc'] 36)).cell? ((⟨wr.heap.size, 0, none⟩ : Addr).add j) = some u) := nw
  clear hq hgq hf hc own1 nw HBN
  conv => arg 2; whnf
  go_region_law ((refine step_append_lies _ (by rfl) _ _ 22 (by rfl) (gq + 1) 36 i36 (.agg #[.string ⟨#[]⟩, .int .i64 0, .int .i64 0, .bool false, .slice none 0 0, .slice none 0 0, .slice none 0 0, .slice none 0 0]) 8 136 Tryd.underlying22 hi36 hz36 hs36 hb36 rfl (by decide) v gs.length (gs.flatMap fnC) (by rfl) (by exact HOWN.out) ⟨wr.heap.size, 0, none⟩ 1 1 (fnC (⟨nm, pa, re, ge, ⟨ca, c1', cx⟩, ⟨ka, kc, kx⟩, ⟨pa', pc, px⟩, ⟨ha, hc', hx⟩⟩ : Fn)) (by rfl) rfl (by exact HNW.out) (fn_one _) (by decide) (by unfold maxLen; omega) (by omega) (by exact bq) _ (by rfl) ?_; intro g cap5 w5 ho5 hg5' hl5 hlt5; have hg5 := grown_undrew hg5'; have HP : Hid (QAt w2 (w5.setCell ⟨gq, 0, none⟩ (.slice (some ⟨g, 0, none⟩) (gs.length + 1) cap5)) gq (.slice (some ⟨g, 0, none⟩) (gs.length + 1) cap5) (gs ++ [(⟨nm, pa, re, ge, ⟨ca, c1', cx⟩, ⟨ka, kc, kx⟩, ⟨pa', pc, px⟩, ⟨ha, hc', hx⟩⟩ : Fn)])) := HQN.out.put HFN.out ho5 hg5 (by rcases hl5 with e | e; exact Or.inl e; exact Or.inr (by rw [e]; exact Nat.le_refl _)); have HBQ : w5.heap[gq]? = some (.cells #[v] 24 (0, 0)) := (hg5.block gq HQN.out.lt (fun e => by have := (own_blk HQN.out.own gq e.symm).1; omega)).trans HQN.out.box; have c5 : w5.cell? ⟨gq, 0, none⟩ = some v := (cell_of_row _ gq 0 _ 24 (0, 0) HBQ).trans rfl; have f5 : w5.frozen? ⟨gq, 0, none⟩ = false := frozen_of_row w5 gq 0 _ 24 HBQ))
  all_goals exact ⟨_, _, _, _, _, _, _, _, _, _, _, _, rfl, rfl, HP.out⟩

end Go.Proofs.YtkoamenfbnpdbaaDoor.Cd
