/- CodeMore: a round's constants: the drawn region. -/
import Derived.Test.YtkoamenfbnpdbaaDoorDE
namespace Go.Proofs.YtkoamenfbnpdbaaDoor.Cd
open Go.RowKit Go.Deep
set_option linter.unusedVariables false

def regN (n : Nat) : Code → Option Code
  | .region k ops d => if k = n then some (.region k ops d) else none
  | .seq a b => match regN n a with
    | some c => some c
    | none => regN n b
  | .cond _ a b => match regN n a with
    | some c => some c
    | none => regN n b
  | .block _ c => regN n c
  | .loop c => regN n c
  | .scope c => regN n c
  | _ => none

/-- what is left behind it -/
def P10 (wa : World) (kx : List Cst) (mt : Bool) (mb : Int) (ms : ByteArray) (mo fb : Nat) (c0 c1 c2 c4 c5 c6 c8 c9 c10 c11 c12 c13 c14 c15 c16 c17 c18 c19 c20 c21 c22 c23 c24 c25 c26 c27 c28 c29 c30 c31 c32 c33 c34 c35 c36 c37 c38 c39 c40 c41 c42 c43 c44 c45 c46 c47 c48 c49 c50 c51 c52 c53 c54 c55 c56 c57 c58 c59 c60 c61 c62 c63 : Value) : Exit → Act → World → Prop := fun e a w' => match e with
  | .normal => ∃ g2 cap2 w5 u30 u31 u32 u33 u34 u35 u36 u37, a = ⟨#[c0, c1, c2, .pointer (some ⟨mo, 0, none⟩), c4, c5, c6, .pointer (some ⟨fb, 0, none⟩), c8, c9, c10, c11, c12, c13, c14, c15, c16, c17, c18, c19, c20, c21, c22, c23, c24, c25, c26, c27, c28, c29, u30, u31, u32, u33, u34, u35, u36, u37, c38, c39, c40, c41, c42, c43, c44, c45, c46, c47, c48, c49, c50, c51, c52, c53, c54, c55, c56, c57, c58, c59, c60, c61, c62, c63], []⟩ ∧ w' = w5.setCell ⟨fb, 5, none⟩ (.slice (some ⟨g2, 0, none⟩) (kx.length + 1) cap2) ∧ Below wa.heap.size wa w5 ∧ w5.ownsRow wa.heap.size 46 3 (.slice (some ⟨g2, 0, none⟩) (kx.length + 1) cap2) (kx.length + 1) (kx.flatMap cstC ++ [.bool mt, .int .u64 mb, .string ms])
  | _ => False

theorem P10_out {wa : World} {kx : List Cst} {mt : Bool} {mb : Int} {ms : ByteArray} {mo fb : Nat} {c0 c1 c2 c4 c5 c6 c8 c9 c10 c11 c12 c13 c14 c15 c16 c17 c18 c19 c20 c21 c22 c23 c24 c25 c26 c27 c28 c29 c30 c31 c32 c33 c34 c35 c36 c37 c38 c39 c40 c41 c42 c43 c44 c45 c46 c47 c48 c49 c50 c51 c52 c53 c54 c55 c56 c57 c58 c59 c60 c61 c62 c63 : Value} {e : Exit} {a : Act} {w' : World} (h : P10 wa kx mt mb ms mo fb c0 c1 c2 c4 c5 c6 c8 c9 c10 c11 c12 c13 c14 c15 c16 c17 c18 c19 c20 c21 c22 c23 c24 c25 c26 c27 c28 c29 c30 c31 c32 c33 c34 c35 c36 c37 c38 c39 c40 c41 c42 c43 c44 c45 c46 c47 c48 c49 c50 c51 c52 c53 c54 c55 c56 c57 c58 c59 c60 c61 c62 c63 e a w') :
    e = .normal ∧ ∃ g2 cap2 w5 u30 u31 u32 u33 u34 u35 u36 u37, a = ⟨#[c0, c1, c2, .pointer (some ⟨mo, 0, none⟩), c4, c5, c6, .pointer (some ⟨fb, 0, none⟩), c8, c9, c10, c11, c12, c13, c14, c15, c16, c17, c18, c19, c20, c21, c22, c23, c24, c25, c26, c27, c28, c29, u30, u31, u32, u33, u34, u35, u36, u37, c38, c39, c40, c41, c42, c43, c44, c45, c46, c47, c48, c49, c50, c51, c52, c53, c54, c55, c56, c57, c58, c59, c60, c61, c62, c63], []⟩ ∧ w' = w5.setCell ⟨fb, 5, none⟩ (.slice (some ⟨g2, 0, none⟩) (kx.length + 1) cap2) ∧ Below wa.heap.size wa w5 ∧ w5.ownsRow wa.heap.size 46 3 (.slice (some ⟨g2, 0, none⟩) (kx.length + 1) cap2) (kx.length + 1) (kx.flatMap cstC ++ [.bool mt, .int .u64 mb, .string ms]) := by
  cases e <;> first | exact ⟨rfl, h⟩ | exact False.elim h

set_option maxRecDepth 100000 in
set_option maxHeartbeats 64000000 in
theorem reg10 (wa : World) (kx : List Cst) (ka : Option Addr) (kc : Nat) (mt : Bool) (mb : Int) (ms : ByteArray) (mo fb : Nat) (fvals : Array Value)
    (hk : kx.length ≤ 65536) (hsl : (⟨ka, kc, kx⟩ : Sli Cst).ok cstC 3 wa)
    (e0 : wa.cell? ⟨mo, 0, none⟩ = some (.bool mt)) (e1 : wa.cell? ⟨mo, 1, none⟩ = some (.int .u64 mb)) (e2 : wa.cell? ⟨mo, 2, none⟩ = some (.string ms))
    (hbox : wa.heap[fb]? = some (.cells fvals 36 (0, 0))) (h5 : fvals[5]? = some (.slice ka kx.length kc))
    (c0 c1 c2 c4 c5 c6 c8 c9 c10 c11 c12 c13 c14 c15 c16 c17 c18 c19 c20 c21 c22 c23 c24 c25 c26 c27 c28 c29 c30 c31 c32 c33 c34 c35 c36 c37 c38 c39 c40 c41 c42 c43 c44 c45 c46 c47 c48 c49 c50 c51 c52 c53 c54 c55 c56 c57 c58 c59 c60 c61 c62 c63 : Value) :
    Code.wp Tryd.prog ((Tryd.f7.body.bind (regN 10)).getD .skip) (P10 wa kx mt mb ms mo fb c0 c1 c2 c4 c5 c6 c8 c9 c10 c11 c12 c13 c14 c15 c16 c17 c18 c19 c20 c21 c22 c23 c24 c25 c26 c27 c28 c29 c30 c31 c32 c33 c34 c35 c36 c37 c38 c39 c40 c41 c42 c43 c44 c45 c46 c47 c48 c49 c50 c51 c52 c53 c54 c55 c56 c57 c58 c59 c60 c61 c62 c63) ⟨#[c0, c1, c2, .pointer (some ⟨mo, 0, none⟩), c4, c5, c6, .pointer (some ⟨fb, 0, none⟩), c8, c9, c10, c11, c12, c13, c14, c15, c16, c17, c18, c19, c20, c21, c22, c23, c24, c25, c26, c27, c28, c29, c30, c31, c32, c33, c34, c35, c36, c37, c38, c39, c40, c41, c42, c43, c44, c45, c46, c47, c48, c49, c50, c51, c52, c53, c54, c55, c56, c57, c58, c59, c60, c61, c62, c63], []⟩ wa := by
  have fbl : fb < wa.heap.size := (Array.getElem?_eq_some_iff.1 hbox).1
  have e5 : wa.cell? ⟨fb, 5, none⟩ = some (.slice ka kx.length kc) := by rw [cell_of_row _ fb 5 _ 36 (0, 0) hbox]; exact h5
  have HBX : Hid (wa.heap[fb]? = some (.cells fvals 36 (0, 0))) := hbox
  have HSL : Hid ((⟨ka, kc, kx⟩ : Sli Cst).ok cstC 3 wa) := hsl
  have HK : Hid (kx.length ≤ 65536) := hk
  have HF : Hid (∀ w5, Below wa.heap.size wa w5 → w5.cell? ⟨fb, 5, none⟩ = some (.slice ka kx.length kc) ∧ w5.frozen? ⟨fb, 5, none⟩ = false) := fun w5 hb => ⟨cells_below hb _ _ e5, frozen_of_row w5 fb 5 _ 36 ((hb.block fb fbl).trans hbox)⟩
  have HM : Hid (∀ w5, Below wa.heap.size wa w5 → w5.cell? ⟨mo, 0, none⟩ = some (.bool mt) ∧ w5.cell? ⟨mo, 1, none⟩ = some (.int .u64 mb) ∧ w5.cell? ⟨mo, 2, none⟩ = some (.string ms)) := fun w5 hb => ⟨cells_below hb _ _ e0, cells_below hb _ _ e1, cells_below hb _ _ e2⟩
  have e5a := cells_below (bn (Below.refl _ _) (.cells #[] 46)) _ _ e5
  have e5b := cells_below (bn (bn (Below.refl _ _) (.cells #[] 46)) (.cells #[.bool mt, .int .u64 mb, .string ms] 46)) _ _ e5
  have e5d := cells_below (bn (Below.refl _ _) (.cells #[.bool mt, .int .u64 mb, .string ms] 46)) _ _ e5
  have m10 := cells_below (bn (Below.refl _ _) (.cells #[] 46)) _ _ e0
  have m11 := cells_below (bn (Below.refl _ _) (.cells #[] 46)) _ _ e1
  have m12 := cells_below (bn (Below.refl _ _) (.cells #[] 46)) _ _ e2
  have cB : ((wa.alloc (.cells #[] 46)).alloc (.cells #[.bool mt, .int .u64 mb, .string ms] 46)).heap[wa.heap.size + 1]? = some (.cells #[.bool mt, .int .u64 mb, .string ms] 46) := at_next wa _ _
  have cC : ((wa.alloc (.cells #[.bool mt, .int .u64 mb, .string ms] 46)).alloc (.cells #[] 46)).heap[wa.heap.size]? = some (.cells #[.bool mt, .int .u64 mb, .string ms] 46) := at_old _ _ _ _ (at_new wa _)
  clear hbox hsl hk h5
  conv => arg 2; whnf
  go_region_law (first | (refine stepA wa kx ka kc HK.out HSL.out (wa.heap.size) (by rfl) _ _ (by rfl) (by rfl) (by rfl) (by repeat (first | exact Below.refl _ _ | refine Below.drew ?_ | refine bn ?_ _)) (by first | exact at_new wa _ | exact at_old _ _ _ _ (at_new wa _)) (by omega) ?_; intro g1 cap1 w3 bl3 ho3 hk3 hs3; obtain ⟨m30, m31, m32⟩ := HM.out w3 bl3) | (refine stepA wa kx ka kc HK.out HSL.out (wa.heap.size + 1) (by rfl) _ _ (by rfl) (by rfl) (by rfl) (by repeat (first | exact Below.refl _ _ | refine Below.drew ?_ | refine bn ?_ _)) (by exact at_next wa _ _) (by omega) ?_; intro g1 cap1 w3 bl3 ho3 hk3 hs3; obtain ⟨m30, m31, m32⟩ := HM.out w3 bl3) | (refine stepB wa kx mt mb ms HK.out g1 cap1 (w3.heap.size) (by rfl) _ _ (by rfl) (by rfl) (by rfl) (by exact bn bl3 _) (by exact own46_kept ho3 (bn (Below.refl _ _) _)) (by exact at_new w3 _) ?_; intro g2 cap2 w5 bl5 ho5; obtain ⟨ce5, fz5⟩ := HF.out w5 bl5) | (refine stepB wa kx mt mb ms HK.out g1 cap1 (wa.heap.size + 1) (by rfl) _ _ (by rfl) (by rfl) (by rfl) (by exact bl3) (by exact ho3) (by exact hk3 _ _ (by omega) cB) ?_; intro g2 cap2 w5 bl5 ho5; obtain ⟨ce5, fz5⟩ := HF.out w5 bl5) | (refine stepB wa kx mt mb ms HK.out g1 cap1 (wa.heap.size) (by rfl) _ _ (by rfl) (by rfl) (by rfl) (by exact bl3) (by exact ho3) (by exact hk3 _ _ (by omega) cC) ?_; intro g2 cap2 w5 bl5 ho5; obtain ⟨ce5, fz5⟩ := HF.out w5 bl5))
  all_goals exact ⟨_, _, _, _, _, _, _, _, _, _, _, rfl, rfl, bl5, ho5⟩

end Go.Proofs.YtkoamenfbnpdbaaDoor.Cd
