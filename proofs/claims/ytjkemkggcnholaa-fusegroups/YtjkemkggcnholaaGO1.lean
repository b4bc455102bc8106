/- The document's kind: its other tests. -/
import Derived.Test.YtjkemkggcnholaaGMB
namespace Go.Proofs.Ytjkemkggcnholaa.Fu
open Go.RowKit
set_option linter.unusedVariables false

set_option maxRecDepth 100000 in
def P7 (w0 : World) (R : Bool) (xa xb : Nat) (c0 c1 c2 c3 c4 c5 c6 c7 c10 c11 c12 c13 c14 c15 c16 c17 c18 c19 c20 c21 c22 c23 c24 c25 c26 c27 c28 c29 c30 c31 c32 c33 c34 c35 c36 c37 c38 c39 c40 c41 c42 c43 c44 c45 c46 c47 c48 c49 c50 c51 c52 c53 c54 c55 c56 c57 c58 c59 c60 c61 c62 c63 c64 c65 c66 c67 c68 c69 c70 c71 c72 c73 c74 c75 c76 c77 c78 : Value) (e : Exit) (a : Act) (w : World) : Prop := match e with
  | .normal => ∃ u79 u80 u81 u82 u83 u84 u85 u86 u87 u88 u89 u90 u91 u92 u93 u94 u95 u96 u97 u98 u99 u100 u101 u102 : Value, a = ⟨(List.toArray (c0 :: c1 :: c2 :: c3 :: c4 :: c5 :: c6 :: c7 :: .pointer (some ⟨xa, 0, none⟩) :: .pointer (some ⟨xb, 0, none⟩) :: c10 :: c11 :: c12 :: c13 :: c14 :: c15 :: c16 :: c17 :: c18 :: c19 :: c20 :: c21 :: c22 :: c23 :: c24 :: c25 :: c26 :: c27 :: c28 :: c29 :: c30 :: c31 :: c32 :: c33 :: c34 :: c35 :: c36 :: c37 :: c38 :: c39 :: c40 :: c41 :: c42 :: c43 :: c44 :: c45 :: c46 :: c47 :: c48 :: c49 :: c50 :: c51 :: c52 :: c53 :: c54 :: c55 :: c56 :: c57 :: c58 :: c59 :: c60 :: c61 :: c62 :: c63 :: c64 :: c65 :: c66 :: c67 :: c68 :: c69 :: c70 :: c71 :: c72 :: c73 :: c74 :: c75 :: c76 :: c77 :: c78 :: u79 :: u80 :: u81 :: u82 :: u83 :: u84 :: u85 :: u86 :: u87 :: u88 :: u89 :: u90 :: u91 :: u92 :: u93 :: u94 :: u95 :: u96 :: u97 :: u98 :: u99 :: u100 :: u101 :: u102 :: .bool R :: undef :: undef :: undef :: undef :: undef :: undef :: undef :: undef :: undef :: undef :: undef :: undef :: undef :: undef :: undef :: undef :: undef :: undef :: undef :: undef :: undef :: undef :: undef :: [])), []⟩ ∧ w = w0
  | _ => False

set_option maxRecDepth 100000 in
theorem P7_out {w0 : World} {R : Bool} {xa xb : Nat} {c0 c1 c2 c3 c4 c5 c6 c7 c10 c11 c12 c13 c14 c15 c16 c17 c18 c19 c20 c21 c22 c23 c24 c25 c26 c27 c28 c29 c30 c31 c32 c33 c34 c35 c36 c37 c38 c39 c40 c41 c42 c43 c44 c45 c46 c47 c48 c49 c50 c51 c52 c53 c54 c55 c56 c57 c58 c59 c60 c61 c62 c63 c64 c65 c66 c67 c68 c69 c70 c71 c72 c73 c74 c75 c76 c77 c78 : Value} {e : Exit} {a : Act} {w : World} (h : P7 w0 R xa xb c0 c1 c2 c3 c4 c5 c6 c7 c10 c11 c12 c13 c14 c15 c16 c17 c18 c19 c20 c21 c22 c23 c24 c25 c26 c27 c28 c29 c30 c31 c32 c33 c34 c35 c36 c37 c38 c39 c40 c41 c42 c43 c44 c45 c46 c47 c48 c49 c50 c51 c52 c53 c54 c55 c56 c57 c58 c59 c60 c61 c62 c63 c64 c65 c66 c67 c68 c69 c70 c71 c72 c73 c74 c75 c76 c77 c78 e a w) :
    e = .normal ∧ ∃ u79 u80 u81 u82 u83 u84 u85 u86 u87 u88 u89 u90 u91 u92 u93 u94 u95 u96 u97 u98 u99 u100 u101 u102 : Value, a = ⟨(List.toArray (c0 :: c1 :: c2 :: c3 :: c4 :: c5 :: c6 :: c7 :: .pointer (some ⟨xa, 0, none⟩) :: .pointer (some ⟨xb, 0, none⟩) :: c10 :: c11 :: c12 :: c13 :: c14 :: c15 :: c16 :: c17 :: c18 :: c19 :: c20 :: c21 :: c22 :: c23 :: c24 :: c25 :: c26 :: c27 :: c28 :: c29 :: c30 :: c31 :: c32 :: c33 :: c34 :: c35 :: c36 :: c37 :: c38 :: c39 :: c40 :: c41 :: c42 :: c43 :: c44 :: c45 :: c46 :: c47 :: c48 :: c49 :: c50 :: c51 :: c52 :: c53 :: c54 :: c55 :: c56 :: c57 :: c58 :: c59 :: c60 :: c61 :: c62 :: c63 :: c64 :: c65 :: c66 :: c67 :: c68 :: c69 :: c70 :: c71 :: c72 :: c73 :: c74 :: c75 :: c76 :: c77 :: c78 :: u79 :: u80 :: u81 :: u82 :: u83 :: u84 :: u85 :: u86 :: u87 :: u88 :: u89 :: u90 :: u91 :: u92 :: u93 :: u94 :: u95 :: u96 :: u97 :: u98 :: u99 :: u100 :: u101 :: u102 :: .bool R :: undef :: undef :: undef :: undef :: undef :: undef :: undef :: undef :: undef :: undef :: undef :: undef :: undef :: undef :: undef :: undef :: undef :: undef :: undef :: undef :: undef :: undef :: undef :: [])), []⟩ ∧ w = w0 := by
  cases e <;> first | exact ⟨rfl, h⟩ | exact False.elim h

set_option maxRecDepth 100000 in
set_option maxHeartbeats 64000000 in
theorem kreg7 (w0 : World) (xa xb : Nat) (x y : Ins) (r : List Ins)
    (A0 : w0.cell? ⟨xa, 0, none⟩ = some (.int .i64 x.op)) (A1 : w0.cell? ⟨xa, 1, none⟩ = some (.int .i64 x.a)) (B0 : w0.cell? ⟨xb, 0, none⟩ = some (.int .i64 y.op)) (B1 : w0.cell? ⟨xb, 1, none⟩ = some (.int .i64 y.a)) (B2 : w0.cell? ⟨xb, 2, none⟩ = some (.int .i64 y.b))
    (c0 c1 c2 c3 c4 c5 c6 c7 c10 c11 c12 c13 c14 c15 c16 c17 c18 c19 c20 c21 c22 c23 c24 c25 c26 c27 c28 c29 c30 c31 c32 c33 c34 c35 c36 c37 c38 c39 c40 c41 c42 c43 c44 c45 c46 c47 c48 c49 c50 c51 c52 c53 c54 c55 c56 c57 c58 c59 c60 c61 c62 c63 c64 c65 c66 c67 c68 c69 c70 c71 c72 c73 c74 c75 c76 c77 c78 : Value) :
    Code.wp Try.prog ((Try.f18.body.bind (regK 7)).getD .skip) (P7 w0 (testB (x :: y :: r)) xa xb c0 c1 c2 c3 c4 c5 c6 c7 c10 c11 c12 c13 c14 c15 c16 c17 c18 c19 c20 c21 c22 c23 c24 c25 c26 c27 c28 c29 c30 c31 c32 c33 c34 c35 c36 c37 c38 c39 c40 c41 c42 c43 c44 c45 c46 c47 c48 c49 c50 c51 c52 c53 c54 c55 c56 c57 c58 c59 c60 c61 c62 c63 c64 c65 c66 c67 c68 c69 c70 c71 c72 c73 c74 c75 c76 c77 c78) ⟨(List.toArray (c0 :: c1 :: c2 :: c3 :: c4 :: c5 :: c6 :: c7 :: .pointer (some ⟨xa, 0, none⟩) :: .pointer (some ⟨xb, 0, none⟩) :: c10 :: c11 :: c12 :: c13 :: c14 :: c15 :: c16 :: c17 :: c18 :: c19 :: c20 :: c21 :: c22 :: c23 :: c24 :: c25 :: c26 :: c27 :: c28 :: c29 :: c30 :: c31 :: c32 :: c33 :: c34 :: c35 :: c36 :: c37 :: c38 :: c39 :: c40 :: c41 :: c42 :: c43 :: c44 :: c45 :: c46 :: c47 :: c48 :: c49 :: c50 :: c51 :: c52 :: c53 :: c54 :: c55 :: c56 :: c57 :: c58 :: c59 :: c60 :: c61 :: c62 :: c63 :: c64 :: c65 :: c66 :: c67 :: c68 :: c69 :: c70 :: c71 :: c72 :: c73 :: c74 :: c75 :: c76 :: c77 :: c78 :: undef :: undef :: undef :: undef :: undef :: undef :: undef :: undef :: undef :: undef :: undef :: undef :: undef :: undef :: undef :: undef :: undef :: undef :: undef :: undef :: undef :: undef :: undef :: undef :: undef :: undef :: undef :: undef :: undef :: undef :: undef :: undef :: undef :: undef :: undef :: undef :: undef :: undef :: undef :: undef :: undef :: undef :: undef :: undef :: undef :: undef :: undef :: undef :: [])), []⟩ w0 := by
  obtain ⟨ao, aa, ab, ac⟩ := x
  obtain ⟨bo, ba, bb, bc⟩ := y
  simp only at A0 A1 B0 B1 B2
  have HM : Hid (testB (⟨ao, aa, ab, ac⟩ :: ⟨bo, ba, bb, bc⟩ :: r) = (decide (32 ≤ ao) && decide (ao ≤ 39) && decide (bo = 58 ∨ bo = 59) && decide (ba = aa))) := rfl
  generalize testB (⟨ao, aa, ab, ac⟩ :: ⟨bo, ba, bb, bc⟩ :: r) = M at *
  conv => arg 2; whnf
  by_cases h00 : 32 ≤ ao
  · skip
    have d00 : decide (32 ≤ ao) = true := decide_eq_true h00
    by_cases h10 : ao ≤ 39
    · skip
      have d10 : decide (ao ≤ 39) = true := decide_eq_true h10
      by_cases h20 : bo = 58
      · skip
        by_cases h30 : ba = aa
        · skip
          have HM2 : Hid (M = true) := by show _ = _; rw [HM.out]; simp [h00, h10, h20, h30]
          rw [HM2.out]
          clear HM HM2
          go_wp2_with fail
          exact ⟨_, _, _, _, _, _, _, _, _, _, _, _, _, _, _, _, _, _, _, _, _, _, _, _, rfl, rfl⟩
        have e30 : (aa == ba) = false := by simp; exact fun h => h30 h.symm
        have HM2 : Hid (M = false) := by show _ = _; rw [HM.out]; simp [h00, h10, h20, h30]
        rw [HM2.out]
        clear HM HM2
        go_wp2_with fail
        exact ⟨_, _, _, _, _, _, _, _, _, _, _, _, _, _, _, _, _, _, _, _, _, _, _, _, rfl, rfl⟩
      by_cases h21 : bo = 59
      · skip
        have d20 : (bo == 58) = false := by simpa using h20
        by_cases h30 : ba = aa
        · skip
          have HM2 : Hid (M = true) := by show _ = _; rw [HM.out]; simp [h00, h10, h21, h30]
          rw [HM2.out]
          clear HM HM2
          go_wp2_with fail
          exact ⟨_, _, _, _, _, _, _, _, _, _, _, _, _, _, _, _, _, _, _, _, _, _, _, _, rfl, rfl⟩
        have e30 : (aa == ba) = false := by simp; exact fun h => h30 h.symm
        have HM2 : Hid (M = false) := by show _ = _; rw [HM.out]; simp [h00, h10, h21, h30]
        rw [HM2.out]
        clear HM HM2
        go_wp2_with fail
        exact ⟨_, _, _, _, _, _, _, _, _, _, _, _, _, _, _, _, _, _, _, _, _, _, _, _, rfl, rfl⟩
      have e20 : (bo == 58) = false := by simpa using h20
      have e21 : (bo == 59) = false := by simpa using h21
      have HM2 : Hid (M = false) := by show _ = _; rw [HM.out]; simp [h00, h10, h20, h21]
      rw [HM2.out]
      clear HM HM2
      go_wp2_with fail
      exact ⟨_, _, _, _, _, _, _, _, _, _, _, _, _, _, _, _, _, _, _, _, _, _, _, _, rfl, rfl⟩
    have e10 : decide (ao ≤ 39) = false := decide_eq_false h10
    have HM2 : Hid (M = false) := by show _ = _; rw [HM.out]; simp [h00, h10]
    rw [HM2.out]
    clear HM HM2
    go_wp2_with fail
    exact ⟨_, _, _, _, _, _, _, _, _, _, _, _, _, _, _, _, _, _, _, _, _, _, _, _, rfl, rfl⟩
  have e00 : decide (32 ≤ ao) = false := decide_eq_false h00
  have HM2 : Hid (M = false) := by show _ = _; rw [HM.out]; simp [h00]
  rw [HM2.out]
  clear HM HM2
  go_wp2_with fail
  exact ⟨_, _, _, _, _, _, _, _, _, _, _, _, _, _, _, _, _, _, _, _, _, _, _, _, rfl, rfl⟩

end Go.Proofs.Ytjkemkggcnholaa.Fu
