/- The document's kind: its first test, leaf 1. -/
import Derived.Test.YtjkemkggcnholaaGMB
namespace Go.Proofs.Ytjkemkggcnholaa.Fu
open Go.RowKit
set_option linter.unusedVariables false

set_option maxRecDepth 100000 in
set_option maxHeartbeats 64000000 in
theorem reg5_1 (w0 : World) (p room fb ab bb cb o n cap : Nat) (ao aa bo ba co cb2 cc2 : Int) (hz : (n : Int) ≤ 17592186044416) (m4 : w0.cell? ⟨fb, 4, none⟩ = some (.slice (some ⟨cb, o, none⟩) n cap))
    (A0 : w0.cell? ⟨ab, 0, none⟩ = some (.int .i64 ao)) (A1 : w0.cell? ⟨ab, 1, none⟩ = some (.int .i64 aa)) (B0 : w0.cell? ⟨bb, 0, none⟩ = some (.int .i64 bo)) (B1 : w0.cell? ⟨bb, 1, none⟩ = some (.int .i64 ba)) (q : Nat) (hW : IntKind.i64.wrap ((p : Int) + 2) = (q : Int)) (hn : (q : Int) < n) (C0 : w0.cell? ⟨cb, o + q * 4, none⟩ = some (.int .i64 co)) (C2 : w0.cell? ⟨cb, o + q * 4 + 2, none⟩ = some (.int .i64 cb2)) (C3 : w0.cell? ⟨cb, o + q * 4 + 3, none⟩ = some (.int .i64 cc2)) (h0 : 2 < (room : Int)) (h1 : ¬ ao = 13)
    (c0 c4 c5 c6 c7 c10 c11 c12 c13 c14 c15 c16 c17 c18 c19 c20 c21 c22 : Value) :
    Code.wp Try.prog ((Try.f18.body.bind (regK 5)).getD .skip) (P5 w0 false p room fb ab bb c0 c4 c5 c6 c7 c10 c11 c12 c13 c14 c15 c16 c17 c18 c19 c20 c21 c22) ⟨(List.toArray (c0 :: .int .i64 (p : Nat) :: .int .i64 (room : Nat) :: .pointer (some ⟨fb, 0, none⟩) :: c4 :: c5 :: c6 :: c7 :: .pointer (some ⟨ab, 0, none⟩) :: .pointer (some ⟨bb, 0, none⟩) :: c10 :: c11 :: c12 :: c13 :: c14 :: c15 :: c16 :: c17 :: c18 :: c19 :: c20 :: c21 :: c22 :: undef :: undef :: undef :: undef :: undef :: undef :: undef :: undef :: undef :: undef :: undef :: undef :: undef :: undef :: undef :: undef :: undef :: undef :: undef :: undef :: undef :: undef :: undef :: undef :: undef :: undef :: undef :: undef :: undef :: undef :: undef :: undef :: undef :: undef :: undef :: undef :: undef :: undef :: undef :: undef :: undef :: undef :: undef :: undef :: undef :: undef :: undef :: undef :: undef :: undef :: undef :: undef :: undef :: undef :: undef :: undef :: undef :: undef :: undef :: undef :: undef :: undef :: undef :: undef :: undef :: undef :: undef :: undef :: undef :: undef :: undef :: undef :: undef :: undef :: undef :: undef :: undef :: undef :: undef :: undef :: undef :: undef :: undef :: undef :: undef :: undef :: undef :: undef :: undef :: undef :: undef :: undef :: undef :: undef :: undef :: undef :: undef :: undef :: undef :: undef :: undef :: undef :: undef :: undef :: [])), []⟩ w0 := by
  have d0 : decide (2 < (room : Int)) = true := decide_eq_true h0
  have d1 : (ao == 13) = false := by simpa using h1
  conv => arg 2; whnf
  go_quiet (fail)
  exact ⟨_, _, _, _, _, _, _, _, _, _, _, _, _, _, _, _, _, _, _, _, _, _, _, _, _, _, _, _, _, _, _, _, _, _, _, _, _, _, _, _, _, _, _, _, _, _, _, _, _, _, _, _, _, _, _, rfl, below_dN (Below.refl _ _) _⟩

end Go.Proofs.Ytjkemkggcnholaa.Fu
