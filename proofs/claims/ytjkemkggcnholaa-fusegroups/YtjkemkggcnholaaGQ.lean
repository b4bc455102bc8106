/- The document's kind: its first test. -/
import Derived.Test.YtjkemkggcnholaaGM0
import Derived.Test.YtjkemkggcnholaaGM1
import Derived.Test.YtjkemkggcnholaaGM2
import Derived.Test.YtjkemkggcnholaaGM3
import Derived.Test.YtjkemkggcnholaaGM4
import Derived.Test.YtjkemkggcnholaaGM5
import Derived.Test.YtjkemkggcnholaaGM6
import Derived.Test.YtjkemkggcnholaaGM7
namespace Go.Proofs.Ytjkemkggcnholaa.Fu
open Go.RowKit
set_option linter.unusedVariables false

/-- the third instruction, if there is room for it -/
def Third (w0 : World) (p room cb o n : Nat) (zs : List Ins) : Prop := (room = 2 ∧ zs = []) ∨ (room = 3 ∧ ∃ (z : Ins) (q : Nat), zs = [z] ∧ IntKind.i64.wrap ((p : Int) + 2) = (q : Int) ∧ (q : Int) < n ∧ w0.cell? ⟨cb, o + q * 4, none⟩ = some (.int .i64 z.op) ∧ w0.cell? ⟨cb, o + q * 4 + 2, none⟩ = some (.int .i64 z.b) ∧ w0.cell? ⟨cb, o + q * 4 + 3, none⟩ = some (.int .i64 z.c))

set_option maxRecDepth 100000 in
theorem kreg5 (w0 : World) (p room fb ab bb cb o n cap : Nat) (x y : Ins) (zs : List Ins) (hz : (n : Int) ≤ 17592186044416) (m4 : w0.cell? ⟨fb, 4, none⟩ = some (.slice (some ⟨cb, o, none⟩) n cap))
    (A0 : w0.cell? ⟨ab, 0, none⟩ = some (.int .i64 x.op)) (A1 : w0.cell? ⟨ab, 1, none⟩ = some (.int .i64 x.a)) (B0 : w0.cell? ⟨bb, 0, none⟩ = some (.int .i64 y.op)) (B1 : w0.cell? ⟨bb, 1, none⟩ = some (.int .i64 y.a)) (h3 : Third w0 p room cb o n zs)
    (c0 c4 c5 c6 c7 c10 c11 c12 c13 c14 c15 c16 c17 c18 c19 c20 c21 c22 : Value) :
    Code.wp Try.prog ((Try.f18.body.bind (regK 5)).getD .skip) (P5 w0 (arithB (x :: y :: zs)) p room fb ab bb c0 c4 c5 c6 c7 c10 c11 c12 c13 c14 c15 c16 c17 c18 c19 c20 c21 c22) ⟨(List.toArray (c0 :: .int .i64 (p : Nat) :: .int .i64 (room : Nat) :: .pointer (some ⟨fb, 0, none⟩) :: c4 :: c5 :: c6 :: c7 :: .pointer (some ⟨ab, 0, none⟩) :: .pointer (some ⟨bb, 0, none⟩) :: c10 :: c11 :: c12 :: c13 :: c14 :: c15 :: c16 :: c17 :: c18 :: c19 :: c20 :: c21 :: c22 :: undef :: undef :: undef :: undef :: undef :: undef :: undef :: undef :: undef :: undef :: undef :: undef :: undef :: undef :: undef :: undef :: undef :: undef :: undef :: undef :: undef :: undef :: undef :: undef :: undef :: undef :: undef :: undef :: undef :: undef :: undef :: undef :: undef :: undef :: undef :: undef :: undef :: undef :: undef :: undef :: undef :: undef :: undef :: undef :: undef :: undef :: undef :: undef :: undef :: undef :: undef :: undef :: undef :: undef :: undef :: undef :: undef :: undef :: undef :: undef :: undef :: undef :: undef :: undef :: undef :: undef :: undef :: undef :: undef :: undef :: undef :: undef :: undef :: undef :: undef :: undef :: undef :: undef :: undef :: undef :: undef :: undef :: undef :: undef :: undef :: undef :: undef :: undef :: undef :: undef :: undef :: undef :: undef :: undef :: undef :: undef :: undef :: undef :: undef :: undef :: undef :: undef :: undef :: undef :: [])), []⟩ w0 := by
  rcases h3 with ⟨rfl, rfl⟩ | ⟨rfl, z, q, rfl, hW, hn, C0, C2, C3⟩
  · exact reg5_0 w0 p 2 fb ab bb cb o n cap x.op x.a y.op y.a 0 0 0 hz m4 A0 A1 B0 B1 (by decide) c0 c4 c5 c6 c7 c10 c11 c12 c13 c14 c15 c16 c17 c18 c19 c20 c21 c22
  · have t0 : 2 < ((3 : Nat) : Int) := by decide
    by_cases t1 : x.op = 13
    · by_cases t2 : y.op = 13
      · by_cases t3 : 21 ≤ z.op
        · by_cases t4 : z.op ≤ 35
          · by_cases t5 : x.a = z.b
            · by_cases t6 : y.a = z.c
              · have e : arithB [x, y, z] = true := by simp [arithB, t1, t2, t3, t4, t5, t6]
                rw [e]
                exact reg5_7 w0 p 3 fb ab bb cb o n cap x.op x.a y.op y.a z.op z.b z.c hz m4 A0 A1 B0 B1 q hW hn C0 C2 C3 t0 t1 t2 t3 t4 t5 t6 c0 c4 c5 c6 c7 c10 c11 c12 c13 c14 c15 c16 c17 c18 c19 c20 c21 c22
              · have e : arithB [x, y, z] = false := by
                  have : ¬ z.c = y.a := fun h => t6 h.symm
                  simp [arithB, this]
                rw [e]
                exact reg5_6 w0 p 3 fb ab bb cb o n cap x.op x.a y.op y.a z.op z.b z.c hz m4 A0 A1 B0 B1 q hW hn C0 C2 C3 t0 t1 t2 t3 t4 t5 t6 c0 c4 c5 c6 c7 c10 c11 c12 c13 c14 c15 c16 c17 c18 c19 c20 c21 c22
            · have e : arithB [x, y, z] = false := by
                have : ¬ z.b = x.a := fun h => t5 h.symm
                simp [arithB, this]
              rw [e]
              exact reg5_5 w0 p 3 fb ab bb cb o n cap x.op x.a y.op y.a z.op z.b z.c hz m4 A0 A1 B0 B1 q hW hn C0 C2 C3 t0 t1 t2 t3 t4 t5 c0 c4 c5 c6 c7 c10 c11 c12 c13 c14 c15 c16 c17 c18 c19 c20 c21 c22
          · have e : arithB [x, y, z] = false := by simp [arithB, t4]
            rw [e]
            exact reg5_4 w0 p 3 fb ab bb cb o n cap x.op x.a y.op y.a z.op z.b z.c hz m4 A0 A1 B0 B1 q hW hn C0 C2 C3 t0 t1 t2 t3 t4 c0 c4 c5 c6 c7 c10 c11 c12 c13 c14 c15 c16 c17 c18 c19 c20 c21 c22
        · have e : arithB [x, y, z] = false := by simp [arithB, t3]
          rw [e]
          exact reg5_3 w0 p 3 fb ab bb cb o n cap x.op x.a y.op y.a z.op z.b z.c hz m4 A0 A1 B0 B1 q hW hn C0 C2 C3 t0 t1 t2 t3 c0 c4 c5 c6 c7 c10 c11 c12 c13 c14 c15 c16 c17 c18 c19 c20 c21 c22
      · have e : arithB [x, y, z] = false := by simp [arithB, t2]
        rw [e]
        exact reg5_2 w0 p 3 fb ab bb cb o n cap x.op x.a y.op y.a z.op z.b z.c hz m4 A0 A1 B0 B1 q hW hn C0 C2 C3 t0 t1 t2 c0 c4 c5 c6 c7 c10 c11 c12 c13 c14 c15 c16 c17 c18 c19 c20 c21 c22
    · have e : arithB [x, y, z] = false := by simp [arithB, t1]
      rw [e]
      exact reg5_1 w0 p 3 fb ab bb cb o n cap x.op x.a y.op y.a z.op z.b z.c hz m4 A0 A1 B0 B1 q hW hn C0 C2 C3 t0 t1 c0 c4 c5 c6 c7 c10 c11 c12 c13 c14 c15 c16 c17 c18 c19 c20 c21 c22

end Go.Proofs.Ytjkemkggcnholaa.Fu
