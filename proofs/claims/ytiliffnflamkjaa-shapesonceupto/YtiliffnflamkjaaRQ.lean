/- Two calls in one array, as they lie in an argument. -/
import Derived.Test.YtiliffnflamkjaaRO
namespace Go.Proofs.Ytiliffnflamkjaa.Sp
open Go.RowKit Go.ChangeShapes Go.WideShapes
set_option linter.unusedVariables false

theorem open_two {H : Type} {enc : TypeId × Value → H} {w : World} {base : Nat} {spare : Nat → Bool} {held : Bool} {n : Nat} {cs : List Value} {x : DataW H × List MemPlace} (h : DataW.trod enc Try.prog w base spare held n 35 cs = some x) : ∃ p q : Cl, cs = clC p ++ clC q ∧ p.wf ∧ q.wf := by
  obtain ⟨xs, m, hk, hxy, hlen, hxl, hf⟩ := DataW.trod_array Try.underlying35 h
  rw [show Try.prog.cellsOf 35 = 10 by kernel_rfl] at hlen
  have c33 : Try.prog.cellsOf 33 = 5 := by kernel_rfl
  rw [c33] at hf
  have h0 := hf 0 (by decide)
  have h1 := hf 1 (by decide)
  rw [List.getElem?_eq_getElem (by rw [hxl]; decide)] at h0 h1
  obtain ⟨p, e0, w0⟩ := open_cl h0
  obtain ⟨q, e1, w1⟩ := open_cl h1
  refine ⟨p, q, ?_, w0, w1⟩
  rw [← e0, ← e1]
  simp only [Nat.zero_mul, List.drop_zero, Nat.one_mul]
  rw [List.take_of_length_le (l := cs.drop 5) (by rw [List.length_drop]; omega), List.take_append_drop]

theorem agg_two {W : World} {r : Reach} {base : Nat} {v : Value} {p q : Cl} (h : Value.okWide Try.prog W r base 35 v) (hc : v.cells.toList = clC p ++ clC q) : v = .agg #[.int .i64 p.kd, .int .i64 p.sh, .int .i64 p.fl, .int .u64 p.pr, .string p.ke, .int .i64 q.kd, .int .i64 q.sh, .int .i64 q.fl, .int .u64 q.pr, .string q.ke] := by
  simp only [Value.okWide, Try.underlying35] at h
  obtain ⟨cs, rfl, _⟩ := h
  have : cs.toList = clC p ++ clC q := hc
  rw [show cs = #[.int .i64 p.kd, .int .i64 p.sh, .int .i64 p.fl, .int .u64 p.pr, .string p.ke, .int .i64 q.kd, .int .i64 q.sh, .int .i64 q.fl, .int .u64 q.pr, .string q.ke] from Array.toList_inj.1 this]

end Go.Proofs.Ytiliffnflamkjaa.Sp
