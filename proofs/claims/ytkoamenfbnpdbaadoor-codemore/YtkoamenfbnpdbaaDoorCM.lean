/- The laws' arguments, as values; their sizes. -/
import Derived.Test.YtkoamenfbnpdbaaDoorCJ
namespace Go.Proofs.YtkoamenfbnpdbaaDoor.Cd
open Go.RowKit Go.ChangeShapes Go.WideShapes
set_option linter.unusedVariables false

theorem agg_of {W : World} {r : Reach} {base : Nat} {v : Value} {s : Sli Fn} (h : Value.okWide Tryd.prog W r base 24 v) (hc : v.cells.toList = [s.val]) : v = .agg #[s.val] := by
  obtain ⟨cs, rfl, _⟩ := okWide_struct Tryd.underlying24 h
  have : cs.toList = [s.val] := hc
  rw [show cs = #[s.val] from Array.toList_inj.1 this]

theorem agg_fn {W : World} {r : Reach} {base : Nat} {v : Value} {f : Fn} (h : Value.okWide Tryd.prog W r base 36 v) (hc : v.cells.toList = fnC f) : v = fnV f := by
  obtain ⟨cs, rfl, _⟩ := okWide_struct Tryd.underlying36 h
  have : cs.toList = fnC f := hc
  unfold fnV
  unfold fnC at this
  rw [show cs = #[.string f.name, .int .i64 f.params, .int .i64 f.regs, .bool f.gen, f.code.val, f.consts.val, f.caps.val, f.hnds.val] from Array.toList_inj.1 this]

theorem agg_cst {W : World} {r : Reach} {base : Nat} {v : Value} {c : Cst} (h : Value.okWide Tryd.prog W r base 46 v) (hc : v.cells.toList = cstC c) : v = .agg #[.bool c.isText, .int .u64 c.bits, .string c.text] := by
  obtain ⟨cs, rfl, _⟩ := okWide_struct Tryd.underlying46 h
  have : cs.toList = cstC c := hc
  unfold cstC at this
  rw [show cs = #[.bool c.isText, .int .u64 c.bits, .string c.text] from Array.toList_inj.1 this]

theorem fn_bound {H : Type} {l : List (DataW H)} {ts : List TypeId} {ds : List (DataW H)} {f : Fn} (hw : (DataW.weightsEach Tryd.prog ts ds).all (· ≤ reachBytes) = true) {j : Nat} (ht : ts[j]? = some 36) (hd : ds[j]? = some (.agg l))
    (h4 : f.code.xs = [] ∨ ∃ els sp, l[4]? = some (.slice els sp) ∧ els.length = f.code.xs.length) (h7 : f.hnds.xs = [] ∨ ∃ els sp, l[7]? = some (.slice els sp) ∧ els.length = f.hnds.xs.length) :
    (f.code.xs.length + f.hnds.xs.length + 1) * 8 ≤ 140737488355328 := by
  have b43 : Tryd.prog.bytesOf 43 = 32 := by kernel_rfl
  have b49 : Tryd.prog.bytesOf 49 = 24 := by kernel_rfl
  have a4 : f.code.xs.length * 32 ≤ 140737488351232 := by
    rcases h4 with e | ⟨els, sp, e1, e2⟩
    · rw [e]; simp
    · have := fn_sized hw ht hd (i := 4) rfl Tryd.underlying31 e1
      rw [b43, e2] at this
      exact this
  have a7 : f.hnds.xs.length * 24 ≤ 140737488351232 := by
    rcases h7 with e | ⟨els, sp, e1, e2⟩
    · rw [e]; simp
    · have := fn_sized hw ht hd (i := 7) rfl Tryd.underlying34 e1
      rw [b49, e2] at this
      exact this
  omega

end Go.Proofs.YtkoamenfbnpdbaaDoor.Cd
