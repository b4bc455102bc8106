/- The rows' condition: what the listed variables hold. -/
import Derived.Test.YtaikkmehmiiffaaGreatDoorZ19
import Derived.Test.YtaikkmehmiiffaaGreatDoorRows
import Derived.ProofKit
import Derived.OpenShut
import Derived.LaidMore
import Derived.Lib.LaidTab
import Derived.MakeChecks
import Derived.Lay
namespace Go.Proofs.YtaikkmehmiiffaaGreatDoor.Lx
open Go.RowKit
set_option linter.unusedVariables false

/-- a variable that reads as an error holds one, or nothing -/
theorem err_of_trod {H : Type} {enc : TypeId × Value → H} {W : World} {base : Nat} {sp : Nat → Bool} {held : Bool} {n : Nat} {cs : List Value} {x : DataW H × List MemPlace}
    (h : DataW.trod enc Tryz.prog W base sp held n 90 cs = some x) : ∃ ev, cs = [ev] ∧ (ev = .nilIface ∨ ∃ te pe, ev = .iface te pe) := by
  cases n with
  | zero => simp [DataW.trod] at h
  | succ n =>
    simp only [DataW.trod, Tryz.underlying90] at h
    split at h <;> simp_all

theorem str_of_trod {H : Type} {enc : TypeId × Value → H} {W : World} {base : Nat} {sp : Nat → Bool} {held : Bool} {n : Nat} {cs : List Value} {x : DataW H × List MemPlace}
    (h : DataW.trod enc Tryz.prog W base sp held n 9 cs = some x) : ∃ s : ByteArray, cs = [.string s] ∧ x = (.lit (.string s.data.toList), []) := by
  cases n with
  | zero => simp [DataW.trod] at h
  | succ n =>
    simp only [DataW.trod, Tryz.underlying9] at h
    split at h <;> simp_all

/-- an array of texts that reads as these texts holds them -/
theorem cells_of_strs {H : Type} {enc : TypeId × Value → H} {W : World} {base : Nat} {sp : Nat → Bool} {held : Bool} {fuel : Nat} {cs : List Value} {zs : List (List UInt8)} {p : List MemPlace}
    (hz : zs.length = 48) (h : DataW.trod enc Tryz.prog W base sp held fuel 62 cs = some (.agg (zs.map fun z => .lit (.string z)), p)) : cs = zs.map fun z => Value.string (bs z) := by
  have c9 : Tryz.prog.cellsOf 9 = 1 := by kernel_rfl
  have c62 : Tryz.prog.cellsOf 62 = 48 := by kernel_rfl
  cases fuel with
  | zero => simp [DataW.trod] at h
  | succ fuel =>
    simp only [DataW.trod, Tryz.underlying62, c9, c62, Nat.mul_one] at h
    split at h
    · rename_i hl
      obtain ⟨xs, hm, hx⟩ := Option.map_eq_some_iff.1 h
      have hf : xs.map (·.1) = zs.map fun z => (DataW.lit (.string z) : DataW H) := by simpa using congrArg Prod.fst hx
      refine List.ext_getElem? fun i => ?_
      rcases Nat.lt_or_ge i 48 with hi | hi
      · obtain ⟨b, hb, hk⟩ := Go.Lib.mapM_at hm i i (by simp [hi])
        obtain ⟨s, e1, e2⟩ := str_of_trod hk
        have k1 : cs[i]? = some (.string s) := by
          have := congrArg (·[0]?) e1
          simpa [List.getElem?_take, List.getElem?_drop] using this
        have k2 : (xs.map (·.1))[i]? = some (DataW.lit (.string s.data.toList) : DataW H) := by simp [hb, e2]
        rw [hf, List.getElem?_map] at k2
        obtain ⟨z, z1, z2⟩ := Option.map_eq_some_iff.1 k2
        simp at z2
        rw [k1, List.getElem?_map, z1]
        simp
        rw [z2]
        exact bs_of s
      · rw [List.getElem?_eq_none (by omega), List.getElem?_eq_none (by simp; omega)]
    · cases h

theorem glob_of {W : World} (h : laidMetH Tryz.prog Rows.lexStringsRow.laid W) : Glob W := by
  rw [MakeChecks.laidMetH_plain _ _ _ (by kernel_rfl)] at h
  obtain ⟨ps, ⟨g0, t0, cs0, f0, p0, q0, hg0, ht0, hv0, hd0, ⟨g1, t1, cs1, f1, p1, q1, hg1, ht1, hv1, hd1, ⟨g2, t2, cs2, f2, p2, q2, hg2, ht2, hv2, hd2, ⟨g3, t3, cs3, f3, p3, q3, hg3, ht3, hv3, hd3, ⟨g4, t4, cs4, f4, p4, q4, hg4, ht4, hv4, hd4, ⟨g5, t5, cs5, f5, p5, q5, hg5, ht5, hv5, hd5, ⟨g6, t6, cs6, f6, p6, q6, hg6, ht6, hv6, hd6, _, _⟩, _⟩, _⟩, _⟩, _⟩, _⟩, _⟩, _⟩ := h
  obtain rfl := Option.some.inj ((show Tryz.prog.globalNamed "strconv.ErrSyntax" = some 2 by kernel_rfl).symm.trans hg5)
  obtain rfl := Option.some.inj ((show (Tryz.prog.globals[2]?).map (·.type) = some 90 by kernel_rfl).symm.trans ht5)
  obtain rfl := Option.some.inj ((show Tryz.prog.globalNamed "brazier/lex.signs" = some 0 by kernel_rfl).symm.trans hg6)
  obtain rfl := Option.some.inj ((show (Tryz.prog.globals[0]?).map (·.type) = some 62 by kernel_rfl).symm.trans ht6)
  constructor
  · obtain ⟨ev, e1, e2⟩ := err_of_trod hd5
    refine ⟨ev, ?_, e2⟩
    unfold World.var? at hv5
    rw [show Tryz.prog.globalNamed "strconv.ErrSyntax" = some 2 by kernel_rfl] at hv5
    simp only [Option.bind_some] at hv5
    split at hv5
    · rename_i c t fr hh
      simp at hv5
      subst hv5
      rw [cell_of_row W 2 0 c t fr hh]
      have := congrArg (·[0]?) e1
      simpa using this
    · simp at hv5
  · have e := cells_of_strs (zs := signL) rfl hd6
    unfold World.var? at hv6
    rw [show Tryz.prog.globalNamed "brazier/lex.signs" = some 0 by kernel_rfl] at hv6
    simp only [Option.bind_some] at hv6
    split at hv6
    · rename_i c t fr hh
      simp at hv6
      subst hv6
      refine ⟨t, fr, ?_⟩
      rw [hh]
      congr 2
      unfold signsV
      rw [← e]
    · simp at hv6

end Go.Proofs.YtaikkmehmiiffaaGreatDoor.Lx
