/- The listed variable. -/
import Derived.Test.YtahhionlbfhinaaGreatDoorB25
import Derived.Test.YtahhionlbfhinaaGreatDoorRows
import Derived.ProofKit
import Derived.OpenShut
import Derived.LaidMore
import Derived.Lib.LaidTab
import Derived.MakeChecks
import Derived.Lay
import Derived.Test.YtahhionlbfhinaaGreatDoorLX
import Derived.ChangeSame
import Derived.Deep.Strs
import Derived.WalkKit
namespace Go.Proofs.YtahhionlbfhinaaGreatDoor.Hp
open Go.RowKit Go.ChangeShapes Go.WideShapes
set_option linter.unusedVariables false

theorem cells_of_pairs {H : Type} {enc : TypeId × Value → H} {W : World} {base : Nat} {sp : Nat → Bool} {held : Bool} {fuel : Nat} {cs : List Value} {p : List MemPlace}
    (h : DataW.trod enc Tryz.prog W base sp held fuel 159 cs = some (Rows.laid_brazier_props_flagPairs, p)) : cs = [.int .i64 2, .int .i64 1, .int .i64 4, .int .i64 2, .int .i64 8, .int .i64 4] := by
  have c1 : Tryz.prog.cellsOf 158 = 2 := by kernel_rfl
  have c2 : Tryz.prog.cellsOf 159 = 6 := by kernel_rfl
  unfold Rows.laid_brazier_props_flagPairs at h
  cases fuel with
  | zero => simp [DataW.trod] at h
  | succ fuel =>
    simp only [DataW.trod, Tryz.underlying159, c1, c2] at h
    split at h
    · rename_i hl
      obtain ⟨xs, hm, hx⟩ := Option.map_eq_some_iff.1 h
      have hf : xs.map (·.1) = [.agg [.lit (.int .i64 2), .lit (.int .i64 1)], .agg [.lit (.int .i64 4), .lit (.int .i64 2)], .agg [.lit (.int .i64 8), .lit (.int .i64 4)]] := by simpa using congrArg Prod.fst hx
      have part : ∀ (i : Nat) (a b : Int), i < 3 → (xs.map (·.1))[i]? = some (DataW.agg [.lit (.int .i64 a), .lit (.int .i64 b)] : DataW H) → (cs.drop (i * 2)).take 2 = [.int .i64 a, .int .i64 b] := fun i a b hi he => by
        obtain ⟨x, hb, hk⟩ := Go.Lib.mapM_at hm i i (by simp [hi])
        rw [List.getElem?_map, hb] at he
        have he := Option.some.inj he
        obtain ⟨x1, x2⟩ := x
        simp only at he
        subst he
        exact Lib.cells_of_tab (zs := [a, b]) Tryz.underlying158 Tryz.underlying3 (by kernel_rfl) (by kernel_rfl) hk
      have p0 := part 0 2 1 (by omega) (by rw [hf]; rfl)
      have p1 := part 1 4 2 (by omega) (by rw [hf]; rfl)
      have p2 := part 2 8 4 (by omega) (by rw [hf]; rfl)
      match cs, hl, p0, p1, p2 with
      | [a, b, c, d, e, f], _, p0, p1, p2 =>
        simp at p0 p1 p2
        obtain ⟨rfl, rfl⟩ := p0
        obtain ⟨rfl, rfl⟩ := p1
        obtain ⟨rfl, rfl⟩ := p2
        rfl
    · cases h

theorem fp_of {W : World} (h : laidMetH Tryz.prog [("brazier/props.flagPairs", Rows.laid_brazier_props_flagPairs)] W) : FpAt W := by
  rw [MakeChecks.laidMetH_plain _ _ _ (by kernel_rfl)] at h
  obtain ⟨ps, ⟨g0, t0, cs0, f0, p0, q0, hg0, ht0, hv0, hd0, _, _⟩, _⟩ := h
  obtain rfl := Option.some.inj ((show Tryz.prog.globalNamed "brazier/props.flagPairs" = some 0 by kernel_rfl).symm.trans hg0)
  obtain rfl := Option.some.inj ((show (Tryz.prog.globals[0]?).map (·.type) = some 159 by kernel_rfl).symm.trans ht0)
  have e := cells_of_pairs hd0
  unfold World.var? at hv0
  rw [show Tryz.prog.globalNamed "brazier/props.flagPairs" = some 0 by kernel_rfl] at hv0
  simp only [Option.bind_some] at hv0
  split at hv0
  · rename_i c t fr hh
    simp at hv0
    subst hv0
    refine ⟨t, fr, ?_⟩
    rw [hh]
    congr 2
    rw [← e]
  · simp at hv0

end Go.Proofs.YtahhionlbfhinaaGreatDoor.Hp

/- PropsWish: its arguments. -/
namespace Go.Proofs.YtahhionlbfhinaaGreatDoor.Hp
open Go.ChangeShapes Go.WideShapes Go.ChangeAt Go.RowKit
set_option linter.unusedVariables false
set_option linter.constructorNameAsVariable false

theorem u64_rng {n : Int} (h : (Lit.int .u64 n).wf = true) : 0 ≤ n ∧ n < 18446744073709551616 := by
  simp [Lit.wf, IntKind.min, IntKind.max, IntKind.signed, IntKind.bits] at h
  omega

section
variable {H : Type} {enc : TypeId × Value → H} {W : World} {base : Nat} {sp : Nat → Bool} {held : Bool} {r : Reach} {b0 : Nat} {v : Value} {d : DataW H} {ps : List MemPlace}

set_option maxRecDepth 100000 in
theorem open_de (hval : Value.okWide Tryz.prog W r b0 41 v) (hd : DataW.Trod enc Tryz.prog W base sp held 41 v d ps) :
    ∃ y : De, v = deV y ∧ d = .agg [.lit (.int .u64 y.va), .lit (.int .u64 y.se), .lit (.int .i64 y.fl)] ∧ ps = [] ∧ (Lit.int .u64 y.va).wf = true ∧ (Lit.int .u64 y.se).wf = true ∧ (Lit.int .i64 y.fl).wf = true := by
  obtain ⟨cs, rfl, hc⟩ := okWide_struct Tryz.underlying41 hval
  obtain ⟨fuel, hf⟩ := hd
  obtain ⟨xs, n, _, e, hl, hlen, hfs⟩ := DataW.trod_struct Tryz.underlying41 hf
  have hc3 : cs.size = 3 := hc.trans (by kernel_rfl)
  have cw1 : Tryz.prog.cellsOf 33 = 1 := by kernel_rfl
  have ci1 : Tryz.prog.cellsOf 3 = 1 := by kernel_rfl
  obtain ⟨cl⟩ := cs
  have hc4 : cl.length = 3 := hc3
  have hx4 : xs.length = 3 := hlen
  clear hval hf hl hlen hc hc3
  obtain ⟨c0, c1, c2, rfl⟩ : ∃ c0 c1 c2, cl = [c0, c1, c2] := by
    match cl, hc4 with
    | [c0, c1, c2], _ => exact ⟨c0, c1, c2, rfl⟩
  obtain ⟨x0, x1, x2, rfl⟩ : ∃ x0 x1 x2, xs = [x0, x1, x2] := by
    match xs, hx4 with
    | [x0, x1, x2], _ => exact ⟨x0, x1, x2, rfl⟩
  have t0 : DataW.trod enc Tryz.prog W base sp held n 33 [c0] = some x0 := by simpa [cw1, ci1, Value.cells] using hfs 0 _ rfl
  obtain ⟨a0, p0, q0, w0⟩ := DataW.trod_int Tryz.underlying33 t0
  injection p0 with p0 _
  have t1 : DataW.trod enc Tryz.prog W base sp held n 33 [c1] = some x1 := by simpa [cw1, ci1, Value.cells] using hfs 1 _ rfl
  obtain ⟨a1, p1, q1, w1⟩ := DataW.trod_int Tryz.underlying33 t1
  injection p1 with p1 _
  have t2 : DataW.trod enc Tryz.prog W base sp held n 3 [c2] = some x2 := by simpa [cw1, ci1, Value.cells] using hfs 2 _ rfl
  obtain ⟨a2, p2, q2, w2⟩ := DataW.trod_int Tryz.underlying3 t2
  injection p2 with p2 _
  clear hfs t0 t1 t2
  subst p0 q0 p1 q1 p2 q2
  simp only [List.map_cons, List.map_nil, List.flatMap_cons, List.flatMap_nil, List.append_nil, Prod.mk.injEq] at e
  exact ⟨⟨a0, a1, a2⟩, rfl, e.1, e.2, w0, w1, w2⟩

set_option maxRecDepth 100000 in
theorem shut_de {y : De} (h0 : (Lit.int .u64 y.va).wf = true) (h1 : (Lit.int .u64 y.se).wf = true) (h2 : (Lit.int .i64 y.fl).wf = true) :
    DataW.Trod enc Tryz.prog W base sp held 41 (deV y) (.agg [.lit (.int .u64 y.va), .lit (.int .u64 y.se), .lit (.int .i64 y.fl)]) [] := by
  have cw1 : Tryz.prog.cellsOf 33 = 1 := by kernel_rfl
  have ci1 : Tryz.prog.cellsOf 3 = 1 := by kernel_rfl
  have k0 : DataW.trod enc Tryz.prog W base sp held 1 33 [.int .u64 y.va] = some (.lit (.int .u64 y.va), []) := trod_int_mk (enc := enc) (w := W) (base := base) (spare := sp) (held := held) 0 Tryz.underlying33 h0
  have k1 : DataW.trod enc Tryz.prog W base sp held 1 33 [.int .u64 y.se] = some (.lit (.int .u64 y.se), []) := trod_int_mk (enc := enc) (w := W) (base := base) (spare := sp) (held := held) 0 Tryz.underlying33 h1
  have k2 : DataW.trod enc Tryz.prog W base sp held 1 3 [.int .i64 y.fl] = some (.lit (.int .i64 y.fl), []) := trod_int_mk (enc := enc) (w := W) (base := base) (spare := sp) (held := held) 0 Tryz.underlying3 h2
  have k := trod_struct_mk (enc := enc) (w := W) (base := base) (spare := sp) (held := held) (n := 1) (cs := [.int .u64 y.va, .int .u64 y.se, .int .i64 y.fl]) (xs := [(.lit (.int .u64 y.va), []), (.lit (.int .u64 y.se), []), (.lit (.int .i64 y.fl), [])]) Tryz.underlying41 (by kernel_rfl) (by simp [cw1, ci1, k0, k1, k2])
  exact ⟨2, k⟩

set_option maxRecDepth 100000 in
theorem open_ws (hval : Value.okWide Tryz.prog W r b0 35 v) (hd : DataW.Trod enc Tryz.prog W base sp held 35 v d ps) :
    ∃ y : Ws, v = wsV y ∧ d = .agg [.lit (.int .i64 y.has), .lit (.int .u64 y.va), .lit (.int .u64 y.ge), .lit (.int .u64 y.se), .lit (.int .i64 y.fl)] ∧ ps = [] ∧ (Lit.int .i64 y.has).wf = true ∧ (Lit.int .u64 y.va).wf = true ∧ (Lit.int .u64 y.ge).wf = true ∧ (Lit.int .u64 y.se).wf = true ∧ (Lit.int .i64 y.fl).wf = true := by
  obtain ⟨cs, rfl, hc⟩ := okWide_struct Tryz.underlying35 hval
  obtain ⟨fuel, hf⟩ := hd
  obtain ⟨xs, n, _, e, hl, hlen, hfs⟩ := DataW.trod_struct Tryz.underlying35 hf
  have hc3 : cs.size = 5 := hc.trans (by kernel_rfl)
  have cw1 : Tryz.prog.cellsOf 33 = 1 := by kernel_rfl
  have ci1 : Tryz.prog.cellsOf 3 = 1 := by kernel_rfl
  obtain ⟨cl⟩ := cs
  have hc4 : cl.length = 5 := hc3
  have hx4 : xs.length = 5 := hlen
  clear hval hf hl hlen hc hc3
  obtain ⟨c0, c1, c2, c3, c4, rfl⟩ : ∃ c0 c1 c2 c3 c4, cl = [c0, c1, c2, c3, c4] := by
    match cl, hc4 with
    | [c0, c1, c2, c3, c4], _ => exact ⟨c0, c1, c2, c3, c4, rfl⟩
  obtain ⟨x0, x1, x2, x3, x4, rfl⟩ : ∃ x0 x1 x2 x3 x4, xs = [x0, x1, x2, x3, x4] := by
    match xs, hx4 with
    | [x0, x1, x2, x3, x4], _ => exact ⟨x0, x1, x2, x3, x4, rfl⟩
  have t0 : DataW.trod enc Tryz.prog W base sp held n 3 [c0] = some x0 := by simpa [cw1, ci1, Value.cells] using hfs 0 _ rfl
  obtain ⟨a0, p0, q0, w0⟩ := DataW.trod_int Tryz.underlying3 t0
  injection p0 with p0 _
  have t1 : DataW.trod enc Tryz.prog W base sp held n 33 [c1] = some x1 := by simpa [cw1, ci1, Value.cells] using hfs 1 _ rfl
  obtain ⟨a1, p1, q1, w1⟩ := DataW.trod_int Tryz.underlying33 t1
  injection p1 with p1 _
  have t2 : DataW.trod enc Tryz.prog W base sp held n 33 [c2] = some x2 := by simpa [cw1, ci1, Value.cells] using hfs 2 _ rfl
  obtain ⟨a2, p2, q2, w2⟩ := DataW.trod_int Tryz.underlying33 t2
  injection p2 with p2 _
  have t3 : DataW.trod enc Tryz.prog W base sp held n 33 [c3] = some x3 := by simpa [cw1, ci1, Value.cells] using hfs 3 _ rfl
  obtain ⟨a3, p3, q3, w3⟩ := DataW.trod_int Tryz.underlying33 t3
  injection p3 with p3 _
  have t4 : DataW.trod enc Tryz.prog W base sp held n 3 [c4] = some x4 := by simpa [cw1, ci1, Value.cells] using hfs 4 _ rfl
  obtain ⟨a4, p4, q4, w4⟩ := DataW.trod_int Tryz.underlying3 t4
  injection p4 with p4 _
  clear hfs t0 t1 t2 t3 t4
  subst p0 q0 p1 q1 p2 q2 p3 q3 p4 q4
  simp only [List.map_cons, List.map_nil, List.flatMap_cons, List.flatMap_nil, List.append_nil, Prod.mk.injEq] at e
  exact ⟨⟨a0, a1, a2, a3, a4⟩, rfl, e.1, e.2, w0, w1, w2, w3, w4⟩

set_option maxRecDepth 100000 in
theorem shut_ws {y : Ws} (h0 : (Lit.int .i64 y.has).wf = true) (h1 : (Lit.int .u64 y.va).wf = true) (h2 : (Lit.int .u64 y.ge).wf = true) (h3 : (Lit.int .u64 y.se).wf = true) (h4 : (Lit.int .i64 y.fl).wf = true) :
    DataW.Trod enc Tryz.prog W base sp held 35 (wsV y) (.agg [.lit (.int .i64 y.has), .lit (.int .u64 y.va), .lit (.int .u64 y.ge), .lit (.int .u64 y.se), .lit (.int .i64 y.fl)]) [] := by
  have cw1 : Tryz.prog.cellsOf 33 = 1 := by kernel_rfl
  have ci1 : Tryz.prog.cellsOf 3 = 1 := by kernel_rfl
  have k0 : DataW.trod enc Tryz.prog W base sp held 1 3 [.int .i64 y.has] = some (.lit (.int .i64 y.has), []) := trod_int_mk (enc := enc) (w := W) (base := base) (spare := sp) (held := held) 0 Tryz.underlying3 h0
  have k1 : DataW.trod enc Tryz.prog W base sp held 1 33 [.int .u64 y.va] = some (.lit (.int .u64 y.va), []) := trod_int_mk (enc := enc) (w := W) (base := base) (spare := sp) (held := held) 0 Tryz.underlying33 h1
  have k2 : DataW.trod enc Tryz.prog W base sp held 1 33 [.int .u64 y.ge] = some (.lit (.int .u64 y.ge), []) := trod_int_mk (enc := enc) (w := W) (base := base) (spare := sp) (held := held) 0 Tryz.underlying33 h2
  have k3 : DataW.trod enc Tryz.prog W base sp held 1 33 [.int .u64 y.se] = some (.lit (.int .u64 y.se), []) := trod_int_mk (enc := enc) (w := W) (base := base) (spare := sp) (held := held) 0 Tryz.underlying33 h3
  have k4 : DataW.trod enc Tryz.prog W base sp held 1 3 [.int .i64 y.fl] = some (.lit (.int .i64 y.fl), []) := trod_int_mk (enc := enc) (w := W) (base := base) (spare := sp) (held := held) 0 Tryz.underlying3 h4
  have k := trod_struct_mk (enc := enc) (w := W) (base := base) (spare := sp) (held := held) (n := 1) (cs := [.int .i64 y.has, .int .u64 y.va, .int .u64 y.ge, .int .u64 y.se, .int .i64 y.fl]) (xs := [(.lit (.int .i64 y.has), []), (.lit (.int .u64 y.va), []), (.lit (.int .u64 y.ge), []), (.lit (.int .u64 y.se), []), (.lit (.int .i64 y.fl), [])]) Tryz.underlying35 (by kernel_rfl) (by simp [cw1, ci1, k0, k1, k2, k3, k4])
  exact ⟨2, k⟩
end

end Go.Proofs.YtahhionlbfhinaaGreatDoor.Hp
