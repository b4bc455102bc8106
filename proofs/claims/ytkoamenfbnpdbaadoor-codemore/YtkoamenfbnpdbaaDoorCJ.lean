/- The laws' arguments: functions and programs, as they lie in memory; the listed variable. -/
import Derived.Test.YtkoamenfbnpdbaaDoorCI
import Derived.Test.YtkoamenfbnpdbaaDoorRows
import Derived.ProofKit
import Derived.OpenShut
import Derived.LaidMore
import Derived.Lib.LaidTab
import Derived.MakeChecks
import Derived.Lay
import Derived.Deep.Slices
import Derived.SizedLaws
namespace Go.Proofs.YtkoamenfbnpdbaaDoor.Cd
open Go.RowKit Go.ChangeShapes Go.WideShapes
set_option linter.unusedVariables false

theorem bs_of (s : ByteArray) : s = bs s.data.toList := by unfold bs; simp

/-- an array of texts that reads as these texts holds them -/
theorem cells_of_strs {H : Type} {enc : TypeId × Value → H} {W : World} {base : Nat} {sp : Nat → Bool} {held : Bool} {fuel : Nat} {cs : List Value} {zs : List (List UInt8)} {p : List MemPlace}
    (hz : zs.length = 63) (h : DataW.trod enc Tryd.prog W base sp held fuel 57 cs = some (.agg (zs.map fun z => .lit (.string z)), p)) : cs = zs.map fun z => Value.string (bs z) := by
  have c9 : Tryd.prog.cellsOf 9 = 1 := by kernel_rfl
  have c57 : Tryd.prog.cellsOf 57 = 63 := by kernel_rfl
  cases fuel with
  | zero => simp [DataW.trod] at h
  | succ fuel =>
    simp only [DataW.trod, Tryd.underlying57, c9, c57, Nat.mul_one] at h
    split at h
    · rename_i hl
      obtain ⟨xs, hm, hx⟩ := Option.map_eq_some_iff.1 h
      have hf : xs.map (·.1) = zs.map fun z => (DataW.lit (.string z) : DataW H) := by simpa using congrArg Prod.fst hx
      refine List.ext_getElem? fun i => ?_
      rcases Nat.lt_or_ge i 63 with hi | hi
      · obtain ⟨b, hb, hk⟩ := Go.Lib.mapM_at hm i i (by simp [hi])
        obtain ⟨s, e1, e2, _⟩ := DataW.trod_string Tryd.underlying9 hk
        have k1 : cs[i]? = some (.string s) := by
          have := congrArg (·[0]?) e1
          simpa [List.getElem?_take, List.getElem?_drop] using this
        have k2 : (xs.map (·.1))[i]? = some (DataW.lit (.string s.data.toList) : DataW H) := by simp [hb, e2]
        rw [hf, List.getElem?_map] at k2
        obtain ⟨z, z1, z2⟩ := Option.map_eq_some_iff.1 k2
        simp at z2
        rw [k1, List.getElem?_map, z1]
        simp
        rw [z2]
        exact bs_of s
      · rw [List.getElem?_eq_none (by omega), List.getElem?_eq_none (by simp; omega)]
    · cases h

theorem shAt_of {W : World} (h : laidMetH Tryd.prog [("brazier/code.shapes", Rows.laid_brazier_code_shapes)] W) : ShAt W := by
  rw [MakeChecks.laidMetH_plain _ _ _ (by kernel_rfl)] at h
  obtain ⟨ps, ⟨g0, t0, cs0, f0, p0, q0, hg0, ht0, hv0, hd0, _, _⟩, _⟩ := h
  obtain rfl := Option.some.inj ((show Tryd.prog.globalNamed "brazier/code.shapes" = some 0 by kernel_rfl).symm.trans hg0)
  obtain rfl := Option.some.inj ((show (Tryd.prog.globals[0]?).map (·.type) = some 57 by kernel_rfl).symm.trans ht0)
  have e := cells_of_strs (zs := shL) rfl hd0
  unfold World.var? at hv0
  rw [show Tryd.prog.globalNamed "brazier/code.shapes" = some 0 by kernel_rfl] at hv0
  simp only [Option.bind_some] at hv0
  split at hv0
  · rename_i c t fr hh
    simp at hv0
    subst hv0
    refine ⟨t, fr, ?_⟩
    rw [hh]
    congr 2
    unfold shV
    rw [← e]
  · simp at hv0

section
variable {H : Type} {enc : TypeId × Value → H} {w : World} {base : Nat} {spare : Nat → Bool} {held : Bool}

/-- a slice, whatever lies in it -/
theorem open_sl {α : Type} {t e : TypeId} {k fuel : Nat} {cs : List Value} {x : DataW H × List MemPlace} (enc' : α → List Value) (good : α → Prop)
    (ht : Tryd.prog.underlying t = some (.slice e)) (hk : Tryd.prog.cellsOf e = k) (hk0 : 0 < k) (hlen : ∀ y, (enc' y).length = k)
    (elem : ∀ n cs' x', DataW.trod enc Tryd.prog w base spare held n e cs' = some x' → ∃ y, cs' = enc' y ∧ good y)
    (h : DataW.trod enc Tryd.prog w base spare held fuel t cs = some x) :
    ∃ s : Sli α, cs = [s.val] ∧ s.ok enc' k w ∧ (∀ y ∈ s.xs, good y) ∧ (s.xs = [] ∨ ∃ els sp, x.1 = .slice els sp ∧ els.length = s.xs.length) := by
  rcases Go.Deep.open_slice ht h with ⟨rfl, rfl⟩ | ⟨a, len, cap, m, n, D, Pl, rfl, hb, hl, hm, hmm, rfl, hx⟩
  · exact ⟨⟨none, 0, []⟩, rfl, ⟨Nat.le_refl _, Nat.zero_le _, fun h => absurd rfl h⟩, (fun y hy => by cases hy), Or.inl rfl⟩
  · have hlm : len ≤ m := by rw [hmm]; split <;> omega
    have hall : ∀ i : Fin len, ∃ y, good y ∧ ∀ j, j < k → w.cell? ((a.add (i.val * k)).add j) = (enc' y)[j]? := by
      intro i
      obtain ⟨cs', h1, h2⟩ := hx i.val (by omega)
      obtain ⟨y, rfl, hg⟩ := elem n cs' _ h2
      rw [hk] at h1
      obtain ⟨_, _, hcell⟩ := World.cells?_some h1
      exact ⟨y, hg, hcell⟩
    let f : Fin len → α := fun i => Classical.choose (hall i)
    have hf : ∀ i, good (f i) ∧ ∀ j, j < k → w.cell? ((a.add (i.val * k)).add j) = (enc' (f i))[j]? := fun i => Classical.choose_spec (hall i)
    refine ⟨⟨some a, cap, List.ofFn f⟩, by simp [Sli.val], ⟨by simpa using hl, hm, fun h0 => ?_⟩, ?_, Or.inr ⟨_, _, rfl, by simp⟩⟩
    · have lpos : 0 < len := by
        rcases Nat.eq_zero_or_pos len with c | c
        · subst c
          exact absurd (by simp) h0
        · exact c
      have h1 := (hf ⟨0, lpos⟩).2 0 hk0
      have hsp : a.spot = none := by
        have h2 : (enc' (f ⟨0, lpos⟩))[0]? = some ((enc' (f ⟨0, lpos⟩))[0]'(by rw [hlen]; exact hk0)) := List.getElem?_eq_getElem _
        rw [h2] at h1
        have e1 : (a.add (0 * k)).add 0 = a := by simp [Addr.add]
        rw [show ((⟨0, lpos⟩ : Fin len).val * k) = 0 * k from rfl, e1] at h1
        exact World.cell?_spot h1
      obtain ⟨b, off, sp⟩ := a
      simp only at hsp
      subst hsp
      refine ⟨b, off, rfl, ?_⟩
      intro i y hi j u hj
      simp only [List.getElem?_ofFn] at hi
      split at hi
      · rename_i c
        obtain rfl := Option.some.inj hi
        have jl : j < k := by
          rcases Nat.lt_or_ge j k with d | d
          · exact d
          · rw [List.getElem?_eq_none (by rw [hlen]; exact d)] at hj; cases hj
        have h3 := (hf ⟨i, c⟩).2 j jl
        rw [hj] at h3
        rw [← h3]
        congr 1
        have ea : ∀ (p n : Nat), (⟨b, p, none⟩ : Addr).add n = ⟨b, p + n, none⟩ := by
          intro p n
          unfold Addr.add
          by_cases hn : n = 0
          · subst hn; simp
          · simp [hn]
        rw [ea, ea]
      · cases hi
    · intro y hy
      simp only [List.mem_ofFn] at hy
      obtain ⟨i, rfl⟩ := hy
      exact (hf i).1

theorem open_ins {n : Nat} {cs : List Value} {x : DataW H × List MemPlace} (h : DataW.trod enc Tryd.prog w base spare held n 43 cs = some x) : ∃ y, cs = insC y ∧ True := by
  obtain ⟨xs, k, hk, hxy, hlen, hxl, hf⟩ := DataW.trod_struct Tryd.underlying43 h
  rw [show Tryd.prog.cellsOf 43 = 4 by kernel_rfl] at hlen
  have hxl : xs.length = 4 := hxl
  match cs, hlen, xs, hxl with
  | [v0, v1, v2, v3], _, [y0, y1, y2, y3], _ =>
    have g0 : DataW.trod enc Tryd.prog w base spare held k 3 [v0] = some y0 := hf 0 _ rfl
    obtain ⟨a0, e0, _, _⟩ := DataW.trod_int Tryd.underlying3 g0
    obtain rfl : v0 = _ := by simpa using e0
    have g1 : DataW.trod enc Tryd.prog w base spare held k 3 [v1] = some y1 := hf 1 _ rfl
    obtain ⟨a1, e1, _, _⟩ := DataW.trod_int Tryd.underlying3 g1
    obtain rfl : v1 = _ := by simpa using e1
    have g2 : DataW.trod enc Tryd.prog w base spare held k 3 [v2] = some y2 := hf 2 _ rfl
    obtain ⟨a2, e2, _, _⟩ := DataW.trod_int Tryd.underlying3 g2
    obtain rfl : v2 = _ := by simpa using e2
    have g3 : DataW.trod enc Tryd.prog w base spare held k 3 [v3] = some y3 := hf 3 _ rfl
    obtain ⟨a3, e3, _, _⟩ := DataW.trod_int Tryd.underlying3 g3
    obtain rfl : v3 = _ := by simpa using e3
    exact ⟨⟨a0, a1, a2, a3⟩, rfl, trivial⟩

theorem open_cst {n : Nat} {cs : List Value} {x : DataW H × List MemPlace} (h : DataW.trod enc Tryd.prog w base spare held n 46 cs = some x) : ∃ y, cs = cstC y ∧ True := by
  obtain ⟨xs, k, hk, hxy, hlen, hxl, hf⟩ := DataW.trod_struct Tryd.underlying46 h
  rw [show Tryd.prog.cellsOf 46 = 3 by kernel_rfl] at hlen
  have hxl : xs.length = 3 := hxl
  match cs, hlen, xs, hxl with
  | [v0, v1, v2], _, [y0, y1, y2], _ =>
    have g0 : DataW.trod enc Tryd.prog w base spare held k 4 [v0] = some y0 := hf 0 _ rfl
    obtain ⟨a0, e0, _⟩ := DataW.trod_bool Tryd.underlying4 g0
    obtain rfl : v0 = _ := by simpa using e0
    have g1 : DataW.trod enc Tryd.prog w base spare held k 44 [v1] = some y1 := hf 1 _ rfl
    obtain ⟨a1, e1, _, _⟩ := DataW.trod_int Tryd.underlying44 g1
    obtain rfl : v1 = _ := by simpa using e1
    have g2 : DataW.trod enc Tryd.prog w base spare held k 9 [v2] = some y2 := hf 2 _ rfl
    obtain ⟨a2, e2, _, _⟩ := DataW.trod_string Tryd.underlying9 g2
    obtain rfl : v2 = _ := by simpa using e2
    exact ⟨⟨a0, a1, a2⟩, rfl, trivial⟩

theorem open_cap {n : Nat} {cs : List Value} {x : DataW H × List MemPlace} (h : DataW.trod enc Tryd.prog w base spare held n 56 cs = some x) : ∃ y, cs = capC y ∧ True := by
  obtain ⟨xs, k, hk, hxy, hlen, hxl, hf⟩ := DataW.trod_struct Tryd.underlying56 h
  rw [show Tryd.prog.cellsOf 56 = 2 by kernel_rfl] at hlen
  have hxl : xs.length = 2 := hxl
  match cs, hlen, xs, hxl with
  | [v0, v1], _, [y0, y1], _ =>
    have g0 : DataW.trod enc Tryd.prog w base spare held k 4 [v0] = some y0 := hf 0 _ rfl
    obtain ⟨a0, e0, _⟩ := DataW.trod_bool Tryd.underlying4 g0
    obtain rfl : v0 = _ := by simpa using e0
    have g1 : DataW.trod enc Tryd.prog w base spare held k 3 [v1] = some y1 := hf 1 _ rfl
    obtain ⟨a1, e1, _, _⟩ := DataW.trod_int Tryd.underlying3 g1
    obtain rfl : v1 = _ := by simpa using e1
    exact ⟨⟨a0, a1⟩, rfl, trivial⟩

theorem open_hnd {n : Nat} {cs : List Value} {x : DataW H × List MemPlace} (h : DataW.trod enc Tryd.prog w base spare held n 49 cs = some x) : ∃ y, cs = hndC y ∧ True := by
  obtain ⟨xs, k, hk, hxy, hlen, hxl, hf⟩ := DataW.trod_struct Tryd.underlying49 h
  rw [show Tryd.prog.cellsOf 49 = 3 by kernel_rfl] at hlen
  have hxl : xs.length = 3 := hxl
  match cs, hlen, xs, hxl with
  | [v0, v1, v2], _, [y0, y1, y2], _ =>
    have g0 : DataW.trod enc Tryd.prog w base spare held k 3 [v0] = some y0 := hf 0 _ rfl
    obtain ⟨a0, e0, _, _⟩ := DataW.trod_int Tryd.underlying3 g0
    obtain rfl : v0 = _ := by simpa using e0
    have g1 : DataW.trod enc Tryd.prog w base spare held k 3 [v1] = some y1 := hf 1 _ rfl
    obtain ⟨a1, e1, _, _⟩ := DataW.trod_int Tryd.underlying3 g1
    obtain rfl : v1 = _ := by simpa using e1
    have g2 : DataW.trod enc Tryd.prog w base spare held k 3 [v2] = some y2 := hf 2 _ rfl
    obtain ⟨a2, e2, _, _⟩ := DataW.trod_int Tryd.underlying3 g2
    obtain rfl : v2 = _ := by simpa using e2
    exact ⟨⟨a0, a1, a2⟩, rfl, trivial⟩

theorem open_fn {n : Nat} {cs : List Value} {x : DataW H × List MemPlace} (h : DataW.trod enc Tryd.prog w base spare held n 36 cs = some x) : ∃ f, cs = fnC f ∧ f.ok w ∧ ∃ l, x.1 = .agg l ∧ (f.code.xs = [] ∨ ∃ els sp, l[4]? = some (.slice els sp) ∧ els.length = f.code.xs.length) ∧ (f.hnds.xs = [] ∨ ∃ els sp, l[7]? = some (.slice els sp) ∧ els.length = f.hnds.xs.length) ∧ (f.consts.xs = [] ∨ ∃ els sp, l[5]? = some (.slice els sp) ∧ els.length = f.consts.xs.length) := by
  obtain ⟨xs, k, hk, hxy, hlen, hxl, hf⟩ := DataW.trod_struct Tryd.underlying36 h
  rw [show Tryd.prog.cellsOf 36 = 8 by kernel_rfl] at hlen
  have hxl : xs.length = 8 := hxl
  match cs, hlen, xs, hxl with
  | [v0, v1, v2, v3, v4, v5, v6, v7], _, [y0, y1, y2, y3, y4, y5, y6, y7], _ =>
    have g0 : DataW.trod enc Tryd.prog w base spare held k 9 [v0] = some y0 := hf 0 _ rfl
    obtain ⟨a0, e0, _, _⟩ := DataW.trod_string Tryd.underlying9 g0
    obtain rfl : v0 = _ := by simpa using e0
    have g1 : DataW.trod enc Tryd.prog w base spare held k 3 [v1] = some y1 := hf 1 _ rfl
    obtain ⟨a1, e1, _, _⟩ := DataW.trod_int Tryd.underlying3 g1
    obtain rfl : v1 = _ := by simpa using e1
    have g2 : DataW.trod enc Tryd.prog w base spare held k 3 [v2] = some y2 := hf 2 _ rfl
    obtain ⟨a2, e2, _, _⟩ := DataW.trod_int Tryd.underlying3 g2
    obtain rfl : v2 = _ := by simpa using e2
    have g3 : DataW.trod enc Tryd.prog w base spare held k 4 [v3] = some y3 := hf 3 _ rfl
    obtain ⟨a3, e3, _⟩ := DataW.trod_bool Tryd.underlying4 g3
    obtain rfl : v3 = _ := by simpa using e3
    have g4 : DataW.trod enc Tryd.prog w base spare held k 31 [v4] = some y4 := hf 4 _ rfl
    obtain ⟨s4, e4, o4, _, w4⟩ := open_sl insC (fun _ => True) Tryd.underlying31 (show Tryd.prog.cellsOf 43 = 4 by kernel_rfl) (by omega) (fun _ => rfl) (fun n cs' x' h => open_ins h) g4
    obtain rfl : v4 = _ := by simpa using e4
    have g5 : DataW.trod enc Tryd.prog w base spare held k 32 [v5] = some y5 := hf 5 _ rfl
    obtain ⟨s5, e5, o5, _, w5⟩ := open_sl cstC (fun _ => True) Tryd.underlying32 (show Tryd.prog.cellsOf 46 = 3 by kernel_rfl) (by omega) (fun _ => rfl) (fun n cs' x' h => open_cst h) g5
    obtain rfl : v5 = _ := by simpa using e5
    have g6 : DataW.trod enc Tryd.prog w base spare held k 33 [v6] = some y6 := hf 6 _ rfl
    obtain ⟨s6, e6, o6, _, w6⟩ := open_sl capC (fun _ => True) Tryd.underlying33 (show Tryd.prog.cellsOf 56 = 2 by kernel_rfl) (by omega) (fun _ => rfl) (fun n cs' x' h => open_cap h) g6
    obtain rfl : v6 = _ := by simpa using e6
    have g7 : DataW.trod enc Tryd.prog w base spare held k 34 [v7] = some y7 := hf 7 _ rfl
    obtain ⟨s7, e7, o7, _, w7⟩ := open_sl hndC (fun _ => True) Tryd.underlying34 (show Tryd.prog.cellsOf 49 = 3 by kernel_rfl) (by omega) (fun _ => rfl) (fun n cs' x' h => open_hnd h) g7
    obtain rfl : v7 = _ := by simpa using e7
    refine ⟨⟨a0, a1, a2, a3, s4, s5, s6, s7⟩, rfl, ⟨o4, o5, o6, o7⟩, _, by rw [hxy], ?_, ?_, ?_⟩
    · rcases w4 with h | ⟨els, sp, h1, h2⟩
      · exact Or.inl h
      · exact Or.inr ⟨els, sp, by simp [h1], h2⟩
    · rcases w7 with h | ⟨els, sp, h1, h2⟩
      · exact Or.inl h
      · exact Or.inr ⟨els, sp, by simp [h1], h2⟩
    · rcases w5 with h | ⟨els, sp, h1, h2⟩
      · exact Or.inl h
      · exact Or.inr ⟨els, sp, by simp [h1], h2⟩

theorem open_prog {n : Nat} {cs : List Value} {x : DataW H × List MemPlace} (h : DataW.trod enc Tryd.prog w base spare held n 24 cs = some x) : ∃ s, cs = [s.val] ∧ FnsOk w s := by
  obtain ⟨xs, k, hk, hxy, hlen, hxl, hf⟩ := DataW.trod_struct Tryd.underlying24 h
  rw [show Tryd.prog.cellsOf 24 = 1 by kernel_rfl] at hlen
  have hxl : xs.length = 1 := hxl
  match cs, hlen, xs, hxl with
  | [v0], _, [y0], _ =>
    have g0 : DataW.trod enc Tryd.prog w base spare held k 22 [v0] = some y0 := hf 0 _ rfl
    obtain ⟨s0, e0, o0, a0, w0⟩ := open_sl fnC (fun f => f.ok w) Tryd.underlying22 (show Tryd.prog.cellsOf 36 = 8 by kernel_rfl) (by omega) (fun _ => rfl) (fun n cs' x' h => by
      obtain ⟨f, h1, h2, _⟩ := open_fn h
      exact ⟨f, h1, h2⟩) g0
    exact ⟨s0, e0, o0, a0⟩

/-- sizes of a function that came in -/
theorem fn_sized {l : List (DataW H)} {ts : List TypeId} {ds : List (DataW H)} (hw : (DataW.weightsEach Tryd.prog ts ds).all (· ≤ reachBytes) = true) {j : Nat} (ht : ts[j]? = some 36) (hd : ds[j]? = some (.agg l)) {i : Nat} {t e : TypeId}
    (hi : ([9, 3, 3, 4, 31, 32, 33, 34] : List TypeId)[i]? = some t) (hu : Tryd.prog.underlying t = some (.slice e)) {els sp : List (DataW H)} (hl : l[i]? = some (.slice els sp)) : els.length * Tryd.prog.bytesOf e ≤ reachBytes := by
  have h1 := List.all_eq_true.1 hw
  have h2 : (DataW.weightsEach Tryd.prog [9, 3, 3, 4, 31, 32, 33, 34] l).all (· ≤ reachBytes) = true := by
    rw [List.all_eq_true]
    intro n hn
    refine h1 n (DataW.weights_mem_each ht hd n ?_)
    simp only [DataW.weights, Tryd.underlying36]
    exact hn
  have h3 := sized_slice h2 hi hl hu
  exact Nat.le_trans (Nat.mul_le_mul_right _ (by omega)) h3
end

end Go.Proofs.YtkoamenfbnpdbaaDoor.Cd
