/- The laws' arguments, as they lie in memory. -/
import Derived.Test.YtjkemkggcnholaaGH
import Derived.Test.YtjkemkggcnholaaRows
import Derived.ProofKit
import Derived.OpenShut
import Derived.LaidMore
import Derived.Lib.LaidTab
import Derived.MakeChecks
import Derived.Lay
import Derived.Deep.Slices
import Derived.SizedLaws
namespace Go.Proofs.Ytjkemkggcnholaa.Fu
open Go.RowKit Go.ChangeShapes Go.WideShapes
set_option linter.unusedVariables false

section
variable {H : Type} {enc : TypeId × Value → H} {w : World} {base : Nat} {spare : Nat → Bool} {held : Bool}

/-- a slice, whatever lies in it -/
theorem open_sl {α : Type} {t e : TypeId} {k fuel : Nat} {cs : List Value} {x : DataW H × List MemPlace} (enc' : α → List Value) (good : α → Prop)
    (ht : Try.prog.underlying t = some (.slice e)) (hk : Try.prog.cellsOf e = k) (hk0 : 0 < k) (hlen : ∀ y, (enc' y).length = k)
    (elem : ∀ n cs' x', DataW.trod enc Try.prog w base spare held n e cs' = some x' → ∃ y, cs' = enc' y ∧ good y)
    (h : DataW.trod enc Try.prog w base spare held fuel t cs = some x) :
    ∃ s : Sli α, cs = [s.val] ∧ s.ok enc' k w ∧ (∀ y ∈ s.xs, good y) ∧ (s.xs = [] ∨ ∃ els sp, x.1 = .slice els sp ∧ els.length = s.xs.length) := by
  rcases Go.Deep.open_slice ht h with ⟨rfl, rfl⟩ | ⟨a, len, cap, m, n, D, Pl, rfl, hb, hl, hm, hmm, rfl, hx⟩
  · exact ⟨⟨none, 0, []⟩, rfl, ⟨Nat.le_refl _, Nat.zero_le _, fun h => absurd rfl h⟩, (fun y hy => by cases hy), Or.inl rfl⟩
  · have hlm : len ≤ m := by rw [hmm]; split <;> omega
    have hall : ∀ i : Fin len, ∃ y, good y ∧ ∀ j, j < k → w.cell? ((a.add (i.val * k)).add j) = (enc' y)[j]? := by
      intro i
      obtain ⟨cs', h1, h2⟩ := hx i.val (by omega)
      obtain ⟨y, rfl, hg⟩ := elem n cs' _ h2
      rw [hk] at h1
      obtain ⟨_, _, hcell⟩ := World.cells?_some h1
      exact ⟨y, hg, hcell⟩
    let f : Fin len → α := fun i => Classical.choose (hall i)
    have hf : ∀ i, good (f i) ∧ ∀ j, j < k → w.cell? ((a.add (i.val * k)).add j) = (enc' (f i))[j]? := fun i => Classical.choose_spec (hall i)
    refine ⟨⟨some a, cap, List.ofFn f⟩, by simp [Sli.val], ⟨by simpa using hl, hm, fun h0 => ?_⟩, ?_, Or.inr ⟨_, _, rfl, by simp⟩⟩
    · have lpos : 0 < len := by
        rcases Nat.eq_zero_or_pos len with c | c
        · subst c
          exact absurd (by simp) h0
        · exact c
      have h1 := (hf ⟨0, lpos⟩).2 0 hk0
      have hsp : a.spot = none := by
        have h2 : (enc' (f ⟨0, lpos⟩))[0]? = some ((enc' (f ⟨0, lpos⟩))[0]'(by rw [hlen]; exact hk0)) := List.getElem?_eq_getElem _
        rw [h2] at h1
        have e1 : (a.add (0 * k)).add 0 = a := by simp [Addr.add]
        rw [show ((⟨0, lpos⟩ : Fin len).val * k) = 0 * k from rfl, e1] at h1
        exact World.cell?_spot h1
      obtain ⟨b, off, sp⟩ := a
      simp only at hsp
      subst hsp
      refine ⟨b, off, rfl, ?_⟩
      intro i y hi j u hj
      simp only [List.getElem?_ofFn] at hi
      split at hi
      · rename_i c
        obtain rfl := Option.some.inj hi
        have jl : j < k := by
          rcases Nat.lt_or_ge j k with d | d
          · exact d
          · rw [List.getElem?_eq_none (by rw [hlen]; exact d)] at hj; cases hj
        have h3 := (hf ⟨i, c⟩).2 j jl
        rw [hj] at h3
        rw [← h3]
        congr 1
        have ea : ∀ (p n : Nat), (⟨b, p, none⟩ : Addr).add n = ⟨b, p + n, none⟩ := by
          intro p n
          unfold Addr.add
          by_cases hn : n = 0
          · subst hn; simp
          · simp [hn]
        rw [ea, ea]
      · cases hi
    · intro y hy
      simp only [List.mem_ofFn] at hy
      obtain ⟨i, rfl⟩ := hy
      exact (hf i).1

theorem open_ins {n : Nat} {cs : List Value} {x : DataW H × List MemPlace} (h : DataW.trod enc Try.prog w base spare held n 41 cs = some x) : ∃ y, cs = insC y ∧ True := by
  obtain ⟨xs, k, hk, hxy, hlen, hxl, hf⟩ := DataW.trod_struct Try.underlying41 h
  rw [show Try.prog.cellsOf 41 = 4 by kernel_rfl] at hlen
  have hxl : xs.length = 4 := hxl
  match cs, hlen, xs, hxl with
  | [v0, v1, v2, v3], _, [y0, y1, y2, y3], _ =>
    have g0 : DataW.trod enc Try.prog w base spare held k 3 [v0] = some y0 := hf 0 _ rfl
    obtain ⟨a0, e0, _, _⟩ := DataW.trod_int Try.underlying3 g0
    obtain rfl : v0 = _ := by simpa using e0
    have g1 : DataW.trod enc Try.prog w base spare held k 3 [v1] = some y1 := hf 1 _ rfl
    obtain ⟨a1, e1, _, _⟩ := DataW.trod_int Try.underlying3 g1
    obtain rfl : v1 = _ := by simpa using e1
    have g2 : DataW.trod enc Try.prog w base spare held k 3 [v2] = some y2 := hf 2 _ rfl
    obtain ⟨a2, e2, _, _⟩ := DataW.trod_int Try.underlying3 g2
    obtain rfl : v2 = _ := by simpa using e2
    have g3 : DataW.trod enc Try.prog w base spare held k 3 [v3] = some y3 := hf 3 _ rfl
    obtain ⟨a3, e3, _, _⟩ := DataW.trod_int Try.underlying3 g3
    obtain rfl : v3 = _ := by simpa using e3
    exact ⟨⟨a0, a1, a2, a3⟩, rfl, trivial⟩

theorem open_cst {n : Nat} {cs : List Value} {x : DataW H × List MemPlace} (h : DataW.trod enc Try.prog w base spare held n 95 cs = some x) : ∃ y, cs = cstC y ∧ True := by
  obtain ⟨xs, k, hk, hxy, hlen, hxl, hf⟩ := DataW.trod_struct Try.underlying95 h
  rw [show Try.prog.cellsOf 95 = 3 by kernel_rfl] at hlen
  have hxl : xs.length = 3 := hxl
  match cs, hlen, xs, hxl with
  | [v0, v1, v2], _, [y0, y1, y2], _ =>
    have g0 : DataW.trod enc Try.prog w base spare held k 4 [v0] = some y0 := hf 0 _ rfl
    obtain ⟨a0, e0, _⟩ := DataW.trod_bool Try.underlying4 g0
    obtain rfl : v0 = _ := by simpa using e0
    have g1 : DataW.trod enc Try.prog w base spare held k 69 [v1] = some y1 := hf 1 _ rfl
    obtain ⟨a1, e1, _, _⟩ := DataW.trod_int Try.underlying69 g1
    obtain rfl : v1 = _ := by simpa using e1
    have g2 : DataW.trod enc Try.prog w base spare held k 9 [v2] = some y2 := hf 2 _ rfl
    obtain ⟨a2, e2, _, _⟩ := DataW.trod_string Try.underlying9 g2
    obtain rfl : v2 = _ := by simpa using e2
    exact ⟨⟨a0, a1, a2⟩, rfl, trivial⟩

theorem open_cap {n : Nat} {cs : List Value} {x : DataW H × List MemPlace} (h : DataW.trod enc Try.prog w base spare held n 97 cs = some x) : ∃ y, cs = capC y ∧ True := by
  obtain ⟨xs, k, hk, hxy, hlen, hxl, hf⟩ := DataW.trod_struct Try.underlying97 h
  rw [show Try.prog.cellsOf 97 = 2 by kernel_rfl] at hlen
  have hxl : xs.length = 2 := hxl
  match cs, hlen, xs, hxl with
  | [v0, v1], _, [y0, y1], _ =>
    have g0 : DataW.trod enc Try.prog w base spare held k 4 [v0] = some y0 := hf 0 _ rfl
    obtain ⟨a0, e0, _⟩ := DataW.trod_bool Try.underlying4 g0
    obtain rfl : v0 = _ := by simpa using e0
    have g1 : DataW.trod enc Try.prog w base spare held k 3 [v1] = some y1 := hf 1 _ rfl
    obtain ⟨a1, e1, _, _⟩ := DataW.trod_int Try.underlying3 g1
    obtain rfl : v1 = _ := by simpa using e1
    exact ⟨⟨a0, a1⟩, rfl, trivial⟩

theorem open_hnd {n : Nat} {cs : List Value} {x : DataW H × List MemPlace} (h : DataW.trod enc Try.prog w base spare held n 49 cs = some x) : ∃ y, cs = hndC y ∧ True := by
  obtain ⟨xs, k, hk, hxy, hlen, hxl, hf⟩ := DataW.trod_struct Try.underlying49 h
  rw [show Try.prog.cellsOf 49 = 3 by kernel_rfl] at hlen
  have hxl : xs.length = 3 := hxl
  match cs, hlen, xs, hxl with
  | [v0, v1, v2], _, [y0, y1, y2], _ =>
    have g0 : DataW.trod enc Try.prog w base spare held k 3 [v0] = some y0 := hf 0 _ rfl
    obtain ⟨a0, e0, _, _⟩ := DataW.trod_int Try.underlying3 g0
    obtain rfl : v0 = _ := by simpa using e0
    have g1 : DataW.trod enc Try.prog w base spare held k 3 [v1] = some y1 := hf 1 _ rfl
    obtain ⟨a1, e1, _, _⟩ := DataW.trod_int Try.underlying3 g1
    obtain rfl : v1 = _ := by simpa using e1
    have g2 : DataW.trod enc Try.prog w base spare held k 3 [v2] = some y2 := hf 2 _ rfl
    obtain ⟨a2, e2, _, _⟩ := DataW.trod_int Try.underlying3 g2
    obtain rfl : v2 = _ := by simpa using e2
    exact ⟨⟨a0, a1, a2⟩, rfl, trivial⟩

theorem open_fn {n : Nat} {cs : List Value} {x : DataW H × List MemPlace} (h : DataW.trod enc Try.prog w base spare held n 27 cs = some x) : ∃ f, cs = fnC f ∧ f.ok w ∧ ∃ l, x.1 = .agg l ∧ (f.code.xs = [] ∨ ∃ els sp, l[4]? = some (.slice els sp) ∧ els.length = f.code.xs.length) ∧ (f.hnds.xs = [] ∨ ∃ els sp, l[7]? = some (.slice els sp) ∧ els.length = f.hnds.xs.length) ∧ (f.consts.xs = [] ∨ ∃ els sp, l[5]? = some (.slice els sp) ∧ els.length = f.consts.xs.length) := by
  obtain ⟨xs, k, hk, hxy, hlen, hxl, hf⟩ := DataW.trod_struct Try.underlying27 h
  rw [show Try.prog.cellsOf 27 = 8 by kernel_rfl] at hlen
  have hxl : xs.length = 8 := hxl
  match cs, hlen, xs, hxl with
  | [v0, v1, v2, v3, v4, v5, v6, v7], _, [y0, y1, y2, y3, y4, y5, y6, y7], _ =>
    have g0 : DataW.trod enc Try.prog w base spare held k 9 [v0] = some y0 := hf 0 _ rfl
    obtain ⟨a0, e0, _, _⟩ := DataW.trod_string Try.underlying9 g0
    obtain rfl : v0 = _ := by simpa using e0
    have g1 : DataW.trod enc Try.prog w base spare held k 3 [v1] = some y1 := hf 1 _ rfl
    obtain ⟨a1, e1, _, _⟩ := DataW.trod_int Try.underlying3 g1
    obtain rfl : v1 = _ := by simpa using e1
    have g2 : DataW.trod enc Try.prog w base spare held k 3 [v2] = some y2 := hf 2 _ rfl
    obtain ⟨a2, e2, _, _⟩ := DataW.trod_int Try.underlying3 g2
    obtain rfl : v2 = _ := by simpa using e2
    have g3 : DataW.trod enc Try.prog w base spare held k 4 [v3] = some y3 := hf 3 _ rfl
    obtain ⟨a3, e3, _⟩ := DataW.trod_bool Try.underlying4 g3
    obtain rfl : v3 = _ := by simpa using e3
    have g4 : DataW.trod enc Try.prog w base spare held k 22 [v4] = some y4 := hf 4 _ rfl
    obtain ⟨s4, e4, o4, _, w4⟩ := open_sl insC (fun _ => True) Try.underlying22 (show Try.prog.cellsOf 41 = 4 by kernel_rfl) (by omega) (fun _ => rfl) (fun n cs' x' h => open_ins h) g4
    obtain rfl : v4 = _ := by simpa using e4
    have g5 : DataW.trod enc Try.prog w base spare held k 23 [v5] = some y5 := hf 5 _ rfl
    obtain ⟨s5, e5, o5, _, w5⟩ := open_sl cstC (fun _ => True) Try.underlying23 (show Try.prog.cellsOf 95 = 3 by kernel_rfl) (by omega) (fun _ => rfl) (fun n cs' x' h => open_cst h) g5
    obtain rfl : v5 = _ := by simpa using e5
    have g6 : DataW.trod enc Try.prog w base spare held k 24 [v6] = some y6 := hf 6 _ rfl
    obtain ⟨s6, e6, o6, _, w6⟩ := open_sl capC (fun _ => True) Try.underlying24 (show Try.prog.cellsOf 97 = 2 by kernel_rfl) (by omega) (fun _ => rfl) (fun n cs' x' h => open_cap h) g6
    obtain rfl : v6 = _ := by simpa using e6
    have g7 : DataW.trod enc Try.prog w base spare held k 25 [v7] = some y7 := hf 7 _ rfl
    obtain ⟨s7, e7, o7, _, w7⟩ := open_sl hndC (fun _ => True) Try.underlying25 (show Try.prog.cellsOf 49 = 3 by kernel_rfl) (by omega) (fun _ => rfl) (fun n cs' x' h => open_hnd h) g7
    obtain rfl : v7 = _ := by simpa using e7
    refine ⟨⟨a0, a1, a2, a3, s4, s5, s6, s7⟩, rfl, ⟨o4, o5, o6, o7⟩, _, by rw [hxy], ?_, ?_, ?_⟩
    · rcases w4 with h | ⟨els, sp, h1, h2⟩
      · exact Or.inl h
      · exact Or.inr ⟨els, sp, by simp [h1], h2⟩
    · rcases w7 with h | ⟨els, sp, h1, h2⟩
      · exact Or.inl h
      · exact Or.inr ⟨els, sp, by simp [h1], h2⟩
    · rcases w5 with h | ⟨els, sp, h1, h2⟩
      · exact Or.inl h
      · exact Or.inr ⟨els, sp, by simp [h1], h2⟩

/-- sizes of a function that came in -/
theorem fn_sized {l : List (DataW H)} {ts : List TypeId} {ds : List (DataW H)} (hw : (DataW.weightsEach Try.prog ts ds).all (· ≤ reachBytes) = true) {j : Nat} (ht : ts[j]? = some 27) (hd : ds[j]? = some (.agg l)) {i : Nat} {t e : TypeId}
    (hi : ([9, 3, 3, 4, 22, 23, 24, 25] : List TypeId)[i]? = some t) (hu : Try.prog.underlying t = some (.slice e)) {els sp : List (DataW H)} (hl : l[i]? = some (.slice els sp)) : els.length * Try.prog.bytesOf e ≤ reachBytes := by
  have h1 := List.all_eq_true.1 hw
  have h2 : (DataW.weightsEach Try.prog [9, 3, 3, 4, 22, 23, 24, 25] l).all (· ≤ reachBytes) = true := by
    rw [List.all_eq_true]
    intro n hn
    refine h1 n (DataW.weights_mem_each ht hd n ?_)
    simp only [DataW.weights, Try.underlying27]
    exact hn
  have h3 := sized_slice h2 hi hl hu
  exact Nat.le_trans (Nat.mul_le_mul_right _ (by omega)) h3
end

theorem agg_fn {W : World} {r : Reach} {base : Nat} {v : Value} {f : Fn} (h : Value.okWide Try.prog W r base 27 v) (hc : v.cells.toList = fnC f) : v = fnV f := by
  obtain ⟨cs, rfl, _⟩ := okWide_struct Try.underlying27 h
  have : cs.toList = fnC f := hc
  unfold fnV
  unfold fnC at this
  rw [show cs = #[.string f.name, .int .i64 f.params, .int .i64 f.regs, .bool f.gen, f.code.val, f.consts.val, f.caps.val, f.hnds.val] from Array.toList_inj.1 this]

theorem fn_bound {H : Type} {l : List (DataW H)} {ts : List TypeId} {ds : List (DataW H)} {f : Fn} (hw : (DataW.weightsEach Try.prog ts ds).all (· ≤ reachBytes) = true) {j : Nat} (ht : ts[j]? = some 27) (hd : ds[j]? = some (.agg l))
    (h4 : f.code.xs = [] ∨ ∃ els sp, l[4]? = some (.slice els sp) ∧ els.length = f.code.xs.length) (h7 : f.hnds.xs = [] ∨ ∃ els sp, l[7]? = some (.slice els sp) ∧ els.length = f.hnds.xs.length) :
    (f.code.xs.length + f.hnds.xs.length + 1) * 8 ≤ 140737488355328 := by
  have b43 : Try.prog.bytesOf 41 = 32 := by kernel_rfl
  have b49 : Try.prog.bytesOf 49 = 24 := by kernel_rfl
  have a4 : f.code.xs.length * 32 ≤ 140737488351232 := by
    rcases h4 with e | ⟨els, sp, e1, e2⟩
    · rw [e]; simp
    · have := fn_sized hw ht hd (i := 4) rfl Try.underlying22 e1
      rw [b43, e2] at this
      exact this
  have a7 : f.hnds.xs.length * 24 ≤ 140737488351232 := by
    rcases h7 with e | ⟨els, sp, e1, e2⟩
    · rw [e]; simp
    · have := fn_sized hw ht hd (i := 7) rfl Try.underlying25 e1
      rw [b49, e2] at this
      exact this
  omega
theorem fn_szd {H : Type} {l : List (DataW H)} {ts : List TypeId} {ds : List (DataW H)} {f : Fn} (hw : (DataW.weightsEach Try.prog ts ds).all (· ≤ reachBytes) = true) {j : Nat} (ht : ts[j]? = some 27) (hd : ds[j]? = some (.agg l))
    (h4 : f.code.xs = [] ∨ ∃ els sp, l[4]? = some (.slice els sp) ∧ els.length = f.code.xs.length) (h7 : f.hnds.xs = [] ∨ ∃ els sp, l[7]? = some (.slice els sp) ∧ els.length = f.hnds.xs.length) : FnSz f := by
  refine ⟨fn_bound hw ht hd h4 h7, ?_⟩
  have b41 : Try.prog.bytesOf 41 = 32 := by kernel_rfl
  have a4 : f.code.xs.length * 32 ≤ 140737488351232 := by
    rcases h4 with e | ⟨els, sp, e1, e2⟩
    · rw [e]; simp
    · have := fn_sized hw ht hd (i := 4) rfl Try.underlying22 e1
      rw [b41, e2] at this
      exact this
  omega

theorem int_low {a : Int} (h : (Lit.int .i64 a).wf = true) : -9223372036854775808 ≤ a := by
  have h2 : IntKind.i64.min ≤ a ∧ a ≤ IntKind.i64.max := by simpa [Lit.wf] using h
  have e : IntKind.i64.min = -9223372036854775808 := by decide
  omega

theorem int_high {a : Int} (h : (Lit.int .i64 a).wf = true) : a ≤ 9223372036854775807 := by
  have h2 : IntKind.i64.min ≤ a ∧ a ≤ IntKind.i64.max := by simpa [Lit.wf] using h
  have e : IntKind.i64.max = 9223372036854775807 := by decide
  omega

end Go.Proofs.Ytjkemkggcnholaa.Fu
