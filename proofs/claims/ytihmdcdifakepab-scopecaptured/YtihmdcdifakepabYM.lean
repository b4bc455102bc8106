/- The law's argument: a tree, as it lies in memory. -/
import Derived.Test.YtihmdcdifakepabB9
import Derived.Test.YtihmdcdifakepabRows
import Derived.ProofKit
import Derived.OpenShut
import Derived.Deep.Slices
namespace Go.Proofs.Ytihmdcdifakepab.Sc
open Go.RowKit Go.ChangeShapes Go.WideShapes
set_option linter.unusedVariables false
set_option maxRecDepth 100000

section
variable {H : Type} {enc : TypeId × Value → H} {w : World} {base : Nat} {spare : Nat → Bool} {held : Bool}

/-- a slice, whatever lies in it -/
theorem open_sl {α : Type} {t e : TypeId} {k fuel : Nat} {cs : List Value} {x : DataW H × List MemPlace} (enc' : α → List Value) (good : α → Prop)
    (ht : Try.prog.underlying t = some (.slice e)) (hk : Try.prog.cellsOf e = k) (hk0 : 0 < k) (hlen : ∀ y, (enc' y).length = k)
    (elem : ∀ cs' x', DataW.trod enc Try.prog w base spare held fuel e cs' = some x' → ∃ y, cs' = enc' y ∧ good y)
    (h : DataW.trod enc Try.prog w base spare held (fuel + 1) t cs = some x) :
    ∃ s : Sli α, cs = [s.val] ∧ s.ok enc' k w ∧ (∀ y ∈ s.xs, good y) := by
  rcases DataW.trod_slice ht h with ⟨rfl, rfl⟩ | ⟨a, len, cap, elems, rest, n, hn, rfl, rfl, hb, hl, hm, hel0, hel, _, _⟩
  · exact ⟨⟨none, 0, []⟩, rfl, ⟨Nat.le_refl _, Nat.zero_le _, fun h => absurd rfl h⟩, (fun y hy => by cases hy)⟩
  · obtain rfl : fuel = n := by omega
    have hall : ∀ i : Fin len, ∃ y, good y ∧ ∀ j, j < k → w.cell? ((a.add (i.val * k)).add j) = (enc' y)[j]? := by
      intro i
      have h0 := hel i.val i.isLt
      have h1 : elems[i.val]? = some (elems[i.val]'(by rw [hel0]; exact i.isLt)) := List.getElem?_eq_getElem _
      rw [h1] at h0
      obtain ⟨cs', h2, h3⟩ := Option.bind_eq_some_iff.1 h0
      obtain ⟨y, rfl, hg⟩ := elem cs' _ h3
      rw [hk] at h2
      obtain ⟨_, _, hcell⟩ := World.cells?_some h2
      exact ⟨y, hg, hcell⟩
    let f : Fin len → α := fun i => Classical.choose (hall i)
    have hf : ∀ i, good (f i) ∧ ∀ j, j < k → w.cell? ((a.add (i.val * k)).add j) = (enc' (f i))[j]? := fun i => Classical.choose_spec (hall i)
    refine ⟨⟨some a, cap, List.ofFn f⟩, by simp [Sli.val], ⟨by simpa using hl, hm, fun h0 => ?_⟩, ?_⟩
    · have lpos : 0 < len := by
        rcases Nat.eq_zero_or_pos len with c | c
        · subst c
          exact absurd (by simp) h0
        · exact c
      have h1 := (hf ⟨0, lpos⟩).2 0 hk0
      have hsp : a.spot = none := by
        have h2 : (enc' (f ⟨0, lpos⟩))[0]? = some ((enc' (f ⟨0, lpos⟩))[0]'(by rw [hlen]; exact hk0)) := List.getElem?_eq_getElem _
        rw [h2] at h1
        have e1 : (a.add (0 * k)).add 0 = a := by simp [Addr.add]
        rw [show ((⟨0, lpos⟩ : Fin len).val * k) = 0 * k from rfl, e1] at h1
        exact World.cell?_spot h1
      obtain ⟨b, off, sp⟩ := a
      simp only at hsp
      subst hsp
      refine ⟨b, off, rfl, ?_⟩
      intro i y hi j u hj
      simp only [List.getElem?_ofFn] at hi
      split at hi
      · rename_i c
        obtain rfl := Option.some.inj hi
        have jl : j < k := by
          rcases Nat.lt_or_ge j k with d | d
          · exact d
          · rw [List.getElem?_eq_none (by rw [hlen]; exact d)] at hj; cases hj
        have h3 := (hf ⟨i, c⟩).2 j jl
        rw [hj] at h3
        rw [← h3]
        congr 1
        have ea : ∀ (p n : Nat), (⟨b, p, none⟩ : Addr).add n = ⟨b, p + n, none⟩ := by
          intro p n
          unfold Addr.add
          by_cases hn : n = 0
          · subst hn; simp
          · simp [hn]
        rw [ea, ea]
      · cases hi
    · intro y hy
      simp only [List.mem_ofFn] at hy
      obtain ⟨i, rfl⟩ := hy
      exact (hf i).1

theorem enc_len (n : Nat) (t : Tr n) : (encT n t).length = 6 := rfl

theorem node_six {k : Nat} {v0 v1 v2 v3 v4 v5 : Value} {y0 y1 y2 y3 y4 y5 : DataW H × List MemPlace} (g0 : DataW.trod enc Try.prog w base spare held k 3 [v0] = some y0) (g1 : DataW.trod enc Try.prog w base spare held k 3 [v1] = some y1)
    (g2 : DataW.trod enc Try.prog w base spare held k 9 [v2] = some y2) (g3 : DataW.trod enc Try.prog w base spare held k 22 [v3] = some y3) (g4 : DataW.trod enc Try.prog w base spare held k 9 [v4] = some y4) :
    ∃ x : Nd, x.wf ∧ v0 = .int .i64 x.kind ∧ v1 = .int .i64 x.pl ∧ v2 = .string x.name ∧ v3 = .int .u64 x.num ∧ v4 = .string x.op := by
  obtain ⟨a0, e0, _, _⟩ := DataW.trod_int Try.underlying3 g0
  obtain ⟨a1, e1, _, wf1⟩ := DataW.trod_int Try.underlying3 g1
  obtain ⟨a2, e2, _, wf2⟩ := DataW.trod_string Try.underlying9 g2
  obtain ⟨a3, e3, _, _⟩ := DataW.trod_int Try.underlying22 g3
  obtain ⟨a4, e4, _, wf4⟩ := DataW.trod_string Try.underlying9 g4
  exact ⟨⟨a0, a1, a2, a3, a4⟩, ⟨wf1, wf2, wf4⟩, by simpa using e0, by simpa using e1, by simpa using e2, by simpa using e3, by simpa using e4⟩

theorem open_tree : ∀ (m fuel : Nat) (cs : List Value) (x : DataW H × List MemPlace), fuel ≤ 2 * m → DataW.trod enc Try.prog w base spare held fuel 25 cs = some x → ∃ t : Tr m, cs = encT m t ∧ okT m w t := by
  intro m
  induction m with
  | zero =>
    intro fuel cs x hf h
    obtain rfl : fuel = 0 := by omega
    simp [DataW.trod] at h
  | succ m ih =>
    intro fuel cs x hfu h
    obtain ⟨xs, k, hk, hxy, hlen, hxl, hf⟩ := DataW.trod_struct Try.underlying25 h
    rw [show Try.prog.cellsOf 25 = 6 by kernel_rfl] at hlen
    have hxl : xs.length = 6 := hxl
    match cs, hlen, xs, hxl with
    | [v0, v1, v2, v3, v4, v5], _, [y0, y1, y2, y3, y4, y5], _ =>
      have g0 : DataW.trod enc Try.prog w base spare held k 3 [v0] = some y0 := hf 0 _ rfl
      have g1 : DataW.trod enc Try.prog w base spare held k 3 [v1] = some y1 := hf 1 _ rfl
      have g2 : DataW.trod enc Try.prog w base spare held k 9 [v2] = some y2 := hf 2 _ rfl
      have g3 : DataW.trod enc Try.prog w base spare held k 22 [v3] = some y3 := hf 3 _ rfl
      have g4 : DataW.trod enc Try.prog w base spare held k 9 [v4] = some y4 := hf 4 _ rfl
      have g5 : DataW.trod enc Try.prog w base spare held k 23 [v5] = some y5 := hf 5 _ rfl
      obtain ⟨x, hw, rfl, rfl, rfl, rfl, rfl⟩ := node_six (v5 := v5) (y5 := y5) g0 g1 g2 g3 g4
      cases k with
      | zero => simp [DataW.trod] at g5
      | succ k =>
        obtain ⟨s, e5, ok5, good5⟩ := open_sl (encT m) (okT m w) Try.underlying23 (show Try.prog.cellsOf 25 = 6 by kernel_rfl) (by omega) (enc_len m) (fun cs' x' h' => ih k cs' x' (by omega) h') g5
        obtain rfl : v5 = s.val := by simpa using e5
        exact ⟨((x, s) : Nd × Sli (Tr m)), rfl, hw, ok5, good5⟩

theorem agg_node {W : World} {base : Nat} {v : Value} {n : Nat} {t : Tr n} (h : Value.okWide Try.prog W .any base 25 v) (hs : v.cells.toList = encT n t) : v = valT n t := by
  obtain ⟨cs, rfl, _⟩ := okWide_struct Try.underlying25 h
  have : cs.toList = encT n t := hs
  unfold valT
  unfold encT at this
  rw [show cs = #[.int .i64 (ndT n t).kind, .int .i64 (ndT n t).pl, .string (ndT n t).name, .int .u64 (ndT n t).num, .string (ndT n t).op, .slice (atT n t) (nkT n t) (capT n t)] from Array.toList_inj.1 this]
end
end Go.Proofs.Ytihmdcdifakepab.Sc
