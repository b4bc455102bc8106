/- The arguments of the statements, as they lie in memory. -/
import Derived.Test.YtfhdmglfpkmjbaaHC
import Derived.Test.YtfhdmglfpkmjbaaRows
import Derived.ProofKit
import Derived.OpenShut
import Derived.LaidMore
import Derived.Lib.LaidTab
import Derived.MakeChecks
import Derived.Lay
import Derived.Deep.Slices
import Derived.SizedLaws
namespace Go.Proofs.Ytfhdmglfpkmjbaa.Hp
open Go.RowKit Go.ChangeShapes Go.WideShapes
set_option linter.unusedVariables false

section
variable {H : Type} {enc : TypeId × Value → H} {w : World} {base : Nat} {spare : Nat → Bool} {held : Bool}

/-- a slice, whatever lies in it -/
theorem open_sl {α : Type} {t e : TypeId} {k fuel : Nat} {cs : List Value} {x : DataW H × List MemPlace} (enc' : α → List Value) (good : α → Prop)
    (ht : Try.prog.underlying t = some (.slice e)) (hk : Try.prog.cellsOf e = k) (hk0 : 0 < k) (hlen : ∀ y, (enc' y).length = k)
    (elem : ∀ n cs' x', DataW.trod enc Try.prog w base spare held n e cs' = some x' → ∃ y, cs' = enc' y ∧ good y)
    (h : DataW.trod enc Try.prog w base spare held fuel t cs = some x) :
    ∃ s : Sli α, cs = [s.val] ∧ s.ok enc' k w ∧ (∀ y ∈ s.xs, good y) ∧ (s.xs = [] ∨ ∃ els sp, x.1 = .slice els sp ∧ els.length = s.xs.length) := by
  rcases Go.Deep.open_slice ht h with ⟨rfl, rfl⟩ | ⟨a, len, cap, m, n, D, Pl, rfl, hb, hl, hm, hmm, rfl, hx⟩
  · exact ⟨⟨none, 0, []⟩, rfl, ⟨Nat.le_refl _, Nat.zero_le _, fun h => absurd rfl h⟩, (fun y hy => by cases hy), Or.inl rfl⟩
  · have hlm : len ≤ m := by rw [hmm]; split <;> omega
    have hall : ∀ i : Fin len, ∃ y, good y ∧ ∀ j, j < k → w.cell? ((a.add (i.val * k)).add j) = (enc' y)[j]? := by
      intro i
      obtain ⟨cs', h1, h2⟩ := hx i.val (by omega)
      obtain ⟨y, rfl, hg⟩ := elem n cs' _ h2
      rw [hk] at h1
      obtain ⟨_, _, hcell⟩ := World.cells?_some h1
      exact ⟨y, hg, hcell⟩
    let f : Fin len → α := fun i => Classical.choose (hall i)
    have hf : ∀ i, good (f i) ∧ ∀ j, j < k → w.cell? ((a.add (i.val * k)).add j) = (enc' (f i))[j]? := fun i => Classical.choose_spec (hall i)
    refine ⟨⟨some a, cap, List.ofFn f⟩, by simp [Sli.val], ⟨by simpa using hl, hm, fun h0 => ?_⟩, ?_, Or.inr ⟨_, _, rfl, by simp⟩⟩
    · have lpos : 0 < len := by
        rcases Nat.eq_zero_or_pos len with c | c
        · subst c
          exact absurd (by simp) h0
        · exact c
      have h1 := (hf ⟨0, lpos⟩).2 0 hk0
      have hsp : a.spot = none := by
        have h2 : (enc' (f ⟨0, lpos⟩))[0]? = some ((enc' (f ⟨0, lpos⟩))[0]'(by rw [hlen]; exact hk0)) := List.getElem?_eq_getElem _
        rw [h2] at h1
        have e1 : (a.add (0 * k)).add 0 = a := by simp [Addr.add]
        rw [show ((⟨0, lpos⟩ : Fin len).val * k) = 0 * k from rfl, e1] at h1
        exact World.cell?_spot h1
      obtain ⟨b, off, sp⟩ := a
      simp only at hsp
      subst hsp
      refine ⟨b, off, rfl, ?_⟩
      intro i y hi j u hj
      simp only [List.getElem?_ofFn] at hi
      split at hi
      · rename_i c
        obtain rfl := Option.some.inj hi
        have jl : j < k := by
          rcases Nat.lt_or_ge j k with d | d
          · exact d
          · rw [List.getElem?_eq_none (by rw [hlen]; exact d)] at hj; cases hj
        have h3 := (hf ⟨i, c⟩).2 j jl
        rw [hj] at h3
        rw [← h3]
        refine congrArg w.cell? ?_
        have ea : ∀ (p n : Nat), (⟨b, p, none⟩ : Addr).add n = ⟨b, p + n, none⟩ := by
          intro p n
          unfold Addr.add
          by_cases hn : n = 0
          · subst hn; simp
          · simp [hn]
        rw [ea, ea]
      · cases hi
    · intro y hy
      simp only [List.mem_ofFn] at hy
      obtain ⟨i, rfl⟩ := hy
      exact (hf i).1


theorem open_str {fuel : Nat} {cs : List Value} {x : DataW H × List MemPlace} (h : DataW.trod enc Try.prog w base spare held fuel 9 cs = some x) : ∃ y : ByteArray, cs = [.string y] ∧ y.size ≤ maxLen := by
  obtain ⟨z, e1, _, e3⟩ := DataW.trod_string Try.underlying9 h
  exact ⟨z, e1, e3⟩
theorem open_int {fuel : Nat} {cs : List Value} {x : DataW H × List MemPlace} (h : DataW.trod enc Try.prog w base spare held fuel 3 cs = some x) : ∃ y : Int, cs = [.int .i64 y] ∧ (-9223372036854775808 ≤ y ∧ y ≤ 9223372036854775807) := by
  obtain ⟨z, e1, _, e3⟩ := DataW.trod_int Try.underlying3 h
  unfold Lit.wf at e3
  rw [Bool.and_eq_true] at e3
  exact ⟨z, e1, of_decide_eq_true e3.1, of_decide_eq_true e3.2⟩
theorem open_word {fuel : Nat} {cs : List Value} {x : DataW H × List MemPlace} (h : DataW.trod enc Try.prog w base spare held fuel 43 cs = some x) : ∃ y : Int, cs = [.int .u64 y] ∧ (0 ≤ y ∧ y < 18446744073709551616) := by
  obtain ⟨z, e1, _, e3⟩ := DataW.trod_int Try.underlying43 h
  unfold Lit.wf at e3
  rw [Bool.and_eq_true] at e3
  have h1 : (0 : Int) ≤ z := of_decide_eq_true e3.1
  have h2 : z ≤ 18446744073709551615 := of_decide_eq_true e3.2
  exact ⟨z, e1, h1, by omega⟩

end

end Go.Proofs.Ytfhdmglfpkmjbaa.Hp
