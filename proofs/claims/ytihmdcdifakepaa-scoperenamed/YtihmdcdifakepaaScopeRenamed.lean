/- ScopeRenamed: names do not matter: if all have something more behind them, none of which becomes a builtin's by that, all is the same but the names, of whatever tree (its lists without a ring, as the row says). -/
import Derived.Test.YtihmdcdifakepaaRows
import Derived.Test.YtihmdcdifakepaaYM
import Derived.Test.YtihmdcdifakepaaOH
import Derived.WalkKit
import Derived.ProofKit
import Derived.OpenShut
import Derived.ShutString
import Derived.ChangeOld
import Derived.Below
import Derived.SizedLaws
namespace Go.Proofs.Ytihmdcdifakepaa.scopeRenamed
open Go.ChangeShapes Go.WideShapes Go.ChangeAt Go.RowKit
open Go.ChangeMaps (open_string shut_string)
set_option linter.unusedVariables false
set_option maxRecDepth 100000

theorem own : ownKnob Try.prog.godebug = none := by kernel_rfl
theorem laidOut : laidOutB Try.prog = true := by kernel_rfl

theorem all_mem {H : Type} {P : Program} {e : TypeId} {k : Nat} : ∀ {l : List (DataW H)} {d : DataW H}, d ∈ l → k ∈ d.weights P e → k ∈ DataW.weightsAll P e l
  | x :: l, d, h, hk => by
    rw [DataW.weightsAll]
    rcases List.mem_cons.1 h with rfl | h
    · exact List.mem_append_left _ hk
    · exact List.mem_append_right _ (all_mem h hk)

section
open Go.Proofs.Ytihmdcdifakepaa.Sc
variable {H : Type} {enc : TypeId × Value → H} {w : World} {base : Nat} {spare : Nat → Bool} {held : Bool}

/-- a slice whose elements are no wider than it -/
theorem open_sl2 {α : Type} {t e : TypeId} {k fuel : Nat} {cs : List Value} {x : DataW H × List MemPlace} (enc' : α → List Value) (good : α → Prop)
    (ht : Try.prog.underlying t = some (.slice e)) (hk : Try.prog.cellsOf e = k) (hk0 : 0 < k) (hlen : ∀ y, (enc' y).length = k)
    (elem : ∀ cs' x', DataW.trod enc Try.prog w base spare held fuel e cs' = some x' → (∀ v ∈ x'.1.weights Try.prog e, v ≤ reachBytes) → ∃ y, cs' = enc' y ∧ good y)
    (h : DataW.trod enc Try.prog w base spare held (fuel + 1) t cs = some x) (hN : ∀ v ∈ x.1.weights Try.prog t, v ≤ reachBytes) :
    ∃ s : Sli α, cs = [s.val] ∧ s.ok enc' k w ∧ (∀ y ∈ s.xs, good y) := by
  rcases DataW.trod_slice ht h with ⟨rfl, rfl⟩ | ⟨a, len, cap, elems, rest, n, hn, rfl, rfl, hb, hl, hm, hel0, hel, _, _⟩
  · exact ⟨⟨none, 0, []⟩, rfl, ⟨Nat.le_refl _, Nat.zero_le _, fun h => absurd rfl h⟩, (fun y hy => by cases hy)⟩
  · obtain rfl : fuel = n := by omega
    have hall : ∀ i : Fin len, ∃ y, good y ∧ ∀ j, j < k → w.cell? ((a.add (i.val * k)).add j) = (enc' y)[j]? := by
      intro i
      have h0 := hel i.val i.isLt
      have h1 : elems[i.val]? = some (elems[i.val]'(by rw [hel0]; exact i.isLt)) := List.getElem?_eq_getElem _
      rw [h1] at h0
      obtain ⟨cs', h2, h3⟩ := Option.bind_eq_some_iff.1 h0
      have hbk : ∀ v ∈ (elems[i.val]'(by rw [hel0]; exact i.isLt)).1.weights Try.prog e, v ≤ reachBytes := fun v hv => by
        refine hN v ?_
        simp only [DataW.weights, ht]
        refine List.mem_cons_of_mem _ (List.mem_append_left _ (all_mem (List.mem_map.2 ⟨_, List.getElem_mem _, rfl⟩) hv))
      obtain ⟨y, rfl, hg⟩ := elem cs' _ h3 hbk
      rw [hk] at h2
      obtain ⟨_, _, hcell⟩ := World.cells?_some h2
      exact ⟨y, hg, hcell⟩
    let f : Fin len → α := fun i => Classical.choose (hall i)
    have hf : ∀ i, good (f i) ∧ ∀ j, j < k → w.cell? ((a.add (i.val * k)).add j) = (enc' (f i))[j]? := fun i => Classical.choose_spec (hall i)
    refine ⟨⟨some a, cap, List.ofFn f⟩, by simp [Sli.val], ⟨by simpa using hl, hm, fun h0 => ?_⟩, ?_⟩
    · have lpos : 0 < len := by
        rcases Nat.eq_zero_or_pos len with c | c
        · subst c
          exact absurd (by simp) h0
        · exact c
      have h1 := (hf ⟨0, lpos⟩).2 0 hk0
      have hsp : a.spot = none := by
        have h2 : (enc' (f ⟨0, lpos⟩))[0]? = some ((enc' (f ⟨0, lpos⟩))[0]'(by rw [hlen]; exact hk0)) := List.getElem?_eq_getElem _
        rw [h2] at h1
        have e1 : (a.add (0 * k)).add 0 = a := by simp [Addr.add]
        rw [show ((⟨0, lpos⟩ : Fin len).val * k) = 0 * k from rfl, e1] at h1
        exact World.cell?_spot h1
      obtain ⟨b, off, sp⟩ := a
      simp only at hsp
      subst hsp
      refine ⟨b, off, rfl, ?_⟩
      intro i y hi j u hj
      simp only [List.getElem?_ofFn] at hi
      split at hi
      · rename_i c
        obtain rfl := Option.some.inj hi
        have jl : j < k := by
          rcases Nat.lt_or_ge j k with d | d
          · exact d
          · rw [List.getElem?_eq_none (by rw [hlen]; exact d)] at hj; cases hj
        have h3 := (hf ⟨i, c⟩).2 j jl
        rw [hj] at h3
        rw [← h3]
        congr 1
        have ea : ∀ (p n : Nat), (⟨b, p, none⟩ : Addr).add n = ⟨b, p + n, none⟩ := by
          intro p n
          unfold Addr.add
          by_cases hn : n = 0
          · subst hn; simp
          · simp [hn]
        rw [ea, ea]
      · cases hi
    · intro y hy
      simp only [List.mem_ofFn] at hy
      obtain ⟨i, rfl⟩ := hy
      exact (hf i).1


theorem open_tree2 : ∀ (m fuel : Nat) (cs : List Value) (x : DataW H × List MemPlace), fuel ≤ 2 * m → DataW.trod enc Try.prog w base spare held fuel 25 cs = some x → (∀ v ∈ x.1.weights Try.prog 25, v ≤ reachBytes) → ∃ t : Tr m, cs = encT m t ∧ okT m w t ∧ Rv.shT 140737488351232 m t := by
  intro m
  induction m with
  | zero =>
    intro fuel cs x hf h _
    obtain rfl : fuel = 0 := by omega
    simp [DataW.trod] at h
  | succ m ih =>
    intro fuel cs x hfu h hN
    obtain ⟨xs, k, hk, hxy, hlen, hxl, hf⟩ := DataW.trod_struct Try.underlying25 h
    rw [show Try.prog.cellsOf 25 = 6 by kernel_rfl] at hlen
    have hxl : xs.length = 6 := hxl
    match cs, hlen, xs, hxl with
    | [v0, v1, v2, v3, v4, v5], _, [y0, y1, y2, y3, y4, y5], _ =>
      have g0 : DataW.trod enc Try.prog w base spare held k 3 [v0] = some y0 := hf 0 _ rfl
      have g1 : DataW.trod enc Try.prog w base spare held k 3 [v1] = some y1 := hf 1 _ rfl
      have g2 : DataW.trod enc Try.prog w base spare held k 9 [v2] = some y2 := hf 2 _ rfl
      have g3 : DataW.trod enc Try.prog w base spare held k 22 [v3] = some y3 := hf 3 _ rfl
      have g4 : DataW.trod enc Try.prog w base spare held k 9 [v4] = some y4 := hf 4 _ rfl
      have g5 : DataW.trod enc Try.prog w base spare held k 23 [v5] = some y5 := hf 5 _ rfl
      have hsub : ∀ (j : Nat) (t : TypeId) (d : DataW H), [3, 3, 9, 22, 9, 23][j]? = some t → [y0.1, y1.1, y2.1, y3.1, y4.1, y5.1][j]? = some d → ∀ v ∈ d.weights Try.prog t, v ≤ reachBytes := fun j t d h1 h2 v hv => by
        refine hN v ?_
        rw [hxy]
        show v ∈ DataW.weights Try.prog 25 (.agg [y0.1, y1.1, y2.1, y3.1, y4.1, y5.1])
        simp only [DataW.weights, Try.underlying25]
        exact DataW.weights_mem_each (ts := [3, 3, 9, 22, 9, 23]) h1 h2 v hv
      obtain ⟨x, hw, rfl, rfl, rfl, rfl, rfl⟩ := node_six (v5 := v5) (y5 := y5) g0 g1 g2 g3 g4
      have hnm : x.name.size ≤ 140737488351232 := by
        obtain ⟨a2, e2, d2, _⟩ := DataW.trod_string Try.underlying9 g2
        have e2 : x.name = a2 := by simpa using e2
        have h1 := hsub 2 9 y2.1 rfl rfl a2.data.toList.length (by rw [d2]; simp [DataW.weights])
        rw [e2]
        have : a2.size = a2.data.toList.length := by rw [Array.length_toList]; rfl
        rw [this]
        exact h1
      cases k with
      | zero => simp [DataW.trod] at g5
      | succ k =>
        obtain ⟨s, e5, ok5, good5⟩ := open_sl2 (encT m) (fun y => okT m w y ∧ Rv.shT 140737488351232 m y) Try.underlying23 (show Try.prog.cellsOf 25 = 6 by kernel_rfl) (by omega) (enc_len m) (fun cs' x' h' hb' => by
          obtain ⟨t, q1, q2, q3⟩ := ih k cs' x' (by omega) h' hb'
          exact ⟨t, q1, q2, q3⟩) g5 (hsub 5 23 y5.1 rfl rfl)
        obtain rfl : v5 = s.val := by simpa using e5
        exact ⟨((x, s) : Nd × Sli (Tr m)), rfl, ⟨hw, ok5, fun y hy => (good5 y hy).1⟩, hnm, fun y hy => (good5 y hy).2⟩
end

set_option maxRecDepth 100000 in
theorem lifted (os : Os) (started : os.Started) (H : Type) (enc : TypeId × Value → H) :
    ReturnsInHanded {} Try.checked os 6 .any (Rows.scopeRenamedSpec.pre6 enc Try.prog Try.f6 Rows.scopeRenamedRow.domain false) (Rows.scopeRenamedSpec.post enc Try.prog Try.f6 false true false false) := by
  refine returnsInHanded_of_change_sized (C := Try.checked) own started (by kernel_rfl) Try.func6
    (ChangeSpec.witness6 (enc := enc) (C := Try.checked) false ⟨#[], #[.agg #[.int .i64 0, .int .i64 0, .string ByteArray.empty, .int .u64 0, .string ByteArray.empty, .slice none 0 0], .string ByteArray.empty], []⟩ 8 (by kernel_rfl) (by kernel_rfl) (by kernel_rfl) (by kernel_rfl)) ?_
  intro W base args ds gs before hval0 hW hcnd hszz _
  have hval : ∀ (j : Nat) t v, Try.f6.params[j]? = some t → args[j]? = some v → Value.okWide Try.prog W .any base t v := hval0
  have hW' := hW
  obtain ⟨p, q, hA0, hV, rfl, hfz, hnd⟩ := hW
  have hA : DataW.TrodAll enc Try.prog W 0 (fun _ => true) true Try.f6.params.toList args.toList ds p := hA0
  rw [Try.params6] at hA hval hszz
  obtain ⟨v0, vs0, d0, ds0, p0, q0, hargs, rfl, rfl, h0, r0⟩ := trodAll_cons hA
  obtain ⟨v1, vs1, d1, ds1, p1, q1, rfl, rfl, rfl, h1, r1⟩ := trodAll_cons r0
  obtain ⟨rfl, rfl, rfl⟩ := trodAll_nil r1
  obtain rfl : args = #[v0, v1] := by cases args; simp_all
  obtain ⟨rfl, rfl⟩ := trodVars_none hV
  have k0 := h0
  have lt0 : ∀ x ∈ p0, x.block < W.heap.size := by obtain ⟨m, hm⟩ := k0; exact DataW.trod_lt m _ _ _ hm
  obtain ⟨a1, rfl, rfl, rfl, w1⟩ := open_string Try.underlying9 (hval 1 9 v1 rfl rfl) h1
  have hmo : a1.size ≤ 140737488351232 := by
    have q := sized_string hszz (j := 1) (t := 9) (bytes := a1.data.toList) rfl rfl
    have : a1.size = a1.data.toList.length := by rw [Array.length_toList]; rfl
    rw [this]
    exact q
  obtain ⟨n, t, ok, ev, sh⟩ : ∃ (n : Nat) (t : Sc.Tr n), Sc.okT n W t ∧ v0 = Sc.valT n t ∧ Rv.shT 140737488351232 n t := by
    obtain ⟨fuel, hf⟩ := h0
    obtain ⟨t, e, ok, sh⟩ := open_tree2 fuel fuel _ _ (by omega) hf (fun v hv => by
      have q := List.all_eq_true.1 hszz _ (DataW.weights_mem_each (j := 0) (t := 25) (d := d0) rfl rfl v hv)
      exact of_decide_eq_true q)
    exact ⟨fuel, t, ok, Sc.agg_node (hval 0 25 v0 rfl rfl) e, sh⟩
  subst ev
  clear hA0 hval0
  simp only [List.append_nil] at hW'
  refine (Rv.renamed_walk n t a1 hmo W ok sh).mono fun e W' ⟨he, bel⟩ => ?_
  subst he
  exact ⟨_, rfl, _, _, _, [], _, [], hW', trodAll_mk1 (shut_bool Try.underlying4 _), (trodAll_cons_mk (Below.trod laidOut (by kernel_rfl) (of_decide_eq_true (by kernel_rfl)) k0 bel lt0) (trodAll_cons_mk (shut_string Try.underlying9 w1) trodAll_mk0)), rfl, bel.frame _, fun h => by cases h⟩

theorem over : Rows.scopeRenamedRow.holds Try.pinned (OpenSpec.ofChange Rows.scopeRenamedSpec) :=
  OpenClaim.holds_of_wide 6 Try.f6 rfl rfl rfl rfl rfl rfl rfl ⟨rfl, rfl, rfl, rfl, rfl⟩ rfl rfl rfl rfl rfl (by kernel_rfl) Try.func6 (by kernel_rfl)
    (of_decide_eq_true (by kernel_rfl)) (by unfold Func.isWrapper; first | (rw [if_pos (by decide +kernel)]; kernel_rfl) | (rw [if_neg (by decide +kernel)]; exact ⟨rfl, rfl⟩))
    (fun os started H enc _ => lifted os started H enc)

theorem proved : Rows.ScopeRenamedSaid :=
  over
end Go.Proofs.Ytihmdcdifakepaa.scopeRenamed

namespace Go.Proofs.Ytihmdcdifakepaa
theorem scopeRenamed_holds : Rows.ScopeRenamedSaid := scopeRenamed.proved
#print axioms scopeRenamed_holds
end Go.Proofs.Ytihmdcdifakepaa
