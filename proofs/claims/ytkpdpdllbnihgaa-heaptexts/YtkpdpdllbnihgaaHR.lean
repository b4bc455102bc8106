/- Maps from texts to numbers: a lookup, a new name. -/
import Derived.Test.YtkpdpdllbnihgaaHE
namespace Go.Proofs.Ytkpdpdllbnihgaa.Hp
open Go.RowKit
set_option linter.unusedVariables false

theorem key_law : WideMaps.KeyLaw Try.prog 9 := Go.WideMaps.string_law Try.underlying9
theorem key_of {s : ByteArray} (hs : s.size ≤ maxLen) : keyOf Try.prog 9 (.string s) = some (.string s.data.toList) := by simp [keyOf, mapKey, Try.underlying9, hs]

def lk (b : List (ByteArray × Int)) (s : ByteArray) : Option (ByteArray × Int) := b.find? (fun e => decide (e.1 = s))

structure BkOk (b : List (ByteArray × Int)) : Prop where
  nd : (b.map Prod.fst).Nodup
  sz : ∀ e ∈ b, e.1.size ≤ maxLen

theorem lk_none {nm : ByteArray} {b : List (ByteArray × Int)} (h : ∀ x ∈ b, x.1 ≠ nm) : lk b nm = none := by
  unfold lk
  rw [List.find?_eq_none]
  intro x hx
  simpa using h x hx
theorem lk_some {nm : ByteArray} : ∀ {b : List (ByteArray × Int)}, (b.map Prod.fst).Nodup → ∀ x, x ∈ b → x.1 = nm → lk b nm = some x
  | [], _, x, h, _ => by cases h
  | y :: b, hn, x, h, hx => by
    unfold lk
    rw [List.map_cons, List.nodup_cons] at hn
    by_cases c : y.1 = nm
    · rw [List.find?_cons_of_pos (by simpa using c)]
      rcases List.mem_cons.1 h with q | q
      · rw [q]
      · exact absurd (List.mem_map.2 ⟨x, q, by rw [hx, c]⟩) hn.1
    · rw [List.find?_cons_of_neg (by simpa using c)]
      rcases List.mem_cons.1 h with q | q
      · rw [q] at hx
        exact absurd hx c
      · exact lk_some hn.2 x q hx

section
variable {w : World} {mb : Nat} {k : IntKind} {b : List (ByteArray × Int)} {mt et : TypeId}

theorem ent_at {es : List MapEntry} (h : es.map (fun e => (e.key, e.val)) = b.map (fun x => ((.string x.1 : Value), (.int k x.2 : Value)))) (j : Nat) (e : MapEntry) (he : es[j]? = some e) : ∃ x, x ∈ b ∧ b[j]? = some x ∧ e.key = .string x.1 ∧ e.val = .int k x.2 := by
  have h1 := congrArg (·[j]?) h
  simp only [List.getElem?_map, he, Option.map_some] at h1
  cases hx : b[j]? with
  | none => rw [hx] at h1; simp at h1
  | some x =>
    rw [hx] at h1
    simp at h1
    exact ⟨x, List.mem_of_getElem? hx, rfl, h1.1, h1.2⟩

theorem ent_keys (hw : BkOk b) {es : List MapEntry} (h : es.map (fun e => (e.key, e.val)) = b.map (fun x => ((.string x.1 : Value), (.int k x.2 : Value)))) : ∀ e ∈ es, ∃ l, keyOf Try.prog 9 e.key = some l := by
  intro e he
  obtain ⟨j, hj⟩ := List.mem_iff_getElem?.1 he
  obtain ⟨x, h1, _, h2, _⟩ := ent_at h j e hj
  rw [h2]
  exact ⟨_, key_of (hw.sz x h1)⟩

theorem MpIs.look (h : MpIs w mb k b) (hw : BkOk b) (hu : Try.prog.underlying mt = some (.map 9 et)) (hz0 : (zeroValue et).run Try.prog w = .ok (.int k 0) w) {nm : ByteArray} (hn : nm.size ≤ maxLen) :
    (Instr.lookup mt (.map (some mb)) (.string nm) true).run Try.prog w = .ok (.tuple #[.int k (((lk b nm).map Prod.snd).getD 0), .bool (lk b nm).isSome]) w := by
  obtain ⟨es, clock, hb, he⟩ := h
  have hz := key_of hn
  rcases key_law.find w hz es.toList (ent_keys hw he) with ⟨f1, f2⟩ | ⟨j, e, f1, f2, f3⟩
  · have hno : lk b nm = none := lk_none (fun x hx hs => by
      obtain ⟨j, hj⟩ := List.mem_iff_getElem?.1 hx
      have h1 := congrArg (·[j]?) he
      simp only [List.getElem?_map, hj, Option.map_some] at h1
      cases hq : es.toList[j]? with
      | none => rw [hq] at h1; simp at h1
      | some e =>
        rw [hq] at h1
        simp at h1
        exact f2 e (List.mem_of_getElem? hq) (by rw [h1.1, hs]))
    rw [hno]
    simp [Instr.lookup, run_underlying hu, MapKept.run_getObj_map hb, key_law.check w _ hz, f1, hz0, Result.andThen]
  · obtain ⟨x, h1, _, h2, h3⟩ := ent_at he j e f2
    have hs : lk b nm = some x := lk_some hw.nd x h1 (by
      rw [h2] at f3
      simpa using f3)
    rw [hs]
    simp [Instr.lookup, run_underlying hu, MapKept.run_getObj_map hb, key_law.check w _ hz, f1, h3, Result.andThen]

/-- a name more -/
theorem MpIs.put (h : MpIs w mb k b) (hw : BkOk b) (hu : Try.prog.underlying mt = some (.map 9 et)) {nm : ByteArray} (hn : nm.size ≤ maxLen) (hno : ∀ x ∈ b, x.1 ≠ nm) (v : Int) :
    ∃ w', (Instr.mapUpdate mt (.map (some mb)) (.string nm) (.int k v)).run Try.prog w = .ok () w' ∧ MpIs w' mb k (b ++ [(nm, v)]) ∧ w.grownBy w' (some mb) ∧ w'.heap.size = w.heap.size := by
  obtain ⟨es, clock, hb, he⟩ := h
  have hz := key_of hn
  rcases key_law.find w hz es.toList (ent_keys hw he) with ⟨f1, f2⟩ | ⟨j, e, f1, f2, f3⟩
  · refine ⟨ChangeMaps.setBlock w mb (.map (es.push ⟨.string nm, .int k v, clock⟩) (clock + 1)), ?_, ⟨_, _, ChangeMaps.heap_setBlock_same hb _, ?_⟩, ⟨rfl, rfl, rfl, by simp [ChangeMaps.setBlock], fun i _ hi => ChangeMaps.heap_setBlock_other hb _ (fun e => hi (by rw [e]))⟩, by simp [ChangeMaps.setBlock]⟩
    · simp [Instr.mapUpdate, run_underlying hu, MapKept.run_getObj_map hb, key_law.check w _ hz, f1, MapKept.run_setObj_map _ hb, Result.andThen, ChangeMaps.setBlock]
    · simp [he]
  · obtain ⟨x, h1, _, h2, h3⟩ := ent_at he j e f2
    exact absurd (by rw [h2] at f3; simpa using f3) (hno x h1)

end

end Go.Proofs.Ytkpdpdllbnihgaa.Hp
