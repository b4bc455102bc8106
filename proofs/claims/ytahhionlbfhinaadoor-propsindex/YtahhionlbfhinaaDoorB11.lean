/- Maps from texts to numbers: a lookup, a new name. -/
import Derived.Test.YtahhionlbfhinaaDoorHE
import Derived.Test.YtahhionlbfhinaaDoorIE
namespace Go.Proofs.YtahhionlbfhinaaDoor.Hp
open Go.RowKit
set_option linter.unusedVariables false

theorem key_law : WideMaps.KeyLaw Tryd.prog 9 := Go.WideMaps.string_law Tryd.underlying9
theorem key_of {s : ByteArray} (hs : s.size ≤ maxLen) : keyOf Tryd.prog 9 (.string s) = some (.string s.data.toList) := by simp [keyOf, mapKey, Tryd.underlying9, hs]

def lk (b : List (ByteArray × Int)) (s : ByteArray) : Option (ByteArray × Int) := b.find? (fun e => decide (e.1 = s))

structure BkOk (b : List (ByteArray × Int)) : Prop where
  nd : (b.map Prod.fst).Nodup
  sz : ∀ e ∈ b, e.1.size ≤ maxLen

theorem lk_none {nm : ByteArray} {b : List (ByteArray × Int)} (h : ∀ x ∈ b, x.1 ≠ nm) : lk b nm = none := by
  unfold lk
  rw [List.find?_eq_none]
  intro x hx
  simpa using h x hx
theorem lk_some {nm : ByteArray} : ∀ {b : List (ByteArray × Int)}, (b.map Prod.fst).Nodup → ∀ x, x ∈ b → x.1 = nm → lk b nm = some x
  | [], _, x, h, _ => by cases h
  | y :: b, hn, x, h, hx => by
    unfold lk
    rw [List.map_cons, List.nodup_cons] at hn
    by_cases c : y.1 = nm
    · rw [List.find?_cons_of_pos (by simpa using c)]
      rcases List.mem_cons.1 h with q | q
      · rw [q]
      · exact absurd (List.mem_map.2 ⟨x, q, by rw [hx, c]⟩) hn.1
    · rw [List.find?_cons_of_neg (by simpa using c)]
      rcases List.mem_cons.1 h with q | q
      · rw [q] at hx
        exact absurd hx c
      · exact lk_some hn.2 x q hx

section
variable {w : World} {mb : Nat} {k : IntKind} {b : List (ByteArray × Int)} {mt et : TypeId}

theorem ent_at {es : List MapEntry} (h : es.map (fun e => (e.key, e.val)) = b.map (fun x => ((.string x.1 : Value), (.int k x.2 : Value)))) (j : Nat) (e : MapEntry) (he : es[j]? = some e) : ∃ x, x ∈ b ∧ b[j]? = some x ∧ e.key = .string x.1 ∧ e.val = .int k x.2 := by
  have h1 := congrArg (·[j]?) h
  simp only [List.getElem?_map, he, Option.map_some] at h1
  cases hx : b[j]? with
  | none => rw [hx] at h1; simp at h1
  | some x =>
    rw [hx] at h1
    simp at h1
    exact ⟨x, List.mem_of_getElem? hx, rfl, h1.1, h1.2⟩

theorem ent_keys (hw : BkOk b) {es : List MapEntry} (h : es.map (fun e => (e.key, e.val)) = b.map (fun x => ((.string x.1 : Value), (.int k x.2 : Value)))) : ∀ e ∈ es, ∃ l, keyOf Tryd.prog 9 e.key = some l := by
  intro e he
  obtain ⟨j, hj⟩ := List.mem_iff_getElem?.1 he
  obtain ⟨x, h1, _, h2, _⟩ := ent_at h j e hj
  rw [h2]
  exact ⟨_, key_of (hw.sz x h1)⟩

theorem MpIs.look (h : MpIs w mb k b) (hw : BkOk b) (hu : Tryd.prog.underlying mt = some (.map 9 et)) (hz0 : (zeroValue et).run Tryd.prog w = .ok (.int k 0) w) {nm : ByteArray} (hn : nm.size ≤ maxLen) :
    (Instr.lookup mt (.map (some mb)) (.string nm) true).run Tryd.prog w = .ok (.tuple #[.int k (((lk b nm).map Prod.snd).getD 0), .bool (lk b nm).isSome]) w := by
  obtain ⟨es, clock, hb, he⟩ := h
  have hz := key_of hn
  rcases key_law.find w hz es.toList (ent_keys hw he) with ⟨f1, f2⟩ | ⟨j, e, f1, f2, f3⟩
  · have hno : lk b nm = none := lk_none (fun x hx hs => by
      obtain ⟨j, hj⟩ := List.mem_iff_getElem?.1 hx
      have h1 := congrArg (·[j]?) he
      simp only [List.getElem?_map, hj, Option.map_some] at h1
      cases hq : es.toList[j]? with
      | none => rw [hq] at h1; simp at h1
      | some e =>
        rw [hq] at h1
        simp at h1
        exact f2 e (List.mem_of_getElem? hq) (by rw [h1.1, hs]))
    rw [hno]
    simp [Instr.lookup, run_underlying hu, MapKept.run_getObj_map hb, key_law.check w _ hz, f1, hz0, Result.andThen]
  · obtain ⟨x, h1, _, h2, h3⟩ := ent_at he j e f2
    have hs : lk b nm = some x := lk_some hw.nd x h1 (by
      rw [h2] at f3
      simpa using f3)
    rw [hs]
    simp [Instr.lookup, run_underlying hu, MapKept.run_getObj_map hb, key_law.check w _ hz, f1, h3, Result.andThen]

/-- a name more -/
theorem MpIs.put (h : MpIs w mb k b) (hw : BkOk b) (hu : Tryd.prog.underlying mt = some (.map 9 et)) {nm : ByteArray} (hn : nm.size ≤ maxLen) (hno : ∀ x ∈ b, x.1 ≠ nm) (v : Int) :
    ∃ w', (Instr.mapUpdate mt (.map (some mb)) (.string nm) (.int k v)).run Tryd.prog w = .ok () w' ∧ MpIs w' mb k (b ++ [(nm, v)]) ∧ w.grownBy w' (some mb) ∧ w'.heap.size = w.heap.size := by
  obtain ⟨es, clock, hb, he⟩ := h
  have hz := key_of hn
  rcases key_law.find w hz es.toList (ent_keys hw he) with ⟨f1, f2⟩ | ⟨j, e, f1, f2, f3⟩
  · refine ⟨ChangeMaps.setBlock w mb (.map (es.push ⟨.string nm, .int k v, clock⟩) (clock + 1)), ?_, ⟨_, _, ChangeMaps.heap_setBlock_same hb _, ?_⟩, ⟨rfl, rfl, rfl, by simp [ChangeMaps.setBlock], fun i _ hi => ChangeMaps.heap_setBlock_other hb _ (fun e => hi (by rw [e]))⟩, by simp [ChangeMaps.setBlock]⟩
    · simp [Instr.mapUpdate, run_underlying hu, MapKept.run_getObj_map hb, key_law.check w _ hz, f1, MapKept.run_setObj_map _ hb, Result.andThen, ChangeMaps.setBlock]
    · simp [he]
  · obtain ⟨x, h1, _, h2, h3⟩ := ent_at he j e f2
    exact absurd (by rw [h2] at f3; simpa using f3) (hno x h1)

end

end Go.Proofs.YtahhionlbfhinaaDoor.Hp

/- find, with a map or without one. -/
namespace Go.Proofs.YtahhionlbfhinaaDoor.Hp
open Go.RowKit
set_option linter.unusedVariables false

theorem zero3 (w : World) : (zeroValue 3).run Tryd.prog w = .ok (.int .i64 0) w := by
  kernel_rfl

theorem camd_fst (ps : List Pr) : (camd ps).map Prod.fst = ps.map Pr.key := by
  unfold camd
  rw [List.map_map]
  rfl
theorem camd_ok {ps : List Pr} (hn : (ps.map Pr.key).Nodup) (hs : ∀ p ∈ ps, p.key.size ≤ maxLen) : BkOk (camd ps) := by
  refine ⟨by rw [camd_fst]; exact hn, fun e he => ?_⟩
  obtain ⟨p, hp, rfl⟩ := List.mem_map.1 he
  exact hs p hp
theorem camd_lk {ps : List Pr} (hn : (ps.map Pr.key).Nodup) (k : ByteArray) : (plc ps k = none ∧ lk (camd ps) k = none) ∨ ∃ n p, plc ps k = some n ∧ ps[n]? = some p ∧ lk (camd ps) k = some (k, p.came) := by
  cases h : plc ps k with
  | none =>
    refine Or.inl ⟨rfl, lk_none (fun x hx e => ?_)⟩
    obtain ⟨p, hp, rfl⟩ := List.mem_map.1 hx
    exact plc_none h p hp e
  | some n =>
    obtain ⟨⟨p, hp, hk⟩, _⟩ := plc_some h
    exact Or.inr ⟨n, p, rfl, hp, lk_some (by rw [camd_fst]; exact hn) (k, p.came) (List.mem_map.2 ⟨p, List.mem_of_getElem? hp, by rw [hk]⟩) rfl⟩

set_option maxRecDepth 100000 in
set_option maxHeartbeats 1000000 in
theorem find_map (w : World) (g off mb : Nat) (s : SV) (ps : List Pr) (B : Nat) (O : Nat → Prop) (hr : RowIn prC 5 107 B w O s ps) (hm : MpIs w mb .i64 (camd ps)) (hn : (ps.map Pr.key).Nodup) (hs : ∀ p ∈ ps, p.key.size ≤ maxLen) (hcm : ps.Pairwise (fun a b => a.came < b.came)) (hlen : ps.length ≤ 2000000000001) (c0 : w.cell? ⟨g, off, none⟩ = some s.val) (c1 : w.cell? ⟨g, off + 1, none⟩ = some (.map (some mb))) (k : ByteArray) (hk : k.size ≤ maxLen) :
    Calls Tryd.prog 49 #[.pointer (some ⟨g, off, none⟩), .string k] w fun e w' => e = .returned (.tuple #[.int .i64 (nOf (plc ps k)), .bool (plc ps k).isSome]) ∧ Below w.heap.size w w' := by
  have q69 : ∀ (w : World) (r : Option Nat), (binOp .neq 53 (.map r) (.map none)).run Tryd.prog w = .ok (.bool (!r.isNone)) w := fun w r => run_neq_map_nil w _ _ _ r Tryd.underlying53
  have hlk := hm.look (camd_ok hn hs) Tryd.underlying53 (zero3 w) (nm := k) hk
  rcases camd_lk hn k with ⟨e1, e2⟩ | ⟨n, p, e1, e2, e3⟩
  · rw [e1]
    rw [e2] at hlk
    have hlk : (Instr.lookup 53 (.map (some mb)) (.string k) true).run Tryd.prog w = .ok (.tuple #[.int .i64 0, .bool false]) w := hlk
    unfold nOf
    simp only [Option.map_none, Option.getD_none, Option.isSome_none]
    clear hr hm hn hs hcm hlen e1 e2 c0
    go_enter Tryd.func49, Tryd.ntmps49
    go_wp2_with fail
    go_ret2
    exact ⟨rfl, Below.refl _ _⟩
  · rw [e1]
    rw [e3] at hlk
    have hlk : (Instr.lookup 53 (.map (some mb)) (.string k) true).run Tryd.prog w = .ok (.tuple #[.int .i64 p.came, .bool true]) w := hlk
    have ks := search_any w s ps B O hr hcm hlen n p e2
    unfold nOf
    simp only [Option.map_some, Option.getD_some, Option.isSome_some]
    generalize p.came = pc at *
    obtain ⟨sa, sl, sc⟩ := s
    unfold SV.val at c0 ks
    simp only at c0 ks
    clear hr hm hn hs hcm hlen e1 e2 e3
    go_enter Tryd.func49, Tryd.ntmps49
    go_wp2_with fail
    refine ks.mono ?_
    rintro e w2 ⟨rfl, hB⟩
    have HB := (show Hid _ from hB)
    clear ks hB
    go_wp2_with fail
    go_ret2
    exact ⟨rfl, HB.out⟩

/-- what find tells -/
def FindB (W : World) (g i : Nat) (k : ByteArray) (r : Option Nat) : Prop := Calls Tryd.prog 49 #[.pointer (some ⟨g, i * 12 + 4, none⟩), .string k] W fun e w' => e = .returned (.tuple #[.int .i64 (nOf r), .bool r.isSome]) ∧ Below W.heap.size W w'

section
variable {w w' w1 : World} {B hb : Nat} {O S : Nat → Prop} {H H' : He} {M M' : HV} {tg : Nat → Nat}

theorem find_any (h : HeapAt w B hb tg H M) {i g cap : Nat} {ob : Ob} (hi : H.obs[i]? = some ob) (hvo : M.vo = ⟨some ⟨g, 0, none⟩, H.obs.length, cap⟩) (hne : ob.neat) (k : ByteArray) (hk : k.size ≤ maxLen) : FindB w g i k (plc ob.ps k) := by
  obtain ⟨g', cap', ov, hvo', hov, t4, hneq, hgl, hcell, hfz, hl1, hl2, hrow⟩ := h.obj hi
  have hvv := hvo'
  rw [hvo] at hvv
  injection hvv with x1 x2 x3
  injection x1 with x1
  injection x1 with x1
  subst x1
  unfold FindB
  cases hm : ob.hm with
  | false =>
    refine (show FindSays _ _ _ _ _ from find_at h hi hov hvo hm k).mono ?_
    rintro e w' ⟨rfl, rfl⟩
    exact ⟨rfl, Below.refl _ _⟩
  | true =>
    have h1 := h.part hi hov 1 (by omega)
    have hwf := h.wf.ob ob (List.mem_of_getElem? hi)
    cases hv : ov.vm with
    | none =>
      have := h1.1
      rw [hv, hm] at this
      cases this
    | some mb =>
      have d4 := hcell 4 _ rfl
      have d5 := hcell 5 _ rfl
      simp only at d4 d5
      rw [hv] at d5
      exact find_map w g (i * 12 + 4) mb ov.vl ob.ps B _ (h.part hi hov 0 (by omega)) (by have := (h1.2 mb hv).2; rw [hne.mp hm] at this; exact this) hne.kn hwf.ks hne.cm hwf.nx.2.2 d4 d5 k hk

end

end Go.Proofs.YtahhionlbfhinaaDoor.Hp
