/- HR, IF, IV, KA -/
import Derived.Test.YtkpdpdllbnihgaaGreatB9
import Derived.Test.YtkpdpdllbnihgaaGreatB11
set_option linter.unusedVariables false
set_option linter.unusedSimpArgs false
set_option maxRecDepth 100000
set_option maxHeartbeats 40000000
/- Maps from texts to numbers: a lookup, a new name. -/
namespace Go.Proofs.YtkpdpdllbnihgaaGreat.Hp
open Go.RowKit
theorem key_law : WideMaps.KeyLaw Tryz.prog 9 := Go.WideMaps.string_law Tryz.underlying9
theorem key_of {s : ByteArray} (hs : s.size ≤ maxLen) : keyOf Tryz.prog 9 (.string s) = some (.string s.data.toList) := by simp [keyOf, mapKey, Tryz.underlying9, hs]
def lk (b : List (ByteArray × Int)) (s : ByteArray) : Option (ByteArray × Int) := b.find? (fun e => decide (e.1 = s))
structure BkOk (b : List (ByteArray × Int)) : Prop where
  nd : (b.map Prod.fst).Nodup
  sz : ∀ e ∈ b, e.1.size ≤ maxLen
theorem lk_none {nm : ByteArray} {b : List (ByteArray × Int)} (h : ∀ x ∈ b, x.1 ≠ nm) : lk b nm = none := by
  unfold lk
  rw [List.find?_eq_none]
  intro x hx
  simpa using h x hx
theorem lk_some {nm : ByteArray} : ∀ {b : List (ByteArray × Int)}, (b.map Prod.fst).Nodup → ∀ x, x ∈ b → x.1 = nm → lk b nm = some x
  | [], _, x, h, _ => by cases h
  | y :: b, hn, x, h, hx => by
    unfold lk
    rw [List.map_cons, List.nodup_cons] at hn
    by_cases c : y.1 = nm
    · rw [List.find?_cons_of_pos (by simpa using c)]
      rcases List.mem_cons.1 h with q | q
      · rw [q]
      · exact absurd (List.mem_map.2 ⟨x, q, by rw [hx, c]⟩) hn.1
    · rw [List.find?_cons_of_neg (by simpa using c)]
      rcases List.mem_cons.1 h with q | q
      · rw [q] at hx
        exact absurd hx c
      · exact lk_some hn.2 x q hx
section
variable {w : World} {mb : Nat} {k : IntKind} {b : List (ByteArray × Int)} {mt et : TypeId}
theorem ent_at {es : List MapEntry} (h : es.map (fun e => (e.key, e.val)) = b.map (fun x => ((.string x.1 : Value), (.int k x.2 : Value)))) (j : Nat) (e : MapEntry) (he : es[j]? = some e) : ∃ x, x ∈ b ∧ b[j]? = some x ∧ e.key = .string x.1 ∧ e.val = .int k x.2 := by
  have h1 := congrArg (·[j]?) h
  simp only [List.getElem?_map, he, Option.map_some] at h1
  cases hx : b[j]? with
  | none => rw [hx] at h1; simp at h1
  | some x =>
    rw [hx] at h1
    simp at h1
    exact ⟨x, List.mem_of_getElem? hx, rfl, h1.1, h1.2⟩
theorem ent_keys (hw : BkOk b) {es : List MapEntry} (h : es.map (fun e => (e.key, e.val)) = b.map (fun x => ((.string x.1 : Value), (.int k x.2 : Value)))) : ∀ e ∈ es, ∃ l, keyOf Tryz.prog 9 e.key = some l := by
  intro e he
  obtain ⟨j, hj⟩ := List.mem_iff_getElem?.1 he
  obtain ⟨x, h1, _, h2, _⟩ := ent_at h j e hj
  rw [h2]
  exact ⟨_, key_of (hw.sz x h1)⟩
theorem MpIs.look (h : MpIs w mb k b) (hw : BkOk b) (hu : Tryz.prog.underlying mt = some (.map 9 et)) (hz0 : (zeroValue et).run Tryz.prog w = .ok (.int k 0) w) {nm : ByteArray} (hn : nm.size ≤ maxLen) :
    (Instr.lookup mt (.map (some mb)) (.string nm) true).run Tryz.prog w = .ok (.tuple #[.int k (((lk b nm).map Prod.snd).getD 0), .bool (lk b nm).isSome]) w := by
  obtain ⟨es, clock, hb, he⟩ := h
  have hz := key_of hn
  rcases key_law.find w hz es.toList (ent_keys hw he) with ⟨f1, f2⟩ | ⟨j, e, f1, f2, f3⟩
  · have hno : lk b nm = none := lk_none (fun x hx hs => by
      obtain ⟨j, hj⟩ := List.mem_iff_getElem?.1 hx
      have h1 := congrArg (·[j]?) he
      simp only [List.getElem?_map, hj, Option.map_some] at h1
      cases hq : es.toList[j]? with
      | none => rw [hq] at h1; simp at h1
      | some e =>
        rw [hq] at h1
        simp at h1
        exact f2 e (List.mem_of_getElem? hq) (by rw [h1.1, hs]))
    rw [hno]
    simp [Instr.lookup, run_underlying hu, MapKept.run_getObj_map hb, key_law.check w _ hz, f1, hz0, Result.andThen]
  · obtain ⟨x, h1, _, h2, h3⟩ := ent_at he j e f2
    have hs : lk b nm = some x := lk_some hw.nd x h1 (by
      rw [h2] at f3
      simpa using f3)
    rw [hs]
    simp [Instr.lookup, run_underlying hu, MapKept.run_getObj_map hb, key_law.check w _ hz, f1, h3, Result.andThen]
/-- a name more -/
theorem MpIs.put (h : MpIs w mb k b) (hw : BkOk b) (hu : Tryz.prog.underlying mt = some (.map 9 et)) {nm : ByteArray} (hn : nm.size ≤ maxLen) (hno : ∀ x ∈ b, x.1 ≠ nm) (v : Int) :
    ∃ w', (Instr.mapUpdate mt (.map (some mb)) (.string nm) (.int k v)).run Tryz.prog w = .ok () w' ∧ MpIs w' mb k (b ++ [(nm, v)]) ∧ w.grownBy w' (some mb) ∧ w'.heap.size = w.heap.size := by
  obtain ⟨es, clock, hb, he⟩ := h
  have hz := key_of hn
  rcases key_law.find w hz es.toList (ent_keys hw he) with ⟨f1, f2⟩ | ⟨j, e, f1, f2, f3⟩
  · refine ⟨ChangeMaps.setBlock w mb (.map (es.push ⟨.string nm, .int k v, clock⟩) (clock + 1)), ?_, ⟨_, _, ChangeMaps.heap_setBlock_same hb _, ?_⟩, ⟨rfl, rfl, rfl, by simp [ChangeMaps.setBlock], fun i _ hi => ChangeMaps.heap_setBlock_other hb _ (fun e => hi (by rw [e]))⟩, by simp [ChangeMaps.setBlock]⟩
    · simp [Instr.mapUpdate, run_underlying hu, MapKept.run_getObj_map hb, key_law.check w _ hz, f1, MapKept.run_setObj_map _ hb, Result.andThen, ChangeMaps.setBlock]
    · simp [he]
  · obtain ⟨x, h1, _, h2, h3⟩ := ent_at he j e f2
    exact absurd (by rw [h2] at f3; simpa using f3) (hno x h1)
end
end Go.Proofs.YtkpdpdllbnihgaaGreat.Hp
/- find, with a map or without one. -/
namespace Go.Proofs.YtkpdpdllbnihgaaGreat.Hp
open Go.RowKit
theorem zero3 (w : World) : (zeroValue 3).run Tryz.prog w = .ok (.int .i64 0) w := by
  kernel_rfl
theorem camd_fst (ps : List Pr) : (camd ps).map Prod.fst = ps.map Pr.key := by
  unfold camd
  rw [List.map_map]
  rfl
theorem camd_ok {ps : List Pr} (hn : (ps.map Pr.key).Nodup) (hs : ∀ p ∈ ps, p.key.size ≤ maxLen) : BkOk (camd ps) := by
  refine ⟨by rw [camd_fst]; exact hn, fun e he => ?_⟩
  obtain ⟨p, hp, rfl⟩ := List.mem_map.1 he
  exact hs p hp
theorem camd_lk {ps : List Pr} (hn : (ps.map Pr.key).Nodup) (k : ByteArray) : (plc ps k = none ∧ lk (camd ps) k = none) ∨ ∃ n p, plc ps k = some n ∧ ps[n]? = some p ∧ lk (camd ps) k = some (k, p.came) := by
  cases h : plc ps k with
  | none =>
    refine Or.inl ⟨rfl, lk_none (fun x hx e => ?_)⟩
    obtain ⟨p, hp, rfl⟩ := List.mem_map.1 hx
    exact plc_none h p hp e
  | some n =>
    obtain ⟨⟨p, hp, hk⟩, _⟩ := plc_some h
    exact Or.inr ⟨n, p, rfl, hp, lk_some (by rw [camd_fst]; exact hn) (k, p.came) (List.mem_map.2 ⟨p, List.mem_of_getElem? hp, by rw [hk]⟩) rfl⟩
set_option maxRecDepth 100000 in
set_option maxHeartbeats 1000000 in
theorem find_map (w : World) (g off mb : Nat) (s : SV) (ps : List Pr) (B : Nat) (O : Nat → Prop) (hr : RowIn prC 5 123 B w O s ps) (hm : MpIs w mb .i64 (camd ps)) (hn : (ps.map Pr.key).Nodup) (hs : ∀ p ∈ ps, p.key.size ≤ maxLen) (hcm : ps.Pairwise (fun a b => a.came < b.came)) (hlen : ps.length ≤ 2000000000001) (c0 : w.cell? ⟨g, off, none⟩ = some s.val) (c1 : w.cell? ⟨g, off + 1, none⟩ = some (.map (some mb))) (k : ByteArray) (hk : k.size ≤ maxLen) :
    Calls Tryz.prog 70 #[.pointer (some ⟨g, off, none⟩), .string k] w fun e w' => e = .returned (.tuple #[.int .i64 (nOf (plc ps k)), .bool (plc ps k).isSome]) ∧ Below w.heap.size w w' := by
  have q69 : ∀ (w : World) (r : Option Nat), (binOp .neq 101 (.map r) (.map none)).run Tryz.prog w = .ok (.bool (!r.isNone)) w := fun w r => run_neq_map_nil w _ _ _ r Tryz.underlying101
  have hlk := hm.look (camd_ok hn hs) Tryz.underlying101 (zero3 w) (nm := k) hk
  rcases camd_lk hn k with ⟨e1, e2⟩ | ⟨n, p, e1, e2, e3⟩
  · rw [e1]
    rw [e2] at hlk
    have hlk : (Instr.lookup 101 (.map (some mb)) (.string k) true).run Tryz.prog w = .ok (.tuple #[.int .i64 0, .bool false]) w := hlk
    unfold nOf
    simp only [Option.map_none, Option.getD_none, Option.isSome_none]
    clear hr hm hn hs hcm hlen e1 e2 c0
    go_enter Tryz.func70, Tryz.ntmps70
    go_wp2_with fail
    go_ret2
    exact ⟨rfl, Below.refl _ _⟩
  · rw [e1]
    rw [e3] at hlk
    have hlk : (Instr.lookup 101 (.map (some mb)) (.string k) true).run Tryz.prog w = .ok (.tuple #[.int .i64 p.came, .bool true]) w := hlk
    have ks := search_any w s ps B O hr hcm hlen n p e2
    unfold nOf
    simp only [Option.map_some, Option.getD_some, Option.isSome_some]
    generalize p.came = pc at *
    obtain ⟨sa, sl, sc⟩ := s
    unfold SV.val at c0 ks
    simp only at c0 ks
    clear hr hm hn hs hcm hlen e1 e2 e3
    go_enter Tryz.func70, Tryz.ntmps70
    go_wp2_with fail
    refine ks.mono ?_
    rintro e w2 ⟨rfl, hB⟩
    have HB := (show Hid _ from hB)
    clear ks hB
    go_wp2_with fail
    go_ret2
    exact ⟨rfl, HB.out⟩
/-- what find tells -/
def FindB (W : World) (g i : Nat) (k : ByteArray) (r : Option Nat) : Prop := Calls Tryz.prog 70 #[.pointer (some ⟨g, i * 12 + 4, none⟩), .string k] W fun e w' => e = .returned (.tuple #[.int .i64 (nOf r), .bool r.isSome]) ∧ Below W.heap.size W w'
section
variable {w w' w1 : World} {B hb : Nat} {O S : Nat → Prop} {H H' : He} {M M' : HV} {tg : Nat → Nat}
theorem find_any (h : HeapAt w B hb tg H M) {i g cap : Nat} {ob : Ob} (hi : H.obs[i]? = some ob) (hvo : M.vo = ⟨some ⟨g, 0, none⟩, H.obs.length, cap⟩) (hne : ob.neat) (k : ByteArray) (hk : k.size ≤ maxLen) : FindB w g i k (plc ob.ps k) := by
  obtain ⟨g', cap', ov, hvo', hov, t4, hneq, hgl, hcell, hfz, hl1, hl2, hrow⟩ := h.obj hi
  have hvv := hvo'
  rw [hvo] at hvv
  injection hvv with x1 x2 x3
  injection x1 with x1
  injection x1 with x1
  subst x1
  unfold FindB
  cases hm : ob.hm with
  | false =>
    refine (show FindSays _ _ _ _ _ from find_at h hi hov hvo hm k).mono ?_
    rintro e w' ⟨rfl, rfl⟩
    exact ⟨rfl, Below.refl _ _⟩
  | true =>
    have h1 := h.part hi hov 1 (by omega)
    have hwf := h.wf.ob ob (List.mem_of_getElem? hi)
    cases hv : ov.vm with
    | none =>
      have := h1.1
      rw [hv, hm] at this
      cases this
    | some mb =>
      have d4 := hcell 4 _ rfl
      have d5 := hcell 5 _ rfl
      simp only at d4 d5
      rw [hv] at d5
      exact find_map w g (i * 12 + 4) mb ov.vl ob.ps B _ (h.part hi hov 0 (by omega)) (by have := (h1.2 mb hv).2; rw [hne.mp hm] at this; exact this) hne.kn hwf.ks hne.cm hwf.nx.2.2 d4 d5 k hk
end
end Go.Proofs.YtkpdpdllbnihgaaGreat.Hp
/- Get, whatever the table. -/
namespace Go.Proofs.YtkpdpdllbnihgaaGreat.Hp
open Go.RowKit
section
variable {w w' w1 : World} {B hb : Nat} {O S : Nat → Prop} {H H' : He} {M M' : HV} {tg : Nat → Nat}
set_option maxRecDepth 100000 in
set_option maxHeartbeats 1000000 in
theorem get_any (h : HeapAt w B hb tg H M) (o : Int) (o0 : 0 ≤ o) (o1 : o < 18446744073709551616) {i n : Nat} {ob : Ob} {k : ByteArray} {p : Pr} (ho : obI H o = some i) (hi : H.obs[i]? = some ob) (hn : plc ob.ps k = some n) (hp : ob.ps[n]? = some p) (hnt : ob.neat) (hk : k.size ≤ maxLen) :
    Calls Tryz.prog 23 #[.pointer (some ⟨hb, 0, none⟩), .int .u64 o, .string k] w fun e w' => e = .returned (.tuple #[deV p.de, .bool true]) ∧ Below w.heap.size w w' := by
  obtain ⟨wb, hwb⟩ : ∃ wb, wb = w.alloc (.cells #[.int .u64 0, .int .u64 0, .int .i64 0] 35) := ⟨_, rfl⟩
  have hB : Below w.heap.size w wb := by rw [hwb]; exact (Below.refl _ _).alloc (Nat.le_refl _) _
  have hbx : wb.heap[w.heap.size]? = some (.cells #[.int .u64 0, .int .u64 0, .int .i64 0] 35 (0, 0)) := by rw [hwb]; exact at_new _ _
  have h2 := h.below hB
  obtain ⟨g, cap, ov, hvo, hov, t4, hne, hgl, hcell, hfz, hl1, hl2, hrow⟩ := h2.obj hi
  have ka := at_hit h2 o o0 o1 i g cap ho hvo
  have kf2 := (show FindB _ _ _ _ _ from find_any (ob := ob) h2 hi hvo hnt k hk)
  unfold FindB at kf2
  rw [hn] at kf2
  have hr : RowIn prC 5 _ B wb _ ov.vl ob.ps := h2.part hi hov 0 (by omega)
  obtain ⟨q1, q2, q3, q4⟩ := hr.open rtPr.len
  have hnl : n < ob.ps.length := (List.getElem?_eq_some_iff.1 hp).1
  obtain ⟨gl, e1, _, _, _, hc, _⟩ := q4 (by intro e; rw [e] at hnl; simp at hnl)
  have hnl2 : (n : Int) < (ob.ps.length : Int) := by omega
  have hlim : (ob.ps.length : Int) ≤ 9223372036854775807 := by unfold maxLen at q3; omega
  unfold nOf at kf2
  simp only [Option.map_some, Option.getD_some, Option.isSome_some] at kf2
  have HF : Hid (∀ w6, Below wb.heap.size wb w6 → w6.cell? ⟨g, i * 12 + 4, none⟩ = some (.slice (some ⟨gl, 0, none⟩) ob.ps.length ov.vl.cap) ∧ (w6.cell? ⟨gl, n * 5 + 2, none⟩ = some (.int .u64 p.de.va) ∧ w6.cell? ⟨gl, n * 5 + 3, none⟩ = some (.int .u64 p.de.se) ∧ w6.cell? ⟨gl, n * 5 + 4, none⟩ = some (.int .i64 p.de.fl)) ∧ (w6.frozen? ⟨w.heap.size, 0, none⟩ = false ∧ w6.frozen? ⟨w.heap.size, 1, none⟩ = false ∧ w6.frozen? ⟨w.heap.size, 2, none⟩ = false) ∧ (w6.cell? ⟨w.heap.size, 0, none⟩ = some (.int .u64 0) ∧ w6.cell? ⟨w.heap.size, 1, none⟩ = some (.int .u64 0) ∧ w6.cell? ⟨w.heap.size, 2, none⟩ = some (.int .i64 0)) ∧ (((w6.setCell ⟨w.heap.size, 0, none⟩ (.int .u64 p.de.va)).setCell ⟨w.heap.size, 1, none⟩ (.int .u64 p.de.se)).setCell ⟨w.heap.size, 2, none⟩ (.int .i64 p.de.fl) |>.heap[w.heap.size]? = some (.cells #[.int .u64 p.de.va, .int .u64 p.de.se, .int .i64 p.de.fl] 35 (0, 0))) ∧ Below w.heap.size w (((w6.setCell ⟨w.heap.size, 0, none⟩ (.int .u64 p.de.va)).setCell ⟨w.heap.size, 1, none⟩ (.int .u64 p.de.se)).setCell ⟨w.heap.size, 2, none⟩ (.int .i64 p.de.fl))) := fun w6 hB6 => by
    have d4 := hcell 4 _ rfl
    unfold SV.val at d4
    simp only at d4
    rw [q1, e1] at d4
    have hxs : w.heap.size < wb.heap.size := (Array.getElem?_eq_some_iff.1 hbx).1
    have hbx6 : w6.heap[w.heap.size]? = some (.cells #[.int .u64 0, .int .u64 0, .int .i64 0] 35 (0, 0)) := by rw [hB6.block _ hxs]; exact hbx
    have s0 := heap_setCell_same w6 w.heap.size 0 _ _ (.int .u64 p.de.va) hbx6
    have s1 := heap_setCell_same _ w.heap.size 1 _ _ (.int .u64 p.de.se) s0
    have hBW : Below w.heap.size w w6 := hB.trans (hB6.mono (Nat.le_of_lt hxs))
    exact ⟨cells_below hB6 _ _ d4, ⟨cells_below hB6 _ _ (hc n p hp 2 _ rfl), cells_below hB6 _ _ (hc n p hp 3 _ rfl), cells_below hB6 _ _ (hc n p hp 4 _ rfl)⟩, ⟨frozen_of_row w6 w.heap.size 0 _ _ hbx6, frozen_of_row w6 w.heap.size 1 _ _ hbx6, frozen_of_row w6 w.heap.size 2 _ _ hbx6⟩, ⟨cell_of_row w6 w.heap.size 0 _ _ (0, 0) hbx6, cell_of_row w6 w.heap.size 1 _ _ (0, 0) hbx6, cell_of_row w6 w.heap.size 2 _ _ (0, 0) hbx6⟩, heap_setCell_same _ w.heap.size 2 _ _ (.int .i64 p.de.fl) s1, ((hBW.setCell (by simp) _).setCell (by simp) _).setCell (by simp) _⟩
  unfold deV
  obtain ⟨pk, pc, pv, ps', pf⟩ := p
  simp only at *
  generalize ob.ps.length = len at *
  generalize ov.vl.cap = cp at *
  clear h h2 hB hbx hi ho hvo hov t4 hne hgl hcell hfz hl1 hl2 hrow hn hp hr q1 q2 q3 q4 hc hnl e1 hnt hk
  go_enter Tryz.func23, Tryz.ntmps23
  go_upto_region 1 with fail
  rw [← hwb]
  clear hwb
  go_wp2_with fail
  refine ka.mono ?_
  rintro e w2 ⟨rfl, rfl⟩
  clear ka
  go_wp2_with fail
  refine kf2.mono ?_
  rintro e w6 ⟨rfl, hB6⟩
  obtain ⟨d4, ⟨m2, m3, m4⟩, ⟨f0, f1, f2⟩, ⟨b0, b1, b2⟩, hbx, hbl⟩ := HF.out w6 hB6
  have HBX := (show Hid _ from hbx)
  have HBL := (show Hid _ from hbl)
  clear kf2 HF hB6 hbx hbl
  go_wp2_with fail
  refine bodyPost_ret (res2 rfl _ _ w.heap.size 35 _ (0, 0) _ rfl HBX.out Tryz.underlying35 rfl (by kernel_rfl)) rfl ?_
  exact ⟨rfl, HBL.out⟩
end
end Go.Proofs.YtkpdpdllbnihgaaGreat.Hp
/- Kind, Proto, Open; what is no object. -/
namespace Go.Proofs.YtkpdpdllbnihgaaGreat.Hp
open Go.RowKit
section
variable {w w' w1 : World} {B hb : Nat} {O S : Nat → Prop} {H H' : He} {M M' : HV} {tg : Nat → Nat}
/-- the object of a word -/
def obO (H : He) (o : Int) : Option Ob := (obI H o).bind (fun i => H.obs[i]?)
theorem obO_some {o : Int} {ob : Ob} (h : obO H o = some ob) : ∃ i, obI H o = some i ∧ H.obs[i]? = some ob := by
  unfold obO at h
  cases ho : obI H o with
  | none => rw [ho] at h; cases h
  | some i => rw [ho] at h; exact ⟨i, rfl, h⟩
theorem obO_none {o : Int} (h : obO H o = none) : obI H o = none := by
  unfold obO at h
  cases ho : obI H o with
  | none => rfl
  | some i =>
    rw [ho] at h
    have h1 := (obI_some ho).2.2.1
    have h : H.obs[i]? = none := h
    have := List.getElem?_eq_none_iff.1 h
    omega
set_option maxRecDepth 100000 in
theorem kind_any (h : HeapAt w B hb tg H M) (o : Int) (o0 : 0 ≤ o) (o1 : o < 18446744073709551616) :
    Calls Tryz.prog 44 #[.pointer (some ⟨hb, 0, none⟩), .int .u64 o] w fun e w' => e = .returned (.tuple #[.int .i64 (((obO H o).map Ob.kind).getD 0), .bool (obO H o).isSome]) ∧ w' = w := by
  cases hq : obO H o with
  | none =>
    have ka := at_miss h o o0 o1 (obO_none hq)
    simp only [Option.map_none, Option.getD_none, Option.isSome_none]
    clear h hq
    go_enter Tryz.func44, Tryz.ntmps44
    go_wp2_with fail
    refine ka.mono ?_
    rintro e w2 ⟨rfl, rfl⟩
    clear ka
    go_wp2_with fail
    go_ret2
    exact ⟨rfl, rfl⟩
  | some ob =>
    obtain ⟨i, ho, hi⟩ := obO_some hq
    obtain ⟨g, cap, ov, hvo, hov, t4, hne, hgl, hcell, hfz, hl1, hl2, hrow⟩ := h.obj hi
    have ka := at_hit h o o0 o1 i g cap ho hvo
    have d0 := hcell 0 _ rfl
    simp only [Nat.add_zero] at d0
    simp only [Option.map_some, Option.getD_some, Option.isSome_some]
    generalize ob.kind = kd at *
    clear h hi ho hvo hov t4 hne hgl hcell hfz hl1 hl2 hrow hq
    go_enter Tryz.func44, Tryz.ntmps44
    go_wp2_with fail
    refine ka.mono ?_
    rintro e w2 ⟨rfl, rfl⟩
    clear ka
    go_wp2_with fail
    go_ret2
    exact ⟨rfl, rfl⟩
set_option maxRecDepth 100000 in
theorem proto_any (h : HeapAt w B hb tg H M) (o : Int) (o0 : 0 ≤ o) (o1 : o < 18446744073709551616) :
    Calls Tryz.prog 46 #[.pointer (some ⟨hb, 0, none⟩), .int .u64 o] w fun e w' => e = .returned (.int .u64 (((obO H o).map Ob.proto).getD nulW)) ∧ w' = w := by
  cases hq : obO H o with
  | none =>
    have ka := at_miss h o o0 o1 (obO_none hq)
    simp only [Option.map_none, Option.getD_none]
    unfold nulW
    clear h hq
    go_enter Tryz.func46, Tryz.ntmps46
    go_wp2_with fail
    refine ka.mono ?_
    rintro e w2 ⟨rfl, rfl⟩
    clear ka
    go_wp2_with fail
    go_ret
    exact ⟨rfl, rfl⟩
  | some ob =>
    obtain ⟨i, ho, hi⟩ := obO_some hq
    obtain ⟨g, cap, ov, hvo, hov, t4, hne, hgl, hcell, hfz, hl1, hl2, hrow⟩ := h.obj hi
    have ka := at_hit h o o0 o1 i g cap ho hvo
    have d0 := hcell 1 _ rfl
    simp only at d0
    simp only [Option.map_some, Option.getD_some]
    generalize ob.proto = kd at *
    clear h hi ho hvo hov t4 hne hgl hcell hfz hl1 hl2 hrow hq
    go_enter Tryz.func46, Tryz.ntmps46
    go_wp2_with fail
    refine ka.mono ?_
    rintro e w2 ⟨rfl, rfl⟩
    clear ka
    go_wp2_with fail
    go_ret
    exact ⟨rfl, rfl⟩
set_option maxRecDepth 100000 in
theorem open_any (h : HeapAt w B hb tg H M) (o : Int) (o0 : 0 ≤ o) (o1 : o < 18446744073709551616) :
    Calls Tryz.prog 47 #[.pointer (some ⟨hb, 0, none⟩), .int .u64 o] w fun e w' => e = .returned (.bool (((obO H o).map (fun x => !x.shut)).getD false)) ∧ w' = w := by
  cases hq : obO H o with
  | none =>
    have ka := at_miss h o o0 o1 (obO_none hq)
    simp only [Option.map_none, Option.getD_none]
    clear h hq
    go_enter Tryz.func47, Tryz.ntmps47
    go_wp2_with fail
    refine ka.mono ?_
    rintro e w2 ⟨rfl, rfl⟩
    clear ka
    go_wp2_with fail
    go_ret
    exact ⟨rfl, rfl⟩
  | some ob =>
    obtain ⟨i, ho, hi⟩ := obO_some hq
    obtain ⟨g, cap, ov, hvo, hov, t4, hne, hgl, hcell, hfz, hl1, hl2, hrow⟩ := h.obj hi
    have ka := at_hit h o o0 o1 i g cap ho hvo
    have d0 := hcell 2 _ rfl
    simp only at d0
    simp only [Option.map_some, Option.getD_some]
    generalize ob.shut = kd at *
    clear h hi ho hvo hov t4 hne hgl hcell hfz hl1 hl2 hrow hq
    go_enter Tryz.func47, Tryz.ntmps47
    go_wp2_with fail
    refine ka.mono ?_
    rintro e w2 ⟨rfl, rfl⟩
    clear ka
    go_wp2_with fail
    go_ret
    exact ⟨rfl, rfl⟩
end
end Go.Proofs.YtkpdpdllbnihgaaGreat.Hp
