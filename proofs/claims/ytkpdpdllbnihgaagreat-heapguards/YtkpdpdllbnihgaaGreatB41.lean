/- UW, IN, UX -/
import Derived.Test.YtkpdpdllbnihgaaGreatUP
import Derived.Test.YtkpdpdllbnihgaaGreatUQ
import Derived.Test.YtkpdpdllbnihgaaGreatB40
import Derived.Test.YtkpdpdllbnihgaaGreatUV
import Derived.Test.YtkpdpdllbnihgaaGreatUR
import Derived.Test.YtkpdpdllbnihgaaGreatB26
import Derived.OwnWalk
import Derived.Test.YtkpdpdllbnihgaaGreatB12
import Derived.Test.YtkpdpdllbnihgaaGreatB35
set_option linter.unusedVariables false
set_option linter.unusedSimpArgs false
set_option maxRecDepth 100000
set_option maxHeartbeats 40000000
/- law.step: every call. -/
namespace Go.Proofs.YtkpdpdllbnihgaaGreat.Hp
open Go.RowKit
section
variable {w0 w : World} {X : Nat → Prop} {hb : Nat} {H : He} {S : List So} {vo vt : SV} {ts : List ByteArray} {n : Nat}
/-- a call of a script, whatever it is -/
theorem step_any (h : TwoE w0 w X hb H S vo vt ts) (hO : Ord H S ts n) (hn : n ≤ 1000000) (o : OpL) (ho : o.wf) (hw : ∀ W, Below w0.heap.size w0 W → o.w.ok wC 1 W) :
    Calls Tryz.prog 8 #[.pointer (some ⟨hb, 0, none⟩), stV vo vt, o.val] w fun e w' => ∃ vo' vt', e = .returned (.tuple #[stV vo' vt', .bool true]) ∧ TwoK w0 w w' X hb (stepH H o) (stepS S o) vo' vt' (stepT ts o) := by
  rcases kinds o.kd with k | k | k | k | k | k | k | k | k | k | k | k
  · exact step_0 h hO hn o k ho hw
  · exact step_1 h hO hn o k ho hw
  · exact step_2 h hO hn o k ho hw
  · exact step_3 h hO hn o k ho hw
  · exact step_4 h hO hn o k ho hw
  · exact step_5 h hO hn o k ho hw
  · exact step_6 h hO hn o k ho hw
  · exact step_7 h hO hn o k ho hw
  · exact step_8 h hO hn o k ho hw
  · by_cases c : obI H o.p = none
    · exact step_9n h hO hn o ⟨k, c⟩ ho hw
    · exact step_9h h hO hn o ⟨k, c⟩ ho hw
  · exact step_10 h hO hn o k ho hw
  · exact step_none h hO hn o k ho hw
end
end Go.Proofs.YtkpdpdllbnihgaaGreat.Hp
/- Keys. -/
namespace Go.Proofs.YtkpdpdllbnihgaaGreat.Hp
open Go.RowKit
theorem infoS : (Tryz.prog.info? 9).map (fun i => (i.zero, i.size, i.bytes)) = some (some (.string ⟨#[]⟩), 1, 16) := by kernel_rfl
theorem made_str (n : Nat) : (madeCells (Value.string ⟨#[]⟩).cells (n * 1)).toList = (List.replicate n (⟨#[]⟩ : ByteArray)).flatMap strC := by
  apply List.ext_getElem?
  intro i
  have hz : (Value.string ⟨#[]⟩).cells = #[.string ⟨#[]⟩] := rfl
  rw [hz]
  rcases Nat.lt_or_ge i (n * 1) with c | c
  · have e1 : (List.replicate n (⟨#[]⟩ : ByteArray))[i]? = some ⟨#[]⟩ := by rw [List.getElem?_replicate, if_pos (by omega)]
    have : (madeCells #[.string ⟨#[]⟩] (n * 1)).toList[i]? = some (.string ⟨#[]⟩) := by
      simp only [madeCells, Array.toList_map, Array.toList_range, List.getElem?_map, List.getElem?_range c, Option.map_some]
      show some (#[Value.string ⟨#[]⟩][i % 1]!) = _
      rw [Nat.mod_one]
      rfl
    rw [this]
    have e2 := flat_at rtStr.len _ i _ e1 0 _ rfl
    rw [Nat.mul_one, Nat.add_zero] at e2
    rw [e2]
  · rw [List.getElem?_eq_none (by rw [Array.length_toList, size_madeCells]; exact c), List.getElem?_eq_none (by rw [flat_len rtStr.len, List.length_replicate]; exact c)]
section
variable {w w' w1 : World} {B hb : Nat} {O S : Nat → Prop} {H H' : He} {M M' : HV} {tg : Nat → Nat}
/-- on the way through the keys -/
structure KyAt (w wr : World) (ks : List ByteArray) (k : Nat) (xs : List ByteArray) : Prop where
  len : xs.length = ks.length
  eq : ∀ j, j < k → xs[j]? = ks[j]?
  own : OwnR strC 1 9 w.heap.size wr (.slice (some ⟨w.heap.size, 0, none⟩) ks.length ks.length) xs
  bel : Below w.heap.size w wr
set_option maxRecDepth 100000 in
set_option maxHeartbeats 1000000 in
theorem keys_tab (w : World) (g off : Nat) (s : SV) (ps : List Pr) (B : Nat) (O : Nat → Prop) (hr : RowIn prC 5 123 B w O s ps) (hlen : ps.length ≤ 2000000000001) (c0 : w.cell? ⟨g, off, none⟩ = some s.val) :
    Calls Tryz.prog 84 #[.pointer (some ⟨g, off, none⟩)] w fun e w' => ∃ s2 : SV, e = .returned s2.val ∧ OwnR strC 1 9 w.heap.size w' s2.val (ps.map Pr.key) ∧ Below w.heap.size w w' := by
  obtain ⟨hl, h1, h2, h3⟩ := hr.open rtPr.len
  obtain ⟨ad, len, cap⟩ := s
  simp only at hl h1 h2 h3
  subst hl
  unfold SV.val at c0
  simp only at c0
  obtain ⟨i0, hi, hz0, hz1, hz2⟩ := info_parts infoS
  have H3 : Hid (ps ≠ [] → ∃ g, ad = some ⟨g, 0, none⟩ ∧ B ≤ g ∧ g < w.heap.size ∧ O g ∧ (∀ (i : Nat) (y : Pr), ps[i]? = some y → ∀ (j : Nat) (u : Value), (prC y)[j]? = some u → w.cell? ⟨g, i * 5 + j, none⟩ = some u) ∧ ∀ n, w.frozen? ⟨g, n, none⟩ = false) := h3
  have hlim : (ps.length : Int) ≤ 2000000000001 := by omega
  have HL : Hid (ps.length ≤ 2000000000001) := hlen
  have hkl : (ps.map Pr.key).length = ps.length := by simp
  have HST : Hid (∀ w1, w1.ownsRow w.heap.size 9 1 (.slice (some ⟨w.heap.size, 0, none⟩) ps.length ps.length) ps.length (madeCells (Value.string ⟨#[]⟩).cells (ps.length * 1)).toList → Below w.heap.size w w1 → KyAt w w1 (ps.map Pr.key) 0 (List.replicate ps.length ⟨#[]⟩)) := fun w1 q1 q2 => ⟨by simp, fun j hj => by omega, by
    rw [hkl]
    unfold OwnR
    rw [List.length_replicate, ← made_str]
    exact q1, q2⟩
  have HRD : Hid (∀ wr k xs p, KyAt w wr (ps.map Pr.key) k xs → ps[k]? = some p → wr.frozen? ⟨w.heap.size, k, none⟩ = false ∧ (∃ u, wr.cell? ⟨w.heap.size, k, none⟩ = some (.string u)) ∧ KyAt w (wr.setCell ⟨w.heap.size, k, none⟩ (.string p.key)) (ps.map Pr.key) (k + 1) (xs.set k p.key)) := fun wr k xs p q hp => by
    have hk : k < ps.length := (List.getElem?_eq_some_iff.1 hp).1
    have hkx : k < xs.length := by rw [q.len, hkl]; exact hk
    have hput := q.own.put (j := 0) (u := .string p.key) (y' := p.key) rtStr.len (List.getElem?_eq_getElem hkx) (by omega) rfl
    simp only [Nat.mul_one, Nat.add_zero] at hput
    have dv := q.own.at' rtStr.len (List.getElem?_eq_getElem hkx) (j := 0) rfl
    simp only [Nat.mul_one, Nat.add_zero] at dv
    refine ⟨q.own.fz k, ⟨_, dv⟩, by rw [List.length_set]; exact q.len, fun j hj => ?_, hput, q.bel.setCell (by simp) _⟩
    by_cases c : j = k
    · subst c
      rw [List.getElem?_set_self hkx, List.getElem?_map, hp]
      rfl
    · rw [List.getElem?_set_ne (by omega)]
      exact q.eq j (by omega)
  have HEN : Hid (∀ wr xs, KyAt w wr (ps.map Pr.key) ps.length xs → OwnR strC 1 9 w.heap.size wr (.slice (some ⟨w.heap.size, 0, none⟩) ps.length ps.length) (ps.map Pr.key) ∧ Below w.heap.size w wr) := fun wr xs q => by
    have e : xs = ps.map Pr.key := by
      apply List.ext_getElem?
      intro j
      rcases Nat.lt_or_ge j ps.length with c | c
      · exact q.eq j c
      · rw [List.getElem?_eq_none (by rw [q.len, hkl]; exact c), List.getElem?_eq_none (by rw [hkl]; exact c)]
    have h1 := q.own
    rw [e, hkl] at h1
    exact ⟨h1, q.bel⟩
  have HC0 : Hid (w.cell? ⟨g, off, none⟩ = some (.slice ad ps.length cap)) := c0
  generalize hkk : ps.map Pr.key = ks at *
  clear hr h1 h2 h3 hlen hkl hkk
  generalize hn : ps.length = n at *
  go_enter Tryz.func84, Tryz.ntmps84
  go_wp2_with (at_make; refine wpList_make_full _ rfl _ _ 26 rfl w.heap.size 9 i0 (.string ⟨#[]⟩) 1 Tryz.underlying26 hi hz0 hz1 _ _ _ _ n rfl rfl rfl rfl ?m1 ?m2 (Nat.le_refl _) ?_)
  case m1 => rw [hz2]; have := HL.out; omega
  case m2 => have := HL.out; unfold maxLen; omega
  intro w1 hmade hg1
  have HS1 := (show Hid _ from HST.out w1 (by rw [Nat.mul_one]; exact hmade) (below_grown hg1))
  have c0 := cells_below (below_grown hg1) _ _ HC0.out
  have HN : Hid (ps.length = n) := hn
  clear hmade hg1 HST hi hz0 hz1 hz2 hn
  go_wp2_with fail
  go_loopw [16] (fun p wr => ∃ (k : Nat) (xs : List ByteArray), k ≤ n ∧ Hid (KyAt w wr ks k xs) ∧ p = .int .i64 (k : Int)) (fun p wr => ((n : Int) - intOf p).toNat)
  case atStart => exact ⟨0, _, Nat.zero_le _, HS1, rfl⟩
  case round =>
    clear HS1 c0
    obtain ⟨k, xs, hk, HS, rfl⟩ := hrel
    by_cases c : k < n
    · have hex : ∃ p, ps[k]? = some p := ⟨_, List.getElem?_eq_getElem (by rw [HN.out]; exact c)⟩
      obtain ⟨p, hp⟩ := hex
      obtain ⟨gl, rfl, _, _, _, hcells, _⟩ := H3.out (by intro e; rw [e] at hp; simp at hp)
      have d0 := cells_below HS.out.bel _ _ (hcells k p hp 0 _ rfl)
      simp only [Nat.add_zero] at d0
      have c0 := cells_below HS.out.bel _ _ HC0.out
      obtain ⟨f0, ⟨u, du⟩, hnx⟩ := HRD.out wr k xs p HS.out hp
      have HX := (show Hid _ from hnx)
      have hkk : (k : Int) < (n : Int) := by omega
      have hkd : decide ((k : Int) < (n : Int)) = true := decide_eq_true hkk
      have hw1 : IntKind.i64.wrap ((k : Int) + 1) = ((k + 1 : Nat) : Int) := by rw [IntKind.wrap_i64]; omega
      have HK : Hid (k < n) := c
      clear hcells hnx HS hp H3 HRD HEN c hk HC0
      go_wp2_with fail
      refine ⟨⟨k + 1, _, by have := HK.out; omega, HX, rfl⟩, ?_⟩
      have := HK.out
      simp [intOf]
      omega
    · have hke : k = n := by omega
      subst hke
      have hkk : ¬ ((k : Int) < (k : Int)) := by omega
      have HE := (show Hid _ from HEN.out wr xs HS.out)
      clear HS H3 HRD HEN c hk HC0
      go_wp2_with fail
      go_ret
      exact ⟨⟨some ⟨w.heap.size, 0, none⟩, k, k⟩, rfl, HE.out.1, HE.out.2⟩
set_option maxRecDepth 100000 in
theorem keys_at (h : HeapAt w B hb tg H M) (o : Int) (o0 : 0 ≤ o) (o1 : o < 18446744073709551616) {i : Nat} {ob : Ob} (ho : obI H o = some i) (hi : H.obs[i]? = some ob) :
    Calls Tryz.prog 45 #[.pointer (some ⟨hb, 0, none⟩), .int .u64 o] w fun e w' => ∃ s2 : SV, e = .returned s2.val ∧ OwnR strC 1 9 w.heap.size w' s2.val (ob.ps.map Pr.key) ∧ Below w.heap.size w w' := by
  obtain ⟨g, cap, ov, hvo, hov, t4, hne, hgl, hcell, hfz, hl1, hl2, hrow⟩ := h.obj hi
  have ka := at_hit h o o0 o1 i g cap ho hvo
  have d4 := hcell 4 _ rfl
  simp only at d4
  have hwf := h.wf.ob ob (List.mem_of_getElem? hi)
  have kk := keys_tab w g (i * 12 + 4) ov.vl ob.ps B _ (h.part hi hov 0 (by omega)) hwf.nx.2.2 d4
  generalize ob.ps.map Pr.key = ks at *
  clear h hi ho hvo hov t4 hne hgl hcell hfz hl1 hl2 hrow hwf d4
  go_enter Tryz.func45, Tryz.ntmps45
  go_wp2_with fail
  refine ka.mono ?_
  rintro e w2 ⟨rfl, rfl⟩
  clear ka
  go_wp2_with fail
  refine kk.mono ?_
  rintro e w3 ⟨s, rfl, hq1, hq2⟩
  have HQ := (show Hid (OwnR strC 1 9 w2.heap.size w3 s.val ks ∧ Below w2.heap.size w2 w3) from ⟨hq1, hq2⟩)
  obtain ⟨sa, sl, sc⟩ := s
  unfold SV.val at HQ ⊢
  simp only at HQ ⊢
  clear kk hq1 hq2
  go_wp2_with fail
  go_ret
  exact ⟨⟨sa, sl, sc⟩, rfl, HQ.out.1, HQ.out.2⟩
end
end Go.Proofs.YtkpdpdllbnihgaaGreat.Hp
/- What a heap tells of an object, in the document's words. -/
namespace Go.Proofs.YtkpdpdllbnihgaaGreat.Hp
open Go.RowKit
section
variable {w0 w W : World} {X : Nat → Prop} {hb : Nat} {H : He} {S : List So} {vo vt : SV} {ts : List ByteArray} {n : Nat} {i : Nat} {x : So}
theorem Ord.get (hO : Ord H S ts n) (hw : H.wf) (hi : S[i]? = some x) : 0 ≤ objW (i : Int) ∧ objW (i : Int) < 18446744073709551616 ∧ ∃ ob, obI H (objW (i : Int)) = some i ∧ H.obs[i]? = some ob ∧ RelB ob x ∧ ob.neat ∧ ob.wf := by
  have hil : i < H.obs.length := by rw [hO.rel.len]; exact (List.getElem?_eq_some_iff.1 hi).1
  have e1 : H.obs[i]? = some H.obs[i] := List.getElem?_eq_getElem hil
  have hm := List.mem_of_getElem? e1
  have ho := hw.ol
  exact ⟨by unfold objW; omega, by unfold objW; omega, _, obI_of hil ho, e1, hO.rel.ob i _ _ e1 hi, hO.inv.neat _ hm, hw.ob _ hm⟩
theorem okind_e (h : TwoE w0 w X hb H S vo vt ts) (hO : Ord H S ts n) (hi : S[i]? = some x) :
    Calls Tryz.prog 44 #[.pointer (some ⟨hb, 0, none⟩), .int .u64 (objW (i : Int))] w fun e w' => e = .returned (.tuple #[.int .i64 x.kind, .bool true]) ∧ w' = w := by
  obtain ⟨o0, o1, ob, e1, e2, e3, _⟩ := hO.get h.wf hi
  obtain ⟨tgH, tgS, M, qs, h⟩ := h
  have k := kind_any h.hp _ o0 o1
  have e : obO H (objW (i : Int)) = some ob := by unfold obO; rw [e1]; exact e2
  rw [e] at k
  rw [← e3.kd]
  exact k
theorem oproto_e (h : TwoE w0 w X hb H S vo vt ts) (hO : Ord H S ts n) (hi : S[i]? = some x) :
    Calls Tryz.prog 46 #[.pointer (some ⟨hb, 0, none⟩), .int .u64 (objW (i : Int))] w fun e w' => e = .returned (.int .u64 x.proto) ∧ w' = w := by
  obtain ⟨o0, o1, ob, e1, e2, e3, _⟩ := hO.get h.wf hi
  obtain ⟨tgH, tgS, M, qs, h⟩ := h
  have k := proto_any h.hp _ o0 o1
  have e : obO H (objW (i : Int)) = some ob := by unfold obO; rw [e1]; exact e2
  rw [e] at k
  rw [← e3.pr]
  exact k
theorem oopen_e (h : TwoE w0 w X hb H S vo vt ts) (hO : Ord H S ts n) (hi : S[i]? = some x) :
    Calls Tryz.prog 47 #[.pointer (some ⟨hb, 0, none⟩), .int .u64 (objW (i : Int))] w fun e w' => e = .returned (.bool (!x.shut)) ∧ w' = w := by
  obtain ⟨o0, o1, ob, e1, e2, e3, _⟩ := hO.get h.wf hi
  obtain ⟨tgH, tgS, M, qs, h⟩ := h
  have k := open_any h.hp _ o0 o1
  have e : obO H (objW (i : Int)) = some ob := by unfold obO; rw [e1]; exact e2
  rw [e] at k
  rw [← e3.sh]
  exact k
theorem okeys_e (h : TwoE w0 w X hb H S vo vt ts) (hO : Ord H S ts n) (hi : S[i]? = some x) :
    Calls Tryz.prog 45 #[.pointer (some ⟨hb, 0, none⟩), .int .u64 (objW (i : Int))] w fun e w' => ∃ s2 : SV, e = .returned s2.val ∧ OwnR strC 1 9 w.heap.size w' s2.val x.nm ∧ Below w.heap.size w w' := by
  obtain ⟨o0, o1, ob, e1, e2, e3, _⟩ := hO.get h.wf hi
  obtain ⟨tgH, tgS, M, qs, h⟩ := h
  have k := keys_at h.hp _ o0 o1 e1 e2
  rw [e3.nm]
  exact k
theorem olen_e (h : TwoE w0 w X hb H S vo vt ts) (hO : Ord H S ts n) (hi : S[i]? = some x) :
    Calls Tryz.prog 48 #[.pointer (some ⟨hb, 0, none⟩), .int .u64 (objW (i : Int))] w fun e w' => e = .returned (.int .i64 (x.el.length : Int)) ∧ w' = w := by
  obtain ⟨o0, o1, ob, e1, e2, e3, _⟩ := hO.get h.wf hi
  obtain ⟨tgH, tgS, M, qs, h⟩ := h
  have k := len_at h.hp _ o0 o1 e1 e2
  rw [← e3.el]
  exact k
theorem oinner_e (h : TwoE w0 w X hb H S vo vt ts) (hO : Ord H S ts n) (hi : S[i]? = some x) :
    Calls Tryz.prog 50 #[.pointer (some ⟨hb, 0, none⟩), .int .u64 (objW (i : Int))] w fun e w' => ∃ s : SV, e = .returned s.val ∧ OwnR wC 1 33 w.heap.size w' s.val x.inn ∧ Below w.heap.size w w' := by
  obtain ⟨o0, o1, ob, e1, e2, e3, _⟩ := hO.get h.wf hi
  obtain ⟨tgH, tgS, M, qs, h⟩ := h
  have k := inner_at h.hp _ o0 o1 e1 e2
  rw [← e3.inn]
  exact k
theorem oelem_e (h : TwoE w0 w X hb H S vo vt ts) (hO : Ord H S ts n) (hi : S[i]? = some x) (m : Int) :
    Calls Tryz.prog 52 #[.pointer (some ⟨hb, 0, none⟩), .int .u64 (objW (i : Int)), .int .i64 m] w fun e w' => e = .returned (.tuple #[.int .u64 ((elS x.el m).getD undW), .bool (elS x.el m).isSome]) ∧ w' = w := by
  obtain ⟨o0, o1, ob, e1, e2, e3, _⟩ := hO.get h.wf hi
  obtain ⟨tgH, tgS, M, qs, h⟩ := h
  have k := elem_at h.hp _ o0 o1 e1 e2 m
  rw [elS_I, ← e3.el]
  exact k
theorem relem_e (h : TwoE w0 w X hb H S vo vt ts) (hO : Ord H S ts n) (hi : S[i]? = some x) (m : Int) :
    Calls Tryz.prog 53 #[stV vo vt, .int .u64 (objW (i : Int)), .int .i64 m] w fun e w' => e = .returned (.tuple #[.int .u64 ((elS x.el m).getD undW), .bool (elS x.el m).isSome]) ∧ Below w.heap.size w w' := by
  obtain ⟨o0, o1, ob, e1, e2, e3, _⟩ := hO.get h.wf hi
  obtain ⟨tgH, tgS, M, qs, h⟩ := h
  have k := relem_o h.st vt _ o0 o1 m
  have e : soO S (objW (i : Int)) = some x := soO_of (by rw [← hO.rel.at]; exact e1) hi
  rw [e] at k
  exact k
theorem plc_self {ob : Ob} (hn : ob.neat) {j : Nat} {p : Pr} (hp : ob.ps[j]? = some p) : plc ob.ps p.key = some j := by
  refine plc_at hp rfl (fun m q hm hq e => ?_)
  have h1 : (ob.ps.map Pr.key)[m]? = some p.key := by rw [List.getElem?_map, hq]; simp [e]
  have h2 : (ob.ps.map Pr.key)[j]? = some p.key := by rw [List.getElem?_map, hp]; rfl
  have hl : m < (ob.ps.map Pr.key).length := (List.getElem?_eq_some_iff.1 h1).1
  have := (List.getElem?_inj hl hn.kn).1 (h1.trans h2.symm)
  omega
theorem RelB.pr' {ob : Ob} (h : RelB ob x) {j : Nat} {k : ByteArray} {d : De} (hk : x.nm[j]? = some k) (hd : x.ds[j]? = some d) : ∃ p, ob.ps[j]? = some p ∧ p.key = k ∧ p.de = d := by
  rw [h.nm, List.getElem?_map] at hk
  rw [h.ds, List.getElem?_map] at hd
  cases hp : ob.ps[j]? with
  | none => rw [hp] at hk; cases hk
  | some p =>
    rw [hp] at hk hd
    exact ⟨p, rfl, Option.some.inj hk, Option.some.inj hd⟩
theorem oget_e (h : TwoE w0 w X hb H S vo vt ts) (hO : Ord H S ts n) (hi : S[i]? = some x) {j : Nat} {k : ByteArray} {d : De} (hk : x.nm[j]? = some k) (hd : x.ds[j]? = some d) :
    Calls Tryz.prog 23 #[.pointer (some ⟨hb, 0, none⟩), .int .u64 (objW (i : Int)), .string k] w fun e w' => e = .returned (.tuple #[deV d, .bool true]) ∧ Below w.heap.size w w' := by
  obtain ⟨o0, o1, ob, e1, e2, e3, e4, e5⟩ := hO.get h.wf hi
  obtain ⟨tgH, tgS, M, qs, h⟩ := h
  obtain ⟨p, hp, rfl, rfl⟩ := e3.pr' hk hd
  exact get_any h.hp _ o0 o1 e1 e2 (plc_self e4 hp) hp e4 (e5.ks p (List.mem_of_getElem? hp))
theorem oslot_e (h : TwoE w0 w X hb H S vo vt ts) (hO : Ord H S ts n) (hi : S[i]? = some x) {j : Nat} {k : ByteArray} {d : De} (hk : x.nm[j]? = some k) (hd : x.ds[j]? = some d) (hj : (j : Int) ≤ 9223372036854775807) :
    Calls Tryz.prog 51 #[.pointer (some ⟨hb, 0, none⟩), .int .u64 (objW (i : Int)), .int .i64 (j : Int)] w fun e w' => e = .returned (.tuple #[deV d, .bool true]) ∧ Below w.heap.size w w' := by
  obtain ⟨o0, o1, ob, e1, e2, e3, e4, e5⟩ := hO.get h.wf hi
  obtain ⟨tgH, tgS, M, qs, h⟩ := h
  obtain ⟨p, hp, rfl, rfl⟩ := e3.pr' hk hd
  have k := slot_any h.hp _ o0 o1 (j : Int) hj
  have e : slotO H (objW (i : Int)) (j : Int) = some p := by
    unfold slotO obO
    rw [e1]
    simp only [Option.bind_some, e2]
    rw [if_pos (by omega), Int.toNat_natCast]
    exact hp
  rw [e] at k
  exact k
theorem otext_e (h : TwoE w0 w X hb H S vo vt ts) (hO : Ord H S ts n) {j : Nat} {s : ByteArray} (hs : ts[j]? = some s) :
    Calls Tryz.prog 54 #[.pointer (some ⟨hb, 0, none⟩), .int .u64 (txtW (j : Int))] w fun e w' => e = .returned (.tuple #[.string s, .bool true]) ∧ w' = w := by
  obtain ⟨tgH, tgS, M, qs, h⟩ := h
  exact textOf_at h.hp (by rw [hO.rel.tx]; exact hs)
theorem objects_e (h : TwoE w0 w X hb H S vo vt ts) (hO : Ord H S ts n) : Calls Tryz.prog 24 #[.pointer (some ⟨hb, 0, none⟩)] w fun e w' => e = .returned (.int .i64 (S.length : Int)) ∧ w' = w := by
  obtain ⟨tgH, tgS, M, qs, h⟩ := h
  rw [← hO.rel.len]
  exact objects_at h.hp
theorem shapes_e (h : TwoE w0 w X hb H S vo vt ts) : Calls Tryz.prog 43 #[.pointer (some ⟨hb, 0, none⟩)] w fun e w' => e = .returned (.int .i64 (H.L.length : Int)) ∧ w' = w := by
  obtain ⟨tgH, tgS, M, qs, h⟩ := h
  exact shapes_heap h.hp
/-- where an object of the document lies -/
theorem TwoE.row (h : TwoE w0 w X hb H S vo vt ts) (hi : S[i]? = some x) : ∃ g cap a1 c1 a2 c2 a3 c3 a4 c4, vo.val = .slice (some ⟨g, 0, none⟩) S.length cap ∧ S.length ≤ 65536 ∧ x.ds.length = x.nm.length ∧
    (w.cell? ⟨g, i * 7, none⟩ = some (.int .i64 x.kind) ∧ w.cell? ⟨g, i * 7 + 1, none⟩ = some (.int .u64 x.proto) ∧ w.cell? ⟨g, i * 7 + 2, none⟩ = some (.bool x.shut) ∧ w.cell? ⟨g, i * 7 + 3, none⟩ = some (.slice a1 x.nm.length c1) ∧ w.cell? ⟨g, i * 7 + 4, none⟩ = some (.slice a2 x.nm.length c2) ∧ w.cell? ⟨g, i * 7 + 5, none⟩ = some (.slice a3 x.el.length c3) ∧ w.cell? ⟨g, i * 7 + 6, none⟩ = some (.slice a4 x.inn.length c4)) ∧
    Sli.ok strC 1 w ⟨a1, c1, x.nm⟩ ∧ Sli.ok deC 3 w ⟨a2, c2, x.ds⟩ ∧ Sli.ok wC 1 w ⟨a4, c4, x.inn⟩ := by
  obtain ⟨tgH, tgS, M, qs, h⟩ := h
  obtain ⟨g, cap, q, hv, hq, t1, hgl, hcell, hfz, hl1, hl2, hrow⟩ := h.st.obj hi
  have r0 : RowIn strC 1 9 w0.heap.size w (fun b => tgS b = 2 + 4 * i + 0) q.vn x.nm := h.st.ob i x q 0 hi hq (by omega)
  have r1 : RowIn deC 3 35 w0.heap.size w (fun b => tgS b = 2 + 4 * i + 1) q.vd x.ds := h.st.ob i x q 1 hi hq (by omega)
  have r2 : RowIn wC 1 33 w0.heap.size w (fun b => tgS b = 2 + 4 * i + 2) q.ve x.el := h.st.ob i x q 2 hi hq (by omega)
  have r3 : RowIn wC 1 33 w0.heap.size w (fun b => tgS b = 2 + 4 * i + 3) q.vi x.inn := h.st.ob i x q 3 hi hq (by omega)
  obtain ⟨s0, m0, n0, k0⟩ := r0.1.sl rtStr.len
  obtain ⟨s1, m1, n1, k1⟩ := r1.1.sl rtDe.len
  obtain ⟨s3, m3, n3, k3⟩ := r3.1.sl rtW.len
  obtain ⟨e2, _⟩ := r2.open rtW.len
  have hs := h.st.same x (List.mem_of_getElem? hi)
  obtain ⟨a0, c0, l0⟩ := s0
  obtain ⟨a1, c1, l1⟩ := s1
  obtain ⟨a3, c3, l3⟩ := s3
  simp only at n0 n1 n3
  subst n0 n1 n3
  unfold Sli.val at m0 m1 m3
  simp only at m0 m1 m3
  have d3 := hcell 3 _ rfl
  have d4 := hcell 4 _ rfl
  have d5 := hcell 5 _ rfl
  have d6 := hcell 6 _ rfl
  refine ⟨g, cap, a0, c0, a1, c1, q.ve.ad, q.ve.cap, a3, c3, by rw [hv]; rfl, h.st.big, hs, ⟨hcell 0 _ rfl, hcell 1 _ rfl, hcell 2 _ rfl, ?_, ?_, ?_, ?_⟩, k0.1, k1.1, k3.1⟩
  · rw [← m0]; exact d3
  · rw [← hs, ← m1]; exact d4
  · rw [← e2]; exact d5
  · rw [← m3]; exact d6
end
end Go.Proofs.YtkpdpdllbnihgaaGreat.Hp
