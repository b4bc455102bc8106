/- Keys. -/
import Derived.Test.YtkpdpdllbnihgaaIG
import Derived.OwnWalk
namespace Go.Proofs.Ytkpdpdllbnihgaa.Hp
open Go.RowKit
set_option linter.unusedVariables false

theorem infoS : (Try.prog.info? 9).map (fun i => (i.zero, i.size, i.bytes)) = some (some (.string ⟨#[]⟩), 1, 16) := by kernel_rfl

theorem made_str (n : Nat) : (madeCells (Value.string ⟨#[]⟩).cells (n * 1)).toList = (List.replicate n (⟨#[]⟩ : ByteArray)).flatMap strC := by
  apply List.ext_getElem?
  intro i
  have hz : (Value.string ⟨#[]⟩).cells = #[.string ⟨#[]⟩] := rfl
  rw [hz]
  rcases Nat.lt_or_ge i (n * 1) with c | c
  · have e1 : (List.replicate n (⟨#[]⟩ : ByteArray))[i]? = some ⟨#[]⟩ := by rw [List.getElem?_replicate, if_pos (by omega)]
    have : (madeCells #[.string ⟨#[]⟩] (n * 1)).toList[i]? = some (.string ⟨#[]⟩) := by
      simp only [madeCells, Array.toList_map, Array.toList_range, List.getElem?_map, List.getElem?_range c, Option.map_some]
      show some (#[Value.string ⟨#[]⟩][i % 1]!) = _
      rw [Nat.mod_one]
      rfl
    rw [this]
    have e2 := flat_at rtStr.len _ i _ e1 0 _ rfl
    rw [Nat.mul_one, Nat.add_zero] at e2
    rw [e2]
  · rw [List.getElem?_eq_none (by rw [Array.length_toList, size_madeCells]; exact c), List.getElem?_eq_none (by rw [flat_len rtStr.len, List.length_replicate]; exact c)]

section
variable {w w' w1 : World} {B hb : Nat} {O S : Nat → Prop} {H H' : He} {M M' : HV} {tg : Nat → Nat}

/-- on the way through the keys -/
structure KyAt (w wr : World) (ks : List ByteArray) (k : Nat) (xs : List ByteArray) : Prop where
  len : xs.length = ks.length
  eq : ∀ j, j < k → xs[j]? = ks[j]?
  own : OwnR strC 1 9 w.heap.size wr (.slice (some ⟨w.heap.size, 0, none⟩) ks.length ks.length) xs
  bel : Below w.heap.size w wr

set_option maxRecDepth 100000 in
set_option maxHeartbeats 1000000 in
theorem keys_tab (w : World) (g off : Nat) (s : SV) (ps : List Pr) (B : Nat) (O : Nat → Prop) (hr : RowIn prC 5 87 B w O s ps) (hlen : ps.length ≤ 2000000000001) (c0 : w.cell? ⟨g, off, none⟩ = some s.val) :
    Calls Try.prog 42 #[.pointer (some ⟨g, off, none⟩)] w fun e w' => ∃ s2 : SV, e = .returned s2.val ∧ OwnR strC 1 9 w.heap.size w' s2.val (ps.map Pr.key) ∧ Below w.heap.size w w' := by
  obtain ⟨hl, h1, h2, h3⟩ := hr.open rtPr.len
  obtain ⟨ad, len, cap⟩ := s
  simp only at hl h1 h2 h3
  subst hl
  unfold SV.val at c0
  simp only at c0
  obtain ⟨i0, hi, hz0, hz1, hz2⟩ := info_parts infoS
  have H3 : Hid (ps ≠ [] → ∃ g, ad = some ⟨g, 0, none⟩ ∧ B ≤ g ∧ g < w.heap.size ∧ O g ∧ (∀ (i : Nat) (y : Pr), ps[i]? = some y → ∀ (j : Nat) (u : Value), (prC y)[j]? = some u → w.cell? ⟨g, i * 5 + j, none⟩ = some u) ∧ ∀ n, w.frozen? ⟨g, n, none⟩ = false) := h3
  have hlim : (ps.length : Int) ≤ 2000000000001 := by omega
  have HL : Hid (ps.length ≤ 2000000000001) := hlen
  have hkl : (ps.map Pr.key).length = ps.length := by simp
  have HST : Hid (∀ w1, w1.ownsRow w.heap.size 9 1 (.slice (some ⟨w.heap.size, 0, none⟩) ps.length ps.length) ps.length (madeCells (Value.string ⟨#[]⟩).cells (ps.length * 1)).toList → Below w.heap.size w w1 → KyAt w w1 (ps.map Pr.key) 0 (List.replicate ps.length ⟨#[]⟩)) := fun w1 q1 q2 => ⟨by simp, fun j hj => by omega, by
    rw [hkl]
    unfold OwnR
    rw [List.length_replicate, ← made_str]
    exact q1, q2⟩
  have HRD : Hid (∀ wr k xs p, KyAt w wr (ps.map Pr.key) k xs → ps[k]? = some p → wr.frozen? ⟨w.heap.size, k, none⟩ = false ∧ (∃ u, wr.cell? ⟨w.heap.size, k, none⟩ = some (.string u)) ∧ KyAt w (wr.setCell ⟨w.heap.size, k, none⟩ (.string p.key)) (ps.map Pr.key) (k + 1) (xs.set k p.key)) := fun wr k xs p q hp => by
    have hk : k < ps.length := (List.getElem?_eq_some_iff.1 hp).1
    have hkx : k < xs.length := by rw [q.len, hkl]; exact hk
    have hput := q.own.put (j := 0) (u := .string p.key) (y' := p.key) rtStr.len (List.getElem?_eq_getElem hkx) (by omega) rfl
    simp only [Nat.mul_one, Nat.add_zero] at hput
    have dv := q.own.at' rtStr.len (List.getElem?_eq_getElem hkx) (j := 0) rfl
    simp only [Nat.mul_one, Nat.add_zero] at dv
    refine ⟨q.own.fz k, ⟨_, dv⟩, by rw [List.length_set]; exact q.len, fun j hj => ?_, hput, q.bel.setCell (by simp) _⟩
    by_cases c : j = k
    · subst c
      rw [List.getElem?_set_self hkx, List.getElem?_map, hp]
      rfl
    · rw [List.getElem?_set_ne (by omega)]
      exact q.eq j (by omega)
  have HEN : Hid (∀ wr xs, KyAt w wr (ps.map Pr.key) ps.length xs → OwnR strC 1 9 w.heap.size wr (.slice (some ⟨w.heap.size, 0, none⟩) ps.length ps.length) (ps.map Pr.key) ∧ Below w.heap.size w wr) := fun wr xs q => by
    have e : xs = ps.map Pr.key := by
      apply List.ext_getElem?
      intro j
      rcases Nat.lt_or_ge j ps.length with c | c
      · exact q.eq j c
      · rw [List.getElem?_eq_none (by rw [q.len, hkl]; exact c), List.getElem?_eq_none (by rw [hkl]; exact c)]
    have h1 := q.own
    rw [e, hkl] at h1
    exact ⟨h1, q.bel⟩
  have HC0 : Hid (w.cell? ⟨g, off, none⟩ = some (.slice ad ps.length cap)) := c0
  generalize hkk : ps.map Pr.key = ks at *
  clear hr h1 h2 h3 hlen hkl hkk
  generalize hn : ps.length = n at *
  go_enter Try.func42, Try.ntmps42
  go_wp2_with (at_make; refine wpList_make_full _ rfl _ _ 22 rfl w.heap.size 9 i0 (.string ⟨#[]⟩) 1 Try.underlying22 hi hz0 hz1 _ _ _ _ n rfl rfl rfl rfl ?m1 ?m2 (Nat.le_refl _) ?_)
  case m1 => rw [hz2]; have := HL.out; omega
  case m2 => have := HL.out; unfold maxLen; omega
  intro w1 hmade hg1
  have HS1 := (show Hid _ from HST.out w1 (by rw [Nat.mul_one]; exact hmade) (below_grown hg1))
  have c0 := cells_below (below_grown hg1) _ _ HC0.out
  have HN : Hid (ps.length = n) := hn
  clear hmade hg1 HST hi hz0 hz1 hz2 hn
  go_wp2_with fail
  go_loopw [16] (fun p wr => ∃ (k : Nat) (xs : List ByteArray), k ≤ n ∧ Hid (KyAt w wr ks k xs) ∧ p = .int .i64 (k : Int)) (fun p wr => ((n : Int) - intOf p).toNat)
  case atStart => exact ⟨0, _, Nat.zero_le _, HS1, rfl⟩
  case round =>
    clear HS1 c0
    obtain ⟨k, xs, hk, HS, rfl⟩ := hrel
    by_cases c : k < n
    · have hex : ∃ p, ps[k]? = some p := ⟨_, List.getElem?_eq_getElem (by rw [HN.out]; exact c)⟩
      obtain ⟨p, hp⟩ := hex
      obtain ⟨gl, rfl, _, _, _, hcells, _⟩ := H3.out (by intro e; rw [e] at hp; simp at hp)
      have d0 := cells_below HS.out.bel _ _ (hcells k p hp 0 _ rfl)
      simp only [Nat.add_zero] at d0
      have c0 := cells_below HS.out.bel _ _ HC0.out
      obtain ⟨f0, ⟨u, du⟩, hnx⟩ := HRD.out wr k xs p HS.out hp
      have HX := (show Hid _ from hnx)
      have hkk : (k : Int) < (n : Int) := by omega
      have hkd : decide ((k : Int) < (n : Int)) = true := decide_eq_true hkk
      have hw1 : IntKind.i64.wrap ((k : Int) + 1) = ((k + 1 : Nat) : Int) := by rw [IntKind.wrap_i64]; omega
      have HK : Hid (k < n) := c
      clear hcells hnx HS hp H3 HRD HEN c hk HC0
      go_wp2_with fail
      refine ⟨⟨k + 1, _, by have := HK.out; omega, HX, rfl⟩, ?_⟩
      have := HK.out
      simp [intOf]
      omega
    · have hke : k = n := by omega
      subst hke
      have hkk : ¬ ((k : Int) < (k : Int)) := by omega
      have HE := (show Hid _ from HEN.out wr xs HS.out)
      clear HS H3 HRD HEN c hk HC0
      go_wp2_with fail
      go_ret
      exact ⟨⟨some ⟨w.heap.size, 0, none⟩, k, k⟩, rfl, HE.out.1, HE.out.2⟩

set_option maxRecDepth 100000 in
theorem keys_at (h : HeapAt w B hb tg H M) (o : Int) (o0 : 0 ≤ o) (o1 : o < 18446744073709551616) {i : Nat} {ob : Ob} (ho : obI H o = some i) (hi : H.obs[i]? = some ob) :
    Calls Try.prog 19 #[.pointer (some ⟨hb, 0, none⟩), .int .u64 o] w fun e w' => ∃ s2 : SV, e = .returned s2.val ∧ OwnR strC 1 9 w.heap.size w' s2.val (ob.ps.map Pr.key) ∧ Below w.heap.size w w' := by
  obtain ⟨g, cap, ov, hvo, hov, t4, hne, hgl, hcell, hfz, hl1, hl2, hrow⟩ := h.obj hi
  have ka := at_hit h o o0 o1 i g cap ho hvo
  have d4 := hcell 4 _ rfl
  simp only at d4
  have hwf := h.wf.ob ob (List.mem_of_getElem? hi)
  have kk := keys_tab w g (i * 12 + 4) ov.vl ob.ps B _ (h.part hi hov 0 (by omega)) hwf.nx.2.2 d4
  generalize ob.ps.map Pr.key = ks at *
  clear h hi ho hvo hov t4 hne hgl hcell hfz hl1 hl2 hrow hwf d4
  go_enter Try.func19, Try.ntmps19
  go_wp2_with fail
  refine ka.mono ?_
  rintro e w2 ⟨rfl, rfl⟩
  clear ka
  go_wp2_with fail
  refine kk.mono ?_
  rintro e w3 ⟨s, rfl, hq1, hq2⟩
  have HQ := (show Hid (OwnR strC 1 9 w2.heap.size w3 s.val ks ∧ Below w2.heap.size w2 w3) from ⟨hq1, hq2⟩)
  obtain ⟨sa, sl, sc⟩ := s
  unfold SV.val at HQ ⊢
  simp only at HQ ⊢
  clear kk hq1 hq2
  go_wp2_with fail
  go_ret
  exact ⟨⟨sa, sl, sc⟩, rfl, HQ.out.1, HQ.out.2⟩

end

end Go.Proofs.Ytkpdpdllbnihgaa.Hp
