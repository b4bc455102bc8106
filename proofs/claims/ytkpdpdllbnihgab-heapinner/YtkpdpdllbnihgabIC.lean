/- SetInner, Inner; words. -/
import Derived.Test.YtkpdpdllbnihgabHQ
import Derived.Test.YtkpdpdllbnihgabIB
namespace Go.Proofs.Ytkpdpdllbnihgab.Hp
open Go.RowKit
set_option linter.unusedVariables false

section
variable {w w' w1 w5 : World} {B hb : Nat} {O S : Nat → Prop} {H H' : He} {M M' : HV} {tg : Nat → Nat}

/-- an object's inner words are another row -/
theorem HeapAt.inns (h : HeapAt w B hb tg H M) {i g cap : Nat} {ob : Ob} {ov : OV} (hi : H.obs[i]? = some ob) (hv : M.ovs[i]? = some ov) (hvo : M.vo = ⟨some ⟨g, 0, none⟩, H.obs.length, cap⟩) {s : SV} {l : List Int} (q1 : OwnR wC 1 24 w.heap.size w5 s.val l) (q2 : Below w.heap.size w w5) (hl : l.length ≤ 17592186044416) :
    WentM w B hb tg { H with obs := H.obs.set i { ob with inn := l } } { M with ovs := M.ovs.set i { ov with vi := s } } (w5.setCell ⟨g, i * 12 + 8, none⟩ s.val) := by
  have hwf := h.wf.ob ob (List.mem_of_getElem? hi)
  have hB := h.B0
  obtain ⟨p1, p2⟩ := h.put hi hv hvo 3 (by omega) (Chg.of_below q2) { ob with inn := l } { ov with vi := s } (j := 8) (u := s.val) (by omega) rfl (fun O o1 o2 => ⟨q1.low (by omega), fun b q => o2 b (q1.lt b q).1 (q1.lt b q).2⟩) (fun c' W' O' c4 cn q => by
    match c', q with
    | 0, q => exact q
    | 1, q => exact q
    | 2, q => exact q
    | c + 3, q => exact absurd (by omega) cn) ⟨hwf.kd, hwf.pr, hwf.ks, hwf.fl, hwf.nx, hwf.el, hl⟩
  refine ⟨_, p1, p2.mono (fun b q => by show tg b ≠ 0; omega), fun b q => ?_⟩
  by_cases c : b < w.heap.size
  · rw [rtg_old c] at q
    exact Or.inl q
  · exact Or.inr (by omega)

set_option maxRecDepth 100000 in
set_option maxHeartbeats 1000000 in
theorem setInner_at (h : HeapAt w B hb tg H M) (o : Int) (o0 : 0 ≤ o) (o1 : o < 18446744073709551616) {i : Nat} {ob : Ob} (ho : obI H o = some i) (hi : H.obs[i]? = some ob) (m : Sli Int) (hm : m.ok wC 1 w) (hl : m.xs.length ≤ 17592186044416) :
    Calls Try.prog 7 #[.pointer (some ⟨hb, 0, none⟩), .int .u64 o, m.val] w fun e w' => e = .returned (.tuple #[]) ∧ ∃ M', WentM w B hb tg { H with obs := H.obs.set i { ob with inn := m.xs } } M' w' := by
  obtain ⟨g, cap, ov, hvo, hov, t4, hne, hgl, hcell, hfz, hl1, hl2, hrow⟩ := h.obj hi
  have ka := at_hit h o o0 o1 i g cap ho hvo
  have kc := copied_any w m hm hl
  have d8 := hcell 8 _ rfl
  have f8 := hfz (i * 12 + 8)
  simp only at d8
  have HA : Hid (∀ w5 (s : SV), OwnR wC 1 24 w.heap.size w5 s.val m.xs → Below w.heap.size w w5 → (w5.cell? ⟨g, i * 12 + 8, none⟩ = some ov.vi.val ∧ w5.frozen? ⟨g, i * 12 + 8, none⟩ = false) ∧ ∃ M', WentM w B hb tg { H with obs := H.obs.set i { ob with inn := m.xs } } M' (w5.setCell ⟨g, i * 12 + 8, none⟩ s.val)) := fun w5 s q1 q2 => ⟨⟨cells_below q2 _ _ d8, by rw [World.frozen?_of_block (w := w) (q2.block g hgl)]; exact f8⟩, _, h.inns hi hov hvo q1 q2 hl⟩
  generalize { H with obs := H.obs.set i { ob with inn := m.xs } } = HN at *
  have HIV : Hid (ov.vi.val = .slice ov.vi.ad ov.vi.len ov.vi.cap) := rfl
  generalize hvv : m.val = mv at *
  have hmv : mv = .slice m.at' m.xs.length m.cap := hvv.symm
  clear hvv
  subst hmv
  clear h hi ho hvo hov t4 hne hgl hcell hfz hl1 hl2 hrow hm hl d8 f8
  go_enter Try.func7, Try.ntmps7
  go_wp2_with fail
  refine ka.mono ?_
  rintro e w2 ⟨rfl, rfl⟩
  clear ka
  go_wp2_with fail
  refine kc.mono ?_
  rintro e w3 ⟨s, rfl, hq1, hq2⟩
  obtain ⟨⟨z1, z2⟩, z3⟩ := HA.out w3 s hq1 hq2
  have HZ := (show Hid _ from z3)
  rw [HIV.out] at z1
  obtain ⟨sa, sl, sc⟩ := s
  unfold SV.val at HZ ⊢
  simp only at HZ ⊢
  clear kc hq1 hq2 HA z3
  go_wp2_with fail
  go_end0
  exact ⟨rfl, HZ.out⟩

set_option maxRecDepth 100000 in
set_option maxHeartbeats 1000000 in
theorem inner_at (h : HeapAt w B hb tg H M) (o : Int) (o0 : 0 ≤ o) (o1 : o < 18446744073709551616) {i : Nat} {ob : Ob} (ho : obI H o = some i) (hi : H.obs[i]? = some ob) :
    Calls Try.prog 8 #[.pointer (some ⟨hb, 0, none⟩), .int .u64 o] w fun e w' => ∃ s : SV, e = .returned s.val ∧ OwnR wC 1 24 w.heap.size w' s.val ob.inn ∧ Below w.heap.size w w' := by
  obtain ⟨g, cap, ov, hvo, hov, t4, hne, hgl, hcell, hfz, hl1, hl2, hrow⟩ := h.obj hi
  have ka := at_hit h o o0 o1 i g cap ho hvo
  have d8 := hcell 8 _ rfl
  simp only at d8
  have hr : RowIn wC 1 24 B w _ ov.vi ob.inn := h.part hi hov 3 (by omega)
  have hwf := h.wf.ob ob (List.mem_of_getElem? hi)
  obtain ⟨m, e1, e2, e3, _⟩ := hr.1.sl rtW.len
  have kc := copied_any w m e3 (by rw [e2]; exact hwf.inn)
  rw [e1] at d8
  rw [e2] at kc
  generalize hvv : m.val = mv at *
  have hmv : mv = .slice m.at' m.xs.length m.cap := hvv.symm
  clear hvv
  subst hmv
  generalize m.xs.length = ml at *
  generalize m.at' = ma at *
  generalize m.cap = mc at *
  clear h hi ho hvo hov t4 hne hgl hcell hfz hl1 hl2 hrow hr hwf e1 e3 e2
  go_enter Try.func8, Try.ntmps8
  go_wp2_with fail
  refine ka.mono ?_
  rintro e w2 ⟨rfl, rfl⟩
  clear ka
  go_wp2_with fail
  refine kc.mono ?_
  rintro e w3 ⟨s, rfl, hq1, hq2⟩
  have HQ := (show Hid (OwnR wC 1 24 w2.heap.size w3 s.val ob.inn ∧ Below w2.heap.size w2 w3) from ⟨hq1, hq2⟩)
  obtain ⟨sa, sl, sc⟩ := s
  unfold SV.val at HQ ⊢
  simp only at HQ ⊢
  clear kc hq1 hq2
  go_wp2_with fail
  go_ret
  exact ⟨⟨sa, sl, sc⟩, rfl, HQ.out.1, HQ.out.2⟩

end

set_option maxRecDepth 100000 in
set_option maxHeartbeats 1000000 in
theorem words_same (w : World) (a b : Sli Int) (ha : a.ok wC 1 w) (hb : b.ok wC 1 w) (hab : a.xs = b.xs) :
    Calls Try.prog 9 #[a.val, b.val] w fun e w' => e = .returned (.bool true) ∧ Below w.heap.size w w' := by
  obtain ⟨aa, ac, l⟩ := a
  obtain ⟨ba, bc, l2⟩ := b
  simp only at hab
  subst hab
  have h1 := ha.cap
  have h0 := ha.len
  simp only at h1 h0
  have hlim : (l.length : Int) ≤ 9223372036854775807 := by unfold maxLen at h1; omega
  have HA : Hid (l ≠ [] → ∃ b off, aa = some ⟨b, off, none⟩ ∧ ∀ (i : Nat) (y : Int), l[i]? = some y → ∀ (j : Nat) (u : Value), (wC y)[j]? = some u → w.cell? ⟨b, off + i * 1 + j, none⟩ = some u) := ha.cells
  have HB : Hid (l ≠ [] → ∃ b off, ba = some ⟨b, off, none⟩ ∧ ∀ (i : Nat) (y : Int), l[i]? = some y → ∀ (j : Nat) (u : Value), (wC y)[j]? = some u → w.cell? ⟨b, off + i * 1 + j, none⟩ = some u) := hb.cells
  have hnn : ((l.length : Int) != (l.length : Int)) = false := by simp
  unfold Sli.val
  simp only
  clear ha hb h1 h0
  go_enter Try.func9, Try.ntmps9
  go_wp2_with fail
  go_loopw [13] (fun p wr => ∃ (j : Nat) (nd : Nat), j ≤ l.length ∧ p = .int .i64 (j : Int) ∧ Hid (Below w.heap.size w wr)) (fun p wr => ((l.length : Int) - intOf p).toNat)
  case atStart => exact ⟨0, 0, Nat.zero_le _, rfl, Below.refl _ _⟩
  case round =>
    obtain ⟨j, nd, hj, rfl, HBL⟩ := hrel
    by_cases c : j < l.length
    · have hex : ∃ n, l[j]? = some n := ⟨_, List.getElem?_eq_getElem c⟩
      obtain ⟨n, hn⟩ := hex
      obtain ⟨b1, o1, rfl, hc1⟩ := HA.out (by intro e; rw [e] at c; simp at c)
      obtain ⟨b2, o2, rfl, hc2⟩ := HB.out (by intro e; rw [e] at c; simp at c)
      have e1 := hc1 j n hn 0 _ rfl
      have e2 := hc2 j n hn 0 _ rfl
      simp only [Nat.mul_one, Nat.add_zero] at e1 e2
      have d1 := cells_below HBL.out _ _ e1
      have d2 := cells_below HBL.out _ _ e2
      have hjj : (j : Int) < (l.length : Int) := by omega
      have hjd : decide ((j : Int) < (l.length : Int)) = true := decide_eq_true hjj
      have hw1 : IntKind.i64.wrap ((j : Int) + 1) = ((j + 1 : Nat) : Int) := by rw [IntKind.wrap_i64]; omega
      have HJ : Hid (j < l.length) := c
      have hnn2 : (n != n) = false := by simp
      clear hc1 hc2 e1 e2 hn c hj HA HB
      go_wp2_with fail
      go_quiet (fail)
      go_wp2_with fail
      refine ⟨⟨j + 1, 0, by have := HJ.out; omega, rfl, ?_⟩, ?_⟩
      · exact below_drewN HBL.out _
      · have := HJ.out
        simp [intOf]
        omega
    · have hjj : ¬ ((j : Int) < (l.length : Int)) := by omega
      clear HA HB c hj
      go_wp2_with fail
      go_ret
      exact ⟨rfl, HBL.out⟩

end Go.Proofs.Ytkpdpdllbnihgab.Hp
