/- ShapesOnce's walk. -/
import Derived.Test.YtiliffnflamkjaaQM
namespace Go.Proofs.Ytiliffnflamkjaa.Sp
open Go.RowKit
set_option linter.unusedVariables false

theorem sh_pre {L R : List Sh} {n : Int} {q : Sh} (h : shOf L n = some q) : shOf (L ++ R) n = some q := by
  unfold shOf at *
  split
  · rename_i c
    rw [if_pos c] at h
    rw [List.getElem?_append_left (List.getElem?_eq_some_iff.1 h).1]
    exact h
  · rename_i c
    rw [if_neg c] at h
    cases h

/-- the same step again -/
theorem add_again (most : Int) (L : List Sh) (n : Int) (k : ByteArray) (f : Int) : addD most (addD most L n k f).1 n k f = addD most L n k f := by
  cases hs : shOf L n with
  | none =>
    have e : addD most L n k f = (L, 0, false) := by unfold addD; rw [hs]
    rw [e]
    exact e
  | some q =>
    cases hi : idx q.ks k with
    | some i =>
      have e : addD most L n k f = (L, 0, false) := by unfold addD; rw [hs]; simp only; rw [hi]
      rw [e]
      exact e
    | none =>
      have e : addD most L n k f = layD most L (grow q k f) := by unfold addD; rw [hs]; simp only; rw [hi]
      cases hh : hit L (grow q k f) with
      | some i =>
        have e2 : layD most L (grow q k f) = (L, (i : Int), true) := by unfold layD; rw [hh]
        rw [e, e2]
        rw [e2] at e
        exact e
      | none =>
        by_cases c : most ≤ (L.length : Int)
        · have e2 : layD most L (grow q k f) = (L, 0, false) := by unfold layD; rw [hh]; simp only; rw [if_pos c]
          rw [e, e2]
          rw [e2] at e
          exact e
        · have e2 : layD most L (grow q k f) = (L ++ [grow q k f], (L.length : Int), true) := by unfold layD; rw [hh]; simp only; rw [if_neg c]
          rw [e, e2]
          simp only
          have e3 : addD most (L ++ [grow q k f]) n k f = layD most (L ++ [grow q k f]) (grow q k f) := by unfold addD; rw [sh_pre hs]; simp only; rw [hi]
          rw [e3]
          exact lay_found (z := grow q k f) (i := L.length) (by simp) ⟨rfl, rfl⟩ (fun j z hj hz => by
            rw [List.getElem?_append_left hj] at hz
            exact hit_none hh j z hz) most

theorem rel_add {T : List Ly} {L : List Sh} (h : Rel T L) (most n : Int) (k : ByteArray) (f : Int) : ∃ T', Rel T' (addD most L n k f).1 := by
  unfold addD
  cases hs : shOf L n with
  | none => exact ⟨T, h⟩
  | some q =>
    simp only
    cases hi : idx q.ks k with
    | some i => exact ⟨T, h⟩
    | none =>
      have : ∃ j : Nat, L[j]? = some q := by
        unfold shOf at hs
        split at hs
        · exact ⟨_, hs⟩
        · cases hs
      obtain ⟨j, hj⟩ := this
      exact rel_lay h (pair_grow hj hi f) most

theorem add_shape {T : List Ly} {L : List Sh} (h : Rel T L) {most n : Int} {k : ByteArray} {f : Int} (ho : (addD most L n k f).2.2 = true) : ∃ (q : Sh) (m : Nat), shOf L n = some q ∧ (addD most L n k f).2.1 = (m : Int) ∧ (addD most L n k f).1[m]? = some (grow q k f) := by
  unfold addD at *
  cases hs : shOf L n with
  | none => rw [hs] at ho; cases ho
  | some q =>
    rw [hs] at ho
    simp only at *
    cases hi : idx q.ks k with
    | some i => rw [hi] at ho; cases ho
    | none =>
      rw [hi] at ho
      simp only at *
      have : ∃ j : Nat, L[j]? = some q := by
        unfold shOf at hs
        split at hs
        · exact ⟨_, hs⟩
        · cases hs
      obtain ⟨j, hj⟩ := this
      obtain ⟨m, g1, g2⟩ := lay_at h (pair_grow hj hi f) most ho
      exact ⟨q, m, rfl, g1, g2⟩

/-- other keys, other flags come to another shape -/
theorem add_other {T : List Ly} {L : List Sh} (h : Rel T L) (most n : Int) (k k' : ByteArray) (f f' : Int) (ho : (addD most L n k f).2.2 = true) (ho' : (addD most (addD most L n k f).1 n k' f').2.2 = true) :
    ((addD most L n k f).2.1 = (addD most (addD most L n k f).1 n k' f').2.1 ↔ (k = k' ∧ f = f')) := by
  constructor
  · intro e
    obtain ⟨q, m, a1, a2, a3⟩ := add_shape h ho
    obtain ⟨T', h'⟩ := rel_add h most n k f
    obtain ⟨q', m', b1, b2, b3⟩ := add_shape h' ho'
    obtain ⟨R0, hR0⟩ := add_pre most L n k f
    rw [hR0, sh_pre a1] at b1
    cases b1
    have em : m = m' := by rw [a2, b2] at e; omega
    subst em
    obtain ⟨R, hR⟩ := add_pre most (addD most L n k f).1 n k' f'
    rw [hR, List.getElem?_append_left (List.getElem?_eq_some_iff.1 a3).1, a3] at b3
    have := Option.some.inj b3
    unfold grow at this
    simp at this
    exact ⟨this.1, this.2.1⟩
  · rintro ⟨rfl, rfl⟩
    rw [add_again]

set_option maxRecDepth 100000 in
set_option maxHeartbeats 16000000 in
theorem once_walk (w : World) (most : Int) (a : Sli Cl) (ha : a.ok clC 5 w) (haw : ∀ o ∈ a.xs, o.wf) (hsz : a.xs.length + 3 ≤ 1048576) (p q : Cl) (hp : p.wf) (hq : q.wf) :
    Calls Try.prog 4 #[.int .i64 most, a.val, .agg #[.int .i64 p.kd, .int .i64 p.sh, .int .i64 p.fl, .int .u64 p.pr, .string p.ke, .int .i64 q.kd, .int .i64 q.sh, .int .i64 q.fl, .int .u64 q.pr, .string q.ke]] w fun e w' => e = .returned (.bool true) ∧ Below w.heap.size w w' := by
  obtain ⟨aa, ac, ax⟩ := a
  obtain ⟨pk, psh, pf, pp, pe⟩ := p
  obtain ⟨qk, qsh, qf, qp, qe⟩ := q
  unfold Sli.val
  simp only at *
  obtain ⟨w0, hw0⟩ : ∃ w0, w0 = w.alloc (.cells #[.int .i64 pk, .int .i64 psh, .int .i64 pf, .int .u64 pp, .string pe, .int .i64 qk, .int .i64 qsh, .int .i64 qf, .int .u64 qp, .string qe] 35) := ⟨_, rfl⟩
  have hb0 : Below w.heap.size w w0 := by rw [hw0]; exact alloc_b _ _
  have s1 : w0.cell? ⟨w.heap.size, 1, none⟩ = some (.int .i64 psh) := by rw [hw0]; exact box_new w _ _ 1 _ rfl
  have s2 : w0.cell? ⟨w.heap.size, 2, none⟩ = some (.int .i64 pf) := by rw [hw0]; exact box_new w _ _ 2 _ rfl
  have s4 : w0.cell? ⟨w.heap.size, 4, none⟩ = some (.string pe) := by rw [hw0]; exact box_new w _ _ 4 _ rfl
  have s7 : w0.cell? ⟨w.heap.size, 7, none⟩ = some (.int .i64 qf) := by rw [hw0]; exact box_new w _ _ 7 _ rfl
  have s9 : w0.cell? ⟨w.heap.size, 9, none⟩ = some (.string qe) := by rw [hw0]; exact box_new w _ _ 9 _ rfl
  have HBX : Hid (∀ W, Below w0.heap.size w0 W → W.cell? ⟨w.heap.size, 1, none⟩ = some (.int .i64 psh) ∧ W.cell? ⟨w.heap.size, 2, none⟩ = some (.int .i64 pf) ∧ W.cell? ⟨w.heap.size, 4, none⟩ = some (.string pe) ∧ W.cell? ⟨w.heap.size, 7, none⟩ = some (.int .i64 qf) ∧ W.cell? ⟨w.heap.size, 9, none⟩ = some (.string qe) ∧ Below w.heap.size w W) := fun W hW => ⟨cells_below hW _ _ s1, cells_below hW _ _ s2, cells_below hW _ _ s4, cells_below hW _ _ s7, cells_below hW _ _ s9, hb0.trans (hW.mono hb0.size)⟩
  have kn := new_any w0 most
  have KA := (show Hid _ from alive_any)
  have HCa : Hid (∀ W, Below w0.heap.size w0 W → Sli.ok clC 5 W ⟨aa, ac, ax⟩) := fun W hW => (ha.kept (cells_below hb0)).kept (cells_below hW)
  have HWFa : Hid ((∀ o ∈ ax, o.wf) ∧ ax.length + 3 ≤ 1048576) := ⟨haw, hsz⟩
  have HPQ : Hid (KeyOk pe pf ∧ KeyOk qe qf) := ⟨hp.key, hq.key⟩
  have hal : (ax.length : Int) ≤ 1048576 := by omega
  clear ha haw hsz hp hq s1 s2 s4 s7 s9 hb0
  by_cases hm0 : most < 0
  · have HEM : Hid (max most 0 = 0) := by show _ = _; omega
    go_enter Try.func4, Try.ntmps4
    go_upto_region 1 with fail
    rw [← hw0]
    clear hw0
    go_wp2_with fail
    refine kn.mono ?_
    rintro e w1 ⟨tb, O, rfl, hT, hb1⟩
    have kal := KA.out
    have HT1 : Hid (Tree w1 w0.heap.size tb O most [] ∧ Below w0.heap.size w0 w1) := ⟨hT, hb1⟩
    clear kn hT hb1 KA
    go_wp2_with fail
    refine (kal _).mono ?_
    rintro e w2 ⟨rfl, hb2⟩
    have hst := LyAt.start (HT1.out.1.below hb2) (HT1.out.2.trans (hb2.mono HT1.out.2.size))
    have HS : Hid (LyAt (fun _ => False) w0 (w2.alloc (.cells #[.int .i64 0, .slice none 0 0] 27)) tb w2.heap.size most 0 [] ⟨none, 0, []⟩) := by rw [HEM.out] at hst; exact hst
    clear kal hb2 hst HT1
    go_upto_region 5 with fail
    generalize hw3 : w2.alloc (.cells #[.int .i64 0, .slice none 0 0] 27) = w3 at *
    generalize w2.heap.size = rb at *
    clear hw3
    go_wp2_with fail
    go_loopw [31] (fun iv wr => ∃ (i : Nat) (L : List Sh) (s : Sli RS), (i ≤ ax.length ∧ LyAt (fun _ => False) w0 wr tb rb most i L s) ∧ iv = .int .i64 i) (fun iv wr => ax.length - (intOf iv).toNat)
    case atStart => exact ⟨0, _, _, ⟨Nat.zero_le _, HS.out⟩, rfl⟩
    case round =>
      clear HS
      obtain ⟨i, L, ⟨sa, sc', sx⟩, ⟨ple, hl⟩, rfl⟩ := hrel
      have HL := (show Hid _ from hl)
      skip
      have bx := hl.box
      simp only at bx
      clear hl 
      rcases Nat.lt_or_ge i ax.length with c | c
      · have hex : ∃ o, ax[i]? = some o := ⟨_, List.getElem?_eq_getElem c⟩
        obtain ⟨o, ho⟩ := hex
        obtain ⟨b, off, e1, hc⟩ := (HCa.out wr HL.out.bel).cells (by intro e; simp only at e; rw [e] at c; simp at c)
        simp only at e1
        subst e1
        have d0 := hc i o ho 0 _ rfl
        have d1 := hc i o ho 1 _ rfl
        have d2 := hc i o ho 2 _ rfl
        have d3 := hc i o ho 3 _ rfl
        have d4 := hc i o ho 4 _ rfl
        rw [Nat.add_zero] at d0
        have cil : (i : Int) < ax.length := by omega
        have ks := (HL.out.below (alloc_b wr (.cells #[.int .i64 o.kd, .int .i64 o.sh, .int .i64 o.fl, .int .u64 o.pr, .string o.ke] 33))).step (Or.inl (by have := HWFa.out.2; omega)) o (HWFa.out.1 o (List.mem_of_getElem? ho))
        have HPRE : Hid (∃ R, (opD most L o).1 = L ++ R) := op_pre _ _ _
        obtain ⟨kd, sh, fl, pr, ke⟩ := o
        unfold clV at ks
        simp only at *
        have bx' : (wr.alloc (.cells #[.int .i64 kd, .int .i64 sh, .int .i64 fl, .int .u64 pr, .string ke] 33)).heap[rb]? = some (.cells #[.int .i64 (max most 0), .slice sa sx.length sc'] 27 (0, 0)) := at_old _ _ _ _ bx
        obtain ⟨w4, hw4⟩ : ∃ w4, w4 = wr.alloc (.cells #[.int .i64 kd, .int .i64 sh, .int .i64 fl, .int .u64 pr, .string ke] 33) := ⟨_, rfl⟩
        have g0 : w4.cell? ⟨wr.heap.size, 0, none⟩ = some (.int .i64 kd) := by rw [hw4]; exact box_new wr _ _ 0 _ rfl
        have g1 : w4.cell? ⟨wr.heap.size, 1, none⟩ = some (.int .i64 sh) := by rw [hw4]; exact box_new wr _ _ 1 _ rfl
        have g2 : w4.cell? ⟨wr.heap.size, 2, none⟩ = some (.int .i64 fl) := by rw [hw4]; exact box_new wr _ _ 2 _ rfl
        have g3 : w4.cell? ⟨wr.heap.size, 3, none⟩ = some (.int .u64 pr) := by rw [hw4]; exact box_new wr _ _ 3 _ rfl
        have g4 : w4.cell? ⟨wr.heap.size, 4, none⟩ = some (.string ke) := by rw [hw4]; exact box_new wr _ _ 4 _ rfl
        have HKEP : Hid (∀ b, (fun _ => False) b → w4.heap[b]? = wr.heap[b]?) := fun b q => by rw [hw4]; exact (alloc_b wr _).block b (HL.out.ylt b q).1
        rw [← hw4] at ks bx'
        have r0 : w4.cell? ⟨rb, 0, none⟩ = some (.int .i64 (max most 0)) := by rw [cell_of_row w4 _ 0 _ 27 (0, 0) bx']; rfl
        have r1 : w4.cell? ⟨rb, 1, none⟩ = some (.slice sa sx.length sc') := by rw [cell_of_row w4 _ 1 _ 27 (0, 0) bx']; rfl
        clear hc ho bx bx'
        go_upto_region 8 with fail
        rw [← hw4]
        clear hw4 d0 d1 d2 d3 d4
        go_wp2_with fail
        refine ks.mono ?_
        rintro e w5 ⟨⟨za, zc, zx⟩, rfl, bx5, hbo5, hbe5, hlo5, hl5, hy5⟩
        have HX := (show Hid (_ ∧ _) from ⟨hl5, hy5⟩)
        have m0 := cell_of_row w5 rb 0 _ 27 (0, 0) bx5
        have m1 := cell_of_row w5 rb 1 _ 27 (0, 0) bx5
        have n0 := frozen_of_row w5 rb 0 _ 27 bx5
        have n1 := frozen_of_row w5 rb 1 _ 27 bx5
        clear hl5 bx5 hbo5 hbe5 hlo5 hy5 ks r0 r1 g0 g1 g2 g3 g4
        go_wp2_with fail
        refine ⟨⟨i + 1, _, ⟨za, zc, zx⟩, ⟨c, HX.out.1⟩, by go_num⟩, ?_⟩
        simp [intOf]
        omega
      · have cil : ¬ (i : Int) < ax.length := by omega
        obtain ⟨O1, hT1, hR1, hX1⟩ := HL.out.both
        have hBw : Below w0.heap.size w0 wr := HL.out.bel
        have hrel2 : ∃ T, Rel T L := by obtain ⟨T, v, mb, h⟩ := hT1; exact ⟨T, h.rel⟩
        obtain ⟨T0, hr0⟩ := hrel2
        obtain ⟨T1, hr1⟩ := rel_add hr0 most psh pe pf
        have hag := add_again most L psh pe pf
        have hot := add_other hr0 most psh pe qe pf qf
        have f0 := HL.out.fits
        have f1 : Fits most (addD most L psh pe pf).1 (i + 1) := f0.next hr0 ⟨1, psh, pf, 0, pe⟩
        have r0 := (f0.room (by have := HWFa.out.2; omega)).one
        have r1 := (f1.room (by have := HWFa.out.2; omega)).one
        have k1 := add_any wr w0.heap.size tb O1 most L hT1 psh pe pf HPQ.out.1 r0
        have HLT := (show Hid _ from hT1.lt)
        have K2 : Hid (∀ W O', Tree W w0.heap.size tb O' most (addD most L psh pe pf).1 → Calls Try.prog 11 #[.pointer (some ⟨tb, 0, none⟩), .int .i64 psh, .string pe, .int .i64 pf] W fun e w' => e = .returned (.tuple #[.int .i64 (addD most L psh pe pf).2.1, .bool (addD most L psh pe pf).2.2]) ∧ Went W w0.heap.size tb O' most (addD most L psh pe pf).1 w') := fun W O' hW => by
          have := add_any W w0.heap.size tb O' most _ hW psh pe pf HPQ.out.1 r1
          rw [hag] at this
          exact this
        have K3 : Hid (∀ W O', Tree W w0.heap.size tb O' most (addD most L psh pe pf).1 → Calls Try.prog 11 #[.pointer (some ⟨tb, 0, none⟩), .int .i64 psh, .string qe, .int .i64 qf] W fun e w' => e = .returned (.tuple #[.int .i64 (addD most (addD most L psh pe pf).1 psh qe qf).2.1, .bool (addD most (addD most L psh pe pf).1 psh qe qf).2.2]) ∧ Went W w0.heap.size tb O' most (addD most (addD most L psh pe pf).1 psh qe qf).1 w') := fun W O' hW => add_any W w0.heap.size tb O' most _ hW psh qe qf HPQ.out.2 r1
        have HTB : Hid (∀ W O' L', Tree W w0.heap.size tb O' most L' → ∀ b, O' b → w0.heap.size ≤ b) := fun W O' L' h b q => (h.lt b q).1
        have HBB : Hid (Below w0.heap.size w0 wr) := hBw
        obtain ⟨z1, z2, z4, z7, z9, _⟩ := HBX.out wr hBw
        generalize hR3 : addD most (addD most L psh pe pf).1 psh qe qf = R3 at *
        generalize hR1' : addD most L psh pe pf = R1 at *
        clear hR3 hR1' hag f0 f1 r0 r1 hr0 hr1 hT1 hR1 hX1 hBw HCa bx HL
        obtain ⟨L1, n1, ok1⟩ := R1
        obtain ⟨L3, n3, ok3⟩ := R3
        simp only at *
        go_wp2_with fail
        refine k1.mono ?_
        rintro e w4 ⟨rfl, O4, hT4, hc4, ho4⟩
        have hb4 : Below w0.heap.size w0 w4 := hc4.below HBB.out HBB.out.size (fun b q => (HLT.out b q).1)
        obtain ⟨z1, z2, z4, z7, z9, _⟩ := HBX.out w4 hb4
        have k2 := K2.out w4 O4 hT4
        have HB4 : Hid (Below w0.heap.size w0 w4 ∧ ∀ b, O4 b → w0.heap.size ≤ b) := ⟨hb4, HTB.out w4 O4 _ hT4⟩
        clear k1 hT4 hc4 ho4 hb4 K2
        go_wp2_with fail
        refine k2.mono ?_
        rintro e w5 ⟨rfl, O5, hT5, hc5, ho5⟩
        have hb5 : Below w0.heap.size w0 w5 := hc5.below HB4.out.1 HB4.out.1.size HB4.out.2
        obtain ⟨z1, z2, z4, z7, z9, _⟩ := HBX.out w5 hb5
        have k3 := K3.out w5 O5 hT5
        have HB5 : Hid (Below w0.heap.size w0 w5 ∧ ∀ b, O5 b → w0.heap.size ≤ b) := ⟨hb5, HTB.out w5 O5 _ hT5⟩
        clear k2 hT5 hc5 ho5 hb5 K3
        go_wp2_with fail
        refine k3.mono ?_
        rintro e w6 ⟨rfl, O6, hT6, hc6, ho6⟩
        have hb6 : Below w0.heap.size w0 w6 := hc6.below HB5.out.1 HB5.out.1.size HB5.out.2
        obtain ⟨z1, z2, z4, z7, z9, hbw⟩ := HBX.out w6 hb6
        have HBF : Hid (Below w.heap.size w w6) := hbw
        clear k3 hT6 hc6 ho6 hb6 hbw HB4 HB5 HTB HBX
        have t1 : (n1 == n1) = true := by simp
        by_cases u1 : pe = qe
        · subst u1
          have t2 := bytes_yes pe
          by_cases u2 : pf = qf
          · subst u2
            have t3 : (pf == pf) = true := by simp
            cases ok1 with
            | false =>
              go_wp2_with fail
              go_ret
              exact ⟨rfl, HBF.out⟩
            | true =>
              cases ok3 with
              | false =>
                go_wp2_with fail
                go_ret
                exact ⟨rfl, HBF.out⟩
              | true =>
                have e3 : n1 = n3 := (hot rfl rfl).2 ⟨rfl, rfl⟩
                have t4 : (n1 == n3) = true := by simpa using e3
                clear e3 hot
                go_wp2_with fail
                go_ret
                exact ⟨rfl, HBF.out⟩
          · have t3 : (pf == qf) = false := by simpa using u2
            cases ok1 with
            | false =>
              go_wp2_with fail
              go_ret
              exact ⟨rfl, HBF.out⟩
            | true =>
              cases ok3 with
              | false =>
                go_wp2_with fail
                go_ret
                exact ⟨rfl, HBF.out⟩
              | true =>
                have e3 : ¬ n1 = n3 := fun e => u2 ((hot rfl rfl).1 e).2
                have t4 : (n1 == n3) = false := by simpa using e3
                clear e3 hot
                go_wp2_with fail
                go_ret
                exact ⟨rfl, HBF.out⟩
        · have t2 := bytes_no u1
          cases ok1 with
          | false =>
            go_wp2_with fail
            go_ret
            exact ⟨rfl, HBF.out⟩
          | true =>
            cases ok3 with
            | false =>
              go_wp2_with fail
              go_ret
              exact ⟨rfl, HBF.out⟩
            | true =>
              have e3 : ¬ n1 = n3 := fun e => u1 ((hot rfl rfl).1 e).1
              have t4 : (n1 == n3) = false := by simpa using e3
              clear e3 hot
              go_wp2_with fail
              go_ret
              exact ⟨rfl, HBF.out⟩
  · have HEM : Hid (max most 0 = most) := by show _ = _; omega
    have hm1 : 0 ≤ most := by omega
    go_enter Try.func4, Try.ntmps4
    go_upto_region 1 with fail
    rw [← hw0]
    clear hw0
    go_wp2_with fail
    refine kn.mono ?_
    rintro e w1 ⟨tb, O, rfl, hT, hb1⟩
    have kal := KA.out
    have HT1 : Hid (Tree w1 w0.heap.size tb O most [] ∧ Below w0.heap.size w0 w1) := ⟨hT, hb1⟩
    clear kn hT hb1 KA
    go_wp2_with fail
    refine (kal _).mono ?_
    rintro e w2 ⟨rfl, hb2⟩
    have hst := LyAt.start (HT1.out.1.below hb2) (HT1.out.2.trans (hb2.mono HT1.out.2.size))
    have HS : Hid (LyAt (fun _ => False) w0 (w2.alloc (.cells #[.int .i64 most, .slice none 0 0] 27)) tb w2.heap.size most 0 [] ⟨none, 0, []⟩) := by rw [HEM.out] at hst; exact hst
    clear kal hb2 hst HT1
    go_upto_region 5 with fail
    generalize hw3 : w2.alloc (.cells #[.int .i64 most, .slice none 0 0] 27) = w3 at *
    generalize w2.heap.size = rb at *
    clear hw3
    go_wp2_with fail
    go_loopw [31] (fun iv wr => ∃ (i : Nat) (L : List Sh) (s : Sli RS), (i ≤ ax.length ∧ LyAt (fun _ => False) w0 wr tb rb most i L s) ∧ iv = .int .i64 i) (fun iv wr => ax.length - (intOf iv).toNat)
    case atStart => exact ⟨0, _, _, ⟨Nat.zero_le _, HS.out⟩, rfl⟩
    case round =>
      clear HS
      obtain ⟨i, L, ⟨sa, sc', sx⟩, ⟨ple, hl⟩, rfl⟩ := hrel
      have HL := (show Hid _ from hl)
      skip
      have bx := hl.box
      simp only at bx
      clear hl 
      rcases Nat.lt_or_ge i ax.length with c | c
      · have hex : ∃ o, ax[i]? = some o := ⟨_, List.getElem?_eq_getElem c⟩
        obtain ⟨o, ho⟩ := hex
        obtain ⟨b, off, e1, hc⟩ := (HCa.out wr HL.out.bel).cells (by intro e; simp only at e; rw [e] at c; simp at c)
        simp only at e1
        subst e1
        have d0 := hc i o ho 0 _ rfl
        have d1 := hc i o ho 1 _ rfl
        have d2 := hc i o ho 2 _ rfl
        have d3 := hc i o ho 3 _ rfl
        have d4 := hc i o ho 4 _ rfl
        rw [Nat.add_zero] at d0
        have cil : (i : Int) < ax.length := by omega
        have ks := (HL.out.below (alloc_b wr (.cells #[.int .i64 o.kd, .int .i64 o.sh, .int .i64 o.fl, .int .u64 o.pr, .string o.ke] 33))).step (Or.inl (by have := HWFa.out.2; omega)) o (HWFa.out.1 o (List.mem_of_getElem? ho))
        have HPRE : Hid (∃ R, (opD most L o).1 = L ++ R) := op_pre _ _ _
        obtain ⟨kd, sh, fl, pr, ke⟩ := o
        unfold clV at ks
        simp only at *
        have bx' : (wr.alloc (.cells #[.int .i64 kd, .int .i64 sh, .int .i64 fl, .int .u64 pr, .string ke] 33)).heap[rb]? = some (.cells #[.int .i64 (max most 0), .slice sa sx.length sc'] 27 (0, 0)) := at_old _ _ _ _ bx
        obtain ⟨w4, hw4⟩ : ∃ w4, w4 = wr.alloc (.cells #[.int .i64 kd, .int .i64 sh, .int .i64 fl, .int .u64 pr, .string ke] 33) := ⟨_, rfl⟩
        have g0 : w4.cell? ⟨wr.heap.size, 0, none⟩ = some (.int .i64 kd) := by rw [hw4]; exact box_new wr _ _ 0 _ rfl
        have g1 : w4.cell? ⟨wr.heap.size, 1, none⟩ = some (.int .i64 sh) := by rw [hw4]; exact box_new wr _ _ 1 _ rfl
        have g2 : w4.cell? ⟨wr.heap.size, 2, none⟩ = some (.int .i64 fl) := by rw [hw4]; exact box_new wr _ _ 2 _ rfl
        have g3 : w4.cell? ⟨wr.heap.size, 3, none⟩ = some (.int .u64 pr) := by rw [hw4]; exact box_new wr _ _ 3 _ rfl
        have g4 : w4.cell? ⟨wr.heap.size, 4, none⟩ = some (.string ke) := by rw [hw4]; exact box_new wr _ _ 4 _ rfl
        have HKEP : Hid (∀ b, (fun _ => False) b → w4.heap[b]? = wr.heap[b]?) := fun b q => by rw [hw4]; exact (alloc_b wr _).block b (HL.out.ylt b q).1
        rw [← hw4] at ks bx'
        have r0 : w4.cell? ⟨rb, 0, none⟩ = some (.int .i64 (max most 0)) := by rw [cell_of_row w4 _ 0 _ 27 (0, 0) bx']; rfl
        have r1 : w4.cell? ⟨rb, 1, none⟩ = some (.slice sa sx.length sc') := by rw [cell_of_row w4 _ 1 _ 27 (0, 0) bx']; rfl
        clear hc ho bx bx'
        go_upto_region 8 with fail
        rw [← hw4]
        clear hw4 d0 d1 d2 d3 d4
        go_wp2_with fail
        refine ks.mono ?_
        rintro e w5 ⟨⟨za, zc, zx⟩, rfl, bx5, hbo5, hbe5, hlo5, hl5, hy5⟩
        have HX := (show Hid (_ ∧ _) from ⟨hl5, hy5⟩)
        have m0 := cell_of_row w5 rb 0 _ 27 (0, 0) bx5
        have m1 := cell_of_row w5 rb 1 _ 27 (0, 0) bx5
        have n0 := frozen_of_row w5 rb 0 _ 27 bx5
        have n1 := frozen_of_row w5 rb 1 _ 27 bx5
        clear hl5 bx5 hbo5 hbe5 hlo5 hy5 ks r0 r1 g0 g1 g2 g3 g4
        go_wp2_with fail
        refine ⟨⟨i + 1, _, ⟨za, zc, zx⟩, ⟨c, HX.out.1⟩, by go_num⟩, ?_⟩
        simp [intOf]
        omega
      · have cil : ¬ (i : Int) < ax.length := by omega
        obtain ⟨O1, hT1, hR1, hX1⟩ := HL.out.both
        have hBw : Below w0.heap.size w0 wr := HL.out.bel
        have hrel2 : ∃ T, Rel T L := by obtain ⟨T, v, mb, h⟩ := hT1; exact ⟨T, h.rel⟩
        obtain ⟨T0, hr0⟩ := hrel2
        obtain ⟨T1, hr1⟩ := rel_add hr0 most psh pe pf
        have hag := add_again most L psh pe pf
        have hot := add_other hr0 most psh pe qe pf qf
        have f0 := HL.out.fits
        have f1 : Fits most (addD most L psh pe pf).1 (i + 1) := f0.next hr0 ⟨1, psh, pf, 0, pe⟩
        have r0 := (f0.room (by have := HWFa.out.2; omega)).one
        have r1 := (f1.room (by have := HWFa.out.2; omega)).one
        have k1 := add_any wr w0.heap.size tb O1 most L hT1 psh pe pf HPQ.out.1 r0
        have HLT := (show Hid _ from hT1.lt)
        have K2 : Hid (∀ W O', Tree W w0.heap.size tb O' most (addD most L psh pe pf).1 → Calls Try.prog 11 #[.pointer (some ⟨tb, 0, none⟩), .int .i64 psh, .string pe, .int .i64 pf] W fun e w' => e = .returned (.tuple #[.int .i64 (addD most L psh pe pf).2.1, .bool (addD most L psh pe pf).2.2]) ∧ Went W w0.heap.size tb O' most (addD most L psh pe pf).1 w') := fun W O' hW => by
          have := add_any W w0.heap.size tb O' most _ hW psh pe pf HPQ.out.1 r1
          rw [hag] at this
          exact this
        have K3 : Hid (∀ W O', Tree W w0.heap.size tb O' most (addD most L psh pe pf).1 → Calls Try.prog 11 #[.pointer (some ⟨tb, 0, none⟩), .int .i64 psh, .string qe, .int .i64 qf] W fun e w' => e = .returned (.tuple #[.int .i64 (addD most (addD most L psh pe pf).1 psh qe qf).2.1, .bool (addD most (addD most L psh pe pf).1 psh qe qf).2.2]) ∧ Went W w0.heap.size tb O' most (addD most (addD most L psh pe pf).1 psh qe qf).1 w') := fun W O' hW => add_any W w0.heap.size tb O' most _ hW psh qe qf HPQ.out.2 r1
        have HTB : Hid (∀ W O' L', Tree W w0.heap.size tb O' most L' → ∀ b, O' b → w0.heap.size ≤ b) := fun W O' L' h b q => (h.lt b q).1
        have HBB : Hid (Below w0.heap.size w0 wr) := hBw
        obtain ⟨z1, z2, z4, z7, z9, _⟩ := HBX.out wr hBw
        generalize hR3 : addD most (addD most L psh pe pf).1 psh qe qf = R3 at *
        generalize hR1' : addD most L psh pe pf = R1 at *
        clear hR3 hR1' hag f0 f1 r0 r1 hr0 hr1 hT1 hR1 hX1 hBw HCa bx HL
        obtain ⟨L1, n1, ok1⟩ := R1
        obtain ⟨L3, n3, ok3⟩ := R3
        simp only at *
        go_wp2_with fail
        refine k1.mono ?_
        rintro e w4 ⟨rfl, O4, hT4, hc4, ho4⟩
        have hb4 : Below w0.heap.size w0 w4 := hc4.below HBB.out HBB.out.size (fun b q => (HLT.out b q).1)
        obtain ⟨z1, z2, z4, z7, z9, _⟩ := HBX.out w4 hb4
        have k2 := K2.out w4 O4 hT4
        have HB4 : Hid (Below w0.heap.size w0 w4 ∧ ∀ b, O4 b → w0.heap.size ≤ b) := ⟨hb4, HTB.out w4 O4 _ hT4⟩
        clear k1 hT4 hc4 ho4 hb4 K2
        go_wp2_with fail
        refine k2.mono ?_
        rintro e w5 ⟨rfl, O5, hT5, hc5, ho5⟩
        have hb5 : Below w0.heap.size w0 w5 := hc5.below HB4.out.1 HB4.out.1.size HB4.out.2
        obtain ⟨z1, z2, z4, z7, z9, _⟩ := HBX.out w5 hb5
        have k3 := K3.out w5 O5 hT5
        have HB5 : Hid (Below w0.heap.size w0 w5 ∧ ∀ b, O5 b → w0.heap.size ≤ b) := ⟨hb5, HTB.out w5 O5 _ hT5⟩
        clear k2 hT5 hc5 ho5 hb5 K3
        go_wp2_with fail
        refine k3.mono ?_
        rintro e w6 ⟨rfl, O6, hT6, hc6, ho6⟩
        have hb6 : Below w0.heap.size w0 w6 := hc6.below HB5.out.1 HB5.out.1.size HB5.out.2
        obtain ⟨z1, z2, z4, z7, z9, hbw⟩ := HBX.out w6 hb6
        have HBF : Hid (Below w.heap.size w w6) := hbw
        clear k3 hT6 hc6 ho6 hb6 hbw HB4 HB5 HTB HBX
        have t1 : (n1 == n1) = true := by simp
        by_cases u1 : pe = qe
        · subst u1
          have t2 := bytes_yes pe
          by_cases u2 : pf = qf
          · subst u2
            have t3 : (pf == pf) = true := by simp
            cases ok1 with
            | false =>
              go_wp2_with fail
              go_ret
              exact ⟨rfl, HBF.out⟩
            | true =>
              cases ok3 with
              | false =>
                go_wp2_with fail
                go_ret
                exact ⟨rfl, HBF.out⟩
              | true =>
                have e3 : n1 = n3 := (hot rfl rfl).2 ⟨rfl, rfl⟩
                have t4 : (n1 == n3) = true := by simpa using e3
                clear e3 hot
                go_wp2_with fail
                go_ret
                exact ⟨rfl, HBF.out⟩
          · have t3 : (pf == qf) = false := by simpa using u2
            cases ok1 with
            | false =>
              go_wp2_with fail
              go_ret
              exact ⟨rfl, HBF.out⟩
            | true =>
              cases ok3 with
              | false =>
                go_wp2_with fail
                go_ret
                exact ⟨rfl, HBF.out⟩
              | true =>
                have e3 : ¬ n1 = n3 := fun e => u2 ((hot rfl rfl).1 e).2
                have t4 : (n1 == n3) = false := by simpa using e3
                clear e3 hot
                go_wp2_with fail
                go_ret
                exact ⟨rfl, HBF.out⟩
        · have t2 := bytes_no u1
          cases ok1 with
          | false =>
            go_wp2_with fail
            go_ret
            exact ⟨rfl, HBF.out⟩
          | true =>
            cases ok3 with
            | false =>
              go_wp2_with fail
              go_ret
              exact ⟨rfl, HBF.out⟩
            | true =>
              have e3 : ¬ n1 = n3 := fun e => u1 ((hot rfl rfl).1 e).1
              have t4 : (n1 == n3) = false := by simpa using e3
              clear e3 hot
              go_wp2_with fail
              go_ret
              exact ⟨rfl, HBF.out⟩

end Go.Proofs.Ytiliffnflamkjaa.Sp
