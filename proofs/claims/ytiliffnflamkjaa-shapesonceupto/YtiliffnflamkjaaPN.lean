/- Move: the walk; New. -/
import Derived.Test.YtiliffnflamkjaaPM
namespace Go.Proofs.Ytiliffnflamkjaa.Sp
open Go.RowKit
set_option linter.unusedVariables false

theorem keys_ok {T : List Ly} {L : List Sh} (h : Rel T L) (hw : ∀ x ∈ T, x.wf) : ∀ (n j : Nat) (s : Sh), j < n → L[j]? = some s → (∀ k ∈ s.ks, k.size ≤ maxLen) ∧ (∀ f ∈ s.fs, -9223372036854775808 ≤ f ∧ f ≤ 9223372036854775807) ∧ 0 ≤ s.pr ∧ s.pr ≤ 18446744073709551615
  | 0, j, s, hj, _ => by omega
  | n + 1, j, s, hj, hs => by
    obtain ⟨l, g1, g2, g3, g4⟩ := h.at' hs
    have hl := hw l (List.mem_of_getElem? g1)
    have hpr := pair_pr g2
    refine ⟨?_, ?_, by rw [← hpr]; exact hl.pr1, by rw [← hpr]; exact hl.pr2⟩
    · rcases g2 with ⟨_, e⟩ | ⟨q, a1, a2, _, _, _, _, _, rfl⟩ | ⟨q, a1, a2, _, _, _, _, rfl⟩
      · rw [e]; intro k hk; simp at hk
      · intro k hk
        simp only [grow, List.mem_append, List.mem_singleton] at hk
        rcases hk with hk | hk
        · exact (keys_ok h hw n _ q (by omega) a2).1 k hk
        · rw [hk]; exact hl.ke
      · exact (keys_ok h hw n _ q (by omega) a2).1
    · rcases g2 with ⟨_, e⟩ | ⟨q, a1, a2, _, _, _, _, _, rfl⟩ | ⟨q, a1, a2, _, _, _, _, rfl⟩
      · rw [e]; intro k hk; simp at hk
      · intro k hk
        simp only [grow, List.mem_append, List.mem_singleton] at hk
        rcases hk with hk | hk
        · exact (keys_ok h hw n _ q (by omega) a2).2.1 k hk
        · rw [hk]; exact ⟨hl.fl1, hl.fl2⟩
      · intro k hk
        simp only [chg] at hk
        rcases List.mem_or_eq_of_mem_set hk with hk | hk
        · exact (keys_ok h hw n _ q (by omega) a2).2.1 k hk
        · rw [hk]; exact ⟨hl.fl1, hl.fl2⟩

theorem TreeAt.keyOk {w : World} {B tb : Nat} {O : Nat → Prop} {most : Int} {L : List Sh} {T : List Ly} {v : Value} {mb : Nat} (h : TreeAt w B tb O most L T v mb) {j i : Nat} {s : Sh} {k : ByteArray} {f : Int} (hs : L[j]? = some s) (h1 : s.ks[i]? = some k) (h2 : s.fs[i]? = some f) : KeyOk k f := by
  obtain ⟨a, b, _⟩ := keys_ok h.rel h.wf (j + 1) j s (by omega) hs
  have := b f (List.mem_of_getElem? h2)
  exact ⟨a k (List.mem_of_getElem? h1), this.1, this.2⟩

set_option maxRecDepth 100000 in
set_option maxHeartbeats 4000000 in
theorem move_any (w : World) (B tb : Nat) (O : Nat → Prop) (most : Int) (L : List Sh) (h : Tree w B tb O most L) (n : Int) (p : Int) (hp1 : 0 ≤ p) (hp2 : p ≤ 18446744073709551615) (hroom : most ≤ top ∨ ∀ s ∈ L, L.length + s.ks.length + 1 ≤ top) :
    Calls Try.prog 21 #[.pointer (some ⟨tb, 0, none⟩), .int .i64 n, .int .u64 p] w fun e w' => e = .returned (.tuple #[.int .i64 (moveD most L n p).2.1, .bool (moveD most L n p).2.2]) ∧ Went w B tb O most (moveD most L n p).1 w' := by
  have kc := there_any w B tb O most L h n
  have HT : Hid (Tree w B tb O most L) := h
  cases ht : thereB L n with
  | false =>
    rw [ht] at kc
    have e0 : moveD most L n p = (L, 0, false) := by unfold moveD; rw [there_not ht]
    rw [e0]
    clear h hroom e0
    go_enter Try.func21, Try.ntmps21
    go_wp2_with fail
    refine kc.mono ?_
    rintro e w2 ⟨rfl, rfl⟩
    clear kc
    go_wp2_with fail
    go_ret2
    exact ⟨rfl, Went.same HT.out (Below.refl _ _)⟩
  | true =>
    rw [ht] at kc
    obtain ⟨j, S, rfl, hs, hs2, hj⟩ := there_of ht
    have e0 : moveD most L j p = movD most (S.ks.zip S.fs) (rootD most L p) := by unfold moveD; rw [hs2]
    rw [e0]
    have hroom2 : most ≤ top ∨ L.length + S.ks.length + 1 ≤ top := hroom.imp id (fun q => q S (List.mem_of_getElem? hs))
    have kr := root_any w B tb O most L h p hp1 hp2 (hroom2.imp id (fun q => by omega))
    obtain ⟨T, v, mb, h⟩ := h
    have hcap := h.cap
    have hfin := h.rel.fin hs
    have hkl := hfin.kl
    have hks : (S.ks.length : Int) ≤ 1700000000000 := by unfold top at hcap; omega
    have HF : Hid (Fine S j) := hfin
    have HKO : Hid (∀ (i : Nat) (k : ByteArray) (f : Int), S.ks[i]? = some k → S.fs[i]? = some f → KeyOk k f) := fun i k f h1 h2 => h.keyOk hs h1 h2
    have HM : Hid (MvP most L S (movD most (S.ks.zip S.fs) (rootD most L p)) 0 (rootD most L p)) := MvP.start S p h.rel
    have HRO : Hid (most ≤ top ∨ L.length + S.ks.length + 1 ≤ top) := hroom2
    have HPR : Hid (∀ w1, Went w B tb O most (rootD most L p).1 w1 → Calls Try.prog 26 #[.pointer (some ⟨tb, 0, none⟩), .int .i64 (j : Int)] w1 fun e w' => ∃ g, e = .returned (.slice (some ⟨g, 0, none⟩) S.ks.length S.ks.length) ∧ MvAt w w' B tb O most L S (movD most (S.ks.zip S.fs) (rootD most L p)) g 0 (rootD most L p).2.1 (rootD most L p).2.2) := fun w1 ⟨O1, g1, g2, g3⟩ => by
      have hs1 : (rootD most L p).1[j]? = some S := by
        unfold rootD layD
        cases hit L ⟨p, [], [], []⟩ with
        | some i => exact hs
        | none =>
          simp only
          split
          · exact hs
          · simp only; rw [List.getElem?_append_left hj]; exact hs
      refine (props_any w1 B tb O1 most _ g1 j S hs1).mono ?_
      rintro e w2 ⟨g, rfl, k1, k2, k3⟩
      refine ⟨g, rfl, ⟨⟨_, O1, rfl, rfl, HM.out, g1.below k3, fun q => ?_, g3⟩, k1, g2.trans (Chg.of_below (S := fun _ => False) k3) (fun _ _ q => q.elim)⟩⟩
      have := (g1.lt g q).2
      omega
    generalize movD most (S.ks.zip S.fs) (rootD most L p) = R at *
    generalize rootD most L p = r0 at *
    obtain ⟨L0, n0, ok0⟩ := r0
    simp only at kr HPR
    clear h hs hs2 e0 hcap hfin hkl ht hroom hroom2 HM HT
    go_enter Try.func21, Try.ntmps21
    go_wp2_with fail
    refine kc.mono ?_
    rintro e w2 ⟨rfl, rfl⟩
    clear kc
    go_wp2_with fail
    refine kr.mono ?_
    rintro e w3 ⟨rfl, hw3⟩
    have kp := HPR.out w3 hw3
    clear kr HPR hw3
    go_wp2_with fail
    refine kp.mono ?_
    rintro e w4 ⟨g, rfl, hmv⟩
    have HI := (show Hid _ from hmv)
    clear kp hmv
    go_wp2_with fail
    go_loopw [8, 9, 26] (fun n ok i wr => ∃ (m : Nat) (nn : Int) (bb : Bool), MvAt w2 wr B tb O most L S R g m nn bb ∧ n = .int .i64 nn ∧ ok = .bool bb ∧ i = .int .i64 m) (fun n ok i wr => S.ks.length - (intOf i).toNat)
    case atStart => exact ⟨0, n0, ok0, HI.out, rfl, rfl, rfl⟩
    case round =>
      clear HI
      obtain ⟨m, nn, bb, hr, rfl, rfl, rfl⟩ := hrel
      have HR := (show Hid _ from hr)
      have ple : m ≤ S.ks.length := by obtain ⟨r, O', _, _, h3, _⟩ := hr.at'; exact h3.le
      clear hr
      rcases Nat.lt_or_ge m S.ks.length with c | c
      · obtain ⟨ky, fl, k1, k2, k3⟩ := props_at HF.out.fl m c
        obtain ⟨p0, _⟩ := HR.out.pr.cell m _ k3 0 _ rfl
        obtain ⟨p1, _⟩ := HR.out.pr.cell m _ k3 1 _ rfl
        obtain ⟨p2, _⟩ := HR.out.pr.cell m _ k3 2 _ rfl
        rw [Nat.add_zero] at p0
        simp only at p0 p1 p2
        have HA : Hid (∀ o, Below wr.heap.size wr (wr.alloc o)) := fun o => (Below.refl _ _).alloc (Nat.le_refl _) _
        cases bb with
        | false =>
          obtain ⟨q1, q2, q3⟩ := HR.out.went (Or.inl rfl) HF.out.fl
          have hz := HR.out.zero
          have HE : Hid (Went w2 B tb O most R.1 (wr.alloc (.cells #[.string ky, .int .i64 fl, .bool true] 63))) := q3.trans (fun O' hO' => Went.same hO' (HA.out _))
          have HQ : Hid (R.2.1 = 0 ∧ R.2.2 = false) := ⟨by rw [q1, hz], q2⟩
          clear q1 q2 q3 hz HR k1 k2 k3
          go_wp2_with fail
          go_ret2
          refine ⟨?_, HE.out⟩
          rw [HQ.out.1, HQ.out.2]
          rfl
        | true =>
          obtain ⟨r, O', h1, h2, h3, h4, h5, h6⟩ := HR.out.at'
          obtain ⟨mm, q, y1, y2, y3⟩ := h3.yes h2
          obtain ⟨T', v', mb', h4'⟩ := h4
          have hnx := h3.next HF.out h4'.rel h2 y1 y2 y3 k1 k2
          have hlen := h3.len
          rw [y1] at h1
          subst h1
          have kl := lay_any (wr.alloc (.cells #[.string ky, .int .i64 fl, .bool true] 63)) B tb O' most r.1 ((show Tree wr B tb O' most r.1 from ⟨T', v', mb', h4'⟩).below (HA.out _)) mm q y2 ky fl (HKO.out m ky fl k1 k2) hnx.1 (HRO.out.imp id (fun q => by omega))
          have hgl := HR.out.pr.lt
          have HN : Hid (∀ w5, Went (wr.alloc (.cells #[.string ky, .int .i64 fl, .bool true] 63)) B tb O' most (layD most r.1 (grow q ky fl)).1 w5 → MvAt w2 w5 B tb O most L S R g (m + 1) (layD most r.1 (grow q ky fl)).2.1 (layD most r.1 (grow q ky fl)).2.2) := fun w5 ⟨O5, z1, z2, z3⟩ => by
            have hc5 : Chg O' wr w5 := (Chg.of_below (HA.out _)).trans z2 (fun _ _ q => q)
            refine ⟨⟨_, O5, rfl, rfl, hnx.2, z1, fun q => ?_, fun b q => ?_⟩, HR.out.pr.kept hc5 h5, HR.out.chg.trans hc5 (fun i hi q => ?_)⟩
            · rcases z3 g q with q | q
              · exact h5 q
              · have := (HA.out (.cells #[.string ky, .int .i64 fl, .bool true] 63)).size
                omega
            · rcases z3 b q with q | q
              · exact h6 b q
              · have := (HA.out (.cells #[.string ky, .int .i64 fl, .bool true] 63)).size
                have := HR.out.chg.size
                exact Or.inr (by omega)
            · rcases h6 i q with q | q
              · exact q
              · omega
          generalize layD most r.1 (grow q ky fl) = r5 at *
          obtain ⟨L5, n5, ok5⟩ := r5
          simp only at kl HN
          clear HR k1 k2 k3 h2 h3 h4' h5 h6 y1 y2 y3 hnx hlen hgl HA
          go_wp2_with fail
          refine kl.mono ?_
          rintro e w5 ⟨rfl, hw5⟩
          have HX := (show Hid _ from HN.out w5 hw5)
          clear kl HN hw5
          go_wp2_with fail
          refine ⟨⟨m + 1, n5, ok5, HX.out, rfl, rfl, by go_num⟩, ?_⟩
          simp [intOf]
          omega
      · have hm : m = S.ks.length := by omega
        obtain ⟨q1, q2, q3⟩ := HR.out.went (Or.inr hm) HF.out.fl
        have HE := (show Hid _ from q3)
        have HQ : Hid (R.2.1 = nn ∧ R.2.2 = bb) := ⟨q1, q2⟩
        clear q1 q2 q3 HR
        go_wp2_with fail
        go_ret2
        refine ⟨?_, HE.out⟩
        rw [HQ.out.1, HQ.out.2]
        rfl

set_option maxRecDepth 100000 in
theorem new_any (w : World) (most : Int) :
    Calls Try.prog 8 #[.int .i64 most] w fun e w' => ∃ tb O, e = .returned (.pointer (some ⟨tb, 0, none⟩)) ∧ Tree w' w.heap.size tb O most [] ∧ Below w.heap.size w w' := by
  have HM : Hid (∀ w' , w' = (w.alloc (.map #[] 0)).alloc (.cells #[.int .i64 most, .slice none 0 0, .map (some w.heap.size)] 51) → Tree w' w.heap.size (w.heap.size + 1) (fun b => b = w.heap.size + 1 ∨ b = w.heap.size ∨ (Value.slice none 0 0).ownBlock = some b) most [] ∧ Below w.heap.size w w') := by
    rintro w' rfl
    refine ⟨⟨[], .slice none 0 0, w.heap.size, ⟨at_two _ _ _, OwnR.nil _ _, ⟨#[], 0, at_old _ _ _ _ (at_new _ _), rfl⟩, ⟨rfl, fun i l s h => by simp at h, fun i j a b h => by simp at h⟩, fun x hx => by simp at hx, by simp, by omega, by omega, by omega, by simp [Value.ownBlock], by simp [Value.ownBlock], fun b => Iff.rfl⟩⟩, B2 _ _ _⟩
  have hmm : (Instr.makeMap 48 none).run Try.prog w = .ok (.map (some w.heap.size)) (w.alloc (.map #[] 0)) := rfl
  go_enter Try.func8, Try.ntmps8
  go_wp2_with fail
  go_ret
  obtain ⟨h1, h2⟩ := HM.out _ rfl
  exact ⟨_, _, rfl, h1, h2⟩

end Go.Proofs.Ytiliffnflamkjaa.Sp
