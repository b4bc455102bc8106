/- lay, Root, Add, Change. -/
import Derived.Test.YtahhionlbfhinaaGreatDoorPG
namespace Go.Proofs.YtahhionlbfhinaaGreatDoor.Sp
open Go.RowKit Go.Proofs.YtahhionlbfhinaaGreatDoor.Hp
set_option linter.unusedVariables false

/-- a key and flags that may be -/
structure KeyOk (k : ByteArray) (f : Int) : Prop where
  k : k.size ≤ maxLen
  f1 : -9223372036854775808 ≤ f
  f2 : f ≤ 9223372036854775807

theorem pair_pr {L : List Sh} {n : Nat} {l : Ly} {s : Sh} (g2 : Pair L n l s) : l.pr = s.pr := by
  rcases g2 with ⟨rfl, _⟩ | ⟨q, _, _, _, e, _, _, _, rfl⟩ | ⟨q, _, _, _, e, _, _, rfl⟩
  · rfl
  · exact e
  · exact e

/-- a layout, read from its row -/
theorem TreeAt.lay {w : World} {B tb : Nat} {O : Nat → Prop} {most : Int} {L : List Sh} {T : List Ly} {v : Value} {mb : Nat} (h : TreeAt w B tb O most L T v mb) {j : Nat} {q : Sh} (hq : L[j]? = some q) :
    ∃ (b off cap : Nat) (l : Ly), w.cell? ⟨tb, 1, none⟩ = some (.slice (some ⟨b, off, none⟩) T.length cap) ∧ (∀ (i : Nat) (u : Value), (lyC l)[i]? = some u → w.cell? ⟨b, off + j * 7 + i, none⟩ = some u) ∧ l.wf ∧ l.pr = q.pr ∧ l.sz = q.ks.length ∧ j < T.length ∧ (T.length : Int) ≤ 9223372036854775807 ∧ T.length = L.length := by
  obtain ⟨⟨ad, cap, xs⟩, rfl, h2, h3, c0, c1, c2⟩ := h.open
  simp only at h2
  subst h2
  obtain ⟨l, g1, g2, g3, g4⟩ := h.rel.at' hq
  obtain ⟨b, off, e1, hc⟩ := h3.cells (by intro e; simp only at e; rw [e] at g4; simp at g4)
  simp only at e1 c1
  subst e1
  refine ⟨b, off, cap, l, c1, fun i u hu => hc j l g1 i u hu, h.wf l (List.mem_of_getElem? g1), pair_pr g2, g3, g4, ?_, h.rel.len⟩
  have h4 := h3.len
  have h5 := h3.cap
  simp only at h4 h5
  unfold maxLen at h5
  omega

set_option maxRecDepth 100000 in
set_option maxHeartbeats 2000000 in
theorem root_any (w : World) (B tb : Nat) (O : Nat → Prop) (most : Int) (L : List Sh) (h : Tree w B tb O most L) (p : Int) (hp1 : 0 ≤ p) (hp2 : p ≤ 18446744073709551615) (hroom : most ≤ top ∨ L.length + 1 ≤ top) :
    Calls Tryz.prog 47 #[.pointer (some ⟨tb, 0, none⟩), .int .u64 p] w fun e w' => e = .returned (.tuple #[.int .i64 (rootD most L p).2.1, .bool (rootD most L p).2.2]) ∧ Went w B tb O most (rootD most L p).1 w' := by
  have kc : Calls Tryz.prog 90 #[.pointer (some ⟨tb, 0, none⟩), .agg #[.int .i64 0, .int .u64 p, .int .i64 0, .string ⟨#[]⟩, .int .i64 0, .int .i64 0, .int .i64 0]] w fun e w' => e = .returned (.tuple #[.int .i64 (layD most L ⟨p, [], [], []⟩).2.1, .bool (layD most L ⟨p, [], [], []⟩).2.2]) ∧ Went w B tb O most (layD most L ⟨p, [], [], []⟩).1 w' :=
    take_any w B tb O most L h ⟨0, p, 0, ByteArray.empty, 0, 0, 0⟩ ⟨p, [], [], []⟩ ⟨by simp, hp1, hp2, by simp, by show (0 : Nat) ≤ _; exact Nat.zero_le _, by show (-9223372036854775808 : Int) ≤ 0; decide, by show (0 : Int) ≤ _; decide, by simp, by simp⟩ (Or.inl ⟨rfl, rfl⟩) hroom
  unfold rootD
  generalize layD most L ⟨p, [], [], []⟩ = r at *
  obtain ⟨L', n, ok⟩ := r
  clear h hroom
  go_enter Tryz.func47, Tryz.ntmps47
  go_wp2_with fail
  refine kc.mono ?_
  rintro e w2 ⟨rfl, hw⟩
  have HW := (show Hid _ from hw)
  clear kc hw
  go_wp2_with fail
  go_ret2
  exact ⟨rfl, HW.out⟩

set_option maxRecDepth 100000 in
set_option maxHeartbeats 2000000 in
theorem lay_any (w : World) (B tb : Nat) (O : Nat → Prop) (most : Int) (L : List Sh) (h : Tree w B tb O most L) (j : Nat) (q : Sh) (hq : L[j]? = some q) (k : ByteArray) (f : Int) (hk : KeyOk k f) (hn : idx q.ks k = none) (hroom : most ≤ top ∨ L.length + 1 ≤ top) :
    Calls Tryz.prog 122 #[.pointer (some ⟨tb, 0, none⟩), .int .i64 (j : Int), .string k, .int .i64 f] w fun e w' => e = .returned (.tuple #[.int .i64 (layD most L (grow q k f)).2.1, .bool (layD most L (grow q k f)).2.2]) ∧ Went w B tb O most (layD most L (grow q k f)).1 w' := by
  have HT : Hid (Tree w B tb O most L) := h
  obtain ⟨T, v, mb, h⟩ := h
  have hcap := h.cap
  obtain ⟨b, off, cap, l, c1, hc, hw, hpr, hsz, hj, hlim, hlen⟩ := h.lay hq
  have hfin := h.rel.fin hq
  have hql := hfin.kl
  have KC : Hid (∀ w1, Below w.heap.size w w1 → Calls Tryz.prog 90 #[.pointer (some ⟨tb, 0, none⟩), .agg #[.int .i64 1, .int .u64 q.pr, .int .i64 (j : Int), .string k, .int .i64 f, .int .i64 (q.ks.length : Int), .int .i64 ((q.ks.length + 1 : Nat) : Int)]] w1 fun e w' => e = .returned (.tuple #[.int .i64 (layD most L (grow q k f)).2.1, .bool (layD most L (grow q k f)).2.2]) ∧ Went w B tb O most (layD most L (grow q k f)).1 w') := fun w1 hb => by
    have k1 := take_any w1 B tb O most L (HT.out.below hb) ⟨1, q.pr, j, k, f, q.ks.length, q.ks.length + 1⟩ (grow q k f) ⟨by simp, by rw [← hpr]; exact hw.pr1, by rw [← hpr]; exact hw.pr2, by simp only; unfold top at hcap; omega, hk.k, hk.f1, hk.f2, by simp only; unfold top at hcap; omega, by simp only; unfold top at hcap; omega⟩ (Or.inr (Or.inl ⟨q, by simp only; omega, hq, rfl, rfl, rfl, rfl, hn, rfl⟩)) hroom
    refine k1.mono ?_
    rintro e w2 ⟨rfl, O', g1, g2, g3⟩
    refine ⟨rfl, O', g1, (Chg.of_below hb).trans g2 (fun _ _ q => q), fun b q => (g3 b q).imp id (fun q => Nat.le_trans hb.size q)⟩
  have d0 := hc 0 _ rfl
  have d1 := hc 1 _ rfl
  have d2 := hc 2 _ rfl
  have d3 := hc 3 _ rfl
  have d4 := hc 4 _ rfl
  have d5 := hc 5 _ rfl
  have d6 := hc 6 _ rfl
  rw [Nat.add_zero] at d0
  rw [hpr] at d1
  rw [hsz] at d6
  have hks : (q.ks.length : Int) ≤ 1700000000000 := by unfold top at hcap; omega
  have hjj : (j : Int) < T.length := by omega
  have HB2 : Hid (∀ o1 o2, Below w.heap.size w ((w.alloc o1).alloc o2)) := fun o1 o2 => below_new (below_new (Below.refl _ _) (Nat.le_refl _) _) (by rw [size_new]; omega) _
  generalize layD most L (grow q k f) = r at *
  obtain ⟨L', n, ok⟩ := r
  simp only at KC
  obtain ⟨P, ks, fs, st⟩ := q
  simp only at *
  generalize ks.length = K at *
  clear h hc hw hpr hsz hn hk hq hroom hfin hcap
  go_enter Tryz.func122, Tryz.ntmps122
  go_wp2_with fail
  refine (KC.out _ ?_).mono ?_
  · exact HB2.out _ _
  rintro e w2 ⟨rfl, hw⟩
  have HW := (show Hid _ from hw)
  clear KC hw
  go_wp2_with fail
  go_ret2
  exact ⟨rfl, HW.out⟩

theorem find_none {L : List Sh} {n : Int} {k : ByteArray} (h : shOf L n = none) : findR L n k = none := by unfold findR; rw [h]; rfl

/-- what Find tells of a shape that is there -/
theorem find_of {T : List Ly} {L : List Sh} (h : Rel T L) {j : Nat} {q : Sh} (hq : L[j]? = some q) (k : ByteArray) :
    (idx q.ks k = none ∧ findR L j k = none) ∨ ∃ i f, idx q.ks k = some i ∧ q.fs[i]? = some f ∧ findR L j k = some (i, f) := by
  have hs : shOf L (j : Int) = some q := by unfold shOf; rw [if_pos (by omega), Int.toNat_natCast]; exact hq
  unfold findR
  rw [hs]
  simp only [Option.bind_some]
  cases e : idx q.ks k with
  | none => exact Or.inl ⟨rfl, rfl⟩
  | some i =>
    have hl : i < q.fs.length := by rw [(h.fin hq).fl]; exact idx_lt e
    exact Or.inr ⟨i, q.fs[i], rfl, List.getElem?_eq_getElem hl, by simp [List.getElem?_eq_getElem hl]⟩

theorem Went.behind {w w1 w2 : World} {B tb : Nat} {O : Nat → Prop} {most : Int} {L : List Sh} (hb : Below w.heap.size w w1) (h : Went w1 B tb O most L w2) : Went w B tb O most L w2 := by
  obtain ⟨O', g1, g2, g3⟩ := h
  exact ⟨O', g1, (Chg.of_below hb).trans g2 (fun _ _ q => q), fun b q => (g3 b q).imp id (fun q => Nat.le_trans hb.size q)⟩

set_option maxRecDepth 100000 in
set_option maxHeartbeats 2000000 in
theorem add_any (w : World) (B tb : Nat) (O : Nat → Prop) (most : Int) (L : List Sh) (h : Tree w B tb O most L) (n : Int) (k : ByteArray) (f : Int) (hk : KeyOk k f) (hroom : most ≤ top ∨ L.length + 1 ≤ top) :
    Calls Tryz.prog 101 #[.pointer (some ⟨tb, 0, none⟩), .int .i64 n, .string k, .int .i64 f] w fun e w' => e = .returned (.tuple #[.int .i64 (addD most L n k f).2.1, .bool (addD most L n k f).2.2]) ∧ Went w B tb O most (addD most L n k f).1 w' := by
  have kf := find_any w B tb O most L h n k
  have HT : Hid (Tree w B tb O most L) := h
  have KT : Hid (∀ w1, Below w.heap.size w w1 → Calls Tryz.prog 109 #[.pointer (some ⟨tb, 0, none⟩), .int .i64 n] w1 fun e w' => e = .returned (.bool (thereB L n)) ∧ w' = w1) := fun w1 hb => there_any w1 B tb O most L (HT.out.below hb) n
  cases ht : thereB L n with
  | false =>
    rw [ht] at KT
    have hs := there_not ht
    rw [find_none hs] at kf
    have e0 : addD most L n k f = (L, 0, false) := by unfold addD; rw [hs]
    rw [e0]
    unfold slotI flagI at kf
    simp only [Option.isSome_none] at kf
    clear h e0 hs ht hroom hk
    go_enter Tryz.func101, Tryz.ntmps101
    go_wp2_with fail
    refine kf.mono ?_
    rintro e w2 ⟨rfl, hb⟩
    have HW : Hid (Went w B tb O most L w2) := Went.same HT.out hb
    have kt := KT.out w2 hb
    clear kf KT hb HT
    go_wp2_with fail
    refine kt.mono ?_
    rintro e w3 ⟨rfl, rfl⟩
    clear kt
    go_wp2_with fail
    go_ret2
    exact ⟨rfl, HW.out⟩
  | true =>
    rw [ht] at KT
    obtain ⟨j, s, rfl, hs, hs2, hj⟩ := there_of ht
    obtain ⟨T, v, mb, h⟩ := h
    rcases find_of h.rel hs k with ⟨i1, i2⟩ | ⟨i, fl, i1, i2, i3⟩
    · rw [i2] at kf
      have e0 : addD most L j k f = layD most L (grow s k f) := by unfold addD; rw [hs2]; simp only; rw [i1]
      rw [e0]
      unfold slotI flagI at kf
      simp only [Option.isSome_none] at kf
      have KL : Hid (∀ w1, Below w.heap.size w w1 → Calls Tryz.prog 122 #[.pointer (some ⟨tb, 0, none⟩), .int .i64 (j : Int), .string k, .int .i64 f] w1 fun e w' => e = .returned (.tuple #[.int .i64 (layD most L (grow s k f)).2.1, .bool (layD most L (grow s k f)).2.2]) ∧ Went w B tb O most (layD most L (grow s k f)).1 w') := fun w1 hb => (lay_any w1 B tb O most L (HT.out.below hb) j s hs k f hk i1 hroom).mono (by
        rintro e w2 ⟨rfl, g⟩
        exact ⟨rfl, g.behind hb⟩)
      generalize layD most L (grow s k f) = r at *
      obtain ⟨L', n, ok⟩ := r
      simp only at KL
      clear h e0 hs hs2 ht hroom hk i1 i2
      go_enter Tryz.func101, Tryz.ntmps101
      go_wp2_with fail
      refine kf.mono ?_
      rintro e w2 ⟨rfl, hb⟩
      have kt := KT.out w2 hb
      have kl := KL.out w2 hb
      clear kf KT hb HT KL
      go_wp2_with fail
      refine kt.mono ?_
      rintro e w3 ⟨rfl, rfl⟩
      clear kt
      go_wp2_with fail
      refine kl.mono ?_
      rintro e w4 ⟨rfl, hw⟩
      have HW := (show Hid _ from hw)
      clear kl hw
      go_wp2_with fail
      go_ret2
      exact ⟨rfl, HW.out⟩
    · rw [i3] at kf
      have e0 : addD most L j k f = (L, 0, false) := by unfold addD; rw [hs2]; simp only; rw [i1]
      rw [e0]
      unfold slotI flagI at kf
      simp only [Option.isSome_some] at kf
      clear h e0 hs hs2 ht hroom hk i1 i2 i3
      go_enter Tryz.func101, Tryz.ntmps101
      go_wp2_with fail
      refine kf.mono ?_
      rintro e w2 ⟨rfl, hb⟩
      have HW : Hid (Went w B tb O most L w2) := Went.same HT.out hb
      clear kf KT hb HT
      go_wp2_with fail
      go_ret2
      exact ⟨rfl, HW.out⟩

set_option maxRecDepth 100000 in
set_option maxHeartbeats 2000000 in
theorem change_any (w : World) (B tb : Nat) (O : Nat → Prop) (most : Int) (L : List Sh) (h : Tree w B tb O most L) (n : Int) (k : ByteArray) (f : Int) (hk : KeyOk k f) (hroom : most ≤ top ∨ L.length + 1 ≤ top) :
    Calls Tryz.prog 97 #[.pointer (some ⟨tb, 0, none⟩), .int .i64 n, .string k, .int .i64 f] w fun e w' => e = .returned (.tuple #[.int .i64 (changeD most L n k f).2.1, .bool (changeD most L n k f).2.2]) ∧ Went w B tb O most (changeD most L n k f).1 w' := by
  have kf := find_any w B tb O most L h n k
  have HT : Hid (Tree w B tb O most L) := h
  by_cases hno : findR L n k = none
  · have e0 : changeD most L n k f = (L, 0, false) := by
      unfold changeD
      cases ht : thereB L n with
      | false => rw [there_not ht]
      | true =>
        obtain ⟨j, s, rfl, hs, hs2, hj⟩ := there_of ht
        obtain ⟨T, v, mb, h⟩ := h
        rcases find_of h.rel hs k with ⟨i1, i2⟩ | ⟨i, fl, i1, i2, i3⟩
        · rw [hs2]; simp only; rw [i1]
        · rw [i3] at hno; cases hno
    rw [hno] at kf
    rw [e0]
    unfold slotI flagI at kf
    simp only [Option.isSome_none] at kf
    clear h e0 hno hroom hk
    go_enter Tryz.func97, Tryz.ntmps97
    go_wp2_with fail
    refine kf.mono ?_
    rintro e w2 ⟨rfl, hb⟩
    have HW : Hid (Went w B tb O most L w2) := Went.same HT.out hb
    clear kf hb HT
    go_wp2_with fail
    go_ret2
    exact ⟨rfl, HW.out⟩
  · have ht : thereB L n = true := by
      cases ht : thereB L n with
      | true => rfl
      | false => exact absurd (find_none (there_not ht)) hno
    obtain ⟨j, s, rfl, hs, hs2, hj⟩ := there_of ht
    obtain ⟨T, v, mb, h⟩ := h
    rcases find_of h.rel hs k with ⟨i1, i2⟩ | ⟨i, fl, i1, i2, i3⟩
    · exact absurd i2 hno
    rw [i3] at kf
    unfold slotI flagI at kf
    simp only [Option.isSome_some] at kf
    by_cases hf : fl = f
    · subst hf
      have e0 : changeD most L j k fl = (L, (j : Int), true) := by unfold changeD; rw [hs2]; simp only; rw [i1]; simp only; rw [if_pos i2]
      rw [e0]
      have heq : (fl == fl) = true := by simp
      clear h e0 hs hs2 ht hroom hk i1 i2 i3 hno
      go_enter Tryz.func97, Tryz.ntmps97
      go_wp2_with fail
      refine kf.mono ?_
      rintro e w2 ⟨rfl, hb⟩
      have HW : Hid (Went w B tb O most L w2) := Went.same HT.out hb
      clear kf hb HT
      go_wp2_with fail
      go_ret2
      exact ⟨rfl, HW.out⟩
    · have e0 : changeD most L j k f = layD most L (chg s i k f) := by unfold changeD; rw [hs2]; simp only; rw [i1]; simp only; rw [if_neg (fun q => hf (Option.some.inj (i2.symm.trans q)))]
      rw [e0]
      have heq : (fl == f) = false := by simpa using hf
      have hcap := h.cap
      obtain ⟨b, off, cap, l, c1, hc, hw, hpr, hsz, hj2, hlim, hlen⟩ := h.lay hs
      have hfin := h.rel.fin hs
      have hql := hfin.kl
      have hil := idx_lt i1
      have KC : Hid (∀ w1, Below w.heap.size w w1 → Calls Tryz.prog 90 #[.pointer (some ⟨tb, 0, none⟩), .agg #[.int .i64 2, .int .u64 s.pr, .int .i64 (j : Int), .string k, .int .i64 f, .int .i64 (i : Int), .int .i64 (s.ks.length : Int)]] w1 fun e w' => e = .returned (.tuple #[.int .i64 (layD most L (chg s i k f)).2.1, .bool (layD most L (chg s i k f)).2.2]) ∧ Went w B tb O most (layD most L (chg s i k f)).1 w') := fun w1 hb => by
        have k1 := take_any w1 B tb O most L (HT.out.below hb) ⟨2, s.pr, j, k, f, i, s.ks.length⟩ (chg s i k f) ⟨by simp, by rw [← hpr]; exact hw.pr1, by rw [← hpr]; exact hw.pr2, by simp only; unfold top at hcap; omega, hk.k, hk.f1, hk.f2, by simp only; unfold top at hcap; omega, by simp only; unfold top at hcap; omega⟩ (Or.inr (Or.inr ⟨s, by simp only; omega, hs, rfl, rfl, i1, rfl, rfl⟩)) hroom
        refine k1.mono ?_
        rintro e w2 ⟨rfl, g⟩
        exact ⟨rfl, g.behind hb⟩
      have HCC : Hid (∀ w1, Below w.heap.size w w1 → w1.cell? ⟨tb, 1, none⟩ = some (.slice (some ⟨b, off, none⟩) T.length cap) ∧ (∀ (i : Nat) (u : Value), (lyC l)[i]? = some u → w1.cell? ⟨b, off + j * 7 + i, none⟩ = some u)) := fun w1 hb => ⟨cells_below hb _ _ c1, fun i u hu => cells_below hb _ _ (hc i u hu)⟩
      have hks : (s.ks.length : Int) ≤ 1700000000000 := by unfold top at hcap; omega
      have hjj : (j : Int) < T.length := by omega
      have HB2 : Hid (∀ w1 o1 o2, Below w.heap.size w w1 → Below w.heap.size w ((w1.alloc o1).alloc o2)) := fun w1 o1 o2 hb => below_new (below_new hb hb.size _) (by rw [size_new]; have := hb.size; omega) _
      have HPS : Hid (l.pr = s.pr ∧ l.sz = s.ks.length) := ⟨hpr, hsz⟩
      generalize layD most L (chg s i k f) = r at *
      obtain ⟨L', n, ok⟩ := r
      simp only at KC
      clear h hc hw hpr hsz hk hs hs2 hroom hfin hcap i1 i2 i3 hno ht e0 c1 hf hlen
      go_enter Tryz.func97, Tryz.ntmps97
      go_wp2_with fail
      refine kf.mono ?_
      rintro e w2 ⟨rfl, hb⟩
      have HBL : Hid (Below w.heap.size w w2) := hb
      obtain ⟨c1, hc⟩ := HCC.out w2 hb
      have d0 := hc 0 _ rfl
      have d1 := hc 1 _ rfl
      have d2 := hc 2 _ rfl
      have d3 := hc 3 _ rfl
      have d4 := hc 4 _ rfl
      have d5 := hc 5 _ rfl
      have d6 := hc 6 _ rfl
      rw [Nat.add_zero] at d0
      rw [HPS.out.1] at d1
      rw [HPS.out.2] at d6
      clear kf hb HT hc HCC HPS
      go_wp2_with fail
      refine (KC.out _ ?_).mono ?_
      · exact HB2.out _ _ _ HBL.out
      rintro e w4 ⟨rfl, hw⟩
      have HW := (show Hid _ from hw)
      clear KC hw
      go_wp2_with fail
      go_ret2
      exact ⟨rfl, HW.out⟩

end Go.Proofs.YtahhionlbfhinaaGreatDoor.Sp
