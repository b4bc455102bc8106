/- HeapTexts: the law's walk. -/
import Derived.Test.YtkpdpdllbnihgaaHQ
import Derived.Test.YtkpdpdllbnihgaaHT
namespace Go.Proofs.Ytkpdpdllbnihgaa.Hp
open Go.RowKit
set_option linter.unusedVariables false

/-- a heap that has these texts -/
def TxS (w0 w : World) (hb : Nat) (tx : List ByteArray) : Prop := ∃ tg M H, HeapAt w w0.heap.size hb tg H M ∧ H.tx = tx ∧ Below w0.heap.size w0 w

section
variable {w0 w : World} {hb : Nat} {tx : List ByteArray}

theorem TxS.nd (h : TxS w0 w hb tx) : tx.Nodup ∧ tx.length ≤ 16384 := by
  obtain ⟨tg, M, H, h1, rfl, h3⟩ := h
  exact ⟨h1.wf.tn, h1.wf.tl⟩

theorem txs_long (h : TxS w0 w hb tx) (s : ByteArray) (hs : 4096 < s.size) :
    Calls Try.prog 8 #[.pointer (some ⟨hb, 0, none⟩), .string s] w fun e w' => e = .returned (.tuple #[.int .u64 undW, .bool false]) ∧ w' = w := by
  obtain ⟨tg, M, H, h1, rfl, h3⟩ := h
  exact text_long h1 s hs
theorem txs_full (h : TxS w0 w hb tx) (s : ByteArray) (hs : s.size ≤ 4096) (hn : txI tx s = none) (hl : tx.length = 16384) :
    Calls Try.prog 8 #[.pointer (some ⟨hb, 0, none⟩), .string s] w fun e w' => e = .returned (.tuple #[.int .u64 undW, .bool false]) ∧ w' = w := by
  obtain ⟨tg, M, H, h1, rfl, h3⟩ := h
  exact text_full h1 s hs hn hl
theorem txs_known (h : TxS w0 w hb tx) (s : ByteArray) (hs : s.size ≤ 4096) {n : Nat} (hn : txI tx s = some n) :
    Calls Try.prog 8 #[.pointer (some ⟨hb, 0, none⟩), .string s] w fun e w' => e = .returned (.tuple #[.int .u64 (txtW (n : Int)), .bool true]) ∧ w' = w := by
  obtain ⟨tg, M, H, h1, rfl, h3⟩ := h
  exact text_known h1 s hs hn
theorem txs_of (h : TxS w0 w hb tx) {s : ByteArray} {n : Nat} (hn : tx[n]? = some s) :
    Calls Try.prog 9 #[.pointer (some ⟨hb, 0, none⟩), .int .u64 (txtW (n : Int))] w fun e w' => e = .returned (.tuple #[.string s, .bool true]) ∧ w' = w := by
  obtain ⟨tg, M, H, h1, rfl, h3⟩ := h
  exact textOf_at h1 hn
theorem txs_short (h : TxS w0 w hb tx) (s : ByteArray) (hs : s.size ≤ 4096) (hr : txI tx s = none → tx.length < 16384) :
    Calls Try.prog 8 #[.pointer (some ⟨hb, 0, none⟩), .string s] w fun e w' => ∃ (n : Nat) (tx' : List ByteArray), e = .returned (.tuple #[.int .u64 (txtW (n : Int)), .bool true]) ∧ TxS w0 w' hb tx' ∧ tx'[n]? = some s ∧ (∀ t ∈ tx, t ∈ tx') ∧ tx'.length ≤ tx.length + 1 := by
  cases hn : txI tx s with
  | some n =>
    refine (txs_known h s hs hn).mono ?_
    rintro e w' ⟨rfl, rfl⟩
    exact ⟨n, tx, rfl, h, txI_some hn, fun _ q => q, by omega⟩
  | none =>
    have hl := hr hn
    obtain ⟨tg, M, H, h1, rfl, h3⟩ := h
    refine (text_new h1 s hs hn hl).mono ?_
    rintro e w' ⟨rfl, M', tg', k1, k2, k3⟩
    refine ⟨H.tx.length, H.tx ++ [s], rfl, ⟨tg', M', _, k1, rfl, k2.below h3 h3.size (fun b q => (h1.lt b q).1)⟩, by simp, fun t q => List.mem_append_left _ q, by simp⟩

theorem mem_txI {s : ByteArray} (h : s ∈ tx) : ∃ n, txI tx s = some n := by
  cases hn : txI tx s with
  | some n => exact ⟨n, rfl⟩
  | none => exact absurd h (txI_none hn)

theorem same_at (hn : tx.Nodup) {a b : ByteArray} {i j : Nat} (hi : tx[i]? = some a) (hj : tx[j]? = some b) : (txtW (i : Int) == txtW (j : Int)) = decide (a = b) := by
  by_cases c : a = b
  · subst c
    have : i = j := by
      obtain ⟨p1, p2⟩ := List.getElem?_eq_some_iff.1 hi
      obtain ⟨p3, p4⟩ := List.getElem?_eq_some_iff.1 hj
      exact (List.getElem_inj hn).1 (p2.trans p4.symm)
    subst this
    simp
  · have : i ≠ j := fun e => c (by rw [e, hj] at hi; exact (Option.some.inj hi).symm)
    rw [decide_eq_false c]
    have : txtW (i : Int) ≠ txtW (j : Int) := by unfold txtW; omega
    simpa using this
end

/-- on the way through the law's texts -/
structure TxAt (w0 w : World) (hb : Nat) (l : List ByteArray) (i : Nat) : Prop where
  at' : ∃ tx, TxS w0 w hb tx ∧ tx.length ≤ i ∧ (0 < i → ∀ s, l[0]? = some s → s.size ≤ 4096 → s ∈ tx)

set_option maxRecDepth 100000 in
set_option maxHeartbeats 4000000 in
theorem texts_walk (w : World) (m : Sli ByteArray) (hm : m.ok strC 1 w) : Calls Try.prog 3 #[m.val] w fun e w' => e = .returned (.bool true) ∧ Below w.heap.size w w' := by
  obtain ⟨ad, cap, l⟩ := m
  have kn := new_any w 0
  have ka := fun w => alive_any w
  have hlen := hm.len
  have hcap := hm.cap
  have hcells := hm.cells
  simp only at hlen hcap hcells
  have hlim : (l.length : Int) ≤ 9223372036854775807 := by unfold maxLen at hcap; omega
  have HC : Hid (l ≠ [] → ∃ b off, ad = some ⟨b, off, none⟩ ∧ ∀ (i : Nat) (y : ByteArray), l[i]? = some y → ∀ (j : Nat) (u : Value), (strC y)[j]? = some u → w.cell? ⟨b, off + i * 1 + j, none⟩ = some u) := hcells
  unfold Sli.val
  simp only
  clear hm hlen hcap hcells
  go_enter Try.func3, Try.ntmps3
  go_wp2_with fail
  refine kn.mono ?_
  rintro e w1 ⟨hb, O, rfl, ⟨tg, M, h, hO⟩, hB⟩
  have HB1 : Hid (Below w.heap.size w w1) := hB
  have HH1 : Hid (HeapAt w1 w.heap.size hb tg (He.new 0) M) := h
  clear kn h hO hB
  go_wp2_with fail
  refine (ka _).mono ?_
  rintro e w2 ⟨rfl, hB2⟩
  have HS : Hid (TxAt w w2 hb l 0) := ⟨[], ⟨tg, M, _, HH1.out.below hB2, rfl, HB1.out.trans ⟨hB2.os, hB2.tape, hB2.output, hB2.size, fun k hk => hB2.block k (Nat.lt_of_lt_of_le hk HB1.out.size)⟩⟩, Nat.le_refl _, fun q => by omega⟩
  clear ka hB2 HB1 HH1
  go_wp2_with fail
  go_loopw [20] (fun p wr => ∃ i : Nat, i ≤ l.length ∧ Hid (TxAt w wr hb l i) ∧ p = .int .i64 (i : Int)) (fun p wr => ((l.length : Int) - intOf p).toNat)
  case atStart => exact ⟨0, Nat.zero_le _, HS, rfl⟩
  case round =>
    clear HS
    obtain ⟨i, hi, hh, rfl⟩ := hrel
    obtain ⟨tx, ht, htl, ht0⟩ := hh.out.at'
    have HT : Hid (TxS w wr hb tx) := ht
    have HBw : Hid (Below w.heap.size w wr) := by obtain ⟨_, _, _, _, _, q⟩ := ht; exact q
    by_cases c : i < l.length
    · have hex : ∃ s, l[i]? = some s := ⟨_, List.getElem?_eq_getElem c⟩
      obtain ⟨s, hs⟩ := hex
      have hex0 : ∃ s, l[0]? = some s := ⟨_, List.getElem?_eq_getElem (by omega)⟩
      obtain ⟨z, hz⟩ := hex0
      obtain ⟨b, off, rfl, hcc⟩ := HC.out (by intro e; rw [e] at c; simp at c)
      have e0 := hcc i s hs 0 _ rfl
      have e1 := hcc 0 z hz 0 _ rfl
      simp only [Nat.mul_one, Nat.add_zero] at e0 e1
      have d0 := cells_below HBw.out _ _ e0
      have d1 := cells_below HBw.out _ _ e1
      have hii : (i : Int) < (l.length : Int) := by omega
      have h0l : (0 : Int) < (l.length : Int) := by omega
      have hii2 : decide ((i : Int) < (l.length : Int)) = true := decide_eq_true hii
      have hw1 : IntKind.i64.wrap ((i : Int) + 1) = ((i + 1 : Nat) : Int) := by rw [IntKind.wrap_i64]; omega
      have HE : Hid (w.cell? ⟨b, off + i, none⟩ = some (.string s) ∧ w.cell? ⟨b, off, none⟩ = some (.string z)) := ⟨e0, e1⟩
      have HI : Hid (i < l.length ∧ tx.length ≤ i) := ⟨c, htl⟩
      have HZ : Hid (l[0]? = some z ∧ (0 < i → z.size ≤ 4096 → z ∈ tx) ∧ (i = 0 → z = s)) := ⟨hz, fun q1 q2 => ht0 q1 z hz q2, fun q => by rw [q, hz] at hs; exact Option.some.inj hs⟩
      clear hcc e0 e1 hh ht htl ht0 hs hz c hi
      by_cases cs : 4096 < s.size
      · have kt := txs_long HT.out s cs
        have hs1 : decide ((s.size : Int) ≤ 4096) = false := decide_eq_false (by omega)
        have HN : Hid (TxAt w wr hb l (i + 1)) := ⟨tx, HT.out, by have := HI.out.2; omega, fun _ y hy hy2 => by
          have hyz : y = z := by rw [HZ.out.1] at hy; exact (Option.some.inj hy).symm
          subst hyz
          by_cases q : 0 < i
          · exact HZ.out.2.1 q hy2
          · have := HZ.out.2.2 (by omega); rw [this] at hy2; omega⟩
        clear cs HT HZ HE HBw d1
        go_wp2_with fail
        refine kt.mono ?_
        rintro e w3 ⟨rfl, rfl⟩
        clear kt
        go_wp2_with fail
        refine ⟨⟨i + 1, by have := HI.out.1; omega, HN, rfl⟩, ?_⟩
        have := HI.out.1
        simp [intOf]
        omega
      · have hs1 : decide ((s.size : Int) ≤ 4096) = true := decide_eq_true (by omega)
        have hs2 : (s.size : Int) ≤ 4096 := by omega
        by_cases cf : txI tx s = none ∧ tx.length = 16384
        · have kt := txs_full HT.out s (by omega) cf.1 cf.2
          have hbig : decide ((16384 : Int) < (l.length : Int)) = true := decide_eq_true (by have := HI.out; omega)
          have hbig2 : (16384 : Int) < (l.length : Int) := by have := HI.out; omega
          clear cf cs HT HZ HE d1 HI
          go_wp2_with fail
          refine kt.mono ?_
          rintro e w3 ⟨rfl, rfl⟩
          clear kt
          go_wp2_with fail
          go_ret
          exact ⟨rfl, HBw.out⟩
        · have kt := txs_short HT.out s (by omega) (fun q => by
            have h1 := HT.out.nd.2
            rcases Nat.lt_or_ge tx.length 16384 with q2 | q2
            · exact q2
            · exact absurd ⟨q, by omega⟩ cf)
          clear cf cs d1
          go_wp2_with fail
          refine kt.mono ?_
          rintro e w3 ⟨n, tx', rfl, ht', hn', hsub, hlen'⟩
          have HT3 : Hid (TxS w w3 hb tx') := ht'
          have HB3 : Hid (Below w.heap.size w w3) := by obtain ⟨_, _, _, _, _, q⟩ := ht'; exact q
          have d0 := cells_below HB3.out _ _ HE.out.1
          have d1 := cells_below HB3.out _ _ HE.out.2
          have ko := txs_of ht' hn'
          have hsm : s ∈ tx' := List.mem_of_getElem? hn'
          have HNX : Hid (TxAt w w3 hb l (i + 1)) := ⟨tx', ht', by have := HI.out.2; omega, fun _ y hy hy2 => by
            have hyz : y = z := by rw [HZ.out.1] at hy; exact (Option.some.inj hy).symm
            subst hyz
            by_cases q : 0 < i
            · exact hsub _ (HZ.out.2.1 q hy2)
            · rw [HZ.out.2.2 (by omega)]; exact hsm⟩
          have hee := Sp.bytes_yes s
          by_cases cz : 4096 < z.size
          · have kz := txs_long HT3.out z cz
            have hz1 : decide ((z.size : Int) ≤ 4096) = false := decide_eq_false (by omega)
            generalize txtW (n : Int) = aw at *
            clear kt HT HZ HE HBw ht' hn' hsub hlen' hsm cz HT3
            go_wp2_with fail
            refine ko.mono ?_
            rintro e w4 ⟨rfl, rfl⟩
            clear ko
            go_wp2_with fail
            refine kz.mono ?_
            rintro e w5 ⟨rfl, rfl⟩
            clear kz
            go_wp2_with fail
            go_quiet (fail)
            go_wp2_with fail
            refine ⟨⟨i + 1, by have := HI.out.1; omega, ?_, rfl⟩, ?_⟩
            · obtain ⟨tx9, q1, q2, q3⟩ := HNX.out.at'
              obtain ⟨g1, g2, g3, g4, g5, g6⟩ := q1
              exact ⟨tx9, ⟨g1, g2, g3, g4.below (below_drewN (Below.refl _ _) _), g5, below_drewN g6 _⟩, q2, q3⟩
            · have := HI.out.1
              simp [intOf]
              omega
          · have hzm : z ∈ tx' := by
              by_cases q : 0 < i
              · exact hsub _ (HZ.out.2.1 q (by omega))
              · rw [HZ.out.2.2 (by omega)]; exact hsm
            obtain ⟨n0, hn0⟩ := mem_txI hzm
            have kz := txs_known HT3.out z (by omega) hn0
            have hz1 : decide ((z.size : Int) ≤ 4096) = true := decide_eq_true (by omega)
            have hz2 : (z.size : Int) ≤ 4096 := by omega
            have hsame := same_at HT3.out.nd.1 hn' (txI_some hn0)
            have hby : (s.toList == z.toList) = decide (s = z) := by
              by_cases q : s = z
              · rw [q, decide_eq_true rfl]; exact Sp.bytes_yes z
              · rw [decide_eq_false q]; exact Sp.bytes_no q
            generalize decide (s = z) = dq at *
            generalize txtW (n : Int) = aw at *
            generalize txtW (n0 : Int) = zw at *
            clear kt HT HZ HE HBw ht' hn' hsub hlen' hsm cz HT3 hzm hn0
            go_wp2_with fail
            refine ko.mono ?_
            rintro e w4 ⟨rfl, rfl⟩
            clear ko
            go_wp2_with fail
            refine kz.mono ?_
            rintro e w5 ⟨rfl, rfl⟩
            clear kz
            go_wp2_with fail
            go_quiet (fail)
            go_wp2_with fail
            refine ⟨⟨i + 1, by have := HI.out.1; omega, ?_, rfl⟩, ?_⟩
            · obtain ⟨tx9, q1, q2, q3⟩ := HNX.out.at'
              obtain ⟨g1, g2, g3, g4, g5, g6⟩ := q1
              exact ⟨tx9, ⟨g1, g2, g3, g4.below (below_drewN (Below.refl _ _) _), g5, below_drewN g6 _⟩, q2, q3⟩
            · have := HI.out.1
              simp [intOf]
              omega
    · have hii : ¬ (i : Int) < (l.length : Int) := by omega
      clear hh ht htl ht0 hi c HT HC
      go_wp2_with fail
      go_ret
      exact ⟨rfl, HBw.out⟩

end Go.Proofs.Ytkpdpdllbnihgaa.Hp
