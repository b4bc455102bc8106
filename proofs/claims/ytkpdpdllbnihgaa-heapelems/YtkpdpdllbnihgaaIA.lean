/- HeapElems: the law's walk. -/
import Derived.Test.YtkpdpdllbnihgaaHQ
import Derived.Test.YtkpdpdllbnihgaaHZ
namespace Go.Proofs.Ytkpdpdllbnihgaa.Hp
open Go.RowKit
set_option linter.unusedVariables false

/-- a heap whose first object has these elements -/
def ElS (w0 w : World) (hb : Nat) (el : List Int) : Prop := ∃ tg M H ob, HeapAt w w0.heap.size hb tg H M ∧ H.obs[0]? = some ob ∧ ob.el = el ∧ Below w0.heap.size w0 w

section
variable {w0 w : World} {hb : Nat} {el : List Int}

theorem ElS.max (h : ElS w0 w hb el) : el.length ≤ 4096 ∧ Below w0.heap.size w0 w := by
  obtain ⟨tg, M, H, ob, h1, h2, rfl, h4⟩ := h
  exact ⟨(h1.wf.ob ob (List.mem_of_getElem? h2)).el, h4⟩
theorem els_ob {H : He} {ob : Ob} (hw : H.wf) (h : H.obs[0]? = some ob) : obI H (objW 0) = some 0 := obI_of (H := H) (i := 0) (List.getElem?_eq_some_iff.1 h).1 hw.ol
theorem els_len {ow : Int} (how : objW 0 = ow) (h : ElS w0 w hb el) : Calls Try.prog 12 #[.pointer (some ⟨hb, 0, none⟩), .int .u64 ow] w fun e w' => e = .returned (.int .i64 (el.length : Int)) ∧ w' = w := by
  subst how
  obtain ⟨tg, M, H, ob, h1, h2, rfl, h4⟩ := h
  exact len_at h1 (objW 0) (by decide) (by decide) (els_ob h1.wf h2) h2
theorem els_elem {ow : Int} (how : objW 0 = ow) (h : ElS w0 w hb el) (n : Int) : Calls Try.prog 14 #[.pointer (some ⟨hb, 0, none⟩), .int .u64 ow, .int .i64 n] w fun e w' => e = .returned (.tuple #[.int .u64 ((elemI el n).getD undW), .bool (elemI el n).isSome]) ∧ w' = w := by
  subst how
  obtain ⟨tg, M, H, ob, h1, h2, rfl, h4⟩ := h
  exact elem_at h1 (objW 0) (by decide) (by decide) (els_ob h1.wf h2) h2 n
theorem els_no {ow : Int} (how : objW 0 = ow) (h : ElS w0 w hb el) (n v : Int) (hn : n < 0 ∨ 4096 ≤ n) : Calls Try.prog 11 #[.pointer (some ⟨hb, 0, none⟩), .int .u64 ow, .int .i64 n, .int .u64 v] w fun e w' => e = .returned (.bool false) ∧ w' = w := by
  subst how
  obtain ⟨tg, M, H, ob, h1, h2, rfl, h4⟩ := h
  exact setElem_no h1 (objW 0) (by decide) (by decide) (els_ob h1.wf h2) h2 n v hn
theorem els_lno {ow : Int} (how : objW 0 = ow) (h : ElS w0 w hb el) (n : Int) (hn : n < 0 ∨ 4096 < n) : Calls Try.prog 13 #[.pointer (some ⟨hb, 0, none⟩), .int .u64 ow, .int .i64 n] w fun e w' => e = .returned (.bool false) ∧ w' = w := by
  subst how
  obtain ⟨tg, M, H, ob, h1, h2, rfl, h4⟩ := h
  exact setLen_no h1 (objW 0) (by decide) (by decide) (els_ob h1.wf h2) h2 n hn
theorem els_next {B : Nat} {tg : Nat → Nat} {H : He} {M M' : HV} {ob : Ob} {w' : World} {el' : List Int} (h1 : HeapAt w w0.heap.size hb tg H M) (h2 : H.obs[0]? = some ob) (h4 : Below w0.heap.size w0 w) (k : WentM w w0.heap.size hb tg (elH H 0 ob el') M' w') : ElS w0 w' hb el' := by
  obtain ⟨tg', k1, k2, k3⟩ := k
  exact ⟨tg', M', _, { ob with el := el' }, k1, List.getElem?_set_self (List.getElem?_eq_some_iff.1 h2).1, rfl, k2.below h4 h4.size (fun b q => (h1.lt b q).1)⟩
theorem els_set {ow : Int} (how : objW 0 = ow) (h : ElS w0 w hb el) (n : Nat) (v : Int) (hn : n < 4096) : Calls Try.prog 11 #[.pointer (some ⟨hb, 0, none⟩), .int .u64 ow, .int .i64 (n : Int), .int .u64 v] w fun e w' => e = .returned (.bool true) ∧ ElS w0 w' hb (setL el n v) := by
  subst how
  obtain ⟨tg, M, H, ob, h1, h2, rfl, h4⟩ := h
  refine (setElem_at h1 (objW 0) (by decide) (by decide) (els_ob h1.wf h2) h2 n hn v).mono ?_
  rintro e w' ⟨rfl, M', hq⟩
  exact ⟨rfl, els_next (B := 0) h1 h2 h4 hq⟩
theorem els_slen {ow : Int} (how : objW 0 = ow) (h : ElS w0 w hb el) (n : Nat) (hn : n ≤ 4096) : Calls Try.prog 13 #[.pointer (some ⟨hb, 0, none⟩), .int .u64 ow, .int .i64 (n : Int)] w fun e w' => e = .returned (.bool true) ∧ ElS w0 w' hb (resL el n) := by
  subst how
  obtain ⟨tg, M, H, ob, h1, h2, rfl, h4⟩ := h
  refine (setLen_at h1 (objW 0) (by decide) (by decide) (els_ob h1.wf h2) h2 n hn).mono ?_
  rintro e w' ⟨rfl, M', hq⟩
  exact ⟨rfl, els_next (B := 0) h1 h2 h4 hq⟩

theorem setL_len (el : List Int) (n : Nat) (v : Int) : ((setL el n v).length : Int) = max (el.length : Int) ((n + 1 : Nat) : Int) := by
  unfold setL
  rw [List.length_set]
  split
  · omega
  · rw [resL_len]; omega
theorem setL_at (el : List Int) (n : Nat) (v : Int) : (setL el n v)[n]? = some v := by
  unfold setL
  rw [List.getElem?_set_self]
  split
  · assumption
  · rw [resL_len]; omega
theorem resL_at {el : List Int} {n k : Nat} {v : Int} (h : el[k]? = some v) (hk : k < n) : (resL el n)[k]? = some v := by
  have hl := (List.getElem?_eq_some_iff.1 h).1
  unfold resL
  rw [List.getElem?_append_left (by rw [List.length_take]; omega), List.getElem?_take_of_lt hk]
  exact h
theorem setL_keep {el : List Int} {n k : Nat} {v : Int} (h : el[k]? = some v) : (setL el n v)[k]? = some v := by
  by_cases c : k = n
  · subst c; exact setL_at el k v
  · have hl := (List.getElem?_eq_some_iff.1 h).1
    unfold setL
    rw [List.getElem?_set_ne (by omega)]
    split
    · exact h
    · exact resL_at h (by omega)

/-- the elements that were laid -/
def Laid (el : List Int) (l : List Int) (v : Int) (j : Nat) : Prop := ∀ (k : Nat) (n : Int), k < j → l[k]? = some n → 0 ≤ n → n < 4096 → el[n.toNat]? = some v

theorem elemI_laid {el l : List Int} {v n : Int} {k : Nat} (hk : l[k]? = some n) (h : ∀ n, n ∈ l → 0 ≤ n → n < (el.length : Int) → el[n.toNat]? = some v) (h0 : 0 ≤ n) (h1 : n < (el.length : Int)) : elemI el n = if v = holW then none else some v := by
  unfold elemI
  rw [if_pos h0, h n (List.mem_of_getElem? hk) h0 h1]
  rfl
theorem elemI_out {el : List Int} {n : Int} (h : n < 0 ∨ (el.length : Int) ≤ n) : elemI el n = none := by
  unfold elemI
  split
  · rw [List.getElem?_eq_none (by omega)]; rfl
  · rfl

end

theorem mk3 : ∃ ob, (makeH (He.new 3) 1 nulW).obs[0]? = some ob ∧ ob.el = [] := by
  have h1 : obI (He.new 3) nulW = none := by
    unfold obI
    rw [if_neg (by intro q; have := q.1; rw [isT_nul] at this; cases this)]
  have h2 : raiseH (He.new 3) nulW = He.new 3 := by unfold raiseH; rw [h1]
  unfold makeH
  rw [h2]
  exact ⟨_, rfl, rfl⟩

set_option maxRecDepth 100000 in
set_option maxHeartbeats 4000000 in
theorem elems_walk (w : World) (m : Sli Int) (hm : m.ok Ce.intC 1 w) (hg : ∀ y ∈ m.xs, -9223372036854775808 ≤ y ∧ y ≤ 9223372036854775807) (v : Int) (hv : 0 ≤ v ∧ v < 18446744073709551616) (mn : Int) (hmn : -9223372036854775808 ≤ mn ∧ mn ≤ 9223372036854775807) :
    Calls Try.prog 4 #[m.val, .int .u64 v, .int .i64 mn] w fun e w' => e = .returned (.bool true) ∧ Below w.heap.size w w' := by
  obtain ⟨ad, cap, l⟩ := m
  have kn := new_any w 3
  have ka := fun w => alive_any w
  have hlen := hm.len
  have hcap := hm.cap
  have hcells := hm.cells
  simp only at hlen hcap hcells hg
  have hlim : (l.length : Int) ≤ 9223372036854775807 := by unfold maxLen at hcap; omega
  have HC : Hid (l ≠ [] → ∃ b off, ad = some ⟨b, off, none⟩ ∧ ∀ (i : Nat) (y : Int), l[i]? = some y → ∀ (j : Nat) (u : Value), (Ce.intC y)[j]? = some u → w.cell? ⟨b, off + i * 1 + j, none⟩ = some u) := hcells
  have HG : Hid (∀ y ∈ l, -9223372036854775808 ≤ y ∧ y ≤ 9223372036854775807) := hg
  have HM3 : Hid (∃ ob, (makeH (He.new 3) 1 nulW).obs[0]? = some ob ∧ ob.el = []) := mk3
  unfold Sli.val
  simp only
  clear hm hlen hcap hcells hg
  obtain ⟨hv1, hv2⟩ := hv
  obtain ⟨hm1, hm2⟩ := hmn
  go_enter Try.func4, Try.ntmps4
  go_wp2_with fail
  refine kn.mono ?_
  rintro e w1 ⟨hb, O, rfl, ⟨tg, M, h, hO⟩, hB⟩
  have HB1 : Hid (Below w.heap.size w w1) := hB
  have HH1 : Hid (HeapAt w1 w.heap.size hb tg (He.new 3) M) := h
  clear kn h hO hB
  go_wp2_with fail
  refine (ka _).mono ?_
  rintro e w2 ⟨rfl, hB2⟩
  have HH2 : Hid (HeapAt w2 w.heap.size hb tg (He.new 3) M) := HH1.out.below hB2
  have HB2 : Hid (Below w.heap.size w w2) := HB1.out.trans ⟨hB2.os, hB2.tape, hB2.output, hB2.size, fun k hk => hB2.block k (Nat.lt_of_lt_of_le hk HB1.out.size)⟩
  have may : mayB (He.new 3) nulW = true := by unfold mayB; simp
  have km := make_hit HH2.out 1 nulW (by omega) (by omega) (by decide) (by decide) may (by decide)
  rw [show objW ((He.new 3).obs.length : Int) = objW 0 from rfl] at km
  generalize hmk : makeH (He.new 3) 1 nulW = HK at *
  unfold nulW at km
  clear ka hB2 HB1 HH1 may hmk
  go_wp2_with fail
  refine km.mono ?_
  rintro e w3 ⟨rfl, M3, tg3, h3, c3, n3⟩
  have HE0 : Hid (ElS w w3 hb []) := by
    obtain ⟨ob, o1, o2⟩ := HM3.out
    exact ⟨tg3, M3, _, ob, h3, o1, o2, c3.below HB2.out HB2.out.size (fun b q => (HH2.out.lt b q).1)⟩
  clear km h3 c3 n3 HB2 HH2 HM3
  generalize how : objW 0 = ow at *
  have HOW : Hid (objW 0 = ow) := how
  clear how
  go_wp2_with fail
  go_loopw [34, 10] (fun p q wr => ∃ (j : Nat) (el : List Int), j ≤ l.length ∧ Hid (ElS w wr hb el ∧ Laid el l v j) ∧ p = .int .i64 (j : Int) ∧ q = .int .i64 (el.length : Int)) (fun p q wr => ((l.length : Int) - intOf p).toNat)
  case atStart => exact ⟨0, [], Nat.zero_le _, ⟨HE0.out, fun k n hk => by omega⟩, rfl, rfl⟩
  case round =>
    clear HE0
    obtain ⟨j, el, hj, HS, rfl, rfl⟩ := hrel
    by_cases c : j < l.length
    · have hex : ∃ n, l[j]? = some n := ⟨_, List.getElem?_eq_getElem c⟩
      obtain ⟨n, hn⟩ := hex
      obtain ⟨b, off, rfl, hcc⟩ := HC.out (by intro e; rw [e] at c; simp at c)
      have e0 := hcc j n hn 0 _ rfl
      simp only [Nat.mul_one, Nat.add_zero] at e0
      have d0 := cells_below HS.out.1.max.2 _ _ e0
      have hjj : (j : Int) < (l.length : Int) := by omega
      have hjd : decide ((j : Int) < (l.length : Int)) = true := decide_eq_true hjj
      have hw1 : IntKind.i64.wrap ((j : Int) + 1) = ((j + 1 : Nat) : Int) := by rw [IntKind.wrap_i64]; omega
      have HJ : Hid (j < l.length ∧ l[j]? = some n) := ⟨c, hn⟩
      clear hcc e0 hn c hj
      by_cases cn : n < 0 ∨ 4096 ≤ n
      · have ks := els_no HOW.out HS.out.1 n v cn
        have HX : Hid (ElS w wr hb el ∧ Laid el l v (j + 1)) := ⟨HS.out.1, fun k x hk hx h0 h4 => by
          by_cases q : k = j
          · rw [q, HJ.out.2] at hx; have := Option.some.inj hx; omega
          · exact HS.out.2 k x (by omega) hx h0 h4⟩
        clear HS HC HG
        rcases cn with cn | cn
        · have c1 : decide (0 ≤ n) = false := decide_eq_false (by omega)
          go_wp2_with fail
          refine ks.mono ?_
          rintro e w4 ⟨rfl, rfl⟩
          clear ks
          go_wp2_with fail
          refine ⟨⟨j + 1, el, by have := HJ.out.1; omega, HX, rfl, rfl⟩, ?_⟩
          have := HJ.out.1
          simp [intOf]
          omega
        · have c1 : decide (0 ≤ n) = true := decide_eq_true (by omega)
          have c1' : 0 ≤ n := by omega
          have c2 : decide (n < 4096) = false := decide_eq_false (by omega)
          go_wp2_with fail
          refine ks.mono ?_
          rintro e w4 ⟨rfl, rfl⟩
          clear ks
          go_wp2_with fail
          refine ⟨⟨j + 1, el, by have := HJ.out.1; omega, HX, rfl, rfl⟩, ?_⟩
          have := HJ.out.1
          simp [intOf]
          omega
      · obtain ⟨k, rfl⟩ : ∃ k : Nat, n = k := ⟨n.toNat, by omega⟩
        have hk4 : k < 4096 := by omega
        have ks := els_set HOW.out HS.out.1 k v hk4
        have hsl := setL_len el k v
        have HX : Hid (∀ wx, ElS w wx hb (setL el k v) → ElS w wx hb (setL el k v) ∧ Laid (setL el k v) l v (j + 1)) := fun wx q => ⟨q, fun k' x hk hx h0 h4 => by
          by_cases q : k' = j
          · rw [q, HJ.out.2] at hx
            have e := Option.some.inj hx
            rw [← e, Int.toNat_natCast]
            exact setL_at el k v
          · exact setL_keep (HS.out.2 k' x (by omega) hx h0 h4)⟩
        have HEL : Hid (el.length ≤ 4096) := HS.out.1.max.1
        have c1 : decide (0 ≤ (k : Int)) = true := decide_eq_true (by omega)
        have c2 : decide ((k : Int) < 4096) = true := decide_eq_true (by omega)
        have c2' : (k : Int) < 4096 := by omega
        have hw2 : IntKind.i64.wrap ((k : Int) + 1) = ((k + 1 : Nat) : Int) := by rw [IntKind.wrap_i64]; omega
        have HSL : Hid (((setL el k v).length : Int) = max (el.length : Int) ((k + 1 : Nat) : Int)) := hsl
        by_cases cm : ((k + 1 : Nat) : Int) ≤ (el.length : Int)
        · have hmx : max (el.length : Int) ((k + 1 : Nat) : Int) = (el.length : Int) := by omega
          generalize hE : setL el k v = E' at *
          clear HS HC HG hsl cn hE hk4
          go_wp2_with fail
          refine ks.mono ?_
          rintro e w4 ⟨rfl, hq⟩
          have HQ := (show Hid _ from HX.out _ hq)
          clear ks hq HX
          go_wp2_with fail
          refine ⟨⟨j + 1, E', by have := HJ.out.1; omega, HQ, rfl, by rw [HSL.out, hmx]; try simp⟩, ?_⟩
          have := HJ.out.1
          simp [intOf]
          omega
        · have hmx : max (el.length : Int) ((k + 1 : Nat) : Int) = ((k + 1 : Nat) : Int) := by omega
          generalize hE : setL el k v = E' at *
          clear HS HC HG hsl cn hE hk4
          go_wp2_with fail
          refine ks.mono ?_
          rintro e w4 ⟨rfl, hq⟩
          have HQ := (show Hid _ from HX.out _ hq)
          clear ks hq HX
          go_wp2_with fail
          refine ⟨⟨j + 1, E', by have := HJ.out.1; omega, HQ, rfl, by rw [HSL.out, hmx]; try simp⟩, ?_⟩
          have := HJ.out.1
          simp [intOf]
          omega
    · have hjj : ¬ ((j : Int) < (l.length : Int)) := by omega
      have kl := els_len HOW.out HS.out.1
      have HLD : Hid (∀ n, n ∈ l → 0 ≤ n → n < 4096 → el[n.toNat]? = some v) := fun n hn h0 h4 => by
        obtain ⟨k, hk⟩ := List.mem_iff_getElem?.1 hn
        exact HS.out.2 k n (by have := (List.getElem?_eq_some_iff.1 hk).1; omega) hk h0 h4
      have HE1 : Hid (ElS w wr hb el) := HS.out.1
      have hnee : ((el.length : Int) != (el.length : Int)) = false := by simp
      clear HS c hj
      go_wp2_with fail
      refine kl.mono ?_
      rintro e w4 ⟨rfl, rfl⟩
      clear kl
      by_cases cm : mn < 0 ∨ 4096 < mn
      · have ks := els_lno HOW.out HE1.out mn cm
        have HE2 : Hid (ElS w w4 hb el) := HE1.out
        have HL2 : Hid (∀ n, n ∈ l → 0 ≤ n → n < (el.length : Int) → el[n.toNat]? = some v) := fun n hn h0 h4 => HLD.out n hn h0 (by have := HE1.out.max.1; omega)
        generalize el = E2 at *
        clear HLD HE1
        rcases cm with cm | cm
        · have c1 : decide (0 ≤ mn) = false := decide_eq_false (by omega)
          go_wp2_with fail
          refine ks.mono ?_
          rintro e w5 ⟨rfl, rfl⟩
          clear ks
          go_wp2_with fail
          go_loopw [78] (fun p wr => ∃ (j : Nat), j ≤ l.length ∧ p = .int .i64 (j : Int) ∧ wr = w5) (fun p wr => ((l.length : Int) - intOf p).toNat)
          case atStart => exact ⟨0, Nat.zero_le _, rfl, rfl⟩
          case round =>
            obtain ⟨j2, hj2, rfl, rfl⟩ := hrel
            by_cases c : j2 < l.length
            · have hex : ∃ n, l[j2]? = some n := ⟨_, List.getElem?_eq_getElem c⟩
              obtain ⟨n, hn⟩ := hex
              obtain ⟨b, off, rfl, hcc⟩ := HC.out (by intro e; rw [e] at c; simp at c)
              have e0 := hcc j2 n hn 0 _ rfl
              simp only [Nat.mul_one, Nat.add_zero] at e0
              have d0 := cells_below HE2.out.max.2 _ _ e0
              have hjj : (j2 : Int) < (l.length : Int) := by omega
              have hjd : decide ((j2 : Int) < (l.length : Int)) = true := decide_eq_true hjj
              have hw1 : IntKind.i64.wrap ((j2 : Int) + 1) = ((j2 + 1 : Nat) : Int) := by rw [IntKind.wrap_i64]; omega
              have HJ : Hid (j2 < l.length ∧ l[j2]? = some n) := ⟨c, hn⟩
              have ke := els_elem HOW.out HE2.out n
              clear hcc e0 hn c hj2
              by_cases c0 : n < 0
              · rw [elemI_out (Or.inl c0)] at ke
                have c1 : decide (0 ≤ n) = false := decide_eq_false (by omega)
                unfold undW at ke
                simp only [Option.getD_none, Option.isSome_none] at ke
                clear HC HG HL2 HE2 c0
                go_wp2_with fail
                refine ke.mono ?_
                rintro e w9 ⟨rfl, rfl⟩
                clear ke
                go_wp2_with fail
                refine ⟨⟨j2 + 1, by have := HJ.out.1; omega, rfl, by first | rfl | trivial⟩, ?_⟩
                have := HJ.out.1
                simp [intOf]
                omega
              · have c1 : decide (0 ≤ n) = true := decide_eq_true (by omega)
                have c1' : 0 ≤ n := by omega
                by_cases c2 : n < (E2.length : Int)
                · have hel := elemI_laid HJ.out.2 HL2.out c1' c2
                  have c3 : decide (n < (E2.length : Int)) = true := decide_eq_true c2
                  rw [hel] at ke
                  by_cases ch : v = holW
                  · rw [if_pos ch] at ke
                    have ch2 : (v == 18445336698825998340) = true := by simpa [holW] using ch
                    have ch3 : (v != 18445336698825998340) = false := by rw [bne, ch2]; rfl
                    unfold undW at ke
                    simp only [Option.getD_none, Option.isSome_none] at ke
                    clear HC HG HL2 HE2 c0 hel ch
                    go_wp2_with fail
                    refine ke.mono ?_
                    rintro e w9 ⟨rfl, rfl⟩
                    clear ke
                    go_wp2_with fail
                    refine ⟨⟨j2 + 1, by have := HJ.out.1; omega, rfl, by first | rfl | trivial⟩, ?_⟩
                    have := HJ.out.1
                    simp [intOf]
                    omega
                  · rw [if_neg ch] at ke
                    have ch2 : (v == 18445336698825998340) = false := by simpa [holW] using ch
                    have ch3 : (v != 18445336698825998340) = true := by rw [bne, ch2]; rfl
                    have hvv : (v != v) = false := by simp
                    simp only [Option.getD_some, Option.isSome_some] at ke
                    clear HC HG HL2 HE2 c0 hel ch
                    go_wp2_with fail
                    refine ke.mono ?_
                    rintro e w9 ⟨rfl, rfl⟩
                    clear ke
                    go_wp2_with fail
                    refine ⟨⟨j2 + 1, by have := HJ.out.1; omega, rfl, by first | rfl | trivial⟩, ?_⟩
                    have := HJ.out.1
                    simp [intOf]
                    omega
                · rw [elemI_out (Or.inr (by omega))] at ke
                  have c3 : decide (n < (E2.length : Int)) = false := decide_eq_false c2
                  unfold undW at ke
                  simp only [Option.getD_none, Option.isSome_none] at ke
                  clear HC HG HL2 HE2 c0
                  go_wp2_with fail
                  refine ke.mono ?_
                  rintro e w9 ⟨rfl, rfl⟩
                  clear ke
                  go_wp2_with fail
                  refine ⟨⟨j2 + 1, by have := HJ.out.1; omega, rfl, by first | rfl | trivial⟩, ?_⟩
                  have := HJ.out.1
                  simp [intOf]
                  omega
            · have hjj : ¬ ((j2 : Int) < (l.length : Int)) := by omega
              have kl := els_len HOW.out HE2.out
              have hee : (((E2.length : Int)) == (E2.length : Int)) = true := by simp
              have HBL := (show Hid _ from HE2.out.max.2)
              clear HC HG HL2 HE2 c hj2
              go_wp2_with fail
              refine kl.mono ?_
              rintro e w9 ⟨rfl, rfl⟩
              clear kl
              go_wp2_with fail
              go_ret
              exact ⟨rfl, HBL.out⟩
        · have c1 : decide (0 ≤ mn) = true := decide_eq_true (by omega)
          have c1' : 0 ≤ mn := by omega
          have c2 : decide (mn ≤ 4096) = false := decide_eq_false (by omega)
          go_wp2_with fail
          refine ks.mono ?_
          rintro e w5 ⟨rfl, rfl⟩
          clear ks
          go_wp2_with fail
          go_loopw [78] (fun p wr => ∃ (j : Nat), j ≤ l.length ∧ p = .int .i64 (j : Int) ∧ wr = w5) (fun p wr => ((l.length : Int) - intOf p).toNat)
          case atStart => exact ⟨0, Nat.zero_le _, rfl, rfl⟩
          case round =>
            obtain ⟨j2, hj2, rfl, rfl⟩ := hrel
            by_cases c : j2 < l.length
            · have hex : ∃ n, l[j2]? = some n := ⟨_, List.getElem?_eq_getElem c⟩
              obtain ⟨n, hn⟩ := hex
              obtain ⟨b, off, rfl, hcc⟩ := HC.out (by intro e; rw [e] at c; simp at c)
              have e0 := hcc j2 n hn 0 _ rfl
              simp only [Nat.mul_one, Nat.add_zero] at e0
              have d0 := cells_below HE2.out.max.2 _ _ e0
              have hjj : (j2 : Int) < (l.length : Int) := by omega
              have hjd : decide ((j2 : Int) < (l.length : Int)) = true := decide_eq_true hjj
              have hw1 : IntKind.i64.wrap ((j2 : Int) + 1) = ((j2 + 1 : Nat) : Int) := by rw [IntKind.wrap_i64]; omega
              have HJ : Hid (j2 < l.length ∧ l[j2]? = some n) := ⟨c, hn⟩
              have ke := els_elem HOW.out HE2.out n
              clear hcc e0 hn c hj2
              by_cases c0 : n < 0
              · rw [elemI_out (Or.inl c0)] at ke
                have c1 : decide (0 ≤ n) = false := decide_eq_false (by omega)
                unfold undW at ke
                simp only [Option.getD_none, Option.isSome_none] at ke
                clear HC HG HL2 HE2 c0
                go_wp2_with fail
                refine ke.mono ?_
                rintro e w9 ⟨rfl, rfl⟩
                clear ke
                go_wp2_with fail
                refine ⟨⟨j2 + 1, by have := HJ.out.1; omega, rfl, by first | rfl | trivial⟩, ?_⟩
                have := HJ.out.1
                simp [intOf]
                omega
              · have c1 : decide (0 ≤ n) = true := decide_eq_true (by omega)
                have c1' : 0 ≤ n := by omega
                by_cases c2 : n < (E2.length : Int)
                · have hel := elemI_laid HJ.out.2 HL2.out c1' c2
                  have c3 : decide (n < (E2.length : Int)) = true := decide_eq_true c2
                  rw [hel] at ke
                  by_cases ch : v = holW
                  · rw [if_pos ch] at ke
                    have ch2 : (v == 18445336698825998340) = true := by simpa [holW] using ch
                    have ch3 : (v != 18445336698825998340) = false := by rw [bne, ch2]; rfl
                    unfold undW at ke
                    simp only [Option.getD_none, Option.isSome_none] at ke
                    clear HC HG HL2 HE2 c0 hel ch
                    go_wp2_with fail
                    refine ke.mono ?_
                    rintro e w9 ⟨rfl, rfl⟩
                    clear ke
                    go_wp2_with fail
                    refine ⟨⟨j2 + 1, by have := HJ.out.1; omega, rfl, by first | rfl | trivial⟩, ?_⟩
                    have := HJ.out.1
                    simp [intOf]
                    omega
                  · rw [if_neg ch] at ke
                    have ch2 : (v == 18445336698825998340) = false := by simpa [holW] using ch
                    have ch3 : (v != 18445336698825998340) = true := by rw [bne, ch2]; rfl
                    have hvv : (v != v) = false := by simp
                    simp only [Option.getD_some, Option.isSome_some] at ke
                    clear HC HG HL2 HE2 c0 hel ch
                    go_wp2_with fail
                    refine ke.mono ?_
                    rintro e w9 ⟨rfl, rfl⟩
                    clear ke
                    go_wp2_with fail
                    refine ⟨⟨j2 + 1, by have := HJ.out.1; omega, rfl, by first | rfl | trivial⟩, ?_⟩
                    have := HJ.out.1
                    simp [intOf]
                    omega
                · rw [elemI_out (Or.inr (by omega))] at ke
                  have c3 : decide (n < (E2.length : Int)) = false := decide_eq_false c2
                  unfold undW at ke
                  simp only [Option.getD_none, Option.isSome_none] at ke
                  clear HC HG HL2 HE2 c0
                  go_wp2_with fail
                  refine ke.mono ?_
                  rintro e w9 ⟨rfl, rfl⟩
                  clear ke
                  go_wp2_with fail
                  refine ⟨⟨j2 + 1, by have := HJ.out.1; omega, rfl, by first | rfl | trivial⟩, ?_⟩
                  have := HJ.out.1
                  simp [intOf]
                  omega
            · have hjj : ¬ ((j2 : Int) < (l.length : Int)) := by omega
              have kl := els_len HOW.out HE2.out
              have hee : (((E2.length : Int)) == (E2.length : Int)) = true := by simp
              have HBL := (show Hid _ from HE2.out.max.2)
              clear HC HG HL2 HE2 c hj2
              go_wp2_with fail
              refine kl.mono ?_
              rintro e w9 ⟨rfl, rfl⟩
              clear kl
              go_wp2_with fail
              go_ret
              exact ⟨rfl, HBL.out⟩
      · obtain ⟨k, rfl⟩ : ∃ k : Nat, mn = k := ⟨mn.toNat, by omega⟩
        have hk4 : k ≤ 4096 := by omega
        have ks := els_slen HOW.out HE1.out k hk4
        have c1 : decide (0 ≤ (k : Int)) = true := decide_eq_true (by omega)
        have c2 : decide ((k : Int) ≤ 4096) = true := decide_eq_true (by omega)
        have c2' : (k : Int) ≤ 4096 := by omega
        have HL2 : Hid (∀ n, n ∈ l → 0 ≤ n → n < ((resL el k).length : Int) → (resL el k)[n.toNat]? = some v) := fun n hn h0 h4 => by
          rw [resL_len] at h4
          exact resL_at (HLD.out n hn h0 (by omega)) (by omega)
        have HRL : Hid (((resL el k).length : Int) = (k : Int)) := by show _ = _; rw [resL_len]
        generalize resL el k = E2 at *
        clear HLD HE1 cm hk4
        go_wp2_with fail
        refine ks.mono ?_
        rintro e w5 ⟨rfl, hq⟩
        have HE2 : Hid (ElS w w5 hb E2) := hq
        clear ks hq
        go_wp2_with fail
        go_loopw [78] (fun p wr => ∃ (j : Nat), j ≤ l.length ∧ p = .int .i64 (j : Int) ∧ wr = w5) (fun p wr => ((l.length : Int) - intOf p).toNat)
        case atStart => exact ⟨0, Nat.zero_le _, rfl, rfl⟩
        case round =>
          obtain ⟨j2, hj2, rfl, rfl⟩ := hrel
          by_cases c : j2 < l.length
          · have hex : ∃ n, l[j2]? = some n := ⟨_, List.getElem?_eq_getElem c⟩
            obtain ⟨n, hn⟩ := hex
            obtain ⟨b, off, rfl, hcc⟩ := HC.out (by intro e; rw [e] at c; simp at c)
            have e0 := hcc j2 n hn 0 _ rfl
            simp only [Nat.mul_one, Nat.add_zero] at e0
            have d0 := cells_below HE2.out.max.2 _ _ e0
            have hjj : (j2 : Int) < (l.length : Int) := by omega
            have hjd : decide ((j2 : Int) < (l.length : Int)) = true := decide_eq_true hjj
            have hw1 : IntKind.i64.wrap ((j2 : Int) + 1) = ((j2 + 1 : Nat) : Int) := by rw [IntKind.wrap_i64]; omega
            have HJ : Hid (j2 < l.length ∧ l[j2]? = some n) := ⟨c, hn⟩
            have ke := els_elem HOW.out HE2.out n
            clear hcc e0 hn c hj2
            by_cases c0 : n < 0
            · rw [elemI_out (Or.inl c0)] at ke
              have c1 : decide (0 ≤ n) = false := decide_eq_false (by omega)
              unfold undW at ke
              simp only [Option.getD_none, Option.isSome_none] at ke
              clear HC HG HL2 HE2 c0
              go_wp2_with fail
              refine ke.mono ?_
              rintro e w9 ⟨rfl, rfl⟩
              clear ke
              go_wp2_with fail
              refine ⟨⟨j2 + 1, by have := HJ.out.1; omega, rfl, by first | rfl | trivial⟩, ?_⟩
              have := HJ.out.1
              simp [intOf]
              omega
            · have c1 : decide (0 ≤ n) = true := decide_eq_true (by omega)
              have c1' : 0 ≤ n := by omega
              by_cases c4 : n < (k : Int)
              · have hel := elemI_laid HJ.out.2 HL2.out c1' (by rw [HRL.out]; exact c4)
                have c3 : decide (n < (k : Int)) = true := decide_eq_true c4
                rw [hel] at ke
                by_cases ch : v = holW
                · rw [if_pos ch] at ke
                  have ch2 : (v == 18445336698825998340) = true := by simpa [holW] using ch
                  have ch3 : (v != 18445336698825998340) = false := by rw [bne, ch2]; rfl
                  unfold undW at ke
                  simp only [Option.getD_none, Option.isSome_none] at ke
                  clear HC HG HL2 HE2 c0 hel ch
                  go_wp2_with fail
                  refine ke.mono ?_
                  rintro e w9 ⟨rfl, rfl⟩
                  clear ke
                  go_wp2_with fail
                  refine ⟨⟨j2 + 1, by have := HJ.out.1; omega, rfl, by first | rfl | trivial⟩, ?_⟩
                  have := HJ.out.1
                  simp [intOf]
                  omega
                · rw [if_neg ch] at ke
                  have ch2 : (v == 18445336698825998340) = false := by simpa [holW] using ch
                  have ch3 : (v != 18445336698825998340) = true := by rw [bne, ch2]; rfl
                  have hvv : (v != v) = false := by simp
                  simp only [Option.getD_some, Option.isSome_some] at ke
                  clear HC HG HL2 HE2 c0 hel ch
                  go_wp2_with fail
                  refine ke.mono ?_
                  rintro e w9 ⟨rfl, rfl⟩
                  clear ke
                  go_wp2_with fail
                  refine ⟨⟨j2 + 1, by have := HJ.out.1; omega, rfl, by first | rfl | trivial⟩, ?_⟩
                  have := HJ.out.1
                  simp [intOf]
                  omega
              · rw [elemI_out (Or.inr (by rw [HRL.out]; omega))] at ke
                have c3 : decide (n < (k : Int)) = false := decide_eq_false c4
                unfold undW at ke
                simp only [Option.getD_none, Option.isSome_none] at ke
                clear HC HG HL2 HE2 c0
                go_wp2_with fail
                refine ke.mono ?_
                rintro e w9 ⟨rfl, rfl⟩
                clear ke
                go_wp2_with fail
                refine ⟨⟨j2 + 1, by have := HJ.out.1; omega, rfl, by first | rfl | trivial⟩, ?_⟩
                have := HJ.out.1
                simp [intOf]
                omega
          · have hjj : ¬ ((j2 : Int) < (l.length : Int)) := by omega
            have kl := els_len HOW.out HE2.out
            rw [HRL.out] at kl
            have hee : (((k : Int)) == (k : Int)) = true := by simp
            have HBL := (show Hid _ from HE2.out.max.2)
            clear HC HG HL2 HE2 c hj2
            go_wp2_with fail
            refine kl.mono ?_
            rintro e w9 ⟨rfl, rfl⟩
            clear kl
            go_wp2_with fail
            go_ret
            exact ⟨rfl, HBL.out⟩

end Go.Proofs.Ytkpdpdllbnihgaa.Hp
