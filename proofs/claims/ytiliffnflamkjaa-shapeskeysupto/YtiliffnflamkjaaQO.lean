/- ShapesKeys' walk. -/
import Derived.Test.YtiliffnflamkjaaQM
namespace Go.Proofs.Ytiliffnflamkjaa.Sp
open Go.RowKit
set_option linter.unusedVariables false

def hasB (ks : List ByteArray) (k : ByteArray) (i : Nat) : Bool := (idx (ks.take i) k).isSome

theorem has_next {ks : List ByteArray} {k y : ByteArray} {i : Nat} (h : ks[i]? = some y) : hasB ks k (i + 1) = (hasB ks k i || decide (y = k)) := by
  unfold hasB
  rw [take_at _ _ _ h, idx_push]
  cases idx (ks.take i) k with
  | some j => simp
  | none =>
    simp only
    by_cases c : y = k
    · simp [c]
    · simp [c]

theorem find_some {T : List Ly} {L : List Sh} (h : Rel T L) {j : Nat} {q : Sh} (hq : L[j]? = some q) (k : ByteArray) : (findR L j k).isSome = hasB q.ks k q.ks.length := by
  unfold hasB
  rw [List.take_length]
  rcases find_of h hq k with ⟨a, b⟩ | ⟨i, f, a, b, c⟩
  · rw [a, b]; rfl
  · rw [a, c]; rfl

set_option maxRecDepth 100000 in
set_option maxHeartbeats 16000000 in
theorem keys_walk (w : World) (most : Int) (a : Sli Cl) (ha : a.ok clC 5 w) (haw : ∀ o ∈ a.xs, o.wf) (hsz : a.xs.length ≤ 1048576) (key : ByteArray) (hkey : key.size ≤ maxLen) :
    Calls Try.prog 6 #[.int .i64 most, a.val, .string key] w fun e w' => e = .returned (.bool true) ∧ Below w.heap.size w w' := by
  obtain ⟨aa, ac, ax⟩ := a
  unfold Sli.val
  simp only at *
  have kn := new_any w most
  have KA := (show Hid _ from alive_any)
  have HCa : Hid (∀ W, Below w.heap.size w W → Sli.ok clC 5 W ⟨aa, ac, ax⟩) := fun W hW => ha.kept (cells_below hW)
  have HWFa : Hid ((∀ o ∈ ax, o.wf) ∧ ax.length ≤ 1048576) := ⟨haw, hsz⟩
  have hal : (ax.length : Int) ≤ 1048576 := by omega
  clear ha haw hsz hkey
  by_cases hm0 : most < 0
  · have HEM : Hid (max most 0 = 0) := by show _ = _; omega
    go_enter Try.func6, Try.ntmps6
    go_wp2_with fail
    refine kn.mono ?_
    rintro e w1 ⟨tb, O, rfl, hT, hb1⟩
    have kal := KA.out
    have HT1 : Hid (Tree w1 w.heap.size tb O most [] ∧ Below w.heap.size w w1) := ⟨hT, hb1⟩
    clear kn hT hb1 KA
    go_wp2_with fail
    refine (kal _).mono ?_
    rintro e w2 ⟨rfl, hb2⟩
    have hst := LyAt.start (HT1.out.1.below hb2) (HT1.out.2.trans (hb2.mono HT1.out.2.size))
    have HS : Hid (LyAt (fun _ => False) w (w2.alloc (.cells #[.int .i64 0, .slice none 0 0] 27)) tb w2.heap.size most 0 [] ⟨none, 0, []⟩) := by rw [HEM.out] at hst; exact hst
    clear kal hb2 hst HT1
    go_upto_region 5 with fail
    generalize hw3 : w2.alloc (.cells #[.int .i64 0, .slice none 0 0] 27) = w3 at *
    generalize w2.heap.size = rb at *
    clear hw3
    go_wp2_with fail
    go_loopw [34] (fun iv wr => ∃ (i : Nat) (L : List Sh) (s : Sli RS), (i ≤ ax.length ∧ LyAt (fun _ => False) w wr tb rb most i L s) ∧ iv = .int .i64 i) (fun iv wr => ax.length - (intOf iv).toNat)
    case atStart => exact ⟨0, _, _, ⟨Nat.zero_le _, HS.out⟩, rfl⟩
    case round =>
      clear HS
      obtain ⟨i, L, ⟨sa, sc', sx⟩, ⟨ple, hl⟩, rfl⟩ := hrel
      have HL := (show Hid _ from hl)
      skip
      have bx := hl.box
      simp only at bx
      clear hl 
      rcases Nat.lt_or_ge i ax.length with c | c
      · have hex : ∃ o, ax[i]? = some o := ⟨_, List.getElem?_eq_getElem c⟩
        obtain ⟨o, ho⟩ := hex
        obtain ⟨b, off, e1, hc⟩ := (HCa.out wr HL.out.bel).cells (by intro e; simp only at e; rw [e] at c; simp at c)
        simp only at e1
        subst e1
        have d0 := hc i o ho 0 _ rfl
        have d1 := hc i o ho 1 _ rfl
        have d2 := hc i o ho 2 _ rfl
        have d3 := hc i o ho 3 _ rfl
        have d4 := hc i o ho 4 _ rfl
        rw [Nat.add_zero] at d0
        have cil : (i : Int) < ax.length := by omega
        have ks := (HL.out.below (alloc_b wr (.cells #[.int .i64 o.kd, .int .i64 o.sh, .int .i64 o.fl, .int .u64 o.pr, .string o.ke] 33))).step (Or.inl (by have := HWFa.out.2; omega)) o (HWFa.out.1 o (List.mem_of_getElem? ho))
        have HPRE : Hid (∃ R, (opD most L o).1 = L ++ R) := op_pre _ _ _
        obtain ⟨kd, sh, fl, pr, ke⟩ := o
        unfold clV at ks
        simp only at *
        have bx' : (wr.alloc (.cells #[.int .i64 kd, .int .i64 sh, .int .i64 fl, .int .u64 pr, .string ke] 33)).heap[rb]? = some (.cells #[.int .i64 (max most 0), .slice sa sx.length sc'] 27 (0, 0)) := at_old _ _ _ _ bx
        obtain ⟨w4, hw4⟩ : ∃ w4, w4 = wr.alloc (.cells #[.int .i64 kd, .int .i64 sh, .int .i64 fl, .int .u64 pr, .string ke] 33) := ⟨_, rfl⟩
        have g0 : w4.cell? ⟨wr.heap.size, 0, none⟩ = some (.int .i64 kd) := by rw [hw4]; exact box_new wr _ _ 0 _ rfl
        have g1 : w4.cell? ⟨wr.heap.size, 1, none⟩ = some (.int .i64 sh) := by rw [hw4]; exact box_new wr _ _ 1 _ rfl
        have g2 : w4.cell? ⟨wr.heap.size, 2, none⟩ = some (.int .i64 fl) := by rw [hw4]; exact box_new wr _ _ 2 _ rfl
        have g3 : w4.cell? ⟨wr.heap.size, 3, none⟩ = some (.int .u64 pr) := by rw [hw4]; exact box_new wr _ _ 3 _ rfl
        have g4 : w4.cell? ⟨wr.heap.size, 4, none⟩ = some (.string ke) := by rw [hw4]; exact box_new wr _ _ 4 _ rfl
        have HKEP : Hid (∀ b, (fun _ => False) b → w4.heap[b]? = wr.heap[b]?) := fun b q => by rw [hw4]; exact (alloc_b wr _).block b (HL.out.ylt b q).1
        rw [← hw4] at ks bx'
        have r0 : w4.cell? ⟨rb, 0, none⟩ = some (.int .i64 (max most 0)) := by rw [cell_of_row w4 _ 0 _ 27 (0, 0) bx']; rfl
        have r1 : w4.cell? ⟨rb, 1, none⟩ = some (.slice sa sx.length sc') := by rw [cell_of_row w4 _ 1 _ 27 (0, 0) bx']; rfl
        clear hc ho bx bx'
        go_upto_region 8 with fail
        rw [← hw4]
        clear hw4 d0 d1 d2 d3 d4
        go_wp2_with fail
        refine ks.mono ?_
        rintro e w5 ⟨⟨za, zc, zx⟩, rfl, bx5, hbo5, hbe5, hlo5, hl5, hy5⟩
        have HX := (show Hid (_ ∧ _) from ⟨hl5, hy5⟩)
        have m0 := cell_of_row w5 rb 0 _ 27 (0, 0) bx5
        have m1 := cell_of_row w5 rb 1 _ 27 (0, 0) bx5
        have n0 := frozen_of_row w5 rb 0 _ 27 bx5
        have n1 := frozen_of_row w5 rb 1 _ 27 bx5
        clear hl5 bx5 hbo5 hbe5 hlo5 hy5 ks r0 r1 g0 g1 g2 g3 g4
        go_wp2_with fail
        refine ⟨⟨i + 1, _, ⟨za, zc, zx⟩, ⟨c, HX.out.1⟩, by go_num⟩, ?_⟩
        simp [intOf]
        omega
      · have cil : ¬ (i : Int) < ax.length := by omega
        obtain ⟨O1, hT1, hR1, hX1⟩ := HL.out.both
        have HBW : Hid (Below w.heap.size w wr) := HL.out.bel
        have HT1 : Hid (∀ W, Below wr.heap.size wr W → Tree W w.heap.size tb O1 most L) := fun W hW => hT1.below hW
        have hrel2 : (∃ T, Rel T L) ∧ L.length ≤ top := by obtain ⟨T, v, mb, h⟩ := hT1; exact ⟨⟨T, h.rel⟩, h.cap⟩
        have HREL := (show Hid _ from hrel2)
        have hLl : (L.length : Int) ≤ 1700000000000 := by have := hrel2.2; unfold top at this; omega
        have kc := count_any wr w.heap.size tb O1 most L hT1
        clear hT1 hR1 hX1 hrel2 HCa HWFa bx HL
        go_wp2_with fail
        refine kc.mono ?_
        rintro e w4 ⟨rfl, rfl⟩
        clear kc
        go_wp2_with fail
        go_loopw [48] (fun jv wq => ∃ j : Nat, (j ≤ L.length ∧ Below w4.heap.size w4 wq) ∧ jv = .int .i64 j) (fun jv wq => L.length - (intOf jv).toNat)
        case atStart => exact ⟨0, ⟨Nat.zero_le _, Below.refl _ _⟩, rfl⟩
        case round =>
          obtain ⟨j, ⟨jle, hbq⟩, rfl⟩ := hrel
          have HBQ : Hid (Below w4.heap.size w4 wr) := hbq
          clear hbq
          rcases Nat.lt_or_ge j L.length with cj | cj
          · have hex : ∃ q, L[j]? = some q := ⟨_, List.getElem?_eq_getElem cj⟩
            obtain ⟨q, hq⟩ := hex
            have kk := keys_any wr w.heap.size tb O1 most L (HT1.out wr HBQ.out) j
            have ek : keysOf L j = q.ks := by
              unfold keysOf shOf
              rw [if_pos (by omega), Int.toNat_natCast, hq]
              rfl
            rw [ek] at kk
            have HQ : Hid (L[j]? = some q) := hq
            have cjj : (j : Int) < L.length := by omega
            clear ek hq
            go_wp2_with fail
            refine kk.mono ?_
            rintro e w5 ⟨v5, rfl, ho5, hb5⟩
            obtain ⟨⟨la, lc, lx⟩, rfl, hlx, hlok, _⟩ := ho5.sl rtStr.len
            simp only at hlx
            subst hlx
            have HLO : Hid (∀ W, Below w5.heap.size w5 W → Sli.ok strC 1 W ⟨la, lc, q.ks⟩) := fun W hW => hlok.kept (cells_below hW)
            have hll : (q.ks.length : Int) ≤ 9223372036854775807 := by have h1 := hlok.len; have h2 := hlok.cap; simp only at h1 h2; unfold maxLen at h2; omega
            have HB5 : Hid (Below w4.heap.size w4 w5) := HBQ.out.trans (hb5.mono HBQ.out.size)
            clear kk ho5 hb5 hlok HBQ
            unfold Sli.val
            simp only
            go_wp2_with fail
            go_loopw [13, 56] (fun hv kv wq => ∃ k : Nat, (k ≤ q.ks.length ∧ Below w5.heap.size w5 wq) ∧ hv = .bool (hasB q.ks key k) ∧ kv = .int .i64 k) (fun hv kv wq => q.ks.length - (intOf kv).toNat)
            case atStart => exact ⟨0, ⟨Nat.zero_le _, Below.refl _ _⟩, rfl, rfl⟩
            case round =>
              obtain ⟨k, ⟨kle, hbk⟩, rfl, rfl⟩ := hrel
              have HBK : Hid (Below w5.heap.size w5 wr) := hbk
              clear hbk
              have hb4 := HB5.out.trans (HBK.out.mono HB5.out.size)
              rcases Nat.lt_or_ge k q.ks.length with ck | ck
              · have hex : ∃ y, q.ks[k]? = some y := ⟨_, List.getElem?_eq_getElem ck⟩
                obtain ⟨y, hy⟩ := hex
                obtain ⟨b1, o1, e1, hc1⟩ := (HLO.out wr HBK.out).cells (by intro e; simp only at e; rw [e] at ck; simp at ck)
                simp only at e1
                subst e1
                have y1 := hc1 k y hy 0 _ rfl
                rw [Nat.add_zero, Nat.mul_one] at y1
                have kf := find_any wr w.heap.size tb O1 most L (HT1.out wr hb4) j y
                have hfr : ∃ f, findR L j y = some (k, f) := by
                  obtain ⟨⟨T, hT⟩, _⟩ := HREL.out
                  rcases find_of hT HQ.out y with ⟨a1, a2⟩ | ⟨i', f, a1, a2, a3⟩
                  · rw [(hT.fin HQ.out).own k y hy] at a1; cases a1
                  · rw [(hT.fin HQ.out).own k y hy] at a1
                    cases a1
                    exact ⟨f, a3⟩
                obtain ⟨ff, hff⟩ := hfr
                rw [hff] at kf
                unfold slotI flagI at kf
                simp only [Option.isSome_some] at kf
                have HNX : Hid (hasB q.ks key (k + 1) = (hasB q.ks key k || decide (y = key))) := has_next hy
                have t1 : ((k : Int) == k) = true := by simp
                have ckk : (k : Int) < q.ks.length := by omega
                clear hc1 hy hff hb4
                generalize hH : hasB q.ks key k = hh at *
                go_wp2_with fail
                refine kf.mono ?_
                rintro e w6 ⟨rfl, hb6⟩
                have y2 := cells_below hb6 _ _ y1
                have HB6 : Hid (Below w5.heap.size w5 w6) := HBK.out.trans (hb6.mono HBK.out.size)
                clear kf hb6 y1 HBK hH
                cases hh with
                | true =>
                  go_wp2_with fail
                  refine ⟨⟨k + 1, ⟨ck, HB6.out⟩, by rw [HNX.out]; rfl, by go_num⟩, ?_⟩
                  simp [intOf]
                  omega
                | false =>
                  by_cases ty : y = key
                  · subst ty
                    have t2 := bytes_yes y
                    go_wp2_with fail
                    refine ⟨⟨k + 1, ⟨ck, HB6.out⟩, by rw [HNX.out]; simp, by go_num⟩, ?_⟩
                    simp [intOf]
                    omega
                  · have t2 := bytes_no ty
                    go_wp2_with fail
                    refine ⟨⟨k + 1, ⟨ck, HB6.out⟩, by rw [HNX.out]; simp [ty], by go_num⟩, ?_⟩
                    simp [intOf]
                    omega
              · have hkk : k = q.ks.length := by omega
                have ckk : ¬ (k : Int) < q.ks.length := by omega
                have kf := find_any wr w.heap.size tb O1 most L (HT1.out wr hb4) j key
                have hso : (findR L j key).isSome = hasB q.ks key k := by
                  obtain ⟨⟨T, hT⟩, _⟩ := HREL.out
                  rw [hkk]
                  exact find_some hT HQ.out key
                rw [hso] at kf
                have hdk : decide (k < q.ks.length) = false := decide_eq_false (by omega)
                have t3 : (hasB q.ks key k == hasB q.ks key k) = true := by simp
                generalize hasB q.ks key k = hh at *
                generalize slotI (findR L j key) = s1 at *
                generalize flagI (findR L j key) = s2 at *
                clear hso hb4 hkk
                go_wp2_with fail
                refine kf.mono ?_
                rintro e w6 ⟨rfl, hb6⟩
                have HB6 : Hid (Below w4.heap.size w4 w6) := HB5.out.trans ((HBK.out.trans (hb6.mono HBK.out.size)).mono HB5.out.size)
                clear kf hb6
                cases hh <;>
                · go_wp2_with fail
                  refine ⟨⟨j + 1, ⟨cj, HB6.out⟩, by go_num⟩, ?_⟩
                  simp [intOf]
                  omega
          · have cjj : ¬ (j : Int) < L.length := by omega
            have HBE : Hid (Below w.heap.size w wr) := HBW.out.trans (HBQ.out.mono HBW.out.size)
            clear HBQ HREL
            go_wp2_with fail
            go_ret
            exact ⟨rfl, HBE.out⟩
  · have HEM : Hid (max most 0 = most) := by show _ = _; omega
    have hm1 : 0 ≤ most := by omega
    go_enter Try.func6, Try.ntmps6
    go_wp2_with fail
    refine kn.mono ?_
    rintro e w1 ⟨tb, O, rfl, hT, hb1⟩
    have kal := KA.out
    have HT1 : Hid (Tree w1 w.heap.size tb O most [] ∧ Below w.heap.size w w1) := ⟨hT, hb1⟩
    clear kn hT hb1 KA
    go_wp2_with fail
    refine (kal _).mono ?_
    rintro e w2 ⟨rfl, hb2⟩
    have hst := LyAt.start (HT1.out.1.below hb2) (HT1.out.2.trans (hb2.mono HT1.out.2.size))
    have HS : Hid (LyAt (fun _ => False) w (w2.alloc (.cells #[.int .i64 most, .slice none 0 0] 27)) tb w2.heap.size most 0 [] ⟨none, 0, []⟩) := by rw [HEM.out] at hst; exact hst
    clear kal hb2 hst HT1
    go_upto_region 5 with fail
    generalize hw3 : w2.alloc (.cells #[.int .i64 most, .slice none 0 0] 27) = w3 at *
    generalize w2.heap.size = rb at *
    clear hw3
    go_wp2_with fail
    go_loopw [34] (fun iv wr => ∃ (i : Nat) (L : List Sh) (s : Sli RS), (i ≤ ax.length ∧ LyAt (fun _ => False) w wr tb rb most i L s) ∧ iv = .int .i64 i) (fun iv wr => ax.length - (intOf iv).toNat)
    case atStart => exact ⟨0, _, _, ⟨Nat.zero_le _, HS.out⟩, rfl⟩
    case round =>
      clear HS
      obtain ⟨i, L, ⟨sa, sc', sx⟩, ⟨ple, hl⟩, rfl⟩ := hrel
      have HL := (show Hid _ from hl)
      skip
      have bx := hl.box
      simp only at bx
      clear hl 
      rcases Nat.lt_or_ge i ax.length with c | c
      · have hex : ∃ o, ax[i]? = some o := ⟨_, List.getElem?_eq_getElem c⟩
        obtain ⟨o, ho⟩ := hex
        obtain ⟨b, off, e1, hc⟩ := (HCa.out wr HL.out.bel).cells (by intro e; simp only at e; rw [e] at c; simp at c)
        simp only at e1
        subst e1
        have d0 := hc i o ho 0 _ rfl
        have d1 := hc i o ho 1 _ rfl
        have d2 := hc i o ho 2 _ rfl
        have d3 := hc i o ho 3 _ rfl
        have d4 := hc i o ho 4 _ rfl
        rw [Nat.add_zero] at d0
        have cil : (i : Int) < ax.length := by omega
        have ks := (HL.out.below (alloc_b wr (.cells #[.int .i64 o.kd, .int .i64 o.sh, .int .i64 o.fl, .int .u64 o.pr, .string o.ke] 33))).step (Or.inl (by have := HWFa.out.2; omega)) o (HWFa.out.1 o (List.mem_of_getElem? ho))
        have HPRE : Hid (∃ R, (opD most L o).1 = L ++ R) := op_pre _ _ _
        obtain ⟨kd, sh, fl, pr, ke⟩ := o
        unfold clV at ks
        simp only at *
        have bx' : (wr.alloc (.cells #[.int .i64 kd, .int .i64 sh, .int .i64 fl, .int .u64 pr, .string ke] 33)).heap[rb]? = some (.cells #[.int .i64 (max most 0), .slice sa sx.length sc'] 27 (0, 0)) := at_old _ _ _ _ bx
        obtain ⟨w4, hw4⟩ : ∃ w4, w4 = wr.alloc (.cells #[.int .i64 kd, .int .i64 sh, .int .i64 fl, .int .u64 pr, .string ke] 33) := ⟨_, rfl⟩
        have g0 : w4.cell? ⟨wr.heap.size, 0, none⟩ = some (.int .i64 kd) := by rw [hw4]; exact box_new wr _ _ 0 _ rfl
        have g1 : w4.cell? ⟨wr.heap.size, 1, none⟩ = some (.int .i64 sh) := by rw [hw4]; exact box_new wr _ _ 1 _ rfl
        have g2 : w4.cell? ⟨wr.heap.size, 2, none⟩ = some (.int .i64 fl) := by rw [hw4]; exact box_new wr _ _ 2 _ rfl
        have g3 : w4.cell? ⟨wr.heap.size, 3, none⟩ = some (.int .u64 pr) := by rw [hw4]; exact box_new wr _ _ 3 _ rfl
        have g4 : w4.cell? ⟨wr.heap.size, 4, none⟩ = some (.string ke) := by rw [hw4]; exact box_new wr _ _ 4 _ rfl
        have HKEP : Hid (∀ b, (fun _ => False) b → w4.heap[b]? = wr.heap[b]?) := fun b q => by rw [hw4]; exact (alloc_b wr _).block b (HL.out.ylt b q).1
        rw [← hw4] at ks bx'
        have r0 : w4.cell? ⟨rb, 0, none⟩ = some (.int .i64 (max most 0)) := by rw [cell_of_row w4 _ 0 _ 27 (0, 0) bx']; rfl
        have r1 : w4.cell? ⟨rb, 1, none⟩ = some (.slice sa sx.length sc') := by rw [cell_of_row w4 _ 1 _ 27 (0, 0) bx']; rfl
        clear hc ho bx bx'
        go_upto_region 8 with fail
        rw [← hw4]
        clear hw4 d0 d1 d2 d3 d4
        go_wp2_with fail
        refine ks.mono ?_
        rintro e w5 ⟨⟨za, zc, zx⟩, rfl, bx5, hbo5, hbe5, hlo5, hl5, hy5⟩
        have HX := (show Hid (_ ∧ _) from ⟨hl5, hy5⟩)
        have m0 := cell_of_row w5 rb 0 _ 27 (0, 0) bx5
        have m1 := cell_of_row w5 rb 1 _ 27 (0, 0) bx5
        have n0 := frozen_of_row w5 rb 0 _ 27 bx5
        have n1 := frozen_of_row w5 rb 1 _ 27 bx5
        clear hl5 bx5 hbo5 hbe5 hlo5 hy5 ks r0 r1 g0 g1 g2 g3 g4
        go_wp2_with fail
        refine ⟨⟨i + 1, _, ⟨za, zc, zx⟩, ⟨c, HX.out.1⟩, by go_num⟩, ?_⟩
        simp [intOf]
        omega
      · have cil : ¬ (i : Int) < ax.length := by omega
        obtain ⟨O1, hT1, hR1, hX1⟩ := HL.out.both
        have HBW : Hid (Below w.heap.size w wr) := HL.out.bel
        have HT1 : Hid (∀ W, Below wr.heap.size wr W → Tree W w.heap.size tb O1 most L) := fun W hW => hT1.below hW
        have hrel2 : (∃ T, Rel T L) ∧ L.length ≤ top := by obtain ⟨T, v, mb, h⟩ := hT1; exact ⟨⟨T, h.rel⟩, h.cap⟩
        have HREL := (show Hid _ from hrel2)
        have hLl : (L.length : Int) ≤ 1700000000000 := by have := hrel2.2; unfold top at this; omega
        have kc := count_any wr w.heap.size tb O1 most L hT1
        clear hT1 hR1 hX1 hrel2 HCa HWFa bx HL
        go_wp2_with fail
        refine kc.mono ?_
        rintro e w4 ⟨rfl, rfl⟩
        clear kc
        go_wp2_with fail
        go_loopw [48] (fun jv wq => ∃ j : Nat, (j ≤ L.length ∧ Below w4.heap.size w4 wq) ∧ jv = .int .i64 j) (fun jv wq => L.length - (intOf jv).toNat)
        case atStart => exact ⟨0, ⟨Nat.zero_le _, Below.refl _ _⟩, rfl⟩
        case round =>
          obtain ⟨j, ⟨jle, hbq⟩, rfl⟩ := hrel
          have HBQ : Hid (Below w4.heap.size w4 wr) := hbq
          clear hbq
          rcases Nat.lt_or_ge j L.length with cj | cj
          · have hex : ∃ q, L[j]? = some q := ⟨_, List.getElem?_eq_getElem cj⟩
            obtain ⟨q, hq⟩ := hex
            have kk := keys_any wr w.heap.size tb O1 most L (HT1.out wr HBQ.out) j
            have ek : keysOf L j = q.ks := by
              unfold keysOf shOf
              rw [if_pos (by omega), Int.toNat_natCast, hq]
              rfl
            rw [ek] at kk
            have HQ : Hid (L[j]? = some q) := hq
            have cjj : (j : Int) < L.length := by omega
            clear ek hq
            go_wp2_with fail
            refine kk.mono ?_
            rintro e w5 ⟨v5, rfl, ho5, hb5⟩
            obtain ⟨⟨la, lc, lx⟩, rfl, hlx, hlok, _⟩ := ho5.sl rtStr.len
            simp only at hlx
            subst hlx
            have HLO : Hid (∀ W, Below w5.heap.size w5 W → Sli.ok strC 1 W ⟨la, lc, q.ks⟩) := fun W hW => hlok.kept (cells_below hW)
            have hll : (q.ks.length : Int) ≤ 9223372036854775807 := by have h1 := hlok.len; have h2 := hlok.cap; simp only at h1 h2; unfold maxLen at h2; omega
            have HB5 : Hid (Below w4.heap.size w4 w5) := HBQ.out.trans (hb5.mono HBQ.out.size)
            clear kk ho5 hb5 hlok HBQ
            unfold Sli.val
            simp only
            go_wp2_with fail
            go_loopw [13, 56] (fun hv kv wq => ∃ k : Nat, (k ≤ q.ks.length ∧ Below w5.heap.size w5 wq) ∧ hv = .bool (hasB q.ks key k) ∧ kv = .int .i64 k) (fun hv kv wq => q.ks.length - (intOf kv).toNat)
            case atStart => exact ⟨0, ⟨Nat.zero_le _, Below.refl _ _⟩, rfl, rfl⟩
            case round =>
              obtain ⟨k, ⟨kle, hbk⟩, rfl, rfl⟩ := hrel
              have HBK : Hid (Below w5.heap.size w5 wr) := hbk
              clear hbk
              have hb4 := HB5.out.trans (HBK.out.mono HB5.out.size)
              rcases Nat.lt_or_ge k q.ks.length with ck | ck
              · have hex : ∃ y, q.ks[k]? = some y := ⟨_, List.getElem?_eq_getElem ck⟩
                obtain ⟨y, hy⟩ := hex
                obtain ⟨b1, o1, e1, hc1⟩ := (HLO.out wr HBK.out).cells (by intro e; simp only at e; rw [e] at ck; simp at ck)
                simp only at e1
                subst e1
                have y1 := hc1 k y hy 0 _ rfl
                rw [Nat.add_zero, Nat.mul_one] at y1
                have kf := find_any wr w.heap.size tb O1 most L (HT1.out wr hb4) j y
                have hfr : ∃ f, findR L j y = some (k, f) := by
                  obtain ⟨⟨T, hT⟩, _⟩ := HREL.out
                  rcases find_of hT HQ.out y with ⟨a1, a2⟩ | ⟨i', f, a1, a2, a3⟩
                  · rw [(hT.fin HQ.out).own k y hy] at a1; cases a1
                  · rw [(hT.fin HQ.out).own k y hy] at a1
                    cases a1
                    exact ⟨f, a3⟩
                obtain ⟨ff, hff⟩ := hfr
                rw [hff] at kf
                unfold slotI flagI at kf
                simp only [Option.isSome_some] at kf
                have HNX : Hid (hasB q.ks key (k + 1) = (hasB q.ks key k || decide (y = key))) := has_next hy
                have t1 : ((k : Int) == k) = true := by simp
                have ckk : (k : Int) < q.ks.length := by omega
                clear hc1 hy hff hb4
                generalize hH : hasB q.ks key k = hh at *
                go_wp2_with fail
                refine kf.mono ?_
                rintro e w6 ⟨rfl, hb6⟩
                have y2 := cells_below hb6 _ _ y1
                have HB6 : Hid (Below w5.heap.size w5 w6) := HBK.out.trans (hb6.mono HBK.out.size)
                clear kf hb6 y1 HBK hH
                cases hh with
                | true =>
                  go_wp2_with fail
                  refine ⟨⟨k + 1, ⟨ck, HB6.out⟩, by rw [HNX.out]; rfl, by go_num⟩, ?_⟩
                  simp [intOf]
                  omega
                | false =>
                  by_cases ty : y = key
                  · subst ty
                    have t2 := bytes_yes y
                    go_wp2_with fail
                    refine ⟨⟨k + 1, ⟨ck, HB6.out⟩, by rw [HNX.out]; simp, by go_num⟩, ?_⟩
                    simp [intOf]
                    omega
                  · have t2 := bytes_no ty
                    go_wp2_with fail
                    refine ⟨⟨k + 1, ⟨ck, HB6.out⟩, by rw [HNX.out]; simp [ty], by go_num⟩, ?_⟩
                    simp [intOf]
                    omega
              · have hkk : k = q.ks.length := by omega
                have ckk : ¬ (k : Int) < q.ks.length := by omega
                have kf := find_any wr w.heap.size tb O1 most L (HT1.out wr hb4) j key
                have hso : (findR L j key).isSome = hasB q.ks key k := by
                  obtain ⟨⟨T, hT⟩, _⟩ := HREL.out
                  rw [hkk]
                  exact find_some hT HQ.out key
                rw [hso] at kf
                have hdk : decide (k < q.ks.length) = false := decide_eq_false (by omega)
                have t3 : (hasB q.ks key k == hasB q.ks key k) = true := by simp
                generalize hasB q.ks key k = hh at *
                generalize slotI (findR L j key) = s1 at *
                generalize flagI (findR L j key) = s2 at *
                clear hso hb4 hkk
                go_wp2_with fail
                refine kf.mono ?_
                rintro e w6 ⟨rfl, hb6⟩
                have HB6 : Hid (Below w4.heap.size w4 w6) := HB5.out.trans ((HBK.out.trans (hb6.mono HBK.out.size)).mono HB5.out.size)
                clear kf hb6
                cases hh <;>
                · go_wp2_with fail
                  refine ⟨⟨j + 1, ⟨cj, HB6.out⟩, by go_num⟩, ?_⟩
                  simp [intOf]
                  omega
          · have cjj : ¬ (j : Int) < L.length := by omega
            have HBE : Hid (Below w.heap.size w wr) := HBW.out.trans (HBQ.out.mono HBW.out.size)
            clear HBQ HREL
            go_wp2_with fail
            go_ret
            exact ⟨rfl, HBE.out⟩

end Go.Proofs.Ytiliffnflamkjaa.Sp
