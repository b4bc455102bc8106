/- HeapInner: the law's walk. -/
import Derived.Test.YtkpdpdllbnihgabIC
import Derived.Test.YtkpdpdllbnihgabHV
namespace Go.Proofs.Ytkpdpdllbnihgab.Hp
open Go.RowKit Go.ChangeShapes Go.WideShapes
set_option linter.unusedVariables false

theorem words_len {H : Type} {ts : List TypeId} {ds : List (DataW H)} (hw : (DataW.weightsEach Try.prog ts ds).all (· ≤ reachBytes) = true) {j : Nat} (ht : ts[j]? = some 22) {d : DataW H} (hd : ds[j]? = some d) {xs : List Int} (h : xs = [] ∨ ∃ els sp, d = .slice els sp ∧ els.length = xs.length) : xs.length ≤ 17592186043904 := by
  rcases h with h | ⟨els, sp, rfl, h⟩
  · rw [h]; exact Nat.zero_le _
  · have h3 := sized_slice hw ht hd Try.underlying22
    rw [show Try.prog.bytesOf 24 = 8 by kernel_rfl] at h3
    have h4 : reachBytes = 140737488351232 := rfl
    rw [h4] at h3
    have h5 : els.length * 8 ≤ 140737488351232 := Nat.le_trans (Nat.mul_le_mul_right _ (by omega)) h3
    omega

/-- a heap whose first object has these inner words, and a row beside it -/
structure InG (w0 w : World) (hb : Nat) (l : List Int) (s : SV) (ys : List Int) : Prop where
  at' : ∃ tg M H ob, HeapAt w w0.heap.size hb tg H M ∧ H.obs[0]? = some ob ∧ ob.inn = l ∧ ∀ b, s.val.ownBlock = some b → tg b = 0
  bel : Below w0.heap.size w0 w
  own : OwnR wC 1 24 w0.heap.size w s.val ys

theorem InG.open {w0 w : World} {hb : Nat} {l ys : List Int} {s : SV} (h : InG w0 w hb l s ys) {j : Nat} (hj : j < ys.length) (x : Int) : ∃ g c u, s = ⟨some ⟨g, 0, none⟩, ys.length, c⟩ ∧ w.cell? ⟨g, j, none⟩ = some (.int .u64 u) ∧ w.frozen? ⟨g, j, none⟩ = false ∧ ys.length ≤ c ∧ c ≤ maxLen ∧ InG w0 (w.setCell ⟨g, j, none⟩ (.int .u64 x)) hb l s (ys.set j x) := by
  have hr : RowIn wC 1 24 w0.heap.size w (fun b => s.val.ownBlock = some b) s ys := ⟨h.own, fun b q => q⟩
  obtain ⟨q1, q2, q3, q4⟩ := hr.open rtW.len
  obtain ⟨g, e1, hg1, hg2, hg3, hc, hf⟩ := q4 (by intro e; rw [e] at hj; simp at hj)
  obtain ⟨ad, len, c⟩ := s
  simp only at q1 q2 q3 e1
  subst q1 e1
  have dv := hc j _ (List.getElem?_eq_getElem hj) 0 _ rfl
  simp only [Nat.mul_one, Nat.add_zero] at dv
  obtain ⟨tg, M, H, ob, h1, h2, h3, h4⟩ := h.at'
  have tz : tg g = 0 := h4 g rfl
  have hput := OwnR.put (j := 0) (u := .int .u64 x) (y' := x) rtW.len h.own (List.getElem?_eq_getElem hj) (by omega) rfl
  simp only [Nat.mul_one, Nat.add_zero] at hput
  have cs : Chg (fun b => b = g) w (w.setCell ⟨g, j, none⟩ (.int .u64 x)) := Chg.set (S := fun b => b = g) w ⟨g, j, none⟩ _ rfl
  refine ⟨g, c, _, rfl, dv, hf j, q2, q3, ⟨tg, M, H, ob, h1.kept cs (fun b q e => q (by rw [show b = g from e]; exact tz)), h2, h3, h4⟩, cs.below h.bel h.bel.size (fun k q => by rw [show k = g from q]; exact hg1), hput⟩

theorem mk1b : ∃ ob, (makeH (He.new 1) 4 nulW).obs[0]? = some ob := by
  have h1 : obI (He.new 1) nulW = none := by
    unfold obI
    rw [if_neg (by intro q; have := q.1; rw [isT_nul] at this; cases this)]
  have h2 : raiseH (He.new 1) nulW = He.new 1 := by unfold raiseH; rw [h1]
  unfold makeH
  rw [h2]
  exact ⟨_, rfl⟩

theorem set_inner {w0 w : World} {hb : Nat} {tg : Nat → Nat} {M : HV} {H : He} {ob : Ob} {s : SV} {l : List Int} (h : HeapAt w w0.heap.size hb tg H M) (h2 : H.obs[0]? = some ob) (hbl : Below w0.heap.size w0 w) (hown : OwnR wC 1 24 w0.heap.size w s.val l) (hz : ∀ b, s.val.ownBlock = some b → tg b = 0) (hl : l.length ≤ 17592186044416) :
    Calls Try.prog 7 #[.pointer (some ⟨hb, 0, none⟩), .int .u64 (objW 0), s.val] w fun e w' => e = .returned (.tuple #[]) ∧ InG w0 w' hb l s l := by
  obtain ⟨m, e1, e2, e3, _⟩ := hown.sl rtW.len
  have ho : obI H (objW 0) = some 0 := obI_of (H := H) (i := 0) (List.getElem?_eq_some_iff.1 h2).1 h.wf.ol
  have k := setInner_at h (objW 0) (by decide) (by decide) ho h2 m e3 (by rw [e2]; exact hl)
  rw [← e1, e2] at k
  refine k.mono ?_
  rintro e w' ⟨rfl, M', tg', k1, k2, k3⟩
  refine ⟨rfl, ⟨tg', M', _, { ob with inn := l }, k1, List.getElem?_set_self (List.getElem?_eq_some_iff.1 h2).1, rfl, fun b q => ?_⟩, k2.below hbl hbl.size (fun b q => (h.lt b q).1), hown.kept k2 (fun b q e => e (hz b q))⟩
  by_cases c : tg' b = 0
  · exact c
  · rcases k3 b c with d | d
    · exact absurd (hz b q) d
    · have := (hown.lt b q).2; omega

theorem get_inner {w0 w : World} {hb : Nat} {s : SV} {l ys : List Int} (h : InG w0 w hb l s ys) :
    Calls Try.prog 8 #[.pointer (some ⟨hb, 0, none⟩), .int .u64 (objW 0)] w fun e w' => ∃ s2 : SV, e = .returned s2.val ∧ InG w0 w' hb l s2 l := by
  obtain ⟨tg, M, H, ob, h1, h2, h3, h4⟩ := h.at'
  have ho : obI H (objW 0) = some 0 := obI_of (H := H) (i := 0) (List.getElem?_eq_some_iff.1 h2).1 h1.wf.ol
  refine (inner_at h1 (objW 0) (by decide) (by decide) ho h2).mono ?_
  rintro e w' ⟨s2, rfl, k1, k2⟩
  rw [h3] at k1
  have hz := h.bel.size
  refine ⟨s2, rfl, ⟨tg, M, H, ob, h1.below k2, h2, h3, fun b q => ?_⟩, h.bel.trans ⟨k2.os, k2.tape, k2.output, k2.size, fun k hk => k2.block k (by omega)⟩, k1.low (by omega)⟩
  by_cases c : tg b = 0
  · exact c
  · have := (h1.lt b c).2
    have := (k1.lt b q).1
    omega

theorem InG.words {w0 w : World} {hb : Nat} {s : SV} {l ys : List Int} (h : InG w0 w hb l s ys) (m : Sli Int) (hm : m.ok wC 1 w0) (e : ys = m.xs) :
    Calls Try.prog 9 #[s.val, m.val] w fun e w' => e = .returned (.bool true) ∧ InG w0 w' hb l s ys := by
  obtain ⟨m2, e1, e2, e3, _⟩ := h.own.sl rtW.len
  rw [e1]
  refine (words_same w m2 m e3 (hm.kept (fun a u q => cells_below h.bel a u q)) (by rw [e2, e])).mono ?_
  rintro ex w' ⟨rfl, hB⟩
  obtain ⟨tg, M, H, ob, h1, h2, h3, h4⟩ := h.at'
  have hz := h.bel.size
  exact ⟨rfl, ⟨tg, M, H, ob, h1.below hB, h2, h3, h4⟩, h.bel.trans ⟨hB.os, hB.tape, hB.output, hB.size, fun k hk => hB.block k (by omega)⟩, h.own.below hB⟩

set_option maxRecDepth 100000 in
set_option maxHeartbeats 4000000 in
theorem inner_walk (w : World) (m : Sli Int) (hm : m.ok wC 1 w) (hl : m.xs.length ≤ 17592186043904) (v : Int) (hv : 0 ≤ v ∧ v < 18446744073709551616) :
    Calls Try.prog 3 #[m.val, .int .u64 v] w fun e w' => e = .returned (.bool true) ∧ Below w.heap.size w w' := by
  have kn := new_any w 1
  have ka := fun w => alive_any w
  obtain ⟨mv, hmv⟩ : ∃ mv, mv = m.val := ⟨_, rfl⟩
  have hmv2 : m.val = .slice m.at' m.xs.length m.cap := rfl
  have HMV : Hid (m.val = .slice m.at' m.xs.length m.cap ∧ m.ok wC 1 w ∧ m.xs.length ≤ 17592186043904) := ⟨rfl, hm, hl⟩
  have HM1 : Hid (∃ ob, (makeH (He.new 1) 4 nulW).obs[0]? = some ob) := mk1b
  rw [hmv2]
  have hlim : (m.xs.length : Int) ≤ 9223372036854775807 := by omega
  obtain ⟨x, hx⟩ : ∃ x, x = IntKind.u64.wrap (v + 1) := ⟨_, rfl⟩
  have hwx : IntKind.u64.wrap (v + 1) = x := hx.symm
  clear hm hl hmv hmv2 hv hx mv
  go_enter Try.func3, Try.ntmps3
  go_wp2_with fail
  refine kn.mono ?_
  rintro e w1 ⟨hb, O, rfl, ⟨tg, M, h, hO⟩, hB⟩
  have HB1 : Hid (Below w.heap.size w w1) := hB
  have HH1 : Hid (HeapAt w1 w.heap.size hb tg (He.new 1) M) := h
  clear kn h hO hB
  go_wp2_with fail
  refine (ka _).mono ?_
  rintro e w2 ⟨rfl, hB2⟩
  have HH2 : Hid (HeapAt w2 w.heap.size hb tg (He.new 1) M) := HH1.out.below hB2
  have HB2 : Hid (Below w.heap.size w w2) := HB1.out.trans ⟨hB2.os, hB2.tape, hB2.output, hB2.size, fun k hk => hB2.block k (Nat.lt_of_lt_of_le hk HB1.out.size)⟩
  have may : mayB (He.new 1) nulW = true := by unfold mayB; simp
  have km := make_hit HH2.out 4 nulW (by omega) (by omega) (by decide) (by decide) may (by decide)
  rw [show objW ((He.new 1).obs.length : Int) = objW 0 from rfl] at km
  generalize hmk : makeH (He.new 1) 4 nulW = HK at *
  unfold nulW at km
  clear ka hB2 HB1 HH1 may hmk
  go_wp2_with fail
  refine km.mono ?_
  rintro e w3 ⟨rfl, M3, tg3, h3, c3, n3⟩
  have HH3 : Hid (HeapAt w3 w.heap.size hb tg3 HK M3) := h3
  have HB3 : Hid (Below w.heap.size w w3) := c3.below HB2.out HB2.out.size (fun b q => (HH2.out.lt b q).1)
  generalize how : objW 0 = ow at *
  have HOW : Hid (objW 0 = ow) := how
  have HAL : Hid (Below w3.heap.size w3 (w3.alloc (.cells #[] 24))) := (Below.refl _ _).alloc (Nat.le_refl _) _
  have HEM : Hid (OwnR wC 1 24 w3.heap.size (w3.alloc (.cells #[] 24)) (.slice (some ⟨w3.heap.size, 0, none⟩) 0 0) []) := empty_own (at_new _ _) (Nat.le_refl _)
  have HOK : Hid (m.ok wC 1 (w3.alloc (.cells #[] 24))) := HMV.out.2.1.kept (fun a u q => cells_below HAL.out _ _ (cells_below HB3.out _ _ q))
  have HBX : Hid (((([] : List Int).length + m.xs.length) + (([] : List Int).length + m.xs.length) / 4 + 192) * 8 ≤ 281474976710656 ∧ ([] : List Int).length + m.xs.length ≤ maxLen) := ⟨by have := HMV.out.2.2; simp only [List.length_nil]; omega, by have := HMV.out.2.2; simp only [List.length_nil]; unfold maxLen; omega⟩
  clear km h3 c3 n3 HB2 HH2 how
  go_wp2_with (at_builtin; refine app_row rtW rfl _ _ rfl w3.heap.size (.slice (some ⟨w3.heap.size, 0, none⟩) 0 0) [] ?h1 HEM.out m ?h3 HOK.out HBX.out.2 HBX.out.1 HAL.out.size ?_)
  case h1 => rfl
  case h3 => rfl
  intro v6 w6 ho6 hg6 hl6
  have ho6 : OwnR wC 1 24 w3.heap.size w6 v6 m.xs := ho6
  have hB6 : Below w3.heap.size w3 w6 := ⟨hg6.os.trans HAL.out.os, hg6.tape.trans HAL.out.tape, hg6.output.trans HAL.out.output, Nat.le_trans HAL.out.size hg6.size, fun k hk => (hg6.block k (Nat.lt_of_lt_of_le hk HAL.out.size) (fun e => by simp [Value.ownBlock] at e; omega)).trans (HAL.out.block k hk)⟩
  obtain ⟨s6, hs6, hr6⟩ : ∃ s : SV, v6 = s.val ∧ OwnR wC 1 24 w3.heap.size w6 s.val m.xs := by
    obtain ⟨s, q1, q2, q3, _⟩ := ho6.sl rtW.len
    refine ⟨⟨s.at', s.xs.length, s.cap⟩, q1, ?_⟩
    have : (⟨s.at', s.xs.length, s.cap⟩ : SV).val = v6 := q1.symm
    rw [this]
    exact ho6
  subst hs6
  have HG : Hid (Calls Try.prog 7 #[.pointer (some ⟨hb, 0, none⟩), .int .u64 ow, s6.val] w6 fun e w' => e = .returned (.tuple #[]) ∧ InG w w' hb m.xs s6 m.xs) := by
    obtain ⟨ob, o1⟩ := HM1.out
    have hz3 := HB3.out.size
    have := set_inner (w0 := w) (HH3.out.below hB6) o1 (HB3.out.trans ⟨hB6.os, hB6.tape, hB6.output, hB6.size, fun k hk => hB6.block k (by omega)⟩) (hr6.low (by omega)) (fun b q => by
      by_cases c : tg3 b = 0
      · exact c
      · have := (HH3.out.lt b c).2
        have := (hr6.lt b q).1
        omega) (by have := HMV.out.2.2; omega)
    rw [HOW.out] at this
    exact this
  have ks := HG.out
  obtain ⟨sa, sl, sc⟩ := s6
  have HS6 : Hid ((⟨sa, sl, sc⟩ : SV).val = .slice sa sl sc) := rfl
  rw [HS6.out] at ks ⊢
  clear ho6 hg6 hl6 hB6 hr6 HG HEM HOK HBX HAL HH3 HB3 HM1
  go_wp2_with fail
  refine ks.mono ?_
  rintro e w7 ⟨rfl, hq⟩
  have hsl : sl = m.xs.length := by
    obtain ⟨m2, e1, e2, _, _⟩ := hq.own.sl rtW.len
    have e1 : Value.slice sa sl sc = .slice m2.at' m2.xs.length m2.cap := e1
    injection e1 with _ e1 _
    rw [e1, e2]
  subst hsl
  have HQ := (show Hid _ from hq)
  clear ks hq HS6
  generalize hml : m.xs.length = n at *
  have HML : Hid (m.xs.length = n) := hml
  clear hml
  go_wp2_with fail
  go_loopw [33] (fun p wr => ∃ (j : Nat) (ys : List Int), j ≤ n ∧ Hid (ys.length = n ∧ InG w wr hb m.xs ⟨sa, n, sc⟩ ys) ∧ p = .int .i64 (j : Int)) (fun p wr => ((n : Int) - intOf p).toNat)
  case atStart => exact ⟨0, m.xs, Nat.zero_le _, ⟨HML.out, HQ.out⟩, rfl⟩
  case round =>
    clear HQ
    obtain ⟨j, ys, hj, HS, rfl⟩ := hrel
    by_cases c : j < n
    · obtain ⟨g, cc, u, e1, d1, f1, hle, hmx, hnx⟩ := HS.out.2.open (by rw [HS.out.1]; exact c) x
      have HN : Hid ((ys.set j x).length = n ∧ InG w (wr.setCell ⟨g, j, none⟩ (.int .u64 x)) hb m.xs ⟨sa, n, sc⟩ (ys.set j x)) := ⟨by rw [List.length_set]; exact HS.out.1, hnx⟩
      injection e1 with e1 _ e3
      subst e1
      have hjj : (j : Int) < (n : Int) := by omega
      have hjd : decide ((j : Int) < (n : Int)) = true := decide_eq_true hjj
      have hw1 : IntKind.i64.wrap ((j : Int) + 1) = ((j + 1 : Nat) : Int) := by rw [IntKind.wrap_i64]; omega
      have HJ : Hid (j < n) := c
      clear HS hle hmx hnx e3 c hj
      go_wp2_with fail
      refine ⟨⟨j + 1, _, by have := HJ.out; omega, HN, rfl⟩, ?_⟩
      have := HJ.out
      simp [intOf]
      omega
    · have hjj : ¬ ((j : Int) < (n : Int)) := by omega
      have HI := (show Hid _ from HS.out.2)
      clear HS c hj
      have kg := get_inner HI.out
      rw [HOW.out] at kg
      go_wp2_with fail
      refine kg.mono ?_
      rintro e w8 ⟨s2, rfl, hq2⟩
      have kw := hq2.words m HMV.out.2.1 rfl
      rw [HMV.out.1] at kw
      obtain ⟨ta, tl, tc⟩ := s2
      have htl : tl = n := by
        obtain ⟨m2, e1, e2, _, _⟩ := hq2.own.sl rtW.len
        have e1 : Value.slice ta tl tc = .slice m2.at' m2.xs.length m2.cap := e1
        injection e1 with _ e1 _
        rw [e1, e2]
        exact HML.out
      subst htl
      rw [show (⟨ta, tl, tc⟩ : SV).val = .slice ta tl tc from rfl] at kw ⊢
      clear kg hq2 HI
      go_wp2_with fail
      refine kw.mono ?_
      rintro e w9 ⟨rfl, hq⟩
      have HQ := (show Hid _ from hq)
      clear kw hq
      go_wp2_with fail
      go_loopw [51] (fun p wr => ∃ (j : Nat) (ys : List Int), j ≤ tl ∧ Hid (ys.length = tl ∧ InG w wr hb m.xs ⟨ta, tl, tc⟩ ys) ∧ p = .int .i64 (j : Int)) (fun p wr => ((tl : Int) - intOf p).toNat)
      case atStart => exact ⟨0, m.xs, Nat.zero_le _, ⟨HML.out, HQ.out⟩, rfl⟩
      case round =>
        clear HQ
        obtain ⟨j, ys, hj, HS, rfl⟩ := hrel
        by_cases c : j < tl
        · obtain ⟨g, cc, u, e1, d1, f1, hle, hmx, hnx⟩ := HS.out.2.open (by rw [HS.out.1]; exact c) x
          have HN : Hid ((ys.set j x).length = tl ∧ InG w (wr.setCell ⟨g, j, none⟩ (.int .u64 x)) hb m.xs ⟨ta, tl, tc⟩ (ys.set j x)) := ⟨by rw [List.length_set]; exact HS.out.1, hnx⟩
          injection e1 with e1 _ e3
          subst e1
          have hjj : (j : Int) < (tl : Int) := by omega
          have hjd : decide ((j : Int) < (tl : Int)) = true := decide_eq_true hjj
          have hw1 : IntKind.i64.wrap ((j : Int) + 1) = ((j + 1 : Nat) : Int) := by rw [IntKind.wrap_i64]; omega
          have HJ : Hid (j < tl) := c
          clear HS hle hmx hnx e3 c hj
          go_wp2_with fail
          refine ⟨⟨j + 1, _, by have := HJ.out; omega, HN, rfl⟩, ?_⟩
          have := HJ.out
          simp [intOf]
          omega
        · have hjj : ¬ ((j : Int) < (tl : Int)) := by omega
          have HI := (show Hid _ from HS.out.2)
          clear HS c hj
          have kg := get_inner HI.out
          rw [HOW.out] at kg
          go_wp2_with fail
          refine kg.mono ?_
          rintro e w10 ⟨s3, rfl, hq3⟩
          have kw := hq3.words m HMV.out.2.1 rfl
          rw [HMV.out.1] at kw
          have HQ3 := (show Hid _ from hq3)
          obtain ⟨ua, ul, uc⟩ := s3
          rw [show (⟨ua, ul, uc⟩ : SV).val = .slice ua ul uc from rfl] at kw ⊢
          clear kg hq3 HI
          go_wp2_with fail
          refine kw.mono ?_
          rintro e w11 ⟨rfl, hq4⟩
          have HB := (show Hid _ from hq4.bel)
          clear kw hq4 HQ3
          go_wp2_with fail
          go_ret
          exact ⟨rfl, HB.out⟩

end Go.Proofs.Ytkpdpdllbnihgab.Hp
