/- CachesLast: the walk. -/
import Derived.Test.YtfhdmglfpkmjbaaNJ
namespace Go.Proofs.Ytfhdmglfpkmjbaa.Hp
open Go.RowKit
set_option linter.unusedVariables false
set_option linter.unusedSimpArgs false

theorem ke_T (sh : Int) (e : En) : keE (fun _ => true) sh e = (e.sh != sh) := by unfold keE; rw [hld_T]; simp
theorem lrn_cases {vf : Int → Bool} {st : Int} {es : List En} {e : En} : ((lrnP vf st es e).1 = 3 ∧ (lrnP vf st es e).2 = []) ∨ ((lrnP vf st es e).1 ≠ 3 ∧ (lrnP vf st es e).2 = othE vf e.sh es ++ [e] ∧ (othE vf e.sh es).length < 4) := by
  unfold lrnP
  by_cases c3 : st = 3
  · rw [if_pos c3]; exact Or.inl ⟨rfl, rfl⟩
  rw [if_neg c3]
  by_cases c4 : 4 < (othE vf e.sh es ++ [e]).length
  · rw [if_pos c4]; exact Or.inl ⟨rfl, rfl⟩
  rw [if_neg c4]
  have hl : (othE vf e.sh es).length < 4 := by simp at c4; omega
  by_cases c1 : 1 < (othE vf e.sh es ++ [e]).length ∨ st = 2
  · rw [if_pos c1]; exact Or.inr ⟨by show (2 : Int) ≠ 3; decide, rfl, hl⟩
  · rw [if_neg c1]; exact Or.inr ⟨by show (1 : Int) ≠ 3; decide, rfl, hl⟩

/-- what stands at the place of an entry that is kept -/
theorem oth_at {sh : Int} {l : List En} {i : Nat} {x : En} (hi : l[i]? = some x) (hx : x.sh ≠ sh) : (othE (fun _ => true) sh l)[(othE (fun _ => true) sh (l.take i)).length]? = some x := by
  have h1 : othE (fun _ => true) sh l = othE (fun _ => true) sh (l.take (i + 1)) ++ othE (fun _ => true) sh (l.drop (i + 1)) := by
    unfold othE
    rw [← List.filter_append, List.take_append_drop]
  rw [h1, oth_step hi, if_pos (by rw [ke_T]; simpa using hx), List.append_assoc, List.getElem?_append_right (Nat.le_refl _)]
  simp
theorem oth_next {sh : Int} {l : List En} {i : Nat} {x : En} (hi : l[i]? = some x) (hx : x.sh ≠ sh) : (othE (fun _ => true) sh (l.take (i + 1))).length = (othE (fun _ => true) sh (l.take i)).length + 1 := by
  rw [oth_step hi, if_pos (by rw [ke_T]; simpa using hx)]
  simp
theorem oth_same {sh : Int} {l : List En} {i : Nat} {x : En} (hi : l[i]? = some x) (hx : x.sh = sh) : (othE (fun _ => true) sh (l.take (i + 1))).length = (othE (fun _ => true) sh (l.take i)).length := by
  rw [oth_step hi, if_neg (by rw [ke_T]; simp [hx])]
  simp

theorem last_at {xs : List En} {e : En} : (xs ++ [e])[xs.length]? = some e := by simp

set_option maxRecDepth 100000 in
set_option maxHeartbeats 8000000 in
theorem last_walk (w : World) (st : Int) (m : Sli En) (hm : m.ok encE 4 w) (hz : m.xs.length ≤ 4398046511104) (e : En) : Calls Try.prog 8 #[.agg #[.int .i64 st, m.val], e.val] w fun r w' => r = .returned (.bool true) ∧ Below w.heap.size w w' := by
  have HA : Hid (∀ w : World, Calls Try.prog 13 #[] w fun e w' => e = .returned (.bool true) ∧ Below w.heap.size w w') := alive_any
  have HM : Hid (m.ok encE 4 w) := hm
  have HRO : Hid (RoE m.xs.length) := by show RoE _; unfold RoE; omega
  obtain ⟨ad, cap, l⟩ := m
  have hlim : (l.length : Int) ≤ 4398046511104 := by simp only at hz; omega
  obtain ⟨esh, eho, esl, ece⟩ := e
  unfold Sli.val En.val
  simp only
  obtain ⟨w2, hw2⟩ : ∃ w2, w2 = (w.alloc (.cells #[.int .i64 st, .slice ad l.length cap] 24)).alloc (.cells #[.int .i64 esh, .int .i64 eho, .int .i64 esl, .int .i64 ece] 26) := ⟨_, rfl⟩
  have HB2 : Hid (Below w.heap.size w w2) := by rw [hw2]; exact B2 w _ _
  have HBS : Hid (BxS w2 w.heap.size st (.slice ad l.length cap)) := by
    rw [hw2]
    exact at_old _ _ _ _ (at_new _ _)
  have HBE : Hid (BxE w2 (w.heap.size + 1) ⟨esh, eho, esl, ece⟩) := by rw [hw2]; exact at_two _ _ _
  have kl : Calls Try.prog 15 #[.agg #[.int .i64 st, .slice ad l.length cap], .agg #[.int .i64 esh, .int .i64 eho, .int .i64 esl, .int .i64 ece], .func (.func 24) #[] #[]] w2 fun r w' => ∃ v, r = .returned (.agg #[.int .i64 (lrnP (fun _ => true) st l ⟨esh, eho, esl, ece⟩).1, v]) ∧ OwnR encE 4 26 w2.heap.size w' v (lrnP (fun _ => true) st l ⟨esh, eho, esl, ece⟩).2 ∧ Below w2.heap.size w2 w' := learn_any ask_last ⟨ad, cap, l⟩ st ⟨esh, eho, esl, ece⟩ w2 trivial (HM.out.kept (cells_below HB2.out)) HRO.out
  obtain ⟨s0, s1⟩ := HBS.out.ce
  obtain ⟨e0, e1, e2, e3⟩ := HBE.out.at'
  simp only [Nat.zero_add] at e1 e2 e3
  clear hm hz
  go_enter Try.func8, Try.ntmps8
  go_upto_region 2 with fail
  rw [← hw2]
  clear hw2
  go_wp2_with fail
  refine kl.mono ?_
  rintro ee w3 ⟨v3, rfl, ho3, hb3⟩
  obtain ⟨sv, rfl, hsx, _⟩ := own_sli ho3
  have HC := (show Hid _ from lrn_cases (vf := fun _ => true) (st := st) (es := l) (e := ⟨esh, eho, esl, ece⟩))
  generalize (lrnP (fun _ => true) st l ⟨esh, eho, esl, ece⟩).1 = st3 at *
  generalize (lrnP (fun _ => true) st l ⟨esh, eho, esl, ece⟩).2 = es3 at *
  obtain ⟨a3, c3, l3⟩ := sv
  simp only at hsx
  subst hsx
  unfold Sli.val at ho3 ⊢
  simp only at ho3 ⊢
  obtain ⟨w4, hw4⟩ : ∃ w4, w4 = w3.alloc (.cells #[.int .i64 st3, .slice a3 l3.length c3] 24) := ⟨_, rfl⟩
  have hb4 : Below w3.heap.size w3 w4 := by rw [hw4]; exact (Below.refl _ _).alloc (Nat.le_refl _) _
  have HS4 : Hid (SiS w2 w4 w3.heap.size st3 a3 c3 l3) := by
    show SiS _ _ _ _ _ _ _
    refine ⟨by rw [hw4]; exact bxS_new w3 _ _, OwnR.below ho3 hb4, hb3.size, hb3.trans (hb4.mono hb3.size)⟩
  clear kl ho3 hb3 s0 s1 e0 e1 e2 e3 hb4
  go_upto_region 3 with fail
  rw [← hw4]
  clear hw4
  obtain ⟨t0, t1⟩ := HS4.out.box.ce
  have HB4 : Hid (Below w.heap.size w w4) := HB2.out.trans (HS4.out.bel.mono HB2.out.size)
  rcases HC.out with ⟨rfl, rfl⟩ | ⟨hne, hes, hlt⟩
  · have ka := HA.out w4
    clear HC HM HRO
    go_wp2_with fail
    refine ka.mono ?_
    rintro ee w5 ⟨rfl, hb5⟩
    obtain ⟨t0, t1⟩ := (HS4.out.below hb5).box.ce
    have HB5 : Hid (Below w.heap.size w w5) := HB4.out.trans (hb5.mono HB4.out.size)
    clear ka hb5 HS4 HB4
    go_wp2_with fail
    go_ret
    exact ⟨rfl, HB5.out⟩
  · simp only at hes hlt
    have hne' : (st3 == (3 : Int)) = false := by simpa using hne
    have HES : Hid (l3 = othE (fun _ => true) esh l ++ [⟨esh, eho, esl, ece⟩] ∧ (othE (fun _ => true) esh l).length < 4) := ⟨hes, hlt⟩
    have hl3 : (l3.length : Int) ≤ 4 := by rw [hes]; simp only [List.length_append, List.length_cons, List.length_nil]; omega
    have hl0 : ¬ ((l3.length : Int) = 0) := by rw [hes]; simp only [List.length_append, List.length_cons, List.length_nil]; omega
    have hl0' : ((l3.length : Int) == 0) = false := by simpa using hl0
    have hw4 : IntKind.i64.wrap ((l3.length : Int) - 1) = (l3.length : Int) - 1 := by rw [IntKind.wrap_i64]; omega
    obtain ⟨k, hk⟩ : ∃ k : Nat, l3.length = k + 1 := ⟨l3.length - 1, by omega⟩
    have hlast : l3[k]? = some ⟨esh, eho, esl, ece⟩ := by
      have : k = (othE (fun _ => true) esh l).length := by have := congrArg List.length hes; simp at this; omega
      rw [hes, this]; exact last_at
    obtain ⟨b3, o3, hb3, hen⟩ := sli_en HS4.out.ok hlast
    simp only at hb3
    subst hb3
    obtain ⟨g0, g1, g2, g3⟩ := hen
    have HE4 : Hid (BxE w4 (w.heap.size + 1) ⟨esh, eho, esl, ece⟩) := HBE.out.below HS4.out.bel
    obtain ⟨e0, e1, e2, e3⟩ := HE4.out.at'
    simp only [Nat.zero_add] at e1 e2 e3 g0 g1 g2 g3
    have hkk : (l3.length : Int) - 1 = (k : Int) := by omega
    have HLL : Hid (l3.length = k + 1) := hk
    have hk3 : (k : Int) ≤ 3 := by omega
    rw [hk] at t1
    rw [hk] at hl3 hl0 hl0' hw4 hkk
    have hwk : IntKind.i64.wrap (k : Int) = (k : Int) := by rw [IntKind.wrap_i64]; omega
    have hwk1 : IntKind.i64.wrap ((k : Int) + 1 - 1) = (k : Int) := by rw [IntKind.wrap_i64]; omega
    have hlt1 : (k : Int) < (k : Int) + 1 := by omega
    have hge1 : (0 : Int) ≤ (k : Int) := by omega
    have hlz : ¬ ((k : Int) + 1 = 0) := by omega
    have hlz2 : ((k : Int) + 1 == 0) = false := by simpa using hlz
    clear HC hne hes hlt hlast hl3 hl0 hl0' hw4 hkk hk
    go_upto_region 5 with fail
    go_region_held (fun W => W.cell? ⟨w3.heap.size, 1, none⟩ = some (.slice (some ⟨b3, o3, none⟩) (k + 1) c3) ∧ W.cell? ⟨b3, o3 + k * 4, none⟩ = some (.int .i64 esh) ∧ W.cell? ⟨b3, o3 + k * 4 + 1, none⟩ = some (.int .i64 eho) ∧ W.cell? ⟨b3, o3 + k * 4 + 2, none⟩ = some (.int .i64 esl) ∧ W.cell? ⟨b3, o3 + k * 4 + 3, none⟩ = some (.int .i64 ece) ∧ W.cell? ⟨w.heap.size + 1, 0, none⟩ = some (.int .i64 esh) ∧ W.cell? ⟨w.heap.size + 1, 1, none⟩ = some (.int .i64 eho) ∧ W.cell? ⟨w.heap.size + 1, 2, none⟩ = some (.int .i64 esl) ∧ W.cell? ⟨w.heap.size + 1, 3, none⟩ = some (.int .i64 ece)) (go_keep) (fail)
    have HKL : Hid ((othE (fun _ => true) esh l).length = k) := by
      show (_ : Nat) = _
      have h1 := HES.out.1
      have h2 := HLL.out
      rw [h1] at h2
      simp at h2
      exact h2
    obtain ⟨wc, hwc⟩ : ∃ wc, wc = w4.drew := ⟨_, rfl⟩
    have hbc : Below w4.heap.size w4 wc := by rw [hwc]; exact (Below.refl _ _).drew
    have HBC : Hid (Below w.heap.size w wc) := HB4.out.trans (hbc.mono HB4.out.size)
    have HSC : Hid (SiS w2 wc w3.heap.size st3 (some ⟨b3, o3, none⟩) c3 l3) := HS4.out.below hbc
    have HEC : Hid (BxE wc (w.heap.size + 1) ⟨esh, eho, esl, ece⟩) := HE4.out.below hbc
    have HBC2 : Hid (BxS wc w.heap.size st (.slice ad l.length cap)) := (HBS.out.below HS4.out.bel).below hbc
    obtain ⟨s0, s1⟩ := HBC2.out.ce
    rw [← hwc]
    clear hwc hbc HB4 HS4 HE4 HBS HBE HB2 t0 t1 g0 g1 g2 g3 e0 e1 e2 e3
    go_wp2_with fail
    go_loopw [7, 43] (fun p q wr => ∃ i n : Nat, i ≤ l.length ∧ Hid (n = (othE (fun _ => true) esh (l.take i)).length) ∧ Hid (Below wc.heap.size wc wr) ∧ p = .int .i64 (n : Int) ∧ q = .int .i64 (i : Int)) (fun p q wr => ((l.length : Int) - intOf q).toNat)
    case atStart => exact ⟨0, 0, Nat.zero_le _, rfl, Below.refl _ _, rfl, rfl⟩
    case round =>
      clear s0 s1
      obtain ⟨i, n, hi, hn, hbr, rfl, rfl⟩ := hrel
      have HBR : Hid (Below w.heap.size w wr) := HBC.out.trans (hbr.out.mono HBC.out.size)
      by_cases c : i < l.length
      · have hex : ∃ x, l[i]? = some x := ⟨_, List.getElem?_eq_getElem c⟩
        obtain ⟨x, hx⟩ := hex
        obtain ⟨b, off, hb1, hen⟩ := sli_en (HM.out.kept (cells_below HBR.out)) hx
        simp only at hb1
        subst hb1
        have hii : (i : Int) < (l.length : Int) := by omega
        have hii2 : decide ((i : Int) < (l.length : Int)) = true := decide_eq_true hii
        have hw1 : IntKind.i64.wrap ((i : Int) + 1) = ((i + 1 : Nat) : Int) := by rw [IntKind.wrap_i64]; omega
        have HI : Hid (i < l.length) := c
        obtain ⟨c0, c1, c2, c3'⟩ := hen
        have HX : Hid (l[i]? = some x) := hx
        clear hi hx
        obtain ⟨xsh, xho, xsl, xce⟩ := x
        simp only at c0 c1 c2 c3'
        go_upto_region 11 with fail
        obtain ⟨W, hW⟩ : ∃ W, W = wr.alloc (.cells #[.int .i64 xsh, .int .i64 xho, .int .i64 xsl, .int .i64 xce] 26) := ⟨_, rfl⟩
        have hBW : Below wr.heap.size wr W := by rw [hW]; exact (Below.refl _ _).alloc (Nat.le_refl _) _
        have HBW : Hid (Below wc.heap.size wc W) := hbr.out.trans (hBW.mono hbr.out.size)
        have hE : BxE W wr.heap.size ⟨xsh, xho, xsl, xce⟩ := by rw [hW]; exact bxE_new wr ⟨xsh, xho, xsl, xce⟩
        obtain ⟨d0, d1, d2, d3⟩ := hE.at'
        obtain ⟨e0, e1, e2, e3⟩ := (HEC.out.below HBW.out).at'
        have HSW : Hid (SiS w2 W w3.heap.size st3 (some ⟨b3, o3, none⟩) c3 l3) := HSC.out.below HBW.out
        obtain ⟨t0, t1⟩ := HSW.out.box.ce
        rw [HLL.out] at t1
        simp only [Nat.zero_add] at d1 d2 d3 e1 e2 e3
        rw [← hW]
        clear hW hBW c0 c1 c2 c3' hE
        by_cases cs : xsh = esh
        · subst cs
          have HN : Hid (n = (othE (fun _ => true) xsh (l.take (i + 1))).length) := by show (_ : Nat) = _; rw [oth_same HX.out rfl]; exact hn.out
          clear hn
          go_wp2_with fail
          refine ⟨⟨i + 1, n, HI.out, HN, HBW, rfl, rfl⟩, ?_⟩
          have := HI.out
          simp [intOf]
          omega
        · have hcs : (xsh == esh) = false := by simpa using cs
          have HN : Hid (n + 1 = (othE (fun _ => true) esh (l.take (i + 1))).length) := by show (_ : Nat) = _; rw [oth_next HX.out cs, hn.out]
          have hat : (othE (fun _ => true) esh l)[n]? = some ⟨xsh, xho, xsl, xce⟩ := by rw [hn.out]; exact oth_at HX.out cs
          have hnl : n < k := by rw [← HKL.out]; exact (List.getElem?_eq_some_iff.1 hat).1
          have hat3 : l3[n]? = some ⟨xsh, xho, xsl, xce⟩ := by rw [HES.out.1, List.getElem?_append_left (by rw [HKL.out]; exact hnl)]; exact hat
          obtain ⟨b4, o4, hb4, hen4⟩ := sli_en HSW.out.ok hat3
          simp only [Option.some.injEq, Addr.mk.injEq, and_true] at hb4
          obtain ⟨rfl, rfl⟩ := hb4
          obtain ⟨g0, g1, g2, g3⟩ := hen4
          have hnk : ¬ ((k : Int) ≤ (n : Int)) := by omega
          have hnk2 : (n : Int) < (k : Int) + 1 := by omega
          have hn0 : (0 : Int) ≤ (n : Int) := by omega
          have hwn : IntKind.i64.wrap ((n : Int) + 1) = ((n + 1 : Nat) : Int) := by rw [IntKind.wrap_i64]; omega
          have HNK : Hid (n < k) := hnl
          clear hn hat hat3 hnl HSW
          go_upto_region 12 with fail
          go_region_held (fun W => W.cell? ⟨w3.heap.size, 1, none⟩ = some (.slice (some ⟨b3, o3, none⟩) (k + 1) c3) ∧ W.cell? ⟨b3, o3 + n * 4, none⟩ = some (.int .i64 xsh) ∧ W.cell? ⟨b3, o3 + n * 4 + 1, none⟩ = some (.int .i64 xho) ∧ W.cell? ⟨b3, o3 + n * 4 + 2, none⟩ = some (.int .i64 xsl) ∧ W.cell? ⟨b3, o3 + n * 4 + 3, none⟩ = some (.int .i64 xce) ∧ W.cell? ⟨wr.heap.size, 0, none⟩ = some (.int .i64 xsh) ∧ W.cell? ⟨wr.heap.size, 1, none⟩ = some (.int .i64 xho) ∧ W.cell? ⟨wr.heap.size, 2, none⟩ = some (.int .i64 xsl) ∧ W.cell? ⟨wr.heap.size, 3, none⟩ = some (.int .i64 xce)) (go_keep) (fail)
          go_wp2_with fail
          refine ⟨⟨i + 1, n + 1, HI.out, HN, HBW.out.drew, rfl, rfl⟩, ?_⟩
          have := HI.out
          simp [intOf]
          omega
      · have hii2 : ¬ ((i : Int) < (l.length : Int)) := by omega
        have hil : i = l.length := by omega
        subst hil
        rw [List.take_length] at hn
        have hnk : n = k := by rw [hn.out]; exact HKL.out
        subst hnk
        have ka := HA.out wr
        clear HM hn HKL
        go_wp2_with fail
        refine ka.mono ?_
        rintro ee w5 ⟨rfl, hb5⟩
        obtain ⟨t0, t1⟩ := ((HSC.out.below hbr.out).below hb5).box.ce
        rw [HLL.out] at t1
        have HB5 : Hid (Below w.heap.size w w5) := HBR.out.trans (hb5.mono HBR.out.size)
        clear ka hb5 hbr HBR
        go_wp2_with fail
        go_ret
        exact ⟨rfl, HB5.out⟩
end Go.Proofs.Ytfhdmglfpkmjbaa.Hp
