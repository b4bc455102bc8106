/- CachesBroken: the walk. -/
import Derived.Test.YtfhdmglfpkmjbaaNH
namespace Go.Proofs.Ytfhdmglfpkmjbaa.Hp
open Go.RowKit
set_option linter.unusedVariables false
set_option linter.unusedSimpArgs false

/-- a site's entries: of unlike shapes, four at most -/
def Fine (es : List En) : Prop := (es.map En.sh).Nodup ∧ es.length ≤ 4

theorem oth_fine {vf : Int → Bool} {es : List En} (e : En) (h : (es.map En.sh).Nodup) : ((othE vf e.sh es ++ [e]).map En.sh).Nodup := by
  rw [List.map_append, List.nodup_append]
  refine ⟨?_, by simp, ?_⟩
  · exact h.sublist ((List.filter_sublist (l := es)).map En.sh)
  · intro a ha b hb
    simp at hb
    subst hb
    obtain ⟨x, hx, rfl⟩ := List.mem_map.1 ha
    unfold othE at hx
    have := (List.mem_filter.1 hx).2
    unfold keE at this
    simp at this
    exact this.1
theorem lrn_fine {vf : Int → Bool} {st : Int} {es : List En} (e : En) (h : Fine es) : Fine (lrnP vf st es e).2 := by
  unfold lrnP
  have n0 : Fine [] := ⟨by simp, by simp⟩
  by_cases c3 : st = 3
  · rw [if_pos c3]; exact n0
  rw [if_neg c3]
  by_cases c4 : 4 < (othE vf e.sh es ++ [e]).length
  · rw [if_pos c4]; exact n0
  rw [if_neg c4]
  have hf : Fine (othE vf e.sh es ++ [e]) := ⟨oth_fine e h.1, by omega⟩
  by_cases c1 : 1 < (othE vf e.sh es ++ [e]).length ∨ st = 2
  · rw [if_pos c1]; exact hf
  · rw [if_neg c1]; exact hf
theorem fnd_nd {vf : Int → Bool} {e : En} : ∀ {es : List En}, (es.map En.sh).Nodup → e ∈ es → fndE vf e.sh es = if hldB vf e = true then some e else none
  | [], _, h => by cases h
  | x :: es, hn, h => by
    rw [List.map_cons, List.nodup_cons] at hn
    unfold fndE
    by_cases c : x.sh = e.sh
    · have hx : x = e := by
        rcases List.mem_cons.1 h with q | q
        · exact q.symm
        · exact absurd (c ▸ List.mem_map.2 ⟨e, q, rfl⟩) hn.1
      subst hx
      by_cases ch : hldB vf x = true
      · rw [if_pos ch, List.find?_cons_of_pos (by unfold isE; simp [ch])]
      · rw [if_neg ch, List.find?_cons_of_neg (by unfold isE; simp [ch])]
        rw [List.find?_eq_none]
        intro y hy
        unfold isE
        have : y.sh ≠ x.sh := fun q => hn.1 (q ▸ List.mem_map.2 ⟨y, hy, rfl⟩)
        simp [this]
    · have he : e ∈ es := by
        rcases List.mem_cons.1 h with q | q
        · exact absurd (by rw [q]) c
        · exact q
      rw [List.find?_cons_of_neg (by unfold isE; simp [c])]
      exact fnd_nd hn.2 he

section
variable {w0 w : World} {sb : Nat} {st : Int} {ad : Option Addr} {cp : Nat} {es : List En}
theorem SiS.ok (h : SiS w0 w sb st ad cp es) : Sli.ok encE 4 w ⟨ad, cp, es⟩ := by
  obtain ⟨s, h1, h2, h3⟩ := own_sli h.row
  obtain ⟨sa, sc, sl⟩ := s
  simp only at h2
  subst h2
  unfold Sli.val at h1
  simp only [Value.slice.injEq] at h1
  obtain ⟨rfl, _, rfl⟩ := h1
  exact h3
theorem SiS.fz (h : SiS w0 w sb st ad cp es) : w.frozen? ⟨sb, 0, none⟩ = false ∧ w.frozen? ⟨sb, 1, none⟩ = false := ⟨h.box.fz 0, h.box.fz 1⟩
end

/-- a site on its way, whatever it knows -/
def BrS (w0 w : World) (sb : Nat) : Prop := ∃ st ad cp es, SiS w0 w sb st ad cp es ∧ Fine es
theorem BrS.learn {w0 w : World} {sb : Nat} {f : Nat} {vf : Int → Bool} {cap : Array Value} {X : World → Prop} (A : Ask X f cap vf) (hX : X w) (h : BrS w0 w sb) (e : En) : ∃ st ad cp k, (w.cell? ⟨sb, 0, none⟩ = some (.int .i64 st) ∧ w.cell? ⟨sb, 1, none⟩ = some (.slice ad k cp)) ∧ Calls Try.prog 15 #[.agg #[.int .i64 st, .slice ad k cp], .agg #[.int .i64 e.sh, .int .i64 e.ho, .int .i64 e.sl, .int .i64 e.ce], .func (.func f) #[] cap] w fun r w' => ∃ st' ad' cp' k', r = .returned (.agg #[.int .i64 st', .slice ad' k' cp']) ∧ (w'.cell? ⟨sb, 0, none⟩ = some (.int .i64 st) ∧ w'.cell? ⟨sb, 1, none⟩ = some (.slice ad k cp) ∧ w'.frozen? ⟨sb, 0, none⟩ = false ∧ w'.frozen? ⟨sb, 1, none⟩ = false) ∧ BrS w0 (stS w' sb st' (.slice ad' k' cp')) sb := by
  obtain ⟨st, ad, cp, es, h1, h2⟩ := h
  refine ⟨st, ad, cp, es.length, h1.box.ce, ?_⟩
  refine (learn_own A h1.row (by have := h2.2; omega) st e hX).mono ?_
  rintro r w' ⟨ad', cp', rfl, ho, hb⟩
  exact ⟨_, ad', cp', _, rfl, ⟨((h1.box.below hb).ce).1, ((h1.box.below hb).ce).2, (h1.box.below hb).fz 0, (h1.box.below hb).fz 1⟩, ⟨_, ad', cp', _, h1.put hb ho, lrn_fine e h2⟩⟩
theorem BrS.bel {w0 w : World} {sb : Nat} (h : BrS w0 w sb) : Below w0.heap.size w0 w := by obtain ⟨_, _, _, _, h1, _⟩ := h; exact h1.bel
theorem BrS.below {w0 w w' : World} {sb : Nat} (h : BrS w0 w sb) (hb : Below w.heap.size w w') : BrS w0 w' sb := by obtain ⟨_, _, _, _, h1, h2⟩ := h; exact ⟨_, _, _, _, h1.below hb, h2⟩

set_option maxRecDepth 100000 in
set_option maxHeartbeats 8000000 in
theorem broken_walk (w : World) (m : Sli En) (hm : m.ok encE 4 w) : Calls Try.prog 7 #[m.val] w fun e w' => e = .returned (.bool true) ∧ Below w.heap.size w w' := by
  have HA : Hid (∀ w : World, Calls Try.prog 13 #[] w fun e w' => e = .returned (.bool true) ∧ Below w.heap.size w w') := alive_any
  have HM : Hid (m.ok encE 4 w) := hm
  obtain ⟨ad, cap, l⟩ := m
  have hlim : (l.length : Int) ≤ 9223372036854775807 := by have := hm.len; have := hm.cap; unfold maxLen at this; simp only at *; omega
  unfold Sli.val
  simp only
  have HS0 : Hid (BrS w (w.alloc (.cells #[.int .i64 0, .slice none 0 0] 24)) w.heap.size) := ⟨0, none, 0, [], SiS.new w w (Below.refl _ _), by simp, by simp⟩
  clear hm
  go_enter Try.func7, Try.ntmps7
  go_wp2_with fail
  go_loopw [15] (fun p wr => ∃ (i : Nat), i ≤ l.length ∧ Hid (BrS w wr w.heap.size) ∧ p = .int .i64 (i : Int)) (fun p wr => ((l.length : Int) - intOf p).toNat)
  case atStart => exact ⟨0, Nat.zero_le _, HS0, rfl⟩
  case round =>
    clear HS0
    obtain ⟨i, hi, HBR, rfl⟩ := hrel
    by_cases c : i < l.length
    · have hex : ∃ x, l[i]? = some x := ⟨_, List.getElem?_eq_getElem c⟩
      obtain ⟨e, he⟩ := hex
      obtain ⟨b, off, hb1, hen⟩ := sli_en (HM.out.kept (cells_below HBR.out.bel)) he
      simp only at hb1
      subst hb1
      have hii : (i : Int) < (l.length : Int) := by omega
      have hii2 : decide ((i : Int) < (l.length : Int)) = true := decide_eq_true hii
      have hw1 : IntKind.i64.wrap ((i : Int) + 1) = ((i + 1 : Nat) : Int) := by rw [IntKind.wrap_i64]; omega
      have HI : Hid (i < l.length) := c
      obtain ⟨c0, c1, c2, c3⟩ := hen
      clear he hi
      obtain ⟨esh, eho, esl, ece⟩ := e
      simp only at c0 c1 c2 c3
      go_upto_region 7 with fail
      obtain ⟨W, hW⟩ : ∃ W, W = wr.alloc (.cells #[.int .i64 esh, .int .i64 eho, .int .i64 esl, .int .i64 ece] 26) := ⟨_, rfl⟩
      have hBW : Below wr.heap.size wr W := by rw [hW]; exact (Below.refl _ _).alloc (Nat.le_refl _) _
      have hE : BxE W wr.heap.size ⟨esh, eho, esl, ece⟩ := by rw [hW]; exact bxE_new wr ⟨esh, eho, esl, ece⟩
      have HB2 : Hid (BrS w W w.heap.size) := HBR.out.below hBW
      obtain ⟨d0, d1, d2, d3⟩ := hE.at'
      simp only [Nat.zero_add] at d1 d2 d3
      obtain ⟨st6, ad6, cp6, n6, ⟨s0, s1⟩, kl⟩ := HB2.out.learn ask_yes trivial ⟨esh, eho, esl, ece⟩
      rw [← hW]
      clear hW hBW c0 c1 c2 c3 hE HBR
      go_wp2_with fail
      refine kl.mono ?_
      rintro ee w9 ⟨st8, ad8, cp8, n8, rfl, ⟨t0, t1, f0, f1⟩, hnx⟩
      have HN : Hid (BrS w (stS w9 w.heap.size st8 (.slice ad8 n8 cp8)) w.heap.size) := hnx
      clear kl s0 s1 d0 d1 d2 d3 hnx HB2
      go_wp2_with fail
      refine ⟨⟨i + 1, HI.out, HN, rfl⟩, ?_⟩
      have := HI.out
      simp [intOf]
      omega
    · have hii2 : ¬ ((i : Int) < (l.length : Int)) := by omega
      obtain ⟨wa, hwa⟩ : ∃ wa, wa = wr := ⟨_, rfl⟩
      subst hwa
      obtain ⟨st, ad5, cp5, es, hs, hf⟩ := HBR.out
      have HS : Hid (SiS w wa w.heap.size st ad5 cp5 es) := hs
      have HF : Hid (Fine es) := hf
      obtain ⟨s0, s1⟩ := hs.box.ce
      have hel : (es.length : Int) ≤ 4 := by have := hf.2; omega
      clear HM hs hf HBR
      go_wp2_with fail
      go_loopw [27] (fun p wq => ∃ j : Nat, j ≤ es.length ∧ Hid (Below wa.heap.size wa wq) ∧ p = .int .i64 (j : Int)) (fun p wq => ((es.length : Int) - intOf p).toNat)
      case atStart => exact ⟨0, Nat.zero_le _, Below.refl _ _, rfl⟩
      case round =>
        obtain ⟨j, hj, hbq, rfl⟩ := hrel
        have HSQ : Hid (SiS w wr w.heap.size st ad5 cp5 es) := HS.out.below hbq.out
        by_cases cj : j < es.length
        · have hex : ∃ x, es[j]? = some x := ⟨_, List.getElem?_eq_getElem cj⟩
          obtain ⟨e, he⟩ := hex
          obtain ⟨b, off, hb1, hen⟩ := sli_en HSQ.out.ok he
          simp only at hb1
          subst hb1
          have hjj : (j : Int) < (es.length : Int) := by omega
          have hjd : decide ((j : Int) < (es.length : Int)) = true := decide_eq_true hjj
          have hw2 : IntKind.i64.wrap ((j : Int) + 1) = ((j + 1 : Nat) : Int) := by rw [IntKind.wrap_i64]; omega
          have HJ : Hid (j < es.length) := cj
          obtain ⟨c0, c1, c2, c3⟩ := hen
          have hfd : fndE (fun _ => false) e.sh es = if hldB (fun _ => false) e = true then some e else none := fnd_nd HF.out.1 (List.mem_of_getElem? he)
          clear he hj
          obtain ⟨esh, eho, esl, ece⟩ := e
          simp only at c0 c1 c2 c3 hfd
          clear s0 s1
          go_upto_region 12 with fail
          obtain ⟨W, hW⟩ : ∃ W, W = wr.alloc (.cells #[.int .i64 esh, .int .i64 eho, .int .i64 esl, .int .i64 ece] 26) := ⟨_, rfl⟩
          have hBW : Below wr.heap.size wr W := by rw [hW]; exact (Below.refl _ _).alloc (Nat.le_refl _) _
          have hE : BxE W wr.heap.size ⟨esh, eho, esl, ece⟩ := by rw [hW]; exact bxE_new wr ⟨esh, eho, esl, ece⟩
          have HE : Hid (BxE W wr.heap.size ⟨esh, eho, esl, ece⟩) := hE
          have HSW : Hid (SiS w W w.heap.size st (some ⟨b, off, none⟩) cp5 es) := HSQ.out.below hBW
          have HBW : Hid (Below wa.heap.size wa W) := hbq.out.trans (hBW.mono hbq.out.size)
          obtain ⟨d0, d1, d2, d3⟩ := hE.at'
          simp only [Nat.zero_add] at d1 d2 d3
          obtain ⟨s0, s1⟩ := HSW.out.box.ce
          have kf : Calls Try.prog 11 #[.agg #[.int .i64 st, .slice (some ⟨b, off, none⟩) es.length cp5], .int .i64 esh, .func (.func 23) #[] #[]] W fun r w' => r = .returned (fvE (fndE (fun _ => false) esh es)) ∧ Below W.heap.size W w' := find_own ask_no HSW.out.row st esh trivial
          rw [hfd] at kf
          rw [← hW]
          clear hW hBW c0 c1 c2 c3 hE hfd
          by_cases cc : ece = -1
          · subst cc
            have kf2 : Calls Try.prog 11 #[.agg #[.int .i64 st, .slice (some ⟨b, off, none⟩) es.length cp5], .int .i64 esh, .func (.func 23) #[] #[]] W fun r w' => r = .returned (.tuple #[.agg #[.int .i64 esh, .int .i64 eho, .int .i64 esl, .int .i64 (-1)], .bool true]) ∧ Below W.heap.size W w' := kf
            clear kf
            go_wp2_with fail
            refine kf2.mono ?_
            rintro ee w8 ⟨rfl, hb8⟩
            obtain ⟨w9, hw9⟩ : ∃ w9, w9 = w8.alloc (.cells #[.int .i64 esh, .int .i64 eho, .int .i64 esl, .int .i64 (-1)] 26) := ⟨_, rfl⟩
            have hb9 : Below w8.heap.size w8 w9 := by rw [hw9]; exact (Below.refl _ _).alloc (Nat.le_refl _) _
            have hE9 : BxE w9 w8.heap.size ⟨esh, eho, esl, -1⟩ := by rw [hw9]; exact bxE_new w8 ⟨esh, eho, esl, -1⟩
            obtain ⟨x0, x1, x2, x3⟩ := hE9.at'
            obtain ⟨y0, y1, y2, y3⟩ := ((HE.out.below hb8).below hb9).at'
            simp only [Nat.zero_add] at x1 x2 x3 y1 y2 y3
            have HB9 : Hid (Below wa.heap.size wa w9) := (HBW.out.trans (hb8.mono HBW.out.size)).trans (hb9.mono (HBW.out.trans (hb8.mono HBW.out.size)).size)
            clear kf2 hb8 hb9 hE9 s0 s1 d0 d1 d2 d3 HE HSW HBW HSQ hbq
            go_upto_region 13 with fail
            rw [← hw9]
            clear hw9
            go_wp2_with fail
            refine ⟨⟨j + 1, HJ.out, HB9, rfl⟩, ?_⟩
            have := HJ.out
            simp [intOf]
            omega
          · have hcc : (ece == (-1 : Int)) = false := by simpa using cc
            have hh : hldB (fun _ => false) ⟨esh, eho, esl, ece⟩ = false := by unfold hldB; simp [cc]
            rw [hh] at kf
            have kf2 : Calls Try.prog 11 #[.agg #[.int .i64 st, .slice (some ⟨b, off, none⟩) es.length cp5], .int .i64 esh, .func (.func 23) #[] #[]] W fun r w' => r = .returned (.tuple #[.agg #[.int .i64 0, .int .i64 0, .int .i64 0, .int .i64 0], .bool false]) ∧ Below W.heap.size W w' := kf
            clear kf hh
            go_wp2_with fail
            refine kf2.mono ?_
            rintro ee w8 ⟨rfl, hb8⟩
            obtain ⟨w9, hw9⟩ : ∃ w9, w9 = w8.alloc (.cells #[.int .i64 0, .int .i64 0, .int .i64 0, .int .i64 0] 26) := ⟨_, rfl⟩
            have hb9 : Below w8.heap.size w8 w9 := by rw [hw9]; exact (Below.refl _ _).alloc (Nat.le_refl _) _
            obtain ⟨y0, y1, y2, y3⟩ := ((HE.out.below hb8).below hb9).at'
            simp only [Nat.zero_add] at y1 y2 y3
            have HB9 : Hid (Below wa.heap.size wa w9) := (HBW.out.trans (hb8.mono HBW.out.size)).trans (hb9.mono (HBW.out.trans (hb8.mono HBW.out.size)).size)
            clear kf2 hb8 hb9 s0 s1 d0 d1 d2 d3 HE HSW HBW HSQ hbq
            go_upto_region 13 with fail
            rw [← hw9]
            clear hw9
            go_wp2_with fail
            refine ⟨⟨j + 1, HJ.out, HB9, rfl⟩, ?_⟩
            have := HJ.out
            simp [intOf]
            omega
        · have hjj : ¬ ((j : Int) < (es.length : Int)) := by omega
          have ka := HA.out wr
          have HBQ : Hid (Below w.heap.size w wr) := HSQ.out.bel
          clear s0 s1
          go_wp2_with fail
          refine ka.mono ?_
          rintro ee w4 ⟨rfl, hb4⟩
          have HB4 : Hid (Below w.heap.size w w4) := HBQ.out.trans (hb4.mono HBQ.out.size)
          clear ka hb4
          go_wp2_with fail
          go_ret
          exact ⟨rfl, HB4.out⟩
end Go.Proofs.Ytfhdmglfpkmjbaa.Hp
