/- Caches: the other entries. -/
import Derived.Test.YtfhdmglfpkmjbaaNC
namespace Go.Proofs.Ytfhdmglfpkmjbaa.Hp
open Go.RowKit
set_option linter.unusedVariables false
set_option linter.unusedSimpArgs false

def keE (vf : Int → Bool) (sh : Int) (e : En) : Bool := e.sh != sh && hldB vf e
def othE (vf : Int → Bool) (sh : Int) (l : List En) : List En := l.filter (keE vf sh)

theorem oth_step {vf : Int → Bool} {sh : Int} {l : List En} {i : Nat} {e : En} (hi : l[i]? = some e) : othE vf sh (l.take (i + 1)) = othE vf sh (l.take i) ++ (if keE vf sh e = true then [e] else []) := by
  unfold othE
  rw [take_at l i e hi, List.filter_append]
  congr 1
  by_cases c : keE vf sh e = true
  · rw [if_pos c, List.filter_cons_of_pos c]; rfl
  · rw [if_neg c, List.filter_cons_of_neg c]; rfl
theorem oth_len (vf : Int → Bool) (sh : Int) (l : List En) (i : Nat) : (othE vf sh (l.take i)).length ≤ l.length := by
  refine Nat.le_trans (List.length_filter_le _ _) ?_
  rw [List.length_take]
  omega

/-- so many may be appended -/
def RoE (n : Nat) : Prop := ((n + 1) + (n + 1) / 4 + 192) * 32 ≤ 281474976710656
theorem RoE.le {n m : Nat} (h : RoE n) (hm : m ≤ n) : RoE m := by
  unfold RoE at *
  have : (m + 1) / 4 ≤ (n + 1) / 4 := Nat.div_le_div_right (by omega)
  exact Nat.le_trans (Nat.mul_le_mul_right 32 (by omega)) h

set_option maxRecDepth 100000 in
set_option maxHeartbeats 2000000 in
theorem others_any {X : World → Prop} {f : Nat} {cap : Array Value} {vf : Int → Bool} (A : Ask X f cap vf) (m : Sli En) (sh : Int) (w : World) (hX : X w) (hm : m.ok encE 4 w) (hR : RoE m.xs.length) :
    Calls Try.prog 28 #[m.val, .int .i64 sh, fnV f cap] w fun r w' => ∃ v, r = .returned v ∧ OwnR encE 4 26 w.heap.size w' v (othE vf sh m.xs) ∧ Below w.heap.size w w' := by
  have HA : Hid (Ask X f cap vf) := A
  have HX : Hid (X w) := hX
  have HM : Hid (m.ok encE 4 w) := hm
  have HR : Hid (RoE m.xs.length) := hR
  obtain ⟨ad, cp, l⟩ := m
  have hlim : (l.length : Int) ≤ 9223372036854775807 := by have := hm.len; have := hm.cap; unfold maxLen at this; simp only at *; omega
  unfold Sli.val
  simp only
  simp only at HR
  generalize hg : fnV f cap = F at *
  clear A hX hm hR
  go_enter Try.func28, Try.ntmps28
  go_wp2_with fail
  go_loopw [7, 12] (fun p q wr => ∃ i : Nat, i ≤ l.length ∧ Hid (OwnR encE 4 26 w.heap.size wr p (othE vf sh (l.take i))) ∧ Hid (Below w.heap.size w wr) ∧ q = .int .i64 (i : Int)) (fun p q wr => ((l.length : Int) - intOf q).toNat)
  case atStart => exact ⟨0, Nat.zero_le _, OwnR.nil _ _, Below.refl _ _, rfl⟩
  case round =>
    obtain ⟨i, hi, hown, hbw, rfl⟩ := hrel
    by_cases c : i < l.length
    · have hex : ∃ e, l[i]? = some e := ⟨_, List.getElem?_eq_getElem c⟩
      obtain ⟨e, he⟩ := hex
      obtain ⟨b, off, hb1, hen⟩ := sli_en (HM.out.kept (cells_below hbw.out)) he
      simp only at hb1
      subst hb1
      have hii : (i : Int) < (l.length : Int) := by omega
      have hii2 : decide ((i : Int) < (l.length : Int)) = true := decide_eq_true hii
      have hw1 : IntKind.i64.wrap ((i : Int) + 1) = ((i + 1 : Nat) : Int) := by rw [IntKind.wrap_i64]; omega
      obtain ⟨c0, c1, c2, c3⟩ := hen
      have HE : Hid (othE vf sh (l.take (i + 1)) = othE vf sh (l.take i) ++ (if keE vf sh e = true then [e] else [])) := oth_step he
      have HL : Hid ((othE vf sh (l.take i)).length ≤ l.length) := oth_len vf sh l i
      clear he hi
      obtain ⟨esh, eho, esl, ece⟩ := e
      simp only at c0 c1 c2 c3
      go_upto_region 5 with fail
      obtain ⟨W, hW⟩ : ∃ W, W = wr.alloc (.cells #[.int .i64 esh, .int .i64 eho, .int .i64 esl, .int .i64 ece] 26) := ⟨_, rfl⟩
      have hBW : Below wr.heap.size wr W := by rw [hW]; exact (Below.refl _ _).alloc (Nat.le_refl _) _
      have hE : BxE W wr.heap.size ⟨esh, eho, esl, ece⟩ := by rw [hW]; exact bxE_new wr ⟨esh, eho, esl, ece⟩
      have HBW : Hid (Below w.heap.size w W) := hbw.out.trans (hBW.mono hbw.out.size)
      have HOW : Hid (OwnR encE 4 26 w.heap.size W _ _) := hown.out.below hBW
      obtain ⟨d0, d1, d2, d3⟩ := hE.at'
      simp only [Nat.zero_add] at d1 d2 d3
      rw [← hW]
      clear hW hBW c0 c1 c2 c3 hE
      have KH := holds_any HA.out ⟨esh, eho, esl, ece⟩ W (HA.out.kept HX.out (HBW.out))
      unfold En.val at KH
      simp only at KH
      rw [hg] at KH
      have HI : Hid (i < l.length) := c
      by_cases cs : esh = sh
      · subst cs
        have hk : keE vf esh ⟨esh, eho, esl, ece⟩ = false := by unfold keE; show (_ : Bool) = _; simp
        have HOW2 : Hid (OwnR encE 4 26 w.heap.size W u7 (othE vf esh (l.take (i + 1)))) := by
          have q : OwnR encE 4 26 w.heap.size W u7 (othE vf esh (l.take i) ++ []) := by rw [List.append_nil]; exact HOW.out
          rw [HE.out, hk]
          exact q
        clear KH hk HE HOW hown hbw
        go_wp2_with fail
        refine ⟨⟨i + 1, HI.out, HOW2, HBW, rfl⟩, ?_⟩
        have := HI.out
        simp [intOf]
        omega
      · have hie : keE vf sh ⟨esh, eho, esl, ece⟩ = hldB vf ⟨esh, eho, esl, ece⟩ := by unfold keE; show (_ : Bool) = _; simp [cs]
        rw [hie] at HE
        generalize hldB vf ⟨esh, eho, esl, ece⟩ = r at *
        have hne : (esh != sh) = true := by simpa using cs
        clear hie hown hbw
        go_wp2_with fail
        refine KH.mono ?_
        rintro ee w3 ⟨rfl, hb3⟩
        have e0 := cells_below hb3 _ _ d0
        have e1 := cells_below hb3 _ _ d1
        have e2 := cells_below hb3 _ _ d2
        have e3 := cells_below hb3 _ _ d3
        have HB3 : Hid (Below w.heap.size w w3) := HBW.out.trans (hb3.mono HBW.out.size)
        have HOW3 : Hid (OwnR encE 4 26 w.heap.size w3 u7 (othE vf sh (l.take i))) := OwnR.below HOW.out hb3
        clear KH hb3 d0 d1 d2 d3 HBW HOW
        cases r with
        | false =>
          have HOW2 : Hid (OwnR encE 4 26 w.heap.size w3 u7 (othE vf sh (l.take (i + 1)))) := by
            have q : OwnR encE 4 26 w.heap.size w3 u7 (othE vf sh (l.take i) ++ []) := by rw [List.append_nil]; exact HOW3.out
            rw [HE.out]
            exact q
          clear HE HOW3
          go_wp2_with fail
          refine ⟨⟨i + 1, HI.out, HOW2, HB3, rfl⟩, ?_⟩
          have := HI.out
          simp [intOf]
          omega
        | true =>
          obtain ⟨w4, hw4⟩ : ∃ w4, w4 = w3.alloc (.cells #[.int .i64 esh, .int .i64 eho, .int .i64 esl, .int .i64 ece] 26) := ⟨_, rfl⟩
          have hb4 : Below w3.heap.size w3 w4 := by rw [hw4]; exact (Below.refl _ _).alloc (Nat.le_refl _) _
          have HB4 : Hid (Below w.heap.size w w4) := HB3.out.trans (hb4.mono HB3.out.size)
          have HOW4 : Hid (OwnR encE 4 26 w.heap.size w4 u7 (othE vf sh (l.take i))) := OwnR.below HOW3.out hb4
          have HONE : Hid (Sli.ok encE 4 w4 ⟨some ⟨w3.heap.size, 0, none⟩, 1, [⟨esh, eho, esl, ece⟩]⟩) := by rw [hw4]; exact one_sli rtE (at_new _ _) rfl
          have HS : Hid ((othE vf sh (l.take i)).length + 1 ≤ maxLen ∧ RoE (othE vf sh (l.take i)).length) := ⟨by have := HM.out.len; have := HM.out.cap; have := HI.out; have := HL.out; have h := HR.out; unfold RoE at h; unfold maxLen; omega, HR.out.le HL.out⟩
          generalize othE vf sh (l.take i) = xs at *
          go_wp2_with (at_builtin; rw [← hw4]; refine app_row rtE rfl _ _ rfl w.heap.size u7 xs ?h1 HOW4.out ⟨some ⟨w3.heap.size, 0, none⟩, 1, [⟨esh, eho, esl, ece⟩]⟩ ?h3 HONE.out HS.out.1 HS.out.2 HB4.out.size ?_)
          case h1 => rfl
          case h3 => rfl
          intro v6 w6 ho6 hg6 hl6
          rw [← hw4] at hg6
          have HB6 : Hid (Below w.heap.size w w6) := (Chg.of_grown (S := fun b => u7.ownBlock = some b) hg6 (fun k q => q)).below HB4.out HB4.out.size (fun k q => (HOW4.out.lt k q).1)
          have HOW2 : Hid (OwnR encE 4 26 w.heap.size w6 v6 (othE vf sh (l.take (i + 1)))) := by
            rw [HE.out]
            exact ho6
          clear HE HOW3 HOW4 HONE hg6 hl6 ho6 hw4 hb4 HB4 HB3
          go_wp2_with fail
          refine ⟨⟨i + 1, HI.out, HOW2, HB6, rfl⟩, ?_⟩
          have := HI.out
          simp [intOf]
          omega
    · have hii2 : ¬ ((i : Int) < (l.length : Int)) := by omega
      have hil : i = l.length := by omega
      subst hil
      rw [List.take_length] at hown
      clear HM
      go_wp2_with fail
      go_ret
      exact ⟨_, rfl, hown.out, hbw.out⟩
end Go.Proofs.Ytfhdmglfpkmjbaa.Hp
