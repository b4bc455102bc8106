/- Caches: Learn. -/
import Derived.Test.YtfhdmglfpkmjbaaND
namespace Go.Proofs.Ytfhdmglfpkmjbaa.Hp
open Go.RowKit
set_option linter.unusedVariables false
set_option linter.unusedSimpArgs false

/-- what a site becomes: its state and its entries -/
def lrnP (vf : Int → Bool) (st : Int) (l : List En) (e : En) : Int × List En :=
  if st = 3 then (3, [])
  else if 4 < (othE vf e.sh l ++ [e]).length then (3, [])
  else if 1 < (othE vf e.sh l ++ [e]).length ∨ st = 2 then (2, othE vf e.sh l ++ [e])
  else (1, othE vf e.sh l ++ [e])

theorem bel_dr {w w2 w3 : World} (h : Below w.heap.size w w2) (k : Below w2.drew.heap.size w2.drew w3) : Below w.heap.size w w3 :=
  h.trans (Below.mono (B := w2.heap.size) ⟨k.os, k.tape, k.output, k.size, k.block⟩ h.size)

/-- three boxes: the site, the entry, the answer -/
structure LrB (w w3 : World) (st : Int) (v : Value) (e : En) : Prop where
  s : BxS w3 w.heap.size st v
  e : BxE w3 (w.heap.size + 1) e
  r : BxS w3 (w.heap.size + 2) 0 (.slice none 0 0)
  bel : Below w.heap.size w w3
  sz : w3.heap.size = w.heap.size + 3
theorem lrB_new (w : World) (st : Int) (v : Value) (e : En) : LrB w (((w.alloc (.cells #[.int .i64 st, v] 24)).alloc (.cells #[.int .i64 e.sh, .int .i64 e.ho, .int .i64 e.sl, .int .i64 e.ce] 26)).alloc (.cells #[.int .i64 0, .slice none 0 0] 24)) st v e := by
  have z1 := size_new w (.cells #[.int .i64 st, v] 24)
  have z2 := size_new (w.alloc (.cells #[.int .i64 st, v] 24)) (.cells #[.int .i64 e.sh, .int .i64 e.ho, .int .i64 e.sl, .int .i64 e.ce] 26)
  refine ⟨at_old _ _ _ _ (at_old _ _ _ _ (at_new _ _)), at_old _ _ _ _ ?_, ?_, below_new (B2 w _ _) (by rw [z2, z1]; omega) _, by rw [size_new, z2, z1]⟩
  · have := at_new (w.alloc (.cells #[.int .i64 st, v] 24)) (.cells #[.int .i64 e.sh, .int .i64 e.ho, .int .i64 e.sl, .int .i64 e.ce] 26)
    rw [z1] at this
    exact this
  · have := at_new ((w.alloc (.cells #[.int .i64 st, v] 24)).alloc (.cells #[.int .i64 e.sh, .int .i64 e.ho, .int .i64 e.sl, .int .i64 e.ce] 26)) (.cells #[.int .i64 0, .slice none 0 0] 24)
    rw [z2, z1] at this
    exact this

theorem lr_bel {w3 W w6 : World} {v : Value} {xs : List En} (hb : Below w3.heap.size w3 W) (ho : OwnR encE 4 26 w3.heap.size W v xs) (hg : W.grownBy w6 v.ownBlock) : Below w3.heap.size w3 w6 :=
  (Chg.of_grown (S := fun b => v.ownBlock = some b) hg (fun k q => q)).below hb hb.size (fun k q => (ho.lt k q).1)
theorem lr_at {w3 w5 : World} {o : Obj} (hb : Below (w3.drew.alloc o).heap.size (w3.drew.alloc o) w5) : w5.heap[w3.heap.size]? = some o := by
  have hlt : w3.heap.size < (w3.drew.alloc o).heap.size := Nat.lt_of_lt_of_eq (Nat.lt_succ_self _) (size_new w3.drew o).symm
  rw [hb.block _ hlt]
  exact at_new w3.drew o

theorem lr_own {w6 : World} {B b : Nat} {st : Int} {u v : Value} {xs : List En} (hb : BxS w6 b st u) (ho : OwnR encE 4 26 B w6 v xs) (s2 : Int) (v2 : Value) : OwnR encE 4 26 B (stS w6 b s2 v2) v xs := by
  have hne : ∀ k, v.ownBlock = some k → k ≠ b := by
    intro k hk e
    subst e
    rcases ho.2 with ⟨rfl, _⟩ | ⟨g, cap, cur, rfl, _, hg, _⟩
    · simp [Value.ownBlock] at hk
    · have : g = k := by simpa [Value.ownBlock] using hk
      subst this
      unfold BxS at hb
      rw [hb] at hg
      injection hg with hg
      injection hg with _ ht
      exact absurd ht (by decide)
  exact (ho.set (a := ⟨b, 0, none⟩) hne _).set (a := ⟨b, 1, none⟩) hne _

set_option maxRecDepth 100000 in
set_option maxHeartbeats 4000000 in
theorem learn_any {X : World → Prop} {f : Nat} {cap : Array Value} {vf : Int → Bool} (A : Ask X f cap vf) (m : Sli En) (st : Int) (e : En) (w : World) (hX : X w) (hm : m.ok encE 4 w) (hR : RoE m.xs.length) :
    Calls Try.prog 15 #[.agg #[.int .i64 st, m.val], e.val, fnV f cap] w fun r w' => ∃ v, r = .returned (.agg #[.int .i64 (lrnP vf st m.xs e).1, v]) ∧ OwnR encE 4 26 w.heap.size w' v (lrnP vf st m.xs e).2 ∧ Below w.heap.size w w' := by
  obtain ⟨w3, hw3⟩ : ∃ w3, w3 = ((w.alloc (.cells #[.int .i64 st, m.val] 24)).alloc (.cells #[.int .i64 e.sh, .int .i64 e.ho, .int .i64 e.sl, .int .i64 e.ce] 26)).alloc (.cells #[.int .i64 0, .slice none 0 0] 24) := ⟨_, rfl⟩
  have HB3 : Hid (LrB w w3 st m.val e) := by rw [hw3]; exact lrB_new w st m.val e
  obtain ⟨s0, s1⟩ := HB3.out.s.ce
  obtain ⟨e0, e1, e2, e3⟩ := HB3.out.e.at'
  simp only [Nat.zero_add] at e1 e2 e3
  obtain ⟨r0, r1⟩ := HB3.out.r.ce
  have f0 := HB3.out.r.fz 0
  have f1 := HB3.out.r.fz 1
  have HK : Hid (∀ wc : World, Below w3.heap.size w3 wc → Calls Try.prog 28 #[m.val, .int .i64 e.sh, fnV f cap] wc fun r w' => ∃ v, r = .returned v ∧ OwnR encE 4 26 wc.heap.size w' v (othE vf e.sh m.xs) ∧ Below wc.heap.size wc w') := fun wc hb => by
    have hb2 : Below w.heap.size w wc := HB3.out.bel.trans (hb.mono HB3.out.bel.size)
    exact others_any A m e.sh wc (A.kept hX hb2) (hm.kept (cells_below hb2)) hR
  have HL : Hid (RoE (othE vf e.sh m.xs).length ∧ (othE vf e.sh m.xs).length + 1 ≤ maxLen) := by
    have hle : (othE vf e.sh m.xs).length ≤ m.xs.length := List.length_filter_le _ _
    exact ⟨hR.le hle, by have h := hR; unfold RoE at h; unfold maxLen; omega⟩
  obtain ⟨R, hRR⟩ : ∃ R, R = lrnP vf st m.xs e := ⟨_, rfl⟩
  have HP : Hid (R = if st = 3 then (3, []) else if 4 < (othE vf e.sh m.xs ++ [e]).length then (3, []) else if 1 < (othE vf e.sh m.xs ++ [e]).length ∨ st = 2 then (2, othE vf e.sh m.xs ++ [e]) else (1, othE vf e.sh m.xs ++ [e])) := hRR
  rw [← hRR]
  clear hRR
  generalize othE vf e.sh m.xs = xs at *
  generalize m.val = mv at *
  generalize hF : fnV f cap = F at *
  clear A hX hm hR
  obtain ⟨esh, eho, esl, ece⟩ := e
  unfold En.val
  simp only at *
  by_cases c3 : st = 3
  · subst c3
    have HPU : Hid (BxS (stS w3 (w.heap.size + 2) 3 (.slice none 0 0)) (w.heap.size + 2) 3 (.slice none 0 0) ∧ Below w.heap.size w (stS w3 (w.heap.size + 2) 3 (.slice none 0 0))) := ⟨HB3.out.r.put _ _, stS_below HB3.out.bel (by omega) _ _⟩
    clear HK HL
    go_enter Try.func15, Try.ntmps15
    go_upto_region 1 with fail
    rw [← hw3]
    clear hw3
    go_wp2_with fail
    refine bodyPost_ret (res1 rfl _ _ (w.heap.size + 2) 24 _ (0, 0) _ rfl HPU.out.1 Try.underlying24 rfl (by kernel_rfl)) rfl ?_
    rw [HP.out, if_pos trivial]
    exact ⟨_, rfl, OwnR.nil _ _, HPU.out.2⟩
  · have hc3 : (st == (3 : Int)) = false := by simpa using c3
    go_enter Try.func15, Try.ntmps15
    go_upto_region 1 with fail
    rw [← hw3]
    clear hw3
    go_upto_region 3 with fail
    have B0 : Below w3.heap.size w3 w3.drew := (Below.refl _ _).drew
    have B1 : Below w3.heap.size w3 (w3.drew.alloc (.cells #[.int .i64 esh, .int .i64 eho, .int .i64 esl, .int .i64 ece] 26)) := B0.alloc (Nat.le_refl _) _
    have HB01 : Hid (Below w3.heap.size w3 w3.drew ∧ Below w3.heap.size w3 (w3.drew.alloc (.cells #[.int .i64 esh, .int .i64 eho, .int .i64 esl, .int .i64 ece] 26))) := ⟨B0, B1⟩
    have HSB : Hid (∀ W : World, Below w3.heap.size w3 W → W.cell? ⟨w.heap.size, 1, none⟩ = some mv ∧ W.cell? ⟨w.heap.size + 1, 0, none⟩ = some (.int .i64 esh) ∧ W.cell? ⟨w.heap.size + 1, 1, none⟩ = some (.int .i64 eho) ∧ W.cell? ⟨w.heap.size + 1, 2, none⟩ = some (.int .i64 esl) ∧ W.cell? ⟨w.heap.size + 1, 3, none⟩ = some (.int .i64 ece)) := fun W hb => ⟨cells_below hb _ _ s1, cells_below hb _ _ e0, cells_below hb _ _ e1, cells_below hb _ _ e2, cells_below hb _ _ e3⟩
    clear B0 B1
    go_region_held_law (fun W => W.cell? ⟨w.heap.size, 1, none⟩ = some mv ∧ W.cell? ⟨w.heap.size + 1, 0, none⟩ = some (.int .i64 esh) ∧ W.cell? ⟨w.heap.size + 1, 1, none⟩ = some (.int .i64 eho) ∧ W.cell? ⟨w.heap.size + 1, 2, none⟩ = some (.int .i64 esl) ∧ W.cell? ⟨w.heap.size + 1, 3, none⟩ = some (.int .i64 ece))
      (first | exact HSB.out _ HB01.out.1 | exact HSB.out _ HB01.out.2 | exact HSB.out _ HB5.out | exact HSB.out _ (below_new HB5.out HB5.out.size _) | exact HSB.out _ HB6.out)
      (first
        | (refine step_row rtE (by rfl) _ _ (by rfl) w3.heap.size v5 xs (by rfl) (by exact HO5.out) w3.heap.size ⟨esh, eho, esl, ece⟩ #[.int .i64 esh, .int .i64 eho, .int .i64 esl, .int .i64 ece] 26 (by rfl) (by exact HC5.out) (by rfl) (by exact HL.out.2) (by exact HL.out.1) (by exact HB5.out.size) ?_
           intro g6 cap6 w6 ho6 hg6 hl6
           have HO6 : Hid (OwnR encE 4 26 w3.heap.size w6 (.slice (some ⟨g6, 0, none⟩) (xs.length + 1) cap6) (xs ++ [⟨esh, eho, esl, ece⟩])) := ho6
           have HB6 : Hid (Below w3.heap.size w3 w6) := lr_bel HB5.out HO5.out hg6
           clear ho6 hg6 hl6)
        | (refine step_row rtE (by rfl) _ _ (by rfl) w3.heap.size v5 xs (by rfl) (by exact HO5.out.below ((Below.refl _ _).alloc (Nat.le_refl _) _)) w5.heap.size ⟨esh, eho, esl, ece⟩ #[.int .i64 esh, .int .i64 eho, .int .i64 esl, .int .i64 ece] 26 (by rfl) (by exact at_new _ _) (by rfl) (by exact HL.out.2) (by exact HL.out.1) (by exact (below_new HB5.out HB5.out.size _).size) ?_
           intro g6 cap6 w6 ho6 hg6 hl6
           have HO6 : Hid (OwnR encE 4 26 w3.heap.size w6 (.slice (some ⟨g6, 0, none⟩) (xs.length + 1) cap6) (xs ++ [⟨esh, eho, esl, ece⟩])) := ho6
           have HB6 : Hid (Below w3.heap.size w3 w6) := lr_bel (below_new HB5.out HB5.out.size _) (HO5.out.below ((Below.refl _ _).alloc (Nat.le_refl _) _)) hg6
           clear ho6 hg6 hl6)
        | (go_at_call 28
           first
           | (refine (HK.out _ HB01.out.1).mono ?_
              rintro ee w5 ⟨v5, rfl, ho5, hb5⟩
              have HB5 : Hid (Below w3.heap.size w3 w5) := HB01.out.1.trans (hb5.mono HB01.out.1.size)
              have HO5 : Hid (OwnR encE 4 26 w3.heap.size w5 v5 xs) := ho5
              clear ho5 hb5)
           | (refine (HK.out _ HB01.out.2).mono ?_
              rintro ee w5 ⟨v5, rfl, ho5, hb5⟩
              have HB5 : Hid (Below w3.heap.size w3 w5) := HB01.out.2.trans (hb5.mono HB01.out.2.size)
              have HO5 : Hid (OwnR encE 4 26 w3.heap.size w5 v5 xs) := ho5.low HB01.out.2.size
              have HC5 : Hid (w5.heap[w3.heap.size]? = some (.cells #[.int .i64 esh, .int .i64 eho, .int .i64 esl, .int .i64 ece] 26 (0, 0))) := lr_at hb5
              clear ho5 hb5)))
    all_goals
      have HR6 : Hid (BxS w6 (w.heap.size + 1 + 1) 0 (.slice none 0 0)) := HB3.out.r.below HB6.out
      obtain ⟨t0, _⟩ := (HB3.out.s.below HB6.out).ce
      obtain ⟨r0, r1⟩ := HR6.out.ce
      have f0 := HR6.out.fz 0
      have f1 := HR6.out.fz 1
      have HBW : Hid (Below w.heap.size w w6) := HB3.out.bel.trans (HB6.out.mono HB3.out.bel.size)
      have HOW : Hid (OwnR encE 4 26 w.heap.size w6 (.slice (some ⟨g6, 0, none⟩) (xs.length + 1) cap6) (xs ++ [⟨esh, eho, esl, ece⟩])) := HO6.out.low HB3.out.bel.size
      clear HO6 HB6 HB3 HK HL HO5 HB5 HSB HB01 s0 s1 e0 e1 e2 e3
      by_cases c4 : 4 < (xs ++ [(⟨esh, eho, esl, ece⟩ : En)]).length
      · have HG : Hid (4 < (xs ++ [(⟨esh, eho, esl, ece⟩ : En)]).length) := c4
        have c4' : (4 : Int) < ((xs.length + 1 : Nat) : Int) := by simp at c4; omega
        have HPU : Hid (BxS (stS w6 (w.heap.size + 1 + 1) 3 (.slice none 0 0)) (w.heap.size + 1 + 1) 3 (.slice none 0 0) ∧ Below w.heap.size w (stS w6 (w.heap.size + 1 + 1) 3 (.slice none 0 0))) := ⟨HR6.out.put _ _, stS_below HBW.out (by omega) _ _⟩
        clear HR6 HBW HOW c4
        go_wp2_with fail
        refine bodyPost_ret (res1 rfl _ _ (w.heap.size + 1 + 1) 24 _ (0, 0) _ rfl HPU.out.1 Try.underlying24 rfl (by kernel_rfl)) rfl ?_
        rw [HP.out, if_neg c3, if_pos HG.out]
        exact ⟨_, rfl, OwnR.nil _ _, HPU.out.2⟩
      · have c4' : ¬ (4 : Int) < ((xs.length + 1 : Nat) : Int) := by simp at c4; omega
        have HG : Hid (¬ 4 < (xs ++ [(⟨esh, eho, esl, ece⟩ : En)]).length) := c4
        have HLX : Hid ((xs ++ [(⟨esh, eho, esl, ece⟩ : En)]).length = xs.length + 1) := by show (_ : Nat) = _; simp
        have HOS : Hid (∀ s2 : Int, OwnR encE 4 26 w.heap.size (stS w6 (w.heap.size + 1 + 1) s2 (.slice (some ⟨g6, 0, none⟩) (xs.length + 1) cap6)) (.slice (some ⟨g6, 0, none⟩) (xs.length + 1) cap6) (xs ++ [⟨esh, eho, esl, ece⟩])) := fun s2 => lr_own HR6.out HOW.out s2 _
        clear c4
        by_cases c1 : 1 < xs.length + 1 ∨ st = 2
        · have HG1 : Hid (1 < xs.length + 1 ∨ st = 2) := c1
          have HPU : Hid (BxS (stS w6 (w.heap.size + 1 + 1) 2 (.slice (some ⟨g6, 0, none⟩) (xs.length + 1) cap6)) (w.heap.size + 1 + 1) 2 (.slice (some ⟨g6, 0, none⟩) (xs.length + 1) cap6) ∧ Below w.heap.size w (stS w6 (w.heap.size + 1 + 1) 2 (.slice (some ⟨g6, 0, none⟩) (xs.length + 1) cap6))) := ⟨HR6.out.put _ _, stS_below HBW.out (by omega) _ _⟩
          clear HR6 HBW HOW c1
          by_cases c5 : 1 < xs.length + 1
          · have c5' : (1 : Int) < ((xs.length + 1 : Nat) : Int) := by omega
            clear c5
            go_wp2_with fail
            refine bodyPost_ret (res1 rfl _ _ (w.heap.size + 1 + 1) 24 _ (0, 0) _ rfl HPU.out.1 Try.underlying24 rfl (by kernel_rfl)) rfl ?_
            rw [HP.out, if_neg c3, if_neg HG.out, HLX.out, if_pos HG1.out]
            exact ⟨_, rfl, HOS.out _, HPU.out.2⟩
          · have c5' : ¬ (1 : Int) < ((xs.length + 1 : Nat) : Int) := by omega
            have c2 : st = 2 := HG1.out.resolve_left c5
            subst c2
            clear c5
            go_wp2_with fail
            refine bodyPost_ret (res1 rfl _ _ (w.heap.size + 1 + 1) 24 _ (0, 0) _ rfl HPU.out.1 Try.underlying24 rfl (by kernel_rfl)) rfl ?_
            rw [HP.out, if_neg c3, if_neg HG.out, HLX.out, if_pos HG1.out]
            exact ⟨_, rfl, HOS.out _, HPU.out.2⟩
        · have HG1 : Hid (¬ (1 < xs.length + 1 ∨ st = 2)) := c1
          have HPU : Hid (BxS (stS w6 (w.heap.size + 1 + 1) 1 (.slice (some ⟨g6, 0, none⟩) (xs.length + 1) cap6)) (w.heap.size + 1 + 1) 1 (.slice (some ⟨g6, 0, none⟩) (xs.length + 1) cap6) ∧ Below w.heap.size w (stS w6 (w.heap.size + 1 + 1) 1 (.slice (some ⟨g6, 0, none⟩) (xs.length + 1) cap6))) := ⟨HR6.out.put _ _, stS_below HBW.out (by omega) _ _⟩
          have c5' : ¬ (1 : Int) < ((xs.length + 1 : Nat) : Int) := by omega
          have c2 : (st == (2 : Int)) = false := by simpa using (fun q => c1 (Or.inr q))
          clear HR6 HBW HOW c1
          go_wp2_with fail
          refine bodyPost_ret (res1 rfl _ _ (w.heap.size + 1 + 1) 24 _ (0, 0) _ rfl HPU.out.1 Try.underlying24 rfl (by kernel_rfl)) rfl ?_
          rw [HP.out, if_neg c3, if_neg HG.out, HLX.out, if_neg HG1.out]
          exact ⟨_, rfl, HOS.out _, HPU.out.2⟩
end Go.Proofs.Ytfhdmglfpkmjbaa.Hp
