/- CachesLearn: the walk. -/
import Derived.Test.YtfhdmglfpkmjbaaNP
import Derived.Test.YtfhdmglfpkmjbaaNQ
import Derived.Test.YtfhdmglfpkmjbaaNR
namespace Go.Proofs.Ytfhdmglfpkmjbaa.Hp
open Go.RowKit
set_option linter.unusedVariables false
set_option linter.unusedSimpArgs false

section
variable {β : Type} {enc : β → List Value} {t e : TypeId} {k bytes : Nat}
/-- a slice put behind a row, in a drawn region -/
theorem step_sl (R : RT enc t e k bytes) {W : World} {ops : Array Oper} {o : Oper} {a : Act} {K : Act → World → Prop} {Q : Exit → Act → World → Prop} {E : Prop} (hgd : o.guard = none) (s x : Operand)
    (ho : o.op = .call { callee := .builtin .append, args := #[s, x], argTypes := #[t, t] })
    (B : Nat) (v : Value) (xs : List β) (hs : a.eval s = v) (hown : OwnR enc k e B W v xs) (sl : Sli β) (hx : a.eval x = sl.val) (hok : sl.ok enc k W)
    (hm : xs.length + sl.xs.length ≤ maxLen) (hb : ((xs.length + sl.xs.length) + (xs.length + sl.xs.length) / 4 + 192) * bytes ≤ 281474976710656) (hB : B ≤ W.heap.size)
    (h : ∀ v' w', OwnR enc k e B w' v' (xs ++ sl.xs) → W.grownBy w' v.ownBlock → K (a.put o.dst v') w') :
    if Region.wanted o (yielded ops a.tmps) = true then Oper.wp Try.prog o a W K Q else E := by
  have hw : Region.wanted o (yielded ops a.tmps) = true := by simp [Region.wanted, hgd]
  rw [if_pos hw]
  by_cases c : sl.xs = []
  · have hr := app_zero R hown sl.at' sl.cap o.type
    have hx2 : a.eval x = .slice sl.at' 0 sl.cap := by rw [hx]; unfold Sli.val; rw [c]; rfl
    unfold Oper.wp execOp
    simp only [ho, resolve, invoke, builtin, Sem.run_bind, Sem.run_pure, Result.andThen_ok, List.map_toArray, List.map_cons, List.map_nil, hs, hx2, hr]
    refine h _ _ ?_ ⟨rfl, rfl, rfl, Nat.le_refl _, fun _ _ _ => rfl⟩
    rw [c, List.append_nil]
    exact hown
  · obtain ⟨b, off, e1, hc⟩ := hok.cells c
    have hlp : 0 < sl.xs.length := by
      rcases Nat.eq_zero_or_pos sl.xs.length with q | q
      · exact absurd (List.eq_nil_of_length_eq_zero q) c
      · exact q
    obtain ⟨v', w', hr, g1, g2, g3⟩ := run_app R hown ⟨b, off, none⟩ sl.xs.length sl.cap o.type (sl.xs.flatMap enc) (flat_len R.len _) (news_of R.len hc) (fun u hu => by obtain ⟨g, g1, g2⟩ := List.mem_flatMap.1 hu; exact R.one g u g2) hlp hm hb hB
    have hx2 : a.eval x = .slice (some ⟨b, off, none⟩) sl.xs.length sl.cap := by rw [hx]; unfold Sli.val; rw [e1]
    unfold Oper.wp execOp
    simp only [ho, resolve, invoke, builtin, Sem.run_bind, Sem.run_pure, Result.andThen_ok, List.map_toArray, List.map_cons, List.map_nil, hs, hx2, hr]
    refine h v' w' ?_ g2
    unfold OwnR
    rw [List.length_append, List.flatMap_append]
    exact g1
end

theorem own_ok {w : World} {B : Nat} {a : Option Addr} {c : Nat} {xs : List En} (h : OwnR encE 4 26 B w (.slice a xs.length c) xs) : Sli.ok encE 4 w ⟨a, c, xs⟩ := by
  obtain ⟨s, h1, h2, h3⟩ := own_sli h
  obtain ⟨sa, sc, sl⟩ := s
  simp only at h2
  subst h2
  unfold Sli.val at h1
  simp only [Value.slice.injEq] at h1
  obtain ⟨rfl, _, rfl⟩ := h1
  exact h3
/-- a slice of a row: its value -/
theorem own_val {w : World} {B : Nat} {v : Value} {xs : List En} (h : OwnR encE 4 26 B w v xs) : ∃ a c, v = .slice a xs.length c := by
  obtain ⟨s, h1, h2, _⟩ := own_sli h
  exact ⟨s.at', s.cap, by rw [h1, ← h2]; rfl⟩

theorem app_bel {w3 W w6 : World} {g : Nat} (hb : Below w3.heap.size w3 W) (hge : w3.heap.size ≤ g) (hg : W.grownBy w6 (Value.slice (some ⟨g, 0, none⟩) 0 0).ownBlock) : Below w3.heap.size w3 w6 :=
  (Chg.of_grown (S := fun b => (Value.slice (some ⟨g, 0, none⟩) 0 0).ownBlock = some b) hg (fun k q => q)).below hb hb.size (fun k q => by have : g = k := by simpa [Value.ownBlock] using q
                                                                                                                                           omega)

theorem app_box {W w6 : World} {g b : Nat} {st : Int} {v : Value} (hg : W.grownBy w6 (Value.slice (some ⟨g, 0, none⟩) 0 0).ownBlock) (hne : g ≠ b) (hb : BxS W b st v) : BxS w6 b st v := by
  have := (Chg.of_grown (S := fun k => (Value.slice (some ⟨g, 0, none⟩) 0 0).ownBlock = some k) hg (fun k q => q)).block b hb.lt (fun q => hne (by simpa [Value.ownBlock] using q))
  unfold BxS
  rw [this]
  exact hb

/-- the arguments' boxes -/
structure LwB (w w3 : World) (st : Int) (v vv : Value) (e : En) : Prop where
  s : BxS w3 w.heap.size st v
  e : BxE w3 (w.heap.size + 1) e
  r : w3.heap[w.heap.size + 1 + 1]? = some (.cells #[vv] 27 (0, 0))
  bel : Below w.heap.size w w3
theorem lwB_new (w : World) (st : Int) (v vv : Value) (e : En) : LwB w (((w.alloc (.cells #[.int .i64 st, v] 24)).alloc (.cells #[.int .i64 e.sh, .int .i64 e.ho, .int .i64 e.sl, .int .i64 e.ce] 26)).alloc (.cells #[vv] 27)) st v vv e := by
  have z1 := size_new w (.cells #[.int .i64 st, v] 24)
  have z2 := size_new (w.alloc (.cells #[.int .i64 st, v] 24)) (.cells #[.int .i64 e.sh, .int .i64 e.ho, .int .i64 e.sl, .int .i64 e.ce] 26)
  refine ⟨at_old _ _ _ _ (at_old _ _ _ _ (at_new _ _)), at_old _ _ _ _ (at_two _ _ _), ?_, below_new (B2 w _ _) (by rw [z2, z1]; omega) _⟩
  have := at_new ((w.alloc (.cells #[.int .i64 st, v] 24)).alloc (.cells #[.int .i64 e.sh, .int .i64 e.ho, .int .i64 e.sl, .int .i64 e.ce] 26)) (.cells #[vv] 27)
  rw [z2, z1] at this
  exact this
theorem LwB.below {w w3 w' : World} {st : Int} {v vv : Value} {e : En} (h : LwB w w3 st v vv e) (hb : Below w3.heap.size w3 w') : LwB w w' st v vv e :=
  ⟨h.s.below hb, h.e.below hb, by rw [hb.block _ (Array.getElem?_eq_some_iff.1 h.r).1]; exact h.r, h.bel.trans (hb.mono h.bel.size)⟩

set_option maxRecDepth 100000 in
set_option maxHeartbeats 8000000 in
theorem learn_walk (w : World) (st : Int) (m : Sli En) (hm : m.ok encE 4 w) (hz : m.xs.length ≤ 4398046511104) (e : En) (mv : Sli Int) (hv : mv.ok iC 1 w) : Calls Try.prog 3 #[.agg #[.int .i64 st, m.val], e.val, mv.val] w fun r w' => r = .returned (.bool true) ∧ Below w.heap.size w w' := by
  have HA : Hid (∀ w : World, Calls Try.prog 13 #[] w fun e w' => e = .returned (.bool true) ∧ Below w.heap.size w w') := alive_any
  have HM : Hid (m.ok encE 4 w) := hm
  have HV : Hid (mv.ok iC 1 w) := hv
  have HRO : Hid (RoE m.xs.length) := by show RoE _; unfold RoE; omega
  obtain ⟨w3, hw3⟩ : ∃ w3, w3 = ((w.alloc (.cells #[.int .i64 st, m.val] 24)).alloc (.cells #[.int .i64 e.sh, .int .i64 e.ho, .int .i64 e.sl, .int .i64 e.ce] 26)).alloc (.cells #[mv.val] 27) := ⟨_, rfl⟩
  have HB3 : Hid (LwB w w3 st m.val mv.val e) := by rw [hw3]; exact lwB_new w st _ _ e
  have hlim : (m.xs.length : Int) ≤ 4398046511104 := by omega
  have hzz : m.xs.length ≤ 4398046511104 := hz
  obtain ⟨s0, s1⟩ := HB3.out.s.ce
  clear hm hv hz
  obtain ⟨ad, cp, l⟩ := m
  obtain ⟨va, vc, vl⟩ := mv
  obtain ⟨esh, eho, esl, ece⟩ := e
  unfold En.val Sli.val at *
  simp only at *
  go_enter Try.func3, Try.ntmps3
  go_upto_region 1 with fail
  rw [← hw3]
  clear hw3
  have HSB : Hid (∀ W : World, Below w3.heap.size w3 W → W.cell? ⟨w.heap.size, 0, none⟩ = some (.int .i64 st) ∧ W.cell? ⟨w.heap.size, 1, none⟩ = some (.slice ad l.length cp)) := fun W hb => ⟨cells_below hb _ _ s0, cells_below hb _ _ s1⟩
  have HMW : Hid (∀ W : World, Below w3.heap.size w3 W → Sli.ok encE 4 W ⟨ad, cp, l⟩) := fun W hb => HM.out.kept (cells_below (HB3.out.bel.trans (hb.mono HB3.out.bel.size)))
  have HSZ : Hid (l.length ≤ maxLen ∧ (l.length + l.length / 4 + 192) * 32 ≤ 281474976710656) := ⟨by unfold maxLen; omega, by omega⟩
  have B0 : Below w3.heap.size w3 w3.drew := (Below.refl _ _).drew
  have HB0 : Hid (Below w3.heap.size w3 w3.drew) := B0
  have HBA : Hid (∀ o : Obj, Below w3.heap.size w3 (w3.drew.alloc o)) := fun o => B0.alloc (Nat.le_refl _) _
  have HBB : Hid (∀ o o2 : Obj, Below w3.heap.size w3 ((w3.drew.alloc o).alloc o2)) := fun o o2 => below_new (B0.alloc (Nat.le_refl _) _) (B0.alloc (Nat.le_refl _) _).size _
  clear B0
  go_region_held_law (fun W => W.cell? ⟨w.heap.size, 0, none⟩ = some (.int .i64 st) ∧ W.cell? ⟨w.heap.size, 1, none⟩ = some (.slice ad l.length cp))
    (first | exact HSB.out _ HB0.out | exact HSB.out _ (HBA.out _) | exact HSB.out _ (HBB.out _ _) | exact HSB.out _ HB6.out | exact HSB.out _ (below_new HB6.out HB6.out.size _) | exact HSB.out (stS w6 (w3.heap.size + 1) st (.slice a6 l.length c6)) (stS_below HB6.out (by omega) _ _) | exact HSB.out (stS w6 w3.heap.size st (.slice a6 l.length c6)) (stS_below HB6.out (by omega) _ _))
    (first
      | (refine step_sl rtE (by rfl) _ _ (by rfl) w3.heap.size (.slice (some ⟨w3.heap.size, 0, none⟩) 0 0) [] (by rfl) (by exact empty_own (at_new _ _) (Nat.le_refl _)) ⟨ad, cp, l⟩ (by rfl) (by exact HMW.out _ (HBA.out _)) (by simpa using HSZ.out.1) (by simpa using HSZ.out.2) (by exact (HBA.out _).size) ?_
         intro v6 w6 ho6 hg6
         have HB6 : Hid (Below w3.heap.size w3 w6) := app_bel (HBA.out _) (Nat.le_refl _) hg6
         obtain ⟨a6, c6, hv6⟩ := own_val ho6
         subst hv6
         simp only [List.nil_append] at *
         have HO6 : Hid (OwnR encE 4 26 w3.heap.size w6 (.slice a6 l.length c6) l) := ho6
         clear ho6 hg6)
      | (refine step_sl rtE (by rfl) _ _ (by rfl) w3.heap.size (.slice (some ⟨w3.heap.size, 0, none⟩) 0 0) [] (by rfl) (by exact empty_own (at_old _ _ _ _ (at_new _ _)) (Nat.le_refl _)) ⟨ad, cp, l⟩ (by rfl) (by exact HMW.out _ (HBB.out _ _)) (by simpa using HSZ.out.1) (by simpa using HSZ.out.2) (by exact (HBB.out _ _).size) ?_
         intro v6 w6 ho6 hg6
         have HB6 : Hid (Below w3.heap.size w3 w6) := app_bel (HBB.out _ _) (Nat.le_refl _) hg6
         obtain ⟨a6, c6, hv6⟩ := own_val ho6
         subst hv6
         simp only [List.nil_append] at *
         have HO6 : Hid (OwnR encE 4 26 w3.heap.size w6 (.slice a6 l.length c6) l) := ho6
         have HX6 : Hid (BxS w6 (w3.heap.size + 1) 0 (.slice none 0 0)) := app_box hg6 (by omega) (at_two w3.drew _ _)
         obtain ⟨t0, t1⟩ := HX6.out.ce
         have f0 := HX6.out.fz 0
         have f1 := HX6.out.fz 1
         clear ho6 hg6)
      | (refine step_sl rtE (by rfl) _ _ (by rfl) w3.heap.size (.slice (some ⟨w3.heap.size + 1, 0, none⟩) 0 0) [] (by rfl) (by exact empty_own (at_two w3.drew _ _) (by omega)) ⟨ad, cp, l⟩ (by rfl) (by exact HMW.out _ (HBB.out _ _)) (by simpa using HSZ.out.1) (by simpa using HSZ.out.2) (by exact (HBB.out _ _).size) ?_
         intro v6 w6 ho6 hg6
         have HB6 : Hid (Below w3.heap.size w3 w6) := app_bel (HBB.out _ _) (by omega) hg6
         obtain ⟨a6, c6, hv6⟩ := own_val ho6
         subst hv6
         simp only [List.nil_append] at *
         have HO6 : Hid (OwnR encE 4 26 w3.heap.size w6 (.slice a6 l.length c6) l) := ho6
         have HX6 : Hid (BxS w6 (w3.heap.size) 0 (.slice none 0 0)) := app_box hg6 (by omega) (at_old _ _ _ _ (at_new w3.drew _))
         obtain ⟨t0, t1⟩ := HX6.out.ce
         have f0 := HX6.out.fz 0
         have f1 := HX6.out.fz 1
         clear ho6 hg6))
  all_goals first
    | (obtain ⟨w5, hw5⟩ : ∃ w5, w5 = w6.alloc (.cells #[.int .i64 st, .slice a6 l.length c6] 24) := ⟨_, rfl⟩
       obtain ⟨gb, hgb⟩ : ∃ gb, gb = w6.heap.size := ⟨_, rfl⟩
       have HS5 : Hid (SiS w3 w5 gb st a6 c6 l) := by
         show SiS _ _ _ _ _ _ _
         rw [hw5, hgb]
         exact ⟨bxS_new w6 _ _, OwnR.below HO6.out ((Below.refl _ _).alloc (Nat.le_refl _) _), HB6.out.size, below_new HB6.out HB6.out.size _⟩
       rw [← hw5, ← hgb])
    | (obtain ⟨w5, hw5⟩ : ∃ w5, w5 = stS w6 (w3.heap.size + 1) st (.slice a6 l.length c6) := ⟨_, rfl⟩
       obtain ⟨gb, hgb⟩ : ∃ gb, gb = w3.heap.size + 1 := ⟨_, rfl⟩
       have HS5 : Hid (SiS w3 w5 gb st a6 c6 l) := by
         show SiS _ _ _ _ _ _ _
         rw [hw5, hgb]
         exact ⟨HX6.out.put _ _, lr_own HX6.out HO6.out _ _, by omega, stS_below HB6.out (by omega) _ _⟩
       unfold stS at hw5
       rw [← hw5, ← hgb])
    | (obtain ⟨w5, hw5⟩ : ∃ w5, w5 = stS w6 w3.heap.size st (.slice a6 l.length c6) := ⟨_, rfl⟩
       obtain ⟨gb, hgb⟩ : ∃ gb, gb = w3.heap.size := ⟨_, rfl⟩
       have HS5 : Hid (SiS w3 w5 gb st a6 c6 l) := by
         show SiS _ _ _ _ _ _ _
         rw [hw5, hgb]
         exact ⟨HX6.out.put _ _, lr_own HX6.out HO6.out _ _, by omega, stS_below HB6.out (by omega) _ _⟩
       unfold stS at hw5
       rw [← hw5, ← hgb])
  all_goals
    clear hw5 hgb HB6 HO6 HSB HMW HB0 HBA HBB s0 s1
    first | clear HX6 t0 t1 f0 f1 | skip
    have HB5 : Hid (LwB w w5 st (.slice ad l.length cp) (.slice va vl.length vc) ⟨esh, eho, esl, ece⟩) := HB3.out.below HS5.out.bel
    obtain ⟨s0, s1⟩ := HB5.out.s.ce
    obtain ⟨g0, g1⟩ := HS5.out.box.ce
    obtain ⟨e0, e1, e2, e3⟩ := HB5.out.e.at'
    simp only [Nat.zero_add] at e1 e2 e3
    have HVA : Hid (VaS (w.heap.size + 1 + 1) ⟨va, vc, vl⟩ w5) := ⟨HB5.out.r, HV.out.kept (cells_below HB5.out.bel)⟩
    have v0 : w5.cell? ⟨w.heap.size + 1 + 1, 0, none⟩ = some (.slice va vl.length vc) := cell_of_row w5 _ 0 _ _ (0, 0) HB5.out.r
    obtain ⟨x, hx⟩ : ∃ x, x = (fndE (inB vl) esh l).getD noE := ⟨_, rfl⟩
    obtain ⟨fb, hfb⟩ : ∃ fb, fb = (fndE (inB vl) esh l).isSome := ⟨_, rfl⟩
    have hfv : fvE (fndE (inB vl) esh l) = .tuple #[.agg #[.int .i64 x.sh, .int .i64 x.ho, .int .i64 x.sl, .int .i64 x.ce], .bool fb] := by rw [hx, hfb]; rfl
    have kf : Calls Try.prog 11 #[.agg #[.int .i64 st, .slice a6 l.length c6], .int .i64 esh, .func (.func 9) #[] #[.pointer (some ⟨w.heap.size + 1 + 1, 0, none⟩)]] w5 fun r w' => r = .returned (fvE (fndE (inB vl) esh l)) ∧ Below w5.heap.size w5 w' := find_own (ask_lrn (w.heap.size + 1 + 1) ⟨va, vc, vl⟩) HS5.out.row st esh HVA.out
    have HKR : Hid (∀ W : World, Below w5.heap.size w5 W → Calls Try.prog 12 #[.agg #[.int .i64 st, .slice ad l.length cp], .int .i64 esh, .slice va vl.length vc] W fun r w' => r = .returned (fvE (fndE (inB vl) esh l)) ∧ Below W.heap.size W w') := fun W hb => rfind_any ⟨ad, cp, l⟩ ⟨va, vc, vl⟩ st esh W (HM.out.kept (cells_below (HB5.out.bel.trans (hb.mono HB5.out.bel.size)))) (HV.out.kept (cells_below (HB5.out.bel.trans (hb.mono HB5.out.bel.size))))
    rw [hfv] at kf HKR
    clear hx hfb hfv HB3
    obtain ⟨xsh, xho, xsl, xce⟩ := x
    simp only at kf HKR
    have hmf : ∀ (fn : Fn) (first cap : Array Value) (w : World), (Instr.makeFunc fn first cap).run Try.prog w = .ok (.func fn first cap) w := fun _ _ _ _ => rfl
    go_wp2_with fail
    refine kf.mono ?_
    rintro ee w7 ⟨rfl, hb7⟩
    obtain ⟨w8, hw8⟩ : ∃ w8, w8 = w7.alloc (.cells #[.int .i64 xsh, .int .i64 xho, .int .i64 xsl, .int .i64 xce] 26) := ⟨_, rfl⟩
    have hb8 : Below w7.heap.size w7 w8 := by rw [hw8]; exact (Below.refl _ _).alloc (Nat.le_refl _) _
    have HX8 : Hid (BxE w8 w7.heap.size ⟨xsh, xho, xsl, xce⟩) := by rw [hw8]; exact bxE_new w7 ⟨xsh, xho, xsl, xce⟩
    have HB8 : Hid (Below w5.heap.size w5 w8) := hb7.trans (hb8.mono hb7.size)
    have kr := HKR.out w8 HB8.out
    obtain ⟨s0, s1⟩ := (HB5.out.below HB8.out).s.ce
    obtain ⟨e0, e1, e2, e3⟩ := (HB5.out.below HB8.out).e.at'
    simp only [Nat.zero_add] at e1 e2 e3
    have v0 : w8.cell? ⟨w.heap.size + 1 + 1, 0, none⟩ = some (.slice va vl.length vc) := cell_of_row w8 _ 0 _ _ (0, 0) (HB5.out.below HB8.out).r
    clear kf hb7 hb8 g0 g1 HKR
    go_upto_region 4 with fail
    rw [← hw8]
    clear hw8
    go_wp2_with fail
    refine kr.mono ?_
    rintro ee w9 ⟨rfl, hb9⟩
    obtain ⟨wa, hwa⟩ : ∃ wa, wa = w9.alloc (.cells #[.int .i64 xsh, .int .i64 xho, .int .i64 xsl, .int .i64 xce] 26) := ⟨_, rfl⟩
    have hba : Below w9.heap.size w9 wa := by rw [hwa]; exact (Below.refl _ _).alloc (Nat.le_refl _) _
    have HYA : Hid (BxE wa w9.heap.size ⟨xsh, xho, xsl, xce⟩) := by rw [hwa]; exact bxE_new w9 ⟨xsh, xho, xsl, xce⟩
    have hb8a : Below w8.heap.size w8 wa := hb9.trans (hba.mono hb9.size)
    have HXA : Hid (BxE wa w7.heap.size ⟨xsh, xho, xsl, xce⟩) := HX8.out.below hb8a
    have HBA : Hid (Below w5.heap.size w5 wa) := HB8.out.trans (hb8a.mono HB8.out.size)
    have HBW : Hid (LwB w wa st (.slice ad l.length cp) (.slice va vl.length vc) ⟨esh, eho, esl, ece⟩) := HB5.out.below HBA.out
    have HSW : Hid (SiS w3 wa gb st a6 c6 l) := HS5.out.below HBA.out
    have HVW : Hid (VaS (w.heap.size + 1 + 1) ⟨va, vc, vl⟩ wa) := HVA.out.below HBA.out
    clear kr hb9 hba hb8a HX8 HB8 HBA HB5 HS5 HVA s0 s1 e0 e1 e2 e3 v0
    go_upto_region 5 with fail
    rw [← hwa]
    clear hwa
    have HSB : Hid (∀ W : World, Below wa.heap.size wa W → W.cell? ⟨gb, 0, none⟩ = some (.int .i64 st) ∧ W.cell? ⟨gb, 1, none⟩ = some (.slice a6 l.length c6) ∧ W.cell? ⟨w.heap.size, 0, none⟩ = some (.int .i64 st) ∧ W.cell? ⟨w.heap.size, 1, none⟩ = some (.slice ad l.length cp) ∧ W.cell? ⟨w.heap.size + 1, 0, none⟩ = some (.int .i64 esh) ∧ W.cell? ⟨w.heap.size + 1, 1, none⟩ = some (.int .i64 eho) ∧ W.cell? ⟨w.heap.size + 1, 2, none⟩ = some (.int .i64 esl) ∧ W.cell? ⟨w.heap.size + 1, 3, none⟩ = some (.int .i64 ece) ∧ W.cell? ⟨w.heap.size + 1 + 1, 0, none⟩ = some (.slice va vl.length vc) ∧ W.cell? ⟨w7.heap.size, 0, none⟩ = some (.int .i64 xsh) ∧ W.cell? ⟨w7.heap.size, 1, none⟩ = some (.int .i64 xho) ∧ W.cell? ⟨w7.heap.size, 2, none⟩ = some (.int .i64 xsl) ∧ W.cell? ⟨w7.heap.size, 3, none⟩ = some (.int .i64 xce) ∧ W.cell? ⟨w9.heap.size, 0, none⟩ = some (.int .i64 xsh) ∧ W.cell? ⟨w9.heap.size, 1, none⟩ = some (.int .i64 xho) ∧ W.cell? ⟨w9.heap.size, 2, none⟩ = some (.int .i64 xsl) ∧ W.cell? ⟨w9.heap.size, 3, none⟩ = some (.int .i64 xce)) := fun W hb => by
      obtain ⟨p0, p1⟩ := (HSW.out.below hb).box.ce
      obtain ⟨q0, q1⟩ := (HBW.out.below hb).s.ce
      obtain ⟨r0, r1, r2, r3⟩ := (HBW.out.below hb).e.at'
      obtain ⟨x0, x1, x2, x3⟩ := (HXA.out.below hb).at'
      obtain ⟨y0, y1, y2, y3⟩ := (HYA.out.below hb).at'
      simp only [Nat.zero_add] at r1 r2 r3 x1 x2 x3 y1 y2 y3
      exact ⟨p0, p1, q0, q1, r0, r1, r2, r3, cell_of_row W _ 0 _ _ (0, 0) (HBW.out.below hb).r, x0, x1, x2, x3, y0, y1, y2, y3⟩
    have HB0 : Hid (Below wa.heap.size wa wa.drew) := (Below.refl _ _).drew
    have HKL : Hid (∀ W : World, Below wa.heap.size wa W → Calls Try.prog 15 #[.agg #[.int .i64 st, .slice a6 l.length c6], .agg #[.int .i64 esh, .int .i64 eho, .int .i64 esl, .int .i64 ece], .func (.func 9) #[] #[.pointer (some ⟨w.heap.size + 1 + 1, 0, none⟩)]] W fun r w' => ∃ a c, r = .returned (.agg #[.int .i64 (lrnP (inB vl) st l ⟨esh, eho, esl, ece⟩).1, .slice a (lrnP (inB vl) st l ⟨esh, eho, esl, ece⟩).2.length c]) ∧ Sli.ok encE 4 w' ⟨a, c, (lrnP (inB vl) st l ⟨esh, eho, esl, ece⟩).2⟩ ∧ Below W.heap.size W w') := fun W hb => by
      have hs := HSW.out.below hb
      refine (learn_any (ask_lrn (w.heap.size + 1 + 1) ⟨va, vc, vl⟩) ⟨a6, c6, l⟩ st ⟨esh, eho, esl, ece⟩ W (HVW.out.below hb) hs.ok HRO.out).mono ?_
      rintro r w' ⟨v, rfl, ho, hb'⟩
      obtain ⟨a, c, rfl⟩ := own_val ho
      exact ⟨a, c, rfl, own_ok ho, hb'⟩
    have HKR : Hid (∀ W : World, Below wa.heap.size wa W → Calls Try.prog 16 #[.agg #[.int .i64 st, .slice ad l.length cp], .agg #[.int .i64 esh, .int .i64 eho, .int .i64 esl, .int .i64 ece], .slice va vl.length vc] W fun r w' => ∃ a c, r = .returned (.agg #[.int .i64 (lrnP (inB vl) st l ⟨esh, eho, esl, ece⟩).1, .slice a (lrnP (inB vl) st l ⟨esh, eho, esl, ece⟩).2.length c]) ∧ Sli.ok encE 4 w' ⟨a, c, (lrnP (inB vl) st l ⟨esh, eho, esl, ece⟩).2⟩ ∧ Below W.heap.size W w') := fun W hb => by
      have hbw := (HBW.out.below hb).bel
      refine (rlearn_any ⟨ad, cp, l⟩ ⟨va, vc, vl⟩ st ⟨esh, eho, esl, ece⟩ W (HM.out.kept (cells_below hbw)) (HV.out.kept (cells_below hbw)) HRO.out).mono ?_
      rintro r w' ⟨v, rfl, ho, hb'⟩
      obtain ⟨a, c, rfl⟩ := own_val ho
      exact ⟨a, c, rfl, own_ok ho, hb'⟩
    have HGS : Hid (∀ W : World, Below wa.heap.size wa W → Calls Try.prog 14 #[.agg #[.int .i64 st, .slice a6 l.length c6], .agg #[.int .i64 st, .slice ad l.length cp]] W fun r w' => r = .returned (.bool true) ∧ Below W.heap.size W w') := fun W hb => same_site st l a6 ad c6 cp W (HSW.out.below hb).ok (HM.out.kept (cells_below (HBW.out.below hb).bel))
    have HBE : Hid (∀ W : World, Below wa.heap.size wa W → Below w.heap.size w W) := fun W hb => (HBW.out.below hb).bel
    generalize (lrnP (inB vl) st l ⟨esh, eho, esl, ece⟩).1 = st9 at *
    generalize (lrnP (inB vl) st l ⟨esh, eho, esl, ece⟩).2 = es9 at *
    clear HYA HXA HBW HSW HVW HM HV HRO
    go_region_held_law (fun W => W.cell? ⟨gb, 0, none⟩ = some (.int .i64 st) ∧ W.cell? ⟨gb, 1, none⟩ = some (.slice a6 l.length c6) ∧ W.cell? ⟨w.heap.size, 0, none⟩ = some (.int .i64 st) ∧ W.cell? ⟨w.heap.size, 1, none⟩ = some (.slice ad l.length cp) ∧ W.cell? ⟨w.heap.size + 1, 0, none⟩ = some (.int .i64 esh) ∧ W.cell? ⟨w.heap.size + 1, 1, none⟩ = some (.int .i64 eho) ∧ W.cell? ⟨w.heap.size + 1, 2, none⟩ = some (.int .i64 esl) ∧ W.cell? ⟨w.heap.size + 1, 3, none⟩ = some (.int .i64 ece) ∧ W.cell? ⟨w.heap.size + 1 + 1, 0, none⟩ = some (.slice va vl.length vc) ∧ W.cell? ⟨w7.heap.size, 0, none⟩ = some (.int .i64 xsh) ∧ W.cell? ⟨w7.heap.size, 1, none⟩ = some (.int .i64 xho) ∧ W.cell? ⟨w7.heap.size, 2, none⟩ = some (.int .i64 xsl) ∧ W.cell? ⟨w7.heap.size, 3, none⟩ = some (.int .i64 xce) ∧ W.cell? ⟨w9.heap.size, 0, none⟩ = some (.int .i64 xsh) ∧ W.cell? ⟨w9.heap.size, 1, none⟩ = some (.int .i64 xho) ∧ W.cell? ⟨w9.heap.size, 2, none⟩ = some (.int .i64 xsl) ∧ W.cell? ⟨w9.heap.size, 3, none⟩ = some (.int .i64 xce))
      (first | exact HSB.out _ HB0.out | exact HSB.out _ HBp.out | exact HSB.out _ HBq.out | exact HSB.out _ HBr.out | exact HSB.out _ HBs.out | exact HSB.out _ HBt.out)
      (first
        | (go_at_call 13
           refine (HA.out _).mono ?_
           rintro ee wp ⟨rfl, hbp⟩
           have HBp : Hid (Below wa.heap.size wa wp) := HB0.out.trans (hbp.mono HB0.out.size)
           clear hbp)
        | (go_at_call 15
           refine (HKL.out wp HBp.out).mono ?_
           rintro ee wq ⟨aq, cq, rfl, hoq, hbq⟩
           have HBq : Hid (Below wa.heap.size wa wq) := HBp.out.trans (hbq.mono HBp.out.size)
           have HOq : Hid (Sli.ok encE 4 wq ⟨aq, cq, es9⟩) := hoq
           clear hbq hoq)
        | (go_at_call 16
           refine (HKR.out wq HBq.out).mono ?_
           rintro ee wy ⟨ar, cr, rfl, hor, hbr⟩
           have HBr : Hid (Below wa.heap.size wa wy) := HBq.out.trans (hbr.mono HBq.out.size)
           have HOr : Hid (Sli.ok encE 4 wy ⟨ar, cr, es9⟩ ∧ Sli.ok encE 4 wy ⟨aq, cq, es9⟩) := ⟨hor, HOq.out.kept (cells_below hbr)⟩
           clear hbr hor)
        | (go_at_call 14
           refine (HGS.out ws HBs.out).mono ?_
           rintro ee wt ⟨rfl, hbt⟩
           have HBt : Hid (Below wa.heap.size wa wt) := HBs.out.trans (hbt.mono HBs.out.size)
           clear hbt)
        | (go_at_call 14
           refine (same_site st9 es9 aq ar cq cr wy HOr.out.2 HOr.out.1).mono ?_
           rintro ee ws ⟨rfl, hbs⟩
           have HBs : Hid (Below wa.heap.size wa ws) := HBr.out.trans (hbs.mono HBr.out.size)
           clear hbs))
    go_wp2_with fail
    go_ret
    exact ⟨rfl, HBE.out _ HBt.out⟩
end Go.Proofs.Ytfhdmglfpkmjbaa.Hp
