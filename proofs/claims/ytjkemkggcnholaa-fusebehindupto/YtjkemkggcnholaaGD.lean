/- Package fuse: Groups. -/
import Derived.Test.YtjkemkggcnholaaGC
import Derived.WalkMore
import Derived.ScopeJumps
namespace Go.Proofs.Ytjkemkggcnholaa.Fu
open Go.RowKit
set_option linter.unusedVariables false

theorem jump_weaken {P : Program} {c : Code} {l : Nat} {J : Act → World → Prop} {X : Act → World → Prop} {Q : Exit → Act → World → Prop} {a : Act} {w : World}
    (h : c.wp P (Exit.jump l (fun a' w' => J a' w' ∧ X a' w') Q) a w) : c.wp P (Exit.jump l J Q) a w := by
  refine Code.wp_mono ?_ h
  intro e a' w' he
  cases e <;> first | exact he | exact ⟨he.1, he.2.1⟩

/-- a scope in which the run jumps back to one label: what is behind the label is walked once -/
theorem scope_once {P : Program} {a : Act} {w : World} {Q : Exit → Act → World → Prop} {c rest : Code} (l : Nat) (J : Act → World → Prop) (μ : Act → World → Nat) (hf : findLabel c l = some (.seq .skip rest))
    (pass : ∀ a w, J a w → rest.wp P (Exit.jump l (fun a' w' => J a' w' ∧ μ a' w' < μ a w) Q) a w)
    (first : (∀ a w, J a w → rest.wp P (Exit.jump l J Q) a w) → c.wp P (Exit.jump l J Q) a w) : (Code.scope c).wp P Q a w :=
  wp_scope_jumps l J μ hf (first fun a w h => jump_weaken (pass a w h)) fun a w h => wp_seq (wp_skip (pass a w h))

structure GrAt (cx : List Ins) (st : List Int) (w2 wr : World) (v3 v4 : Value) (p : Nat) (gs : List Grp) : Prop where
  le : p ≤ cx.length
  sl : ∃ ys, (∀ w', Below w2.heap.size w2 w' → IntSl w' v3 ys) ∧ ∀ q : Nat, p ≤ q → behindI q ys = behindI q st
  own : OwnG w2.heap.size wr v4 gs
  val : groupsI cx st = gs ++ from' cx st p
  cnt : gs.length ≤ p
  bel : Below w2.heap.size w2 wr

set_option maxRecDepth 100000 in
set_option maxHeartbeats 4000000 in
theorem groups_any (f : Fn) (w : World) (hf : f.ok w) (hlen : (f.code.xs.length + f.hnds.xs.length + 1) * 8 ≤ 140737488355328) (hlen2 : (f.code.xs.length + 1) * 24 ≤ 140737488355328) :
    Calls Try.prog 8 #[fnV f] w fun e w' => ∃ v, e = .returned v ∧ OwnG w.heap.size w' v (groupsI f.code.xs (risen (startL f))) ∧ Below w.heap.size w w' := by
  have B0 : Below w.heap.size w (w.alloc (fnB f)) := (Below.refl _ _).alloc (Nat.le_refl _) _
  have hf1 := hf.kept (cells_below B0)
  have ks : Hid (Calls Try.prog 14 #[fnV f] (w.alloc (fnB f)) fun e w' => ∃ v, e = .returned v ∧ OwnI (w.alloc (fnB f)).heap.size w' v (risen (startL f)) ∧ Below (w.alloc (fnB f)).heap.size (w.alloc (fnB f)) w') := starts_any f _ hf1 hlen
  have HF : Hid (∀ w', Below (w.alloc (fnB f)).heap.size (w.alloc (fnB f)) w' → w'.cell? ⟨w.heap.size, 4, none⟩ = some f.code.val ∧ f.ok w') := by
    intro w' h
    have h' := cells_below h
    exact ⟨h' _ _ (fnB_cell f w 4 _ rfl), hf1.kept h'⟩
  have HD : Hid (∀ w', Below (w.alloc (fnB f)).heap.size (w.alloc (fnB f)) w' → Below w.heap.size w w') := fun w' h => B0.trans (h.mono B0.size)
  have HL : Hid (∀ w' v gs, OwnG (w.alloc (fnB f)).heap.size w' v gs → OwnG w.heap.size w' v gs) := fun w' v gs h => h.low B0.size
  have HR : Hid (Below (w.alloc (fnB f)).heap.size (w.alloc (fnB f)) (w.alloc (fnB f))) := Below.refl _ _
  have HST : Hid ((risen (startL f)).Pairwise (· < ·)) := risen_rise _
  generalize risen (startL f) = st at *
  have cs0 := fnB_cell f w 0 _ rfl
  have cs1 := fnB_cell f w 1 _ rfl
  have cs2 := fnB_cell f w 2 _ rfl
  have cs3 := fnB_cell f w 3 _ rfl
  have cs4 := fnB_cell f w 4 _ rfl
  have cs5 := fnB_cell f w 5 _ rfl
  have cs6 := fnB_cell f w 6 _ rfl
  have cs7 := fnB_cell f w 7 _ rfl
  have H24 : Hid ((f.code.xs.length + 1) * 24 ≤ 140737488355328) := hlen2
  have hcl : (f.code.xs.length : Int) ≤ 17592186044416 := by omega
  clear hf hf1 B0 hlen hlen2
  obtain ⟨nm, pa, re, ge, ⟨ca, c1, cx⟩, ⟨ka, kc, kx⟩, ⟨pa', pc, px⟩, ⟨ha, hc, hx⟩⟩ := f
  unfold fnB at *
  unfold fnV at *
  unfold Sli.val at *
  simp only at *
  go_enter Try.func8, Try.ntmps8
  go_wp2_with fail
  have ks' := ks.out
  have hcm : (c1 : Int) ≤ 9223372036854775807 ∧ cx.length ≤ c1 := by
    have h1 := (HF.out _ HR.out).2.code.len
    have h2 := (HF.out _ HR.out).2.code.cap
    simp only at h1 h2
    unfold maxLen at h2
    omega
  obtain ⟨hcm, hcl1⟩ := hcm
  generalize w.alloc (.cells #[.string nm, .int .i64 pa, .int .i64 re, .bool ge, .slice ca cx.length c1, .slice ka kx.length kc, .slice pa' px.length pc, .slice ha hx.length hc] 27) = w1 at *
  clear ks HR
  refine scope_once 0 (fun a' wr => ∃ (w2 : World) (p : Nat) (gs : List Grp) (v3 v4 u6 u7 u8 u9 u10 u11 u12 u13 u14 u15 u16 u17 u18 u19 u20 u21 u22 u23 u24 u25 u26 u27 u28 u29 u30 u31 u32 u33 u34 u35 u36 u37 u38 u39 u40 : Value), Below w1.heap.size w1 w2 ∧ GrAt cx st w2 wr v3 v4 p gs ∧ a' = ⟨#[.agg #[.string nm, .int .i64 pa, .int .i64 re, .bool ge, .slice ca cx.length c1, .slice ka kx.length kc, .slice pa' px.length pc, .slice ha hx.length hc], .pointer (some ⟨w.heap.size, 0, none⟩), .slice none 0 0, v3, v4, .int .i64 (p : Nat), u6, u7, u8, u9, u10, u11, u12, u13, u14, u15, u16, u17, u18, u19, u20, u21, u22, u23, u24, u25, u26, u27, u28, u29, u30, u31, u32, u33, u34, u35, u36, u37, u38, u39, u40], []⟩) (fun a' _ => cx.length - (intOf (a'.tmps.getD 5 undef)).toNat) rfl ?_ ?_
  · rintro a wr ⟨w2, p, gs, v3, v4, u6, u7, u8, u9, u10, u11, u12, u13, u14, u15, u16, u17, u18, u19, u20, u21, u22, u23, u24, u25, u26, u27, u28, u29, u30, u31, u32, u33, u34, u35, u36, u37, u38, u39, u40, hb2, hr, rfl⟩
    clear cs0 cs1 cs2 cs3 cs4 cs5 cs6 cs7
    have HS : Hid (GrAt cx st w2 wr v3 v4 p gs) := hr
    have ple := hr.le
    have HB1 : Hid (∀ w', Below w2.heap.size w2 w' → Below w1.heap.size w1 w') := fun w' h => hb2.trans (h.mono hb2.size)
    have HB2 : Hid (Below w1.heap.size w1 w2) := hb2
    clear hr hb2
    have m4 := (HF.out wr (HB1.out wr HS.out.bel)).1
    rcases Nat.lt_or_ge p cx.length with c | c
    · obtain ⟨ys, hys, hyq⟩ := HS.out.sl
      have kb := behind_any v3 ys p wr (hys wr HS.out.bel)
      obtain ⟨e, he, e1, e2, e3, e4⟩ := end_spec cx.length p st HST.out c
      have he' : endI cx.length (behindI p ys) = e := by rw [hyq p (Nat.le_refl _)]; exact he
      have sl := seg_len cx st p e he e2
      have hfl := first_len (segI cx st p) (by intro h; rw [h] at sl; simp at sl; omega)
      have hfp := first_pos (segI cx st p)
      have hfl2 : p + (firstI (segI cx st p)).2 ≤ cx.length := by omega
      have hok := fun w' (h : Below w2.heap.size w2 w') => (HF.out w' (HB1.out w' h)).2.code
      obtain ⟨b, off, hca, _⟩ := (hok wr HS.out.bel).cells (by intro h; simp at h; subst h; simp at c)
      simp only at hca
      subst hca
      have kf : ∀ w', Below w2.heap.size w2 w' → Calls Try.prog 16 #[.slice (some ⟨b, off + p * 4, none⟩) (e - p) (c1 - p)] w' fun e w'' => e = .returned (.tuple #[.int .i64 (firstI (segI cx st p)).1, .int .i64 ((firstI (segI cx st p)).2 : Int)]) ∧ Below w'.heap.size w' w'' := by
        intro w' h
        have := first_any ⟨some ⟨b, off + p * 4, none⟩, c1 - p, segI cx st p⟩ w' ?_
        · unfold Sli.val at this
          simp only at this
          rw [sl] at this
          exact this
        · refine ⟨by rw [sl]; simp only; omega, by have := (hok w' h).cap; simp only at this ⊢; omega, fun _ => ⟨b, off + p * 4, rfl, ?_⟩⟩
          intro i y hi j u hj
          obtain ⟨b', off', q1, q2⟩ := (hok w' h).cells (by intro h; simp at h; subst h; simp at c)
          cases q1
          unfold segI at hi
          simp only at hi q2
          rw [List.getElem?_take] at hi
          split at hi
          · rw [List.getElem?_drop] at hi
            have := q2 (p + i) y hi j u hj
            rw [show off + p * 4 + i * 4 + j = off + (p + i) * 4 + j by omega]
            exact this
          · cases hi
      have HE : Hid (∀ v', (∀ w1, IntSl w1 v3 ys → IntSl w1 v' (behindI p ys)) → ∀ wq, Below w2.heap.size w2 wq → Calls Try.prog 17 #[.slice (some ⟨b, off, none⟩) cx.length c1, v'] wq fun e' w' => e' = .returned (.int .i64 (e : Nat)) ∧ w' = wq) := by
        intro v' h wq hq
        have := end_any (some ⟨b, off, none⟩) cx.length c1 v' (behindI p ys) wq (h wq (hys wq hq)) (by omega)
        rw [he'] at this
        exact this
      have HV : Hid (∀ v' v5 w5, (∀ w1, IntSl w1 v3 ys → IntSl w1 v' (behindI p ys)) → OwnG w2.heap.size w5 v5 (gs ++ [⟨p, (firstI (segI cx st p)).2, (firstI (segI cx st p)).1⟩]) → Below w2.heap.size w2 w5 → GrAt cx st w2 w5 v' v5 (p + (firstI (segI cx st p)).2) (gs ++ [⟨p, (firstI (segI cx st p)).2, (firstI (segI cx st p)).1⟩])) := by
        intro v' v5 w5 h1 h2 h3
        refine ⟨by omega, ⟨behindI p ys, fun w' h => h1 w' (hys w' h), fun q hq => ?_⟩, h2, ?_, ?_, h3⟩
        · rw [behind_behind p q (by omega)]
          exact hyq q (by omega)
        · rw [HS.out.val, from_step cx st p c]
          simp
        · have := HS.out.cnt
          simp
          omega
      have ob : (gs.length + 1) * 24 ≤ 140737488355328 := by have := HS.out.cnt; have := H24.out; omega
      have HO : Hid (OwnG w2.heap.size wr v4 gs ∧ Below w2.heap.size w2 wr) := ⟨HS.out.own, HS.out.bel⟩
      have HKF : Hid (∀ w', Below w2.heap.size w2 w' → Calls Try.prog 16 #[.slice (some ⟨b, off + p * 4, none⟩) (e - p) (c1 - p)] w' fun e w'' => e = .returned (.tuple #[.int .i64 (firstI (segI cx st p)).1, .int .i64 ((firstI (segI cx st p)).2 : Int)]) ∧ Below w'.heap.size w' w'') := kf
      clear he he' e3 e4 hok hys hyq kf sl HF HST HL HD HS
      generalize firstI (segI cx st p) = F at *
      obtain ⟨fk, fn⟩ := F
      simp only at *
      clear hfl
      go_wp2_with fail
      refine kb.mono ?_
      rintro e' w3 ⟨v', rfl, hv', rfl⟩
      have ke := HE.out v' hv'
      have HV2 := HV.out v'
      clear kb HE
      have hbB := HO.out.2
      have kf := HKF.out
      clear HKF ks'
      go_wp2_with fail
      first
       | (go_region_with (first | (go_at_call 17; refine (ke _ (by first | exact hbB | exact hbB.drew | exact below_dN hbB _)).mono ?_; rintro e9 w9 ⟨rfl, rfl⟩) | (go_at_call 16; refine (kf _ (by first | exact hbB | exact hbB.drew | exact below_dN hbB _)).mono ?_; rintro e9 w9 ⟨rfl, hb9⟩)))
       | fail
      all_goals
        have hb9' := hbB.drew.trans (hb9.mono hbB.drew.size)
        have ho9 := (HO.out.1.kept (Below.refl _ _).drew).kept hb9
        have ho10 := ho9.new (.cells #[.int .i64 (p : Nat), .int .i64 (fn : Nat), .int .i64 fk] 32)
        have hb10 := below_new hb9' hb9'.size (.cells #[.int .i64 (p : Nat), .int .i64 (fn : Nat), .int .i64 fk] 32)
        have og := one_grp w9 ⟨p, fn, fk⟩
        have hB10 := hb10.size
        clear ke kf m4 ho9
        go_wp2_with (at_builtin; refine app_grp rfl _ _ rfl w2.heap.size v4 gs rfl ho10 w9.heap.size ⟨p, fn, fk⟩ rfl og ob hB10 ?_)
        intro v5 w5 ho5 hg5
        have HG5 : Hid (GrAt cx st w2 w5 v' v5 (p + fn) (gs ++ [⟨p, fn, fk⟩])) := HV2 v5 w5 hv' ho5 (hb10.grown hg5 hB10 ho10.base)
        clear ho5 hg5 ho10 hb10 og HV2 hb9 hb9' hbB HO hv'
        go_wp2_with fail
        go_step3
        refine ⟨rfl, ⟨w2, p + fn, gs ++ [⟨p, fn, fk⟩], v', v5, _, _, _, _, _, _, _, _, _, _, _, _, _, _, _, _, _, _, _, _, _, _, _, _, _, _, _, _, _, _, _, _, _, _, _, HB2.out, HG5.out, by rw [show ((p + fn : Nat) : Int) = (p : Int) + fn by omega]⟩, ?_⟩
        simp [intOf]
        omega
    · have HO : Hid (OwnG w2.heap.size wr v4 (groupsI cx st) ∧ Below w2.heap.size w2 wr) := by
        refine ⟨?_, HS.out.bel⟩
        rw [HS.out.val, from_end cx st p c, List.append_nil]
        exact HS.out.own
      have hdk : decide (p < cx.length) = false := decide_eq_false (by omega)
      clear HS ks' HF HST H24
      go_wp2_with fail
      simp only [Exit.jump]
      go_ret
      exact ⟨_, rfl, HL.out _ _ _ (HO.out.1.low HB2.out.size), HD.out _ (HB1.out _ HO.out.2)⟩
  · intro hpass
    have HP : Hid (∀ w2 v2, OwnI w1.heap.size w2 v2 st → Below w1.heap.size w1 w2 → GrAt cx st w2 w2 v2 (.slice none 0 0) 0 []) := by
      intro w2 v2 h1 h2
      exact ⟨Nat.zero_le _, ⟨st, fun w' h => h1.sl.kept (cells_below h), fun q _ => rfl⟩, OwnG.nil _ _, rfl, Nat.zero_le _, Below.refl _ _⟩
    have HPS := (show Hid _ from hpass)
    clear hpass HF HST HD HL H24
    go_wp2_with fail
    refine ks'.mono ?_
    rintro e w2 ⟨v2, rfl, ho2, hb2⟩
    have HG := HP.out w2 v2 ho2 hb2
    clear ks' ho2
    have HG2 : Hid (GrAt cx st w2 w2 v2 (.slice none 0 0) 0 [] ∧ Below w1.heap.size w1 w2) := ⟨HG, hb2⟩
    clear HG hb2 HP
    go_wp2_with fail
    go_step3
    rename_i hK
    exact hK _ _ (HPS.out _ _ ⟨w2, 0, [], v2, .slice none 0 0, _, _, _, _, _, _, _, _, _, _, _, _, _, _, _, _, _, _, _, _, _, _, _, _, _, _, _, _, _, _, _, _, _, _, _, HG2.out.2, HG2.out.1, rfl⟩)

end Go.Proofs.Ytjkemkggcnholaa.Fu
