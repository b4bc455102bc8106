/- The document's Groups. -/
import Derived.Test.YtjkemkggcnholaaGL0
import Derived.Test.YtjkemkggcnholaaGH
namespace Go.Proofs.Ytjkemkggcnholaa.Fu
open Go.RowKit
set_option linter.unusedVariables false

/-- the document's kind, as it is asked here -/
def KindOk (f : Fn) : Prop := ∀ (p : Nat) (w : World), f.ok w → p < f.code.xs.length → ∀ room : Nat, 1 ≤ room → room ≤ 3 → p + room ≤ f.code.xs.length →
    Calls Try.prog 18 #[fnV f, .int .i64 (p : Nat), .int .i64 (room : Nat)] w fun e w' => e = .returned (.tuple #[.int .i64 (firstI ((f.code.xs.drop p).take room)).1, .int .i64 ((firstI ((f.code.xs.drop p).take room)).2 : Int)]) ∧ Below w.heap.size w w'

structure RgAt (cx : List Ins) (st : List Int) (w2 wr : World) (v4 : Value) (p : Nat) (gs : List Grp) : Prop where
  le : p ≤ cx.length
  own : OwnG w2.heap.size wr v4 gs
  val : groupsI cx st = gs ++ from' cx st p
  cnt : gs.length ≤ p
  bel : Below w2.heap.size w2 wr

/-- so far the room is at least so much -/
structure RmAt (n : Nat) (st : List Int) (p r : Nat) : Prop where
  pos : 1 ≤ r
  le : r ≤ roomI n st p

theorem room_lt (n : Nat) (st : List Int) (p r : Nat) (h1 : 1 ≤ r) (h : r < roomI n st p) : r < 3 ∧ p + r < n ∧ ((p + r : Nat) : Int) ∉ st := by
  unfold roomI at h
  split at h
  · rename_i c
    split at h
    · rename_i d
      rcases (show r = 1 ∨ r = 2 by omega) with rfl | rfl
      · exact ⟨by omega, c.1, c.2⟩
      · exact ⟨by omega, d.1, d.2⟩
    · have : r = 1 := by omega
      subst this
      exact ⟨by omega, c.1, c.2⟩
  · omega

theorem room_end (n : Nat) (st : List Int) (p : Nat) : roomI n st p = 3 ∨ n ≤ p + roomI n st p ∨ ((p + roomI n st p : Nat) : Int) ∈ st := by
  unfold roomI
  split
  · split
    · exact Or.inl rfl
    · rename_i d
      rcases Classical.em (p + 2 < n) with h | h
      · exact Or.inr (Or.inr (Classical.byContradiction fun hm => d ⟨h, hm⟩))
      · exact Or.inr (Or.inl (by omega))
  · rename_i d
    rcases Classical.em (p + 1 < n) with h | h
    · exact Or.inr (Or.inr (Classical.byContradiction fun hm => d ⟨h, hm⟩))
    · exact Or.inr (Or.inl (by omega))

theorem room_in (n : Nat) (st : List Int) (p : Nat) (h : p < n) : 1 ≤ roomI n st p ∧ roomI n st p ≤ 3 ∧ p + roomI n st p ≤ n := by
  unfold roomI
  split
  · rename_i c
    split
    · rename_i d
      exact ⟨by omega, by omega, by omega⟩
    · exact ⟨by omega, by omega, by omega⟩
  · exact ⟨by omega, by omega, by omega⟩

set_option maxRecDepth 100000 in
set_option maxHeartbeats 4000000 in
theorem rgroups_any (f : Fn) (w : World) (hf : f.ok w) (hkd : KindOk f) (hlen : (f.code.xs.length + f.hnds.xs.length + 1) * 8 ≤ 140737488355328) (hlen2 : (f.code.xs.length + 1) * 24 ≤ 140737488355328) :
    Calls Try.prog 9 #[fnV f] w fun e w' => ∃ v, e = .returned v ∧ OwnG w.heap.size w' v (groupsI f.code.xs (risen (startL f))) ∧ Below w.heap.size w w' := by
  have B0 : Below w.heap.size w (w.alloc (fnB f)) := (Below.refl _ _).alloc (Nat.le_refl _) _
  have hf1 := hf.kept (cells_below B0)
  have ks : Hid (Calls Try.prog 12 #[fnV f] (w.alloc (fnB f)) fun e w' => ∃ v, e = .returned v ∧ OwnI (w.alloc (fnB f)).heap.size w' v (risen (startL f)) ∧ Below (w.alloc (fnB f)).heap.size (w.alloc (fnB f)) w') := rstarts_any f _ hf1 hlen
  have HF : Hid (∀ w', Below (w.alloc (fnB f)).heap.size (w.alloc (fnB f)) w' → (∀ j u, (fnC f)[j]? = some u → w'.cell? ⟨w.heap.size, j, none⟩ = some u) ∧ f.ok w') := by
    intro w' h
    have h' := cells_below h
    exact ⟨fn_cells f w w' h, hf1.kept h'⟩
  have HD : Hid (∀ w', Below (w.alloc (fnB f)).heap.size (w.alloc (fnB f)) w' → Below w.heap.size w w') := fun w' h => B0.trans (h.mono B0.size)
  have HL : Hid (∀ w' v gs, OwnG (w.alloc (fnB f)).heap.size w' v gs → OwnG w.heap.size w' v gs) := fun w' v gs h => h.low B0.size
  have HST : Hid ((risen (startL f)).Pairwise (· < ·)) := risen_rise _
  have HKD : Hid (KindOk f) := hkd
  generalize risen (startL f) = st at *
  have cs0 := fnB_cell f w 0 _ rfl
  have cs1 := fnB_cell f w 1 _ rfl
  have cs2 := fnB_cell f w 2 _ rfl
  have cs3 := fnB_cell f w 3 _ rfl
  have cs4 := fnB_cell f w 4 _ rfl
  have cs5 := fnB_cell f w 5 _ rfl
  have cs6 := fnB_cell f w 6 _ rfl
  have cs7 := fnB_cell f w 7 _ rfl
  have H24 : Hid ((f.code.xs.length + 1) * 24 ≤ 140737488355328) := hlen2
  have hcl : (f.code.xs.length : Int) ≤ 17592186044416 := by omega
  clear hf hf1 B0 hlen hlen2 hkd
  obtain ⟨nm, pa, re, ge, ⟨ca, c1, cx⟩, ⟨ka, kc, kx⟩, ⟨pa', pc, px⟩, ⟨ha, hc, hx⟩⟩ := f
  unfold KindOk at HKD
  unfold fnB at *
  unfold fnV at *
  unfold Sli.val at *
  simp only at *
  have ks' := ks.out
  clear ks
  go_enter Try.func9, Try.ntmps9
  go_wp2_with fail
  generalize w.alloc (.cells #[.string nm, .int .i64 pa, .int .i64 re, .bool ge, .slice ca cx.length c1, .slice ka kx.length kc, .slice pa' px.length pc, .slice ha hx.length hc] 27) = w1 at *
  refine ks'.mono ?_
  rintro e w2 ⟨v2, rfl, ho2, hb2⟩
  have HI2 : Hid (∀ w', Below w2.heap.size w2 w' → IntSl w' v2 st ∧ Below w1.heap.size w1 w') := fun w' h => ⟨ho2.sl.kept (cells_below h), hb2.trans (h.mono hb2.size)⟩
  clear ks' ho2 hb2 cs0 cs1 cs2 cs3 cs4 cs5 cs6 cs7
  go_wp2_with fail
  go_loopw [4, 5] (fun gv pv wr => ∃ (p : Nat) (gs : List Grp), RgAt cx st w2 wr gv p gs ∧ pv = .int .i64 p) (fun gv pv wr => cx.length - (intOf pv).toNat)
  case atStart => exact ⟨0, [], ⟨Nat.zero_le _, OwnG.nil _ _, rfl, Nat.zero_le _, Below.refl _ _⟩, rfl⟩
  case round =>
    obtain ⟨p, gs, hr, rfl⟩ := hrel
    have HR : Hid (RgAt cx st w2 wr u4 p gs) := hr
    have ple := hr.le
    clear hr
    have m4 := (HF.out wr (HI2.out wr HR.out.bel).2).1 4 _ rfl
    unfold Sli.val at m4
    simp only at m4
    rcases Nat.lt_or_ge p cx.length with c | c
    · obtain ⟨rp1, rp2, rp3⟩ := room_in cx.length st p c
      have HRM : Hid (∀ r, 1 ≤ r → r < roomI cx.length st p → r < 3 ∧ p + r < cx.length ∧ ((p + r : Nat) : Int) ∉ st) := fun r h1 h2 => room_lt cx.length st p r h1 h2
      have HRE : Hid (roomI cx.length st p = 3 ∨ cx.length ≤ p + roomI cx.length st p ∨ ((p + roomI cx.length st p : Nat) : Int) ∈ st) := room_end cx.length st p
      have hfr := first_room cx st p HST.out c
      have hst := (step_in cx st p HST.out c).1
      have hfp := first_pos (segI cx st p)
      have HKC : Hid (∀ w', Below w2.heap.size w2 w' → Calls Try.prog 18 #[.agg #[.string nm, .int .i64 pa, .int .i64 re, .bool ge, .slice ca cx.length c1, .slice ka kx.length kc, .slice pa' px.length pc, .slice ha hx.length hc], .int .i64 (p : Nat), .int .i64 (roomI cx.length st p : Nat)] w' fun e w'' => e = .returned (.tuple #[.int .i64 (firstI (segI cx st p)).1, .int .i64 ((firstI (segI cx st p)).2 : Int)]) ∧ Below w'.heap.size w' w'') := by
        intro w' h
        have := HKD.out p w' (HF.out w' (HI2.out w' h).2).2 c (roomI cx.length st p) rp1 rp2 rp3
        rw [← hfr] at this
        exact this
      have HV : Hid (∀ v5 w5, OwnG w2.heap.size w5 v5 (gs ++ [⟨p, (firstI (segI cx st p)).2, (firstI (segI cx st p)).1⟩]) → Below w2.heap.size w2 w5 → RgAt cx st w2 w5 v5 (p + (firstI (segI cx st p)).2) (gs ++ [⟨p, (firstI (segI cx st p)).2, (firstI (segI cx st p)).1⟩])) := by
        intro v5 w5 h2 h3
        refine ⟨by omega, h2, ?_, ?_, h3⟩
        · rw [HR.out.val, from_step cx st p c]
          simp
        · have := HR.out.cnt
          simp
          omega
      have ob : (gs.length + 1) * 24 ≤ 140737488355328 := by have := HR.out.cnt; have := H24.out; omega
      have HO : Hid (OwnG w2.heap.size wr u4 gs ∧ Below w2.heap.size w2 wr) := ⟨HR.out.own, HR.out.bel⟩
      clear hfr HR HST HKD
      generalize firstI (segI cx st p) = F at *
      obtain ⟨fk, fn⟩ := F
      generalize roomI cx.length st p = rm at *
      simp only at *
      have HOB : Hid ((gs.length + 1) * 24 ≤ 140737488355328) := ob
      clear ob
      have hrm : (rm : Int) ≤ 3 := by omega
      have hprm : (p : Int) + rm ≤ cx.length := by omega
      go_wp2_with fail
      clear m4
      go_loopw [6] (fun rv wq => ∃ r : Nat, (1 ≤ r ∧ r ≤ rm ∧ Below wr.heap.size wr wq) ∧ rv = .int .i64 r) (fun rv wq => rm - (intOf rv).toNat)
      case atStart => exact ⟨1, ⟨Nat.le_refl _, rp1, Below.refl _ _⟩, rfl⟩
      case round =>
        obtain ⟨r, ⟨r1, r2, hbq⟩, rfl⟩ := hrel
        have HBQ : Hid (Below w2.heap.size w2 wr) := HO.out.2.trans (hbq.mono HO.out.2.size)
        have HBR := (show Hid _ from hbq)
        obtain ⟨hcs, _⟩ := HF.out wr (HI2.out wr HBQ.out).2
        have m0 := hcs 0 _ rfl
        have m1 := hcs 1 _ rfl
        have m2 := hcs 2 _ rfl
        have m3 := hcs 3 _ rfl
        have m4 := hcs 4 _ rfl
        have m5 := hcs 5 _ rfl
        have m6 := hcs 6 _ rfl
        have m7 := hcs 7 _ rfl
        unfold Sli.val at m4 m5 m6 m7
        simp only at m0 m1 m2 m3 m4 m5 m6 m7
        clear hcs hbq
        have kI := in_any v2 st ((p + r : Nat) : Int) wr (HI2.out wr HBQ.out).1
        rw [show ((p + r : Nat) : Int) = (p : Int) + r by omega] at kI
        have hr3 : (r : Int) ≤ 3 := by omega
        rcases Nat.lt_or_ge r rm with d | d
        · obtain ⟨q1, q2, q3⟩ := HRM.out r r1 d
          have e3 : decide ((p : Int) + r ∈ st) = false := decide_eq_false (by rw [show (p : Int) + r = ((p + r : Nat) : Int) by omega]; exact q3)
          rw [e3] at kI
          have q1' : (r : Int) < 3 := by omega
          have q2' : (p : Int) + r < cx.length := by omega
          clear q3 e3 m0 m1 m2 m3 m5 m6 m7
          go_wp2_with fail
          refine kI.mono ?_
          rintro e w6 ⟨rfl, rfl⟩
          go_wp2_with fail
          refine ⟨⟨r + 1, ⟨by omega, d, HBR.out⟩, by go_num⟩, ?_⟩
          simp [intOf]
          omega
        · have hq : r = rm := by omega
          subst hq
          have HRE2 := HRE.out
          by_cases t1 : r = 3
          · have d1 : ¬ (r : Int) < 3 := by omega
            clear HRE2 t1 d r2
            have kK := HKC.out wr HBQ.out
            have HOW : OwnG w2.heap.size wr u4 gs := HO.out.1.kept HBR.out
            clear kI
            go_wp2_with fail
            refine kK.mono ?_
            rintro e w9 ⟨rfl, hb9⟩
            have hb9' := HBQ.out.trans (hb9.mono HBQ.out.size)
            have ho10 := (HOW.kept hb9).new (.cells #[.int .i64 (p : Nat), .int .i64 (fn : Nat), .int .i64 fk] 32)
            have hb10 := below_new hb9' hb9'.size (.cells #[.int .i64 (p : Nat), .int .i64 (fn : Nat), .int .i64 fk] 32)
            have og := one_grp w9 ⟨p, fn, fk⟩
            have hB10 := hb10.size
            have ob := HOB.out
            clear kK m0 m1 m2 m3 m4 m5 m6 m7 HOW
            go_wp2_with (at_builtin; refine app_grp rfl _ _ rfl w2.heap.size u4 gs rfl ho10 w9.heap.size ⟨p, fn, fk⟩ rfl og ob hB10 ?_)
            intro v5 w5 ho5 hg5
            have HG5 : Hid (RgAt cx st w2 w5 v5 (p + fn) (gs ++ [⟨p, fn, fk⟩])) := HV.out v5 w5 ho5 (hb10.grown hg5 hB10 ho10.base)
            clear ho5 hg5 ho10 hb10 og hb9 hb9' ob
            go_wp2_with fail
            refine ⟨⟨p + fn, gs ++ [⟨p, fn, fk⟩], HG5.out, by go_num⟩, ?_⟩
            simp [intOf]
            omega
          by_cases t2 : cx.length ≤ p + r
          · have d1 : (r : Int) < 3 := by omega
            have d2 : ¬ (p : Int) + r < cx.length := by omega
            clear HRE2 t1 t2 d r2
            have kK := HKC.out wr HBQ.out
            have HOW : OwnG w2.heap.size wr u4 gs := HO.out.1.kept HBR.out
            clear kI
            go_wp2_with fail
            refine kK.mono ?_
            rintro e w9 ⟨rfl, hb9⟩
            have hb9' := HBQ.out.trans (hb9.mono HBQ.out.size)
            have ho10 := (HOW.kept hb9).new (.cells #[.int .i64 (p : Nat), .int .i64 (fn : Nat), .int .i64 fk] 32)
            have hb10 := below_new hb9' hb9'.size (.cells #[.int .i64 (p : Nat), .int .i64 (fn : Nat), .int .i64 fk] 32)
            have og := one_grp w9 ⟨p, fn, fk⟩
            have hB10 := hb10.size
            have ob := HOB.out
            clear kK m0 m1 m2 m3 m4 m5 m6 m7 HOW
            go_wp2_with (at_builtin; refine app_grp rfl _ _ rfl w2.heap.size u4 gs rfl ho10 w9.heap.size ⟨p, fn, fk⟩ rfl og ob hB10 ?_)
            intro v5 w5 ho5 hg5
            have HG5 : Hid (RgAt cx st w2 w5 v5 (p + fn) (gs ++ [⟨p, fn, fk⟩])) := HV.out v5 w5 ho5 (hb10.grown hg5 hB10 ho10.base)
            clear ho5 hg5 ho10 hb10 og hb9 hb9' ob
            go_wp2_with fail
            refine ⟨⟨p + fn, gs ++ [⟨p, fn, fk⟩], HG5.out, by go_num⟩, ?_⟩
            simp [intOf]
            omega
          · have d1 : (r : Int) < 3 := by omega
            have d2 : (p : Int) + r < cx.length := by omega
            have d3 : ((p + r : Nat) : Int) ∈ st := by
              rcases HRE2 with h | h | h
              · exact absurd h t1
              · exact absurd h t2
              · exact h
            have e3 : decide ((p : Int) + r ∈ st) = true := decide_eq_true (by rw [show (p : Int) + r = ((p + r : Nat) : Int) by omega]; exact d3)
            rw [e3] at kI
            clear HRE2 d3 e3 t1 t2 d r2
            have kK := HKC.out wr HBQ.out
            have HOW : OwnG w2.heap.size wr u4 gs := HO.out.1.kept HBR.out
            go_wp2_with fail
            refine kI.mono ?_
            rintro e w6 ⟨rfl, rfl⟩
            clear kI
            go_wp2_with fail
            refine kK.mono ?_
            rintro e w9 ⟨rfl, hb9⟩
            have hb9' := HBQ.out.trans (hb9.mono HBQ.out.size)
            have ho10 := (HOW.kept hb9).new (.cells #[.int .i64 (p : Nat), .int .i64 (fn : Nat), .int .i64 fk] 32)
            have hb10 := below_new hb9' hb9'.size (.cells #[.int .i64 (p : Nat), .int .i64 (fn : Nat), .int .i64 fk] 32)
            have og := one_grp w9 ⟨p, fn, fk⟩
            have hB10 := hb10.size
            have ob := HOB.out
            clear kK m0 m1 m2 m3 m4 m5 m6 m7 HOW
            go_wp2_with (at_builtin; refine app_grp rfl _ _ rfl w2.heap.size u4 gs rfl ho10 w9.heap.size ⟨p, fn, fk⟩ rfl og ob hB10 ?_)
            intro v5 w5 ho5 hg5
            have HG5 : Hid (RgAt cx st w2 w5 v5 (p + fn) (gs ++ [⟨p, fn, fk⟩])) := HV.out v5 w5 ho5 (hb10.grown hg5 hB10 ho10.base)
            clear ho5 hg5 ho10 hb10 og hb9 hb9' ob
            go_wp2_with fail
            refine ⟨⟨p + fn, gs ++ [⟨p, fn, fk⟩], HG5.out, by go_num⟩, ?_⟩
            simp [intOf]
            omega
    · have HO : Hid (OwnG w2.heap.size wr u4 (groupsI cx st) ∧ Below w2.heap.size w2 wr) := by
        refine ⟨?_, HR.out.bel⟩
        have := HR.out.own
        rw [HR.out.val, from_end cx st p c, List.append_nil]
        exact this
      have hdk : decide (p < cx.length) = false := decide_eq_false (by omega)
      have HLW : Hid (OwnG w.heap.size wr u4 (groupsI cx st) ∧ Below w.heap.size w wr) := ⟨HL.out _ _ _ (HO.out.1.low (HI2.out w2 (Below.refl _ _)).2.size), HD.out _ (HI2.out wr HO.out.2).2⟩
      clear HR HF HST H24 HKD HL HD HI2 HO
      go_wp2_with fail
      go_ret
      exact ⟨_, rfl, HLW.out.1, HLW.out.2⟩

end Go.Proofs.Ytjkemkggcnholaa.Fu
