/- FuseCovers: the law's walk. -/
import Derived.Test.YtjkemkggcnholaaGH
namespace Go.Proofs.Ytjkemkggcnholaa.Fu
open Go.RowKit
set_option linter.unusedVariables false

/-- at a group: those ahead of it were looked at, and end where it begins -/
structure CvAt (cx : List Ins) (st : List Int) (w2 wr : World) (i p : Nat) : Prop where
  le : i ≤ (groupsI cx st).length
  pl : p ≤ cx.length
  val : (groupsI cx st).drop i = from' cx st p
  bel : Below w2.heap.size w2 wr

set_option maxRecDepth 100000 in
set_option maxHeartbeats 4000000 in
theorem covers_walk (f : Fn) (w : World) (hf : f.ok w) (hz : FnSz f) :
    Calls Try.prog 4 #[fnV f] w fun e w' => e = .returned (.bool true) ∧ Below w.heap.size w w' := by
  have B0 : Below w.heap.size w (w.alloc (fnB f)) := (Below.refl _ _).alloc (Nat.le_refl _) _
  have hf1 := hf.kept (cells_below B0)
  have kg := groups_any f (w.alloc (fnB f)) hf1 hz.a hz.b
  have hcl : (f.code.xs.length : Int) ≤ 17592186044416 := by have := hz.a; omega
  have HST : Hid ((risen (startL f)).Pairwise (· < ·)) := risen_rise _
  have HX : Hid (∀ w', Below (w.alloc (fnB f)).heap.size (w.alloc (fnB f)) w' → (∀ j u, (fnC f)[j]? = some u → w'.cell? ⟨w.heap.size, j, none⟩ = some u) ∧ Below w.heap.size w w' ∧
      Calls Try.prog 12 #[fnV f] w' fun e w'' => ∃ v, e = .returned v ∧ OwnI w'.heap.size w'' v (risen (startL f)) ∧ Below w'.heap.size w' w'') := fun w' h => ⟨fn_cells f w w' h, B0.trans (h.mono B0.size), rstarts_any f w' (hf1.kept (cells_below h)) hz.a⟩
  have cs0 := fnB_cell f w 0 _ rfl
  have cs1 := fnB_cell f w 1 _ rfl
  have cs2 := fnB_cell f w 2 _ rfl
  have cs3 := fnB_cell f w 3 _ rfl
  have cs4 := fnB_cell f w 4 _ rfl
  have cs5 := fnB_cell f w 5 _ rfl
  have cs6 := fnB_cell f w 6 _ rfl
  have cs7 := fnB_cell f w 7 _ rfl
  clear hf hz B0 hf1
  generalize risen (startL f) = st at *
  obtain ⟨nm, pa, re, ge, ⟨ca, c1, cx⟩, ⟨ka, kc, kx⟩, ⟨pa', pc, px⟩, ⟨ha, hc, hx⟩⟩ := f
  unfold fnB at *
  unfold fnV at *
  unfold Sli.val at *
  simp only at *
  go_enter Try.func4, Try.ntmps4
  go_wp2_with fail
  generalize w.alloc (.cells #[.string nm, .int .i64 pa, .int .i64 re, .bool ge, .slice ca cx.length c1, .slice ka kx.length kc, .slice pa' px.length pc, .slice ha hx.length hc] 27) = w1 at *
  refine kg.mono ?_
  rintro e w2 ⟨v2, rfl, ho2, hb2⟩
  obtain ⟨s, rfl, hxs, hok⟩ := ho2.sl
  have hlg : (s.xs.length : Int) ≤ 9223372036854775807 := by have h1 := hok.len; have h2 := hok.cap; unfold maxLen at h2; omega
  have HK : Hid (∀ w', Below w2.heap.size w2 w' → Below w1.heap.size w1 w' ∧ s.ok grpC 3 w') := fun w' h => ⟨hb2.trans (h.mono hb2.size), hok.kept (cells_below h)⟩
  clear kg ho2 hok hb2 cs0 cs1 cs2 cs3 cs4 cs5 cs6 cs7
  obtain ⟨ad, cap, xs⟩ := s
  simp only at hxs
  subst hxs
  unfold Sli.val at *
  simp only at *
  have ka := alive_any
  have KA := (show Hid _ from ka)
  clear ka
  go_wp2_with fail
  go_loopw [3, 10] (fun pv iv wr => ∃ i p : Nat, CvAt cx st w2 wr i p ∧ pv = .int .i64 p ∧ iv = .int .i64 i) (fun pv iv wr => (groupsI cx st).length - (intOf iv).toNat)
  case atStart => exact ⟨0, 0, ⟨Nat.zero_le _, Nat.zero_le _, rfl, Below.refl _ _⟩, rfl, rfl⟩
  case round =>
    obtain ⟨i, p, hr, rfl, rfl⟩ := hrel
    have HR : Hid (CvAt cx st w2 wr i p) := hr
    have ile := hr.le
    have ple := hr.pl
    clear hr
    rcases Nat.lt_or_ge i (groupsI cx st).length with c | c
    · have pc2 : p < cx.length := by
        rcases Nat.lt_or_ge p cx.length with d | d
        · exact d
        · have := HR.out.val
          rw [from_end cx st p d] at this
          have := congrArg List.length this
          simp at this
          omega
      have hv := HR.out.val
      rw [from_step cx st p pc2] at hv
      obtain ⟨hs1, hs2⟩ := step_in cx st p HST.out pc2
      obtain ⟨hk1, hk2, hk3, hk4⟩ := first_kind (segI cx st p)
      have hn1 := first_pos (segI cx st p)
      have hy : (groupsI cx st)[i]? = some ⟨p, (firstI (segI cx st p)).2, (firstI (segI cx st p)).1⟩ := by
        have := congrArg (·[0]?) hv
        simpa using this
      have hv2 : (groupsI cx st).drop (i + 1) = from' cx st (p + (firstI (segI cx st p)).2) := by
        have := congrArg (List.drop 1) hv
        rw [List.drop_drop] at this
        simpa using this
      have HV : Hid (∀ w5, Below w2.heap.size w2 w5 → CvAt cx st w2 w5 (i + 1) (p + (firstI (segI cx st p)).2)) := fun w5 h => ⟨c, hs1, hv2, h⟩
      have HN : Hid (∀ k : Nat, 1 ≤ k → k < (firstI (segI cx st p)).2 → decide (((p + k : Nat) : Int) ∈ st) = false) := fun k h1 h2 => decide_eq_false (hs2 k h1 h2)
      obtain ⟨b, off, rfl, hc⟩ := (HK.out wr HR.out.bel).2.cells (by intro e; simp only at e; rw [e] at c; simp at c)
      have g0 := hc i _ hy 0 _ rfl
      have g1 := hc i _ hy 1 _ rfl
      have g2 := hc i _ hy 2 _ rfl
      rw [Nat.add_zero] at g0
      have HB : Hid (Below w2.heap.size w2 wr) := HR.out.bel
      clear hv hv2 hy hc hs2 HR HST
      generalize firstI (segI cx st p) = F at *
      obtain ⟨fk, fn⟩ := F
      simp only at *
      have HB3 : Hid (Below w2.heap.size w2 (wr.alloc (.cells #[.int .i64 (p : Nat), .int .i64 (fn : Nat), .int .i64 fk] 32))) := below_new HB.out HB.out.size _
      have HG : Hid (∀ j u, (grpC ⟨p, fn, fk⟩)[j]? = some u → (wr.alloc (.cells #[.int .i64 (p : Nat), .int .i64 (fn : Nat), .int .i64 fk] 32)).cell? ⟨wr.heap.size, j, none⟩ = some u) := one_grp wr ⟨p, fn, fk⟩
      have hpn : (p : Int) + fn ≤ cx.length := by omega
      have fk1 : (0 : Int) ≤ fk := by omega
      have E : ∃ B : Bool, (fk == 0) = B ∧ ((fn : Int) == 1) = B := by
        by_cases t : fk = 0
        · have t2 : fn = 1 := hk4.1 t
          subst t t2
          exact ⟨true, rfl, rfl⟩
        · have t2 : fn ≠ 1 := fun h => t (hk4.2 h)
          exact ⟨false, by simpa using t, by simp; omega⟩
      obtain ⟨B, e1, e2⟩ := E
      have fn3 : (fn : Int) ≤ 3 := by omega
      have fn1 : (1 : Int) ≤ fn := by omega
      clear hk1 hk3 hk4 hn1
      go_wp2_with fail
      generalize hw3 : wr.alloc (.cells #[.int .i64 (p : Nat), .int .i64 (fn : Nat), .int .i64 fk] 32) = w3 at *
      have HW3 : Hid (w3.heap.size = wr.heap.size + 1) := by rw [← hw3]; exact size_new _ _
      clear hw3 g0 g1 g2 e1 e2
      go_loopw [6] (fun kv wq => ∃ q : Nat, (1 ≤ q ∧ q ≤ fn ∧ Below w3.heap.size w3 wq) ∧ kv = .int .i64 q) (fun kv wq => fn - (intOf kv).toNat)
      case atStart => exact ⟨1, ⟨Nat.le_refl _, by omega, Below.refl _ _⟩, rfl⟩
      case round =>
        obtain ⟨q, ⟨q1, q2, hbq⟩, rfl⟩ := hrel
        have HB5 := HB3.out.trans (hbq.mono HB3.out.size)
        have HBQ : Hid (Below w3.heap.size w3 wr ∧ Below w2.heap.size w2 wr) := ⟨hbq, HB5⟩
        have gn := cells_below hbq _ _ (HG.out 1 _ rfl)
        obtain ⟨hcs, _, kS⟩ := HX.out wr (HK.out wr HB5).1
        have m0 := hcs 0 _ rfl
        have m1 := hcs 1 _ rfl
        have m2 := hcs 2 _ rfl
        have m3 := hcs 3 _ rfl
        have m4 := hcs 4 _ rfl
        have m5 := hcs 5 _ rfl
        have m6 := hcs 6 _ rfl
        have m7 := hcs 7 _ rfl
        clear hcs hbq HB5
        unfold Sli.val at m4 m5 m6 m7
        simp only at m0 m1 m2 m3 m4 m5 m6 m7
        rcases Nat.lt_or_ge q fn with d | d
        · have hno := HN.out q q1 d
          have HNO : Hid (decide (((p + q : Nat) : Int) ∈ st) = false) := hno
          have hpq : (p : Int) + q ≤ 17592186044416 := by omega
          clear hno
          go_wp2_with fail
          refine kS.mono ?_
          rintro e w5 ⟨v5, rfl, ho5, hb5⟩
          have kI := in_any v5 st ((p + q : Nat) : Int) w5 ho5.sl
          rw [HNO.out, show ((p + q : Nat) : Int) = (p : Int) + q by omega] at kI
          clear ho5 kS m0 m1 m2 m3 m4 m5 m6 m7 gn
          go_wp2_with fail
          refine kI.mono ?_
          rintro e w6 ⟨rfl, rfl⟩
          have HB6 : Hid (Below w3.heap.size w3 w6) := HBQ.out.1.trans (hb5.mono HBQ.out.1.size)
          clear hb5 kI
          go_wp2_with fail
          refine ⟨⟨q + 1, ⟨by omega, d, HB6.out⟩, by go_num⟩, ?_⟩
          simp [intOf]
          omega
        · have hq : q = fn := by omega
          have HV6 := HV.out wr HBQ.out.2
          have HV7 := (show Hid _ from HV6)
          clear HV6 kS m0 m1 m2 m3 m4 m5 m6 m7
          have hdq : decide (q < fn) = false := decide_eq_false (by omega)
          go_wp2_with fail
          refine ⟨⟨i + 1, p + fn, HV7.out, by go_num, by go_num⟩, ?_⟩
          simp [intOf]
          omega
    · have hi : i = (groupsI cx st).length := by omega
      have hp : p = cx.length := by
        rcases Nat.lt_or_ge p cx.length with d | d
        · have := HR.out.val
          rw [from_step cx st p d] at this
          have := congrArg List.length this
          simp at this
          omega
        · omega
      have HB : Hid (Below w2.heap.size w2 wr) := HR.out.bel
      have kal := KA.out
      have hdi : decide (i < (groupsI cx st).length) = false := decide_eq_false (by omega)
      have HX2 : Hid (∀ w', Below w2.heap.size w2 w' → w'.cell? ⟨w.heap.size, 4, none⟩ = some (.slice ca cx.length c1) ∧ Below w.heap.size w w') := fun w' h => ⟨(HX.out w' (HK.out w' h).1).1 4 _ rfl, (HX.out w' (HK.out w' h).1).2.1⟩
      clear HR HX HK KA HST
      subst hp
      go_wp2_with fail
      refine (kal _).mono ?_
      rintro e w5 ⟨rfl, hb5⟩
      obtain ⟨m4, HB5⟩ := HX2.out w5 (HB.out.trans (hb5.mono HB.out.size))
      clear kal hb5 HX2
      go_wp2_with fail
      go_ret
      exact ⟨rfl, HB5⟩

end Go.Proofs.Ytjkemkggcnholaa.Fu
