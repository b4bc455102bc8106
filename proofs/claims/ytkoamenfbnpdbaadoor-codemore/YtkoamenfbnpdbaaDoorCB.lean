/- Package code: flows, wanted. -/
import Derived.Test.YtkoamenfbnpdbaaDoorCA
namespace Go.Proofs.YtkoamenfbnpdbaaDoor.Cd
open Go.RowKit
set_option linter.unusedVariables false

/-- a handler is of a code of so many instructions -/
def hndB (n : Nat) (h : Hnd) : Bool := decide (0 ≤ h.fr) && decide (h.fr < h.to) && decide (h.to ≤ (n : Int)) && withinB h.target n

def lastOp (f : Fn) : Int := ((f.code.xs[f.code.xs.length - 1]?).map (·.op)).getD 0

/-- the code can't be left at its end, and its handlers are of it -/
def flowsB (f : Fn) : Bool := !goesB (lastOp f) && f.hnds.xs.all (hndB f.code.xs.length)

structure FlAt (n : Nat) (hx : List Hnd) (w1 wr : World) (k : Nat) : Prop where
  le : k ≤ hx.length
  val : hx.all (hndB n) = (hx.drop k).all (hndB n)
  bel : Below w1.heap.size w1 wr

set_option maxRecDepth 100000 in
set_option maxHeartbeats 4000000 in
theorem flows_any (f : Fn) (w : World) (hf : f.ok w) (h0 : f.code.xs ≠ []) :
    Calls Tryd.prog 23 #[fnV f] w fun e w' => e = .returned (.bool (flowsB f)) ∧ Below w.heap.size w w' := by
  have hpos : 0 < f.code.xs.length := List.length_pos_iff.2 h0
  have hml : f.code.xs.length ≤ maxLen := Nat.le_trans hf.code.len hf.code.cap
  have hmh : f.hnds.xs.length ≤ maxLen := Nat.le_trans hf.hnds.len hf.hnds.cap
  unfold maxLen at hml hmh
  have hex : ∃ y, f.code.xs[f.code.xs.length - 1]? = some y := ⟨_, List.getElem?_eq_getElem (by omega)⟩
  obtain ⟨y, hy⟩ := hex
  have hlast : lastOp f = y.op := by unfold lastOp; rw [hy]; rfl
  unfold flowsB
  rw [hlast]
  have cg := goes_any y.op
  generalize goesB y.op = G at *
  have B0 : Below w.heap.size w (w.alloc (fnB f)) := (Below.refl _ _).alloc (Nat.le_refl _) _
  have hf1 := hf.kept (cells_below B0)
  obtain ⟨b, off, had, hcell⟩ := hf1.code.cells h0
  have g0 := hcell _ y hy 0 _ rfl
  rw [Nat.add_zero] at g0
  have HF : Hid (∀ w', Below (w.alloc (fnB f)).heap.size (w.alloc (fnB f)) w' → w'.cell? ⟨w.heap.size, 4, none⟩ = some f.code.val ∧ w'.cell? ⟨w.heap.size, 7, none⟩ = some f.hnds.val ∧ f.hnds.ok hndC 3 w') := by
    intro w' h
    have h' := cells_below h
    exact ⟨h' _ _ (fnB_cell f w 4 _ rfl), h' _ _ (fnB_cell f w 7 _ rfl), (hf1.kept h').hnds⟩
  have HD : Hid (∀ w', Below (w.alloc (fnB f)).heap.size (w.alloc (fnB f)) w' → Below w.heap.size w w') := fun w' h => B0.trans (h.mono B0.size)
  have HR : Hid (Below (w.alloc (fnB f)).heap.size (w.alloc (fnB f)) (w.alloc (fnB f))) := Below.refl _ _
  clear hf hf1 B0 hcell hy hlast h0
  obtain ⟨op, ia, ib, ic⟩ := y
  obtain ⟨nm, pa, re, ge, ⟨ca, c1, cx⟩, ⟨ka, kc, kx⟩, ⟨pa', pc, px⟩, ⟨ha, hc, hx⟩⟩ := f
  unfold fnB at *
  unfold fnV
  unfold Sli.val at *
  simp only at *
  subst had
  have ecx : ((cx.length : Int) - 1) = ((cx.length - 1 : Nat) : Int) := by omega
  have m4 := (HF.out _ HR.out).1
  have m7 := (HF.out _ HR.out).2.1
  cases G with
  | true =>
    go_enter Tryd.func23, Tryd.ntmps23
    go_wp2_with fail
    refine (cg _).mono ?_
    rintro e w' ⟨rfl, rfl⟩
    generalize w.alloc (.cells #[.string nm, .int .i64 pa, .int .i64 re, .bool ge, .slice (some ⟨b, off, none⟩) cx.length c1, .slice ka kx.length kc, .slice pa' px.length pc, .slice ha hx.length hc] 36) = w1 at *
    go_wp2
    go_ret
    exact ⟨rfl, HD.out _ HR.out⟩
  | false =>
    have HQ : Hid (∀ v : Bool, hx.all (hndB cx.length) = v → (!false && hx.all (hndB cx.length)) = v) := fun v h => by simpa using h
    generalize (!false && hx.all (hndB cx.length)) = D at *
    go_enter Tryd.func23, Tryd.ntmps23
    go_wp2_with fail
    refine (cg _).mono ?_
    rintro e w' ⟨rfl, rfl⟩
    generalize w.alloc (.cells #[.string nm, .int .i64 pa, .int .i64 re, .bool ge, .slice (some ⟨b, off, none⟩) cx.length c1, .slice ka kx.length kc, .slice pa' px.length pc, .slice ha hx.length hc] 36) = w1 at *
    go_wp2_with fail
    clear m4 m7 g0
    go_loopw [18] (fun i wr => ∃ k : Nat, FlAt cx.length hx w1 wr k ∧ i = .int .i64 k) (fun i wr => hx.length - (intOf i).toNat)
    case atStart => exact ⟨0, ⟨Nat.zero_le _, by simp, HR.out⟩, rfl⟩
    case round =>
      obtain ⟨k, hr, rfl⟩ := hrel
      have HS : Hid (FlAt cx.length hx w1 wr k) := hr
      have kle := hr.le
      clear hr
      rcases Nat.lt_or_ge k hx.length with c | c
      · have hex : ∃ y, hx[k]? = some y := ⟨_, List.getElem?_eq_getElem c⟩
        obtain ⟨y, hy⟩ := hex
        have hd : hx.drop k = y :: hx.drop (k + 1) := by
          rw [List.drop_eq_getElem_cons c]
          rw [List.getElem?_eq_getElem c] at hy
          rw [Option.some.inj hy]
        have HV : Hid (hx.all (hndB cx.length) = (hndB cx.length y && (hx.drop (k + 1)).all (hndB cx.length))) := by
          show _ = _
          rw [HS.out.val, hd, List.all_cons]
        obtain ⟨hb, ho, had, hcc⟩ := (HF.out wr HS.out.bel).2.2.cells (by intro e; simp at e; subst e; simp at c)
        have m4 := cells_below ((Below.refl wr.heap.size wr).alloc (Nat.le_refl _) (.cells #[.int .i64 y.fr, .int .i64 y.to, .int .i64 y.target] 49)) _ _ (HF.out wr HS.out.bel).1
        simp only at had
        subst had
        have q0 := hcc k y hy 0 _ rfl
        have q1 := hcc k y hy 1 _ rfl
        have q2 := hcc k y hy 2 _ rfl
        rw [Nat.add_zero] at q0
        clear hcc hy hd
        have cw := within_any y.target cx.length
        obtain ⟨fr, to, tg⟩ := y
        simp only at q0 q1 q2 cw m4
        have HN : Hid (Below w1.heap.size w1 (wr.alloc (.cells #[.int .i64 fr, .int .i64 to, .int .i64 tg] 49))) := below_new HS.out.bel HS.out.bel.size _
        by_cases t1 : fr < 0
        · have HV2 : Hid (D = false) := HQ.out false (by rw [HV.out]; unfold hndB; simp; intro h; omega)
          go_wp2_with fail
          go_ret
          rw [HV2.out]
          exact ⟨rfl, HD.out _ HN.out⟩
        by_cases t2 : to ≤ fr
        · have HV2 : Hid (D = false) := HQ.out false (by rw [HV.out]; unfold hndB; simp; intros; omega)
          go_wp2_with fail
          go_ret
          rw [HV2.out]
          exact ⟨rfl, HD.out _ HN.out⟩
        by_cases t3 : (cx.length : Int) < to
        · have HV2 : Hid (D = false) := HQ.out false (by rw [HV.out]; unfold hndB; simp; intros; omega)
          go_wp2_with fail
          go_ret
          rw [HV2.out]
          exact ⟨rfl, HD.out _ HN.out⟩
        have HE : Hid (hndB cx.length ⟨fr, to, tg⟩ = withinB tg cx.length) := by
          show _ = _
          unfold hndB
          have a1 : decide (0 ≤ fr) = true := decide_eq_true (by omega)
          have a2 : decide (fr < to) = true := decide_eq_true (by omega)
          have a3 : decide (to ≤ (cx.length : Int)) = true := decide_eq_true (by omega)
          simp only [a1, a2, a3, Bool.true_and]
        generalize withinB tg cx.length = WB at *
        cases WB with
        | true =>
          have HP : Hid (FlAt cx.length hx w1 (wr.alloc (.cells #[.int .i64 fr, .int .i64 to, .int .i64 tg] 49)) (k + 1)) := ⟨c, by rw [HV.out, HE.out, Bool.true_and], HN.out⟩
          go_wp2_with fail
          refine (cw _).mono ?_
          rintro e w' ⟨rfl, rfl⟩
          go_wp2_with fail
          refine ⟨⟨k + 1, HP.out, by go_num⟩, ?_⟩
          simp [intOf]
          omega
        | false =>
          have HV2 : Hid (D = false) := HQ.out false (by rw [HV.out, HE.out]; rfl)
          go_wp2_with fail
          refine (cw _).mono ?_
          rintro e w' ⟨rfl, rfl⟩
          go_wp2_with fail
          go_ret
          rw [HV2.out]
          exact ⟨rfl, HD.out _ HN.out⟩
      · have HV2 : Hid (D = true) := HQ.out true (by rw [HS.out.val, List.drop_of_length_le c]; rfl)
        go_wp2_with fail
        go_ret
        rw [HV2.out]
        exact ⟨rfl, HD.out _ HS.out.bel⟩

end Go.Proofs.YtkoamenfbnpdbaaDoor.Cd
