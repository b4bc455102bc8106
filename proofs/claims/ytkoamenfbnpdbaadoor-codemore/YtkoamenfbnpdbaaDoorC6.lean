/- Package code: Next. -/
import Derived.Test.YtkoamenfbnpdbaaDoorC5
namespace Go.Proofs.YtkoamenfbnpdbaaDoor.Cd
open Go.RowKit
set_option linter.unusedVariables false

/-- the places behind an instruction, as they are found -/
def nextL (n : Nat) (hs : List Hnd) (y : Ins) (k : Nat) : List Int :=
  (if goesB y.op && decide (k + 1 < n) then [(k : Int) + 1] else []) ++ (if (jumpI y).2 then [(jumpI y).1] else []) ++ (if (catchI k hs).2 then [(catchI k hs).1] else [])

/-- the places behind a place -/
def nextI (f : Fn) (x : Int) : List Int := if 0 ≤ x then match f.code.xs[x.toNat]? with | some y => risen (nextL f.code.xs.length f.hnds.xs y x.toNat) | none => [] else []

theorem nextI_in (f : Fn) (k : Nat) (y : Ins) (h : f.code.xs[k]? = some y) : nextI f k = risen (nextL f.code.xs.length f.hnds.xs y k) := by
  unfold nextI
  rw [if_pos (by omega), Int.toNat_natCast, h]

theorem nextI_out (f : Fn) (x : Int) (h : x < 0 ∨ (f.code.xs.length : Int) ≤ x) : nextI f x = [] := by
  unfold nextI
  rcases h with h | h
  · rw [if_neg (by omega)]
  · rw [if_pos (by omega), List.getElem?_eq_none (by omega)]

/-- a function's own box -/
def fnB (f : Fn) : Obj := .cells #[.string f.name, .int .i64 f.params, .int .i64 f.regs, .bool f.gen, f.code.val, f.consts.val, f.caps.val, f.hnds.val] 36

theorem fnB_cell (f : Fn) (w : World) (j : Nat) (u : Value) (h : (fnC f)[j]? = some u) : (w.alloc (fnB f)).cell? ⟨w.heap.size, j, none⟩ = some u := by
  unfold fnB
  rw [cell_of_row _ w.heap.size j _ 36 (0, 0) (by show (w.heap.push _)[w.heap.size]? = _; rw [Array.getElem?_push_size])]
  unfold fnC at h
  simpa using h

theorem own_new {B : Nat} {w : World} {v : Value} {zs : List Int} (h : OwnI B w v zs) (o : Obj) : OwnI B (w.alloc o) v zs := h.kept ((Below.refl _ _).alloc (Nat.le_refl _) _)

theorem below_new {B : Nat} {w0 w : World} (h : Below B w0 w) (hB : B ≤ w.heap.size) (o : Obj) : Below B w0 (w.alloc o) := h.alloc hB o

theorem next_out (f : Fn) (x : Int) (w : World) (h : x < 0 ∨ (f.code.xs.length : Int) ≤ x) :
    Calls Tryd.prog 15 #[fnV f, .int .i64 x] w fun e w' => ∃ v, e = .returned v ∧ OwnI w.heap.size w' v (nextI f x) ∧ Below w.heap.size w w' := by
  rw [nextI_out f x h]
  obtain ⟨nm, pa, re, ge, ⟨ca, cc, cx⟩, ⟨ka, kc, kx⟩, ⟨pa', pc, px⟩, ⟨ha, hc, hx⟩⟩ := f
  have HB : Hid (Below w.heap.size w (w.alloc (fnB ⟨nm, pa, re, ge, ⟨ca, cc, cx⟩, ⟨ka, kc, kx⟩, ⟨pa', pc, px⟩, ⟨ha, hc, hx⟩⟩))) := (Below.refl _ _).alloc (Nat.le_refl _) _
  unfold fnB Sli.val at HB
  unfold fnV Sli.val
  simp only at h HB ⊢
  rcases h with h | h
  · go_enter Tryd.func15, Tryd.ntmps15
    go_wp2
    go_ret
    exact ⟨_, rfl, OwnI.nil _ _, HB.out⟩
  · by_cases h0 : x < 0
    · go_enter Tryd.func15, Tryd.ntmps15
      go_wp2
      go_ret
      exact ⟨_, rfl, OwnI.nil _ _, HB.out⟩
    · go_enter Tryd.func15, Tryd.ntmps15
      go_wp2
      go_ret
      exact ⟨_, rfl, OwnI.nil _ _, HB.out⟩

set_option maxRecDepth 100000 in
set_option maxHeartbeats 2000000 in
theorem next_in (f : Fn) (k : Nat) (y : Ins) (w : World) (hf : f.ok w) (hy : f.code.xs[k]? = some y) :
    Calls Tryd.prog 15 #[fnV f, .int .i64 k] w fun e w' => ∃ v, e = .returned v ∧ OwnI w.heap.size w' v (nextI f k) ∧ Below w.heap.size w w' := by
  rw [nextI_in f k y hy]
  have kl : k < f.code.xs.length := by
    rcases Nat.lt_or_ge k f.code.xs.length with c | c
    · exact c
    · rw [List.getElem?_eq_none c] at hy; cases hy
  have hml : f.code.xs.length ≤ maxLen := Nat.le_trans hf.code.len hf.code.cap
  unfold maxLen at hml
  have B0 : Below w.heap.size w (w.alloc (fnB f)) := (Below.refl _ _).alloc (Nat.le_refl _) _
  have hf1 := hf.kept (cells_below B0)
  obtain ⟨b, off, had, hcell⟩ := hf.code.cells (by intro e; rw [e] at hy; simp at hy)
  have HF : Hid (∀ w', Below (w.alloc (fnB f)).heap.size (w.alloc (fnB f)) w' → w'.cell? ⟨w.heap.size, 4, none⟩ = some f.code.val ∧ w'.cell? ⟨w.heap.size, 7, none⟩ = some f.hnds.val ∧ f.hnds.ok hndC 3 w' ∧ ∀ j u, (insC y)[j]? = some u → w'.cell? ⟨b, off + k * 4 + j, none⟩ = some u) := by
    intro w' h
    have h' := cells_below h
    refine ⟨h' _ _ (fnB_cell f w 4 _ rfl), h' _ _ (fnB_cell f w 7 _ rfl), hf1.hnds.kept h', ?_⟩
    intro j u hj
    refine h' _ _ (cells_below B0 _ _ ?_)
    exact hcell k y hy j u hj
  have HD : Hid (∀ w', Below (w.alloc (fnB f)).heap.size (w.alloc (fnB f)) w' → Below w.heap.size w w') := fun w' h => B0.trans (h.mono B0.size)
  have HL : Hid (∀ w' v zs, OwnI (w.alloc (fnB f)).heap.size w' v zs → OwnI w.heap.size w' v zs) := fun w' v zs h => h.low B0.size
  have HR : Hid (Below (w.alloc (fnB f)).heap.size (w.alloc (fnB f)) (w.alloc (fnB f))) := Below.refl _ _
  have cg := goes_any y.op
  have cj := jump_any y
  have cc : Hid (∀ w', f.hnds.ok hndC 3 w' → Calls Tryd.prog 29 #[f.hnds.val, .int .i64 (k : Int)] w' fun e w'' => e = .returned (.tuple #[.int .i64 (catchI k f.hnds.xs).1, .bool (catchI k f.hnds.xs).2]) ∧ Below w'.heap.size w' w'') := fun w' h => catcher_any f.hnds k w' h
  have cr : Hid (∀ w' v zs, OwnI (w.alloc (fnB f)).heap.size w' v zs → Below (w.alloc (fnB f)).heap.size (w.alloc (fnB f)) w' → zs.length < 4611686018427387904 →
    Calls Tryd.prog 30 #[v] w' fun e w'' => ∃ v', e = .returned v' ∧ OwnI (w.alloc (fnB f)).heap.size w'' v' (risen zs) ∧ Below (w.alloc (fnB f)).heap.size (w.alloc (fnB f)) w'') := fun w' v zs h1 h2 h3 => rising_any _ w' v zs h1 h2 h3
  clear hf hf1 hcell hy B0
  unfold nextL
  generalize jumpI y = J at *
  generalize goesB y.op = G at *
  obtain ⟨j1, j2⟩ := J
  obtain ⟨op, ia, ib, ic⟩ := y
  unfold fnB at *
  unfold fnV
  unfold Sli.val at *
  obtain ⟨nm, pa, re, ge, ⟨ca, c1, cx⟩, ⟨ka, kc, kx⟩, ⟨pa', pc, px⟩, ⟨ha, hc, hx⟩⟩ := f
  unfold insV at cj
  simp only at *
  subst had
  generalize catchI (k : Int) hx = C at *
  obtain ⟨t1, t2⟩ := C

  cases G with
  | false =>
    cases j2 with
    | false =>
      cases t2 with
      | false =>
        show Calls Tryd.prog 15 _ w fun e w' => ∃ v, e = .returned v ∧ OwnI w.heap.size w' v (risen []) ∧ Below w.heap.size w w'
        obtain ⟨m4, m7, mh, mc⟩ := HF.out _ HR.out
        have q0 := mc 0 _ rfl
        have q1 := mc 1 _ rfl
        have q2 := mc 2 _ rfl
        have q3 := mc 3 _ rfl
        rw [Nat.add_zero] at q0
        clear mc mh
        go_enter Tryd.func15, Tryd.ntmps15
        go_wp2_with fail
        refine (cg _).mono ?_
        rintro e w' ⟨rfl, rfl⟩
        generalize w.alloc (.cells #[.string nm, .int .i64 pa, .int .i64 re, .bool ge, .slice (some ⟨b, off, none⟩) cx.length c1, .slice ka kx.length kc, .slice pa' px.length pc, .slice ha hx.length hc] 36) = w1 at *
        have HO0 : OwnI w1.heap.size w1 (.slice none 0 0) [] := OwnI.nil _ _
        have HB0 : Hid (Below w1.heap.size w1 w1) := HR.out
        have kj := cj w1
        go_wp2_with fail
        refine kj.mono ?_
        rintro e w3 ⟨rfl, hb3⟩
        have HB3 : Hid (Below w1.heap.size w1 w3) := HB0.out.trans (hb3.mono HB0.out.size)
        have HO3 := HO0.kept hb3
        clear kj hb3 q0 q1 q2 q3 m4 m7
        obtain ⟨m4, m7, mh, mc⟩ := HF.out w3 HB3.out
        clear mc
        have kc2 := cc.out w3 mh
        clear mh m4
        go_wp2_with fail
        refine kc2.mono ?_
        rintro e w5 ⟨rfl, hb5⟩
        have HB5 : Hid (Below w1.heap.size w1 w5) := HB3.out.trans (hb5.mono HB3.out.size)
        have HO5 := HO3.kept hb5
        clear kc2 hb5 m7
        have kr := cr.out w5 (.slice none 0 0) [] HO5 HB5.out (by simp)
        clear HO5
        go_wp2_with fail
        refine kr.mono ?_
        rintro e w7 ⟨v7, rfl, h7, h8⟩
        have H7 : Hid (OwnI w1.heap.size w7 v7 (risen []) ∧ Below w1.heap.size w1 w7) := ⟨h7, h8⟩
        clear h7 h8 kr
        go_wp2_with fail
        go_ret
        exact ⟨_, rfl, HL.out _ _ _ H7.out.1, HD.out _ H7.out.2⟩
      | true =>
        show Calls Tryd.prog 15 _ w fun e w' => ∃ v, e = .returned v ∧ OwnI w.heap.size w' v (risen [t1]) ∧ Below w.heap.size w w'
        obtain ⟨m4, m7, mh, mc⟩ := HF.out _ HR.out
        have q0 := mc 0 _ rfl
        have q1 := mc 1 _ rfl
        have q2 := mc 2 _ rfl
        have q3 := mc 3 _ rfl
        rw [Nat.add_zero] at q0
        clear mc mh
        go_enter Tryd.func15, Tryd.ntmps15
        go_wp2_with fail
        refine (cg _).mono ?_
        rintro e w' ⟨rfl, rfl⟩
        generalize w.alloc (.cells #[.string nm, .int .i64 pa, .int .i64 re, .bool ge, .slice (some ⟨b, off, none⟩) cx.length c1, .slice ka kx.length kc, .slice pa' px.length pc, .slice ha hx.length hc] 36) = w1 at *
        have HO0 : OwnI w1.heap.size w1 (.slice none 0 0) [] := OwnI.nil _ _
        have HB0 : Hid (Below w1.heap.size w1 w1) := HR.out
        have kj := cj w1
        go_wp2_with fail
        refine kj.mono ?_
        rintro e w3 ⟨rfl, hb3⟩
        have HB3 : Hid (Below w1.heap.size w1 w3) := HB0.out.trans (hb3.mono HB0.out.size)
        have HO3 := HO0.kept hb3
        clear kj hb3 q0 q1 q2 q3 m4 m7
        obtain ⟨m4, m7, mh, mc⟩ := HF.out w3 HB3.out
        clear mc
        have kc2 := cc.out w3 mh
        clear mh m4
        go_wp2_with fail
        refine kc2.mono ?_
        rintro e w5 ⟨rfl, hb5⟩
        have HB5 : Hid (Below w1.heap.size w1 w5) := HB3.out.trans (hb5.mono HB3.out.size)
        have HO5 := HO3.kept hb5
        clear kc2 hb5 m7
        have HOa := own_new HO5 (.cells #[.int .i64 t1] 3)
        have HBa := below_new HB5.out HB5.out.size (.cells #[.int .i64 t1] 3)
        have oca := one_cell w5 t1
        have sza := HBa.size
        go_wp2_with (at_builtin; refine app_one rfl _ _ rfl w1.heap.size (.slice none 0 0) [] rfl HOa w5.heap.size t1 rfl oca (by simp) sza ?_)
        intro v6 w6 HO6 hg6
        have HB6 : Hid (Below w1.heap.size w1 w6) := HBa.grown hg6 sza HOa.base
        clear HOa HBa oca sza hg6
        have kr := cr.out w6 v6 [t1] HO6 HB6.out (by simp)
        clear HO6
        go_wp2_with fail
        refine kr.mono ?_
        rintro e w7 ⟨v7, rfl, h7, h8⟩
        have H7 : Hid (OwnI w1.heap.size w7 v7 (risen [t1]) ∧ Below w1.heap.size w1 w7) := ⟨h7, h8⟩
        clear h7 h8 kr
        go_wp2_with fail
        go_ret
        exact ⟨_, rfl, HL.out _ _ _ H7.out.1, HD.out _ H7.out.2⟩
    | true =>
      cases t2 with
      | false =>
        show Calls Tryd.prog 15 _ w fun e w' => ∃ v, e = .returned v ∧ OwnI w.heap.size w' v (risen [j1]) ∧ Below w.heap.size w w'
        obtain ⟨m4, m7, mh, mc⟩ := HF.out _ HR.out
        have q0 := mc 0 _ rfl
        have q1 := mc 1 _ rfl
        have q2 := mc 2 _ rfl
        have q3 := mc 3 _ rfl
        rw [Nat.add_zero] at q0
        clear mc mh
        go_enter Tryd.func15, Tryd.ntmps15
        go_wp2_with fail
        refine (cg _).mono ?_
        rintro e w' ⟨rfl, rfl⟩
        generalize w.alloc (.cells #[.string nm, .int .i64 pa, .int .i64 re, .bool ge, .slice (some ⟨b, off, none⟩) cx.length c1, .slice ka kx.length kc, .slice pa' px.length pc, .slice ha hx.length hc] 36) = w1 at *
        have HO0 : OwnI w1.heap.size w1 (.slice none 0 0) [] := OwnI.nil _ _
        have HB0 : Hid (Below w1.heap.size w1 w1) := HR.out
        have kj := cj w1
        go_wp2_with fail
        refine kj.mono ?_
        rintro e w3 ⟨rfl, hb3⟩
        have HB3 : Hid (Below w1.heap.size w1 w3) := HB0.out.trans (hb3.mono HB0.out.size)
        have HO3 := HO0.kept hb3
        clear kj hb3 q0 q1 q2 q3 m4 m7
        obtain ⟨m4, m7, mh, mc⟩ := HF.out w3 HB3.out
        clear mc
        have HOa := own_new HO3 (.cells #[.int .i64 j1] 3)
        have HBa := below_new HB3.out HB3.out.size (.cells #[.int .i64 j1] 3)
        have oca := one_cell w3 j1
        have sza := HBa.size
        clear mh m4
        go_wp2_with (at_builtin; refine app_one rfl _ _ rfl w1.heap.size (.slice none 0 0) [] rfl HOa w3.heap.size j1 rfl oca (by simp) sza ?_)
        intro v4 w4 HO4 hg4
        have HB4 : Hid (Below w1.heap.size w1 w4) := HBa.grown hg4 sza HOa.base
        clear HOa HBa oca sza hg4 m7
        obtain ⟨m4, m7, mh, mc⟩ := HF.out w4 HB4.out
        clear mc
        have kc2 := cc.out w4 mh
        clear mh m4
        go_wp2_with fail
        refine kc2.mono ?_
        rintro e w5 ⟨rfl, hb5⟩
        have HB5 : Hid (Below w1.heap.size w1 w5) := HB4.out.trans (hb5.mono HB4.out.size)
        have HO5 := HO4.kept hb5
        clear kc2 hb5 m7
        have kr := cr.out w5 v4 [j1] HO5 HB5.out (by simp)
        clear HO5
        go_wp2_with fail
        refine kr.mono ?_
        rintro e w7 ⟨v7, rfl, h7, h8⟩
        have H7 : Hid (OwnI w1.heap.size w7 v7 (risen [j1]) ∧ Below w1.heap.size w1 w7) := ⟨h7, h8⟩
        clear h7 h8 kr
        go_wp2_with fail
        go_ret
        exact ⟨_, rfl, HL.out _ _ _ H7.out.1, HD.out _ H7.out.2⟩
      | true =>
        show Calls Tryd.prog 15 _ w fun e w' => ∃ v, e = .returned v ∧ OwnI w.heap.size w' v (risen [j1, t1]) ∧ Below w.heap.size w w'
        obtain ⟨m4, m7, mh, mc⟩ := HF.out _ HR.out
        have q0 := mc 0 _ rfl
        have q1 := mc 1 _ rfl
        have q2 := mc 2 _ rfl
        have q3 := mc 3 _ rfl
        rw [Nat.add_zero] at q0
        clear mc mh
        go_enter Tryd.func15, Tryd.ntmps15
        go_wp2_with fail
        refine (cg _).mono ?_
        rintro e w' ⟨rfl, rfl⟩
        generalize w.alloc (.cells #[.string nm, .int .i64 pa, .int .i64 re, .bool ge, .slice (some ⟨b, off, none⟩) cx.length c1, .slice ka kx.length kc, .slice pa' px.length pc, .slice ha hx.length hc] 36) = w1 at *
        have HO0 : OwnI w1.heap.size w1 (.slice none 0 0) [] := OwnI.nil _ _
        have HB0 : Hid (Below w1.heap.size w1 w1) := HR.out
        have kj := cj w1
        go_wp2_with fail
        refine kj.mono ?_
        rintro e w3 ⟨rfl, hb3⟩
        have HB3 : Hid (Below w1.heap.size w1 w3) := HB0.out.trans (hb3.mono HB0.out.size)
        have HO3 := HO0.kept hb3
        clear kj hb3 q0 q1 q2 q3 m4 m7
        obtain ⟨m4, m7, mh, mc⟩ := HF.out w3 HB3.out
        clear mc
        have HOa := own_new HO3 (.cells #[.int .i64 j1] 3)
        have HBa := below_new HB3.out HB3.out.size (.cells #[.int .i64 j1] 3)
        have oca := one_cell w3 j1
        have sza := HBa.size
        clear mh m4
        go_wp2_with (at_builtin; refine app_one rfl _ _ rfl w1.heap.size (.slice none 0 0) [] rfl HOa w3.heap.size j1 rfl oca (by simp) sza ?_)
        intro v4 w4 HO4 hg4
        have HB4 : Hid (Below w1.heap.size w1 w4) := HBa.grown hg4 sza HOa.base
        clear HOa HBa oca sza hg4 m7
        obtain ⟨m4, m7, mh, mc⟩ := HF.out w4 HB4.out
        clear mc
        have kc2 := cc.out w4 mh
        clear mh m4
        go_wp2_with fail
        refine kc2.mono ?_
        rintro e w5 ⟨rfl, hb5⟩
        have HB5 : Hid (Below w1.heap.size w1 w5) := HB4.out.trans (hb5.mono HB4.out.size)
        have HO5 := HO4.kept hb5
        clear kc2 hb5 m7
        have HOa := own_new HO5 (.cells #[.int .i64 t1] 3)
        have HBa := below_new HB5.out HB5.out.size (.cells #[.int .i64 t1] 3)
        have oca := one_cell w5 t1
        have sza := HBa.size
        go_wp2_with (at_builtin; refine app_one rfl _ _ rfl w1.heap.size v4 [j1] rfl HOa w5.heap.size t1 rfl oca (by simp) sza ?_)
        intro v6 w6 HO6 hg6
        have HB6 : Hid (Below w1.heap.size w1 w6) := HBa.grown hg6 sza HOa.base
        clear HOa HBa oca sza hg6
        have kr := cr.out w6 v6 [j1, t1] HO6 HB6.out (by simp)
        clear HO6
        go_wp2_with fail
        refine kr.mono ?_
        rintro e w7 ⟨v7, rfl, h7, h8⟩
        have H7 : Hid (OwnI w1.heap.size w7 v7 (risen [j1, t1]) ∧ Below w1.heap.size w1 w7) := ⟨h7, h8⟩
        clear h7 h8 kr
        go_wp2_with fail
        go_ret
        exact ⟨_, rfl, HL.out _ _ _ H7.out.1, HD.out _ H7.out.2⟩
  | true =>
    by_cases kn : k + 1 < cx.length
    · have e1 : decide (k + 1 < cx.length) = true := decide_eq_true kn
      cases j2 with
      | false =>
        cases t2 with
        | false =>
          rw [e1]
          show Calls Tryd.prog 15 _ w fun e w' => ∃ v, e = .returned v ∧ OwnI w.heap.size w' v (risen [(k : Int) + 1]) ∧ Below w.heap.size w w'
          clear e1
          obtain ⟨m4, m7, mh, mc⟩ := HF.out _ HR.out
          have q0 := mc 0 _ rfl
          have q1 := mc 1 _ rfl
          have q2 := mc 2 _ rfl
          have q3 := mc 3 _ rfl
          rw [Nat.add_zero] at q0
          clear mc mh
          go_enter Tryd.func15, Tryd.ntmps15
          go_wp2_with fail
          refine (cg _).mono ?_
          rintro e w' ⟨rfl, rfl⟩
          generalize w.alloc (.cells #[.string nm, .int .i64 pa, .int .i64 re, .bool ge, .slice (some ⟨b, off, none⟩) cx.length c1, .slice ka kx.length kc, .slice pa' px.length pc, .slice ha hx.length hc] 36) = w1 at *
          have HO0 : OwnI w1.heap.size w1 (.slice none 0 0) [] := OwnI.nil _ _
          have HB0 : Hid (Below w1.heap.size w1 w1) := HR.out
          have HOa := own_new HO0 (.cells #[.int .i64 ((k : Int) + 1)] 3)
          have HBa := below_new HB0.out HB0.out.size (.cells #[.int .i64 ((k : Int) + 1)] 3)
          have oca := one_cell w1 ((k : Int) + 1)
          have sza := HBa.size
          go_wp2_with (at_builtin; refine app_one rfl _ _ rfl w1.heap.size (.slice none 0 0) [] rfl HOa w1.heap.size ((k : Int) + 1) rfl oca (by simp) sza ?_)
          intro v2 w2 HO2 hg2
          have HB2 : Hid (Below w1.heap.size w1 w2) := HBa.grown hg2 sza HOa.base
          clear HOa HBa oca sza hg2 q0 q1 q2 q3 m4 m7
          obtain ⟨m4, m7, mh, mc⟩ := HF.out w2 HB2.out
          have q0 := mc 0 _ rfl
          have q1 := mc 1 _ rfl
          have q2 := mc 2 _ rfl
          have q3 := mc 3 _ rfl
          rw [Nat.add_zero] at q0
          clear mc mh
          have kj := cj w2
          go_wp2_with fail
          refine kj.mono ?_
          rintro e w3 ⟨rfl, hb3⟩
          have HB3 : Hid (Below w1.heap.size w1 w3) := HB2.out.trans (hb3.mono HB2.out.size)
          have HO3 := HO2.kept hb3
          clear kj hb3 q0 q1 q2 q3 m4 m7
          obtain ⟨m4, m7, mh, mc⟩ := HF.out w3 HB3.out
          clear mc
          have kc2 := cc.out w3 mh
          clear mh m4
          go_wp2_with fail
          refine kc2.mono ?_
          rintro e w5 ⟨rfl, hb5⟩
          have HB5 : Hid (Below w1.heap.size w1 w5) := HB3.out.trans (hb5.mono HB3.out.size)
          have HO5 := HO3.kept hb5
          clear kc2 hb5 m7
          have kr := cr.out w5 v2 [((k : Int) + 1)] HO5 HB5.out (by simp)
          clear HO5
          go_wp2_with fail
          refine kr.mono ?_
          rintro e w7 ⟨v7, rfl, h7, h8⟩
          have H7 : Hid (OwnI w1.heap.size w7 v7 (risen [((k : Int) + 1)]) ∧ Below w1.heap.size w1 w7) := ⟨h7, h8⟩
          clear h7 h8 kr
          go_wp2_with fail
          go_ret
          exact ⟨_, rfl, HL.out _ _ _ H7.out.1, HD.out _ H7.out.2⟩
        | true =>
          rw [e1]
          show Calls Tryd.prog 15 _ w fun e w' => ∃ v, e = .returned v ∧ OwnI w.heap.size w' v (risen [(k : Int) + 1, t1]) ∧ Below w.heap.size w w'
          clear e1
          obtain ⟨m4, m7, mh, mc⟩ := HF.out _ HR.out
          have q0 := mc 0 _ rfl
          have q1 := mc 1 _ rfl
          have q2 := mc 2 _ rfl
          have q3 := mc 3 _ rfl
          rw [Nat.add_zero] at q0
          clear mc mh
          go_enter Tryd.func15, Tryd.ntmps15
          go_wp2_with fail
          refine (cg _).mono ?_
          rintro e w' ⟨rfl, rfl⟩
          generalize w.alloc (.cells #[.string nm, .int .i64 pa, .int .i64 re, .bool ge, .slice (some ⟨b, off, none⟩) cx.length c1, .slice ka kx.length kc, .slice pa' px.length pc, .slice ha hx.length hc] 36) = w1 at *
          have HO0 : OwnI w1.heap.size w1 (.slice none 0 0) [] := OwnI.nil _ _
          have HB0 : Hid (Below w1.heap.size w1 w1) := HR.out
          have HOa := own_new HO0 (.cells #[.int .i64 ((k : Int) + 1)] 3)
          have HBa := below_new HB0.out HB0.out.size (.cells #[.int .i64 ((k : Int) + 1)] 3)
          have oca := one_cell w1 ((k : Int) + 1)
          have sza := HBa.size
          go_wp2_with (at_builtin; refine app_one rfl _ _ rfl w1.heap.size (.slice none 0 0) [] rfl HOa w1.heap.size ((k : Int) + 1) rfl oca (by simp) sza ?_)
          intro v2 w2 HO2 hg2
          have HB2 : Hid (Below w1.heap.size w1 w2) := HBa.grown hg2 sza HOa.base
          clear HOa HBa oca sza hg2 q0 q1 q2 q3 m4 m7
          obtain ⟨m4, m7, mh, mc⟩ := HF.out w2 HB2.out
          have q0 := mc 0 _ rfl
          have q1 := mc 1 _ rfl
          have q2 := mc 2 _ rfl
          have q3 := mc 3 _ rfl
          rw [Nat.add_zero] at q0
          clear mc mh
          have kj := cj w2
          go_wp2_with fail
          refine kj.mono ?_
          rintro e w3 ⟨rfl, hb3⟩
          have HB3 : Hid (Below w1.heap.size w1 w3) := HB2.out.trans (hb3.mono HB2.out.size)
          have HO3 := HO2.kept hb3
          clear kj hb3 q0 q1 q2 q3 m4 m7
          obtain ⟨m4, m7, mh, mc⟩ := HF.out w3 HB3.out
          clear mc
          have kc2 := cc.out w3 mh
          clear mh m4
          go_wp2_with fail
          refine kc2.mono ?_
          rintro e w5 ⟨rfl, hb5⟩
          have HB5 : Hid (Below w1.heap.size w1 w5) := HB3.out.trans (hb5.mono HB3.out.size)
          have HO5 := HO3.kept hb5
          clear kc2 hb5 m7
          have HOa := own_new HO5 (.cells #[.int .i64 t1] 3)
          have HBa := below_new HB5.out HB5.out.size (.cells #[.int .i64 t1] 3)
          have oca := one_cell w5 t1
          have sza := HBa.size
          go_wp2_with (at_builtin; refine app_one rfl _ _ rfl w1.heap.size v2 [((k : Int) + 1)] rfl HOa w5.heap.size t1 rfl oca (by simp) sza ?_)
          intro v6 w6 HO6 hg6
          have HB6 : Hid (Below w1.heap.size w1 w6) := HBa.grown hg6 sza HOa.base
          clear HOa HBa oca sza hg6
          have kr := cr.out w6 v6 [((k : Int) + 1), t1] HO6 HB6.out (by simp)
          clear HO6
          go_wp2_with fail
          refine kr.mono ?_
          rintro e w7 ⟨v7, rfl, h7, h8⟩
          have H7 : Hid (OwnI w1.heap.size w7 v7 (risen [((k : Int) + 1), t1]) ∧ Below w1.heap.size w1 w7) := ⟨h7, h8⟩
          clear h7 h8 kr
          go_wp2_with fail
          go_ret
          exact ⟨_, rfl, HL.out _ _ _ H7.out.1, HD.out _ H7.out.2⟩
      | true =>
        cases t2 with
        | false =>
          rw [e1]
          show Calls Tryd.prog 15 _ w fun e w' => ∃ v, e = .returned v ∧ OwnI w.heap.size w' v (risen [(k : Int) + 1, j1]) ∧ Below w.heap.size w w'
          clear e1
          obtain ⟨m4, m7, mh, mc⟩ := HF.out _ HR.out
          have q0 := mc 0 _ rfl
          have q1 := mc 1 _ rfl
          have q2 := mc 2 _ rfl
          have q3 := mc 3 _ rfl
          rw [Nat.add_zero] at q0
          clear mc mh
          go_enter Tryd.func15, Tryd.ntmps15
          go_wp2_with fail
          refine (cg _).mono ?_
          rintro e w' ⟨rfl, rfl⟩
          generalize w.alloc (.cells #[.string nm, .int .i64 pa, .int .i64 re, .bool ge, .slice (some ⟨b, off, none⟩) cx.length c1, .slice ka kx.length kc, .slice pa' px.length pc, .slice ha hx.length hc] 36) = w1 at *
          have HO0 : OwnI w1.heap.size w1 (.slice none 0 0) [] := OwnI.nil _ _
          have HB0 : Hid (Below w1.heap.size w1 w1) := HR.out
          have HOa := own_new HO0 (.cells #[.int .i64 ((k : Int) + 1)] 3)
          have HBa := below_new HB0.out HB0.out.size (.cells #[.int .i64 ((k : Int) + 1)] 3)
          have oca := one_cell w1 ((k : Int) + 1)
          have sza := HBa.size
          go_wp2_with (at_builtin; refine app_one rfl _ _ rfl w1.heap.size (.slice none 0 0) [] rfl HOa w1.heap.size ((k : Int) + 1) rfl oca (by simp) sza ?_)
          intro v2 w2 HO2 hg2
          have HB2 : Hid (Below w1.heap.size w1 w2) := HBa.grown hg2 sza HOa.base
          clear HOa HBa oca sza hg2 q0 q1 q2 q3 m4 m7
          obtain ⟨m4, m7, mh, mc⟩ := HF.out w2 HB2.out
          have q0 := mc 0 _ rfl
          have q1 := mc 1 _ rfl
          have q2 := mc 2 _ rfl
          have q3 := mc 3 _ rfl
          rw [Nat.add_zero] at q0
          clear mc mh
          have kj := cj w2
          go_wp2_with fail
          refine kj.mono ?_
          rintro e w3 ⟨rfl, hb3⟩
          have HB3 : Hid (Below w1.heap.size w1 w3) := HB2.out.trans (hb3.mono HB2.out.size)
          have HO3 := HO2.kept hb3
          clear kj hb3 q0 q1 q2 q3 m4 m7
          obtain ⟨m4, m7, mh, mc⟩ := HF.out w3 HB3.out
          clear mc
          have HOa := own_new HO3 (.cells #[.int .i64 j1] 3)
          have HBa := below_new HB3.out HB3.out.size (.cells #[.int .i64 j1] 3)
          have oca := one_cell w3 j1
          have sza := HBa.size
          clear mh m4
          go_wp2_with (at_builtin; refine app_one rfl _ _ rfl w1.heap.size v2 [((k : Int) + 1)] rfl HOa w3.heap.size j1 rfl oca (by simp) sza ?_)
          intro v4 w4 HO4 hg4
          have HB4 : Hid (Below w1.heap.size w1 w4) := HBa.grown hg4 sza HOa.base
          clear HOa HBa oca sza hg4 m7
          obtain ⟨m4, m7, mh, mc⟩ := HF.out w4 HB4.out
          clear mc
          have kc2 := cc.out w4 mh
          clear mh m4
          go_wp2_with fail
          refine kc2.mono ?_
          rintro e w5 ⟨rfl, hb5⟩
          have HB5 : Hid (Below w1.heap.size w1 w5) := HB4.out.trans (hb5.mono HB4.out.size)
          have HO5 := HO4.kept hb5
          clear kc2 hb5 m7
          have kr := cr.out w5 v4 [((k : Int) + 1), j1] HO5 HB5.out (by simp)
          clear HO5
          go_wp2_with fail
          refine kr.mono ?_
          rintro e w7 ⟨v7, rfl, h7, h8⟩
          have H7 : Hid (OwnI w1.heap.size w7 v7 (risen [((k : Int) + 1), j1]) ∧ Below w1.heap.size w1 w7) := ⟨h7, h8⟩
          clear h7 h8 kr
          go_wp2_with fail
          go_ret
          exact ⟨_, rfl, HL.out _ _ _ H7.out.1, HD.out _ H7.out.2⟩
        | true =>
          rw [e1]
          show Calls Tryd.prog 15 _ w fun e w' => ∃ v, e = .returned v ∧ OwnI w.heap.size w' v (risen [(k : Int) + 1, j1, t1]) ∧ Below w.heap.size w w'
          clear e1
          obtain ⟨m4, m7, mh, mc⟩ := HF.out _ HR.out
          have q0 := mc 0 _ rfl
          have q1 := mc 1 _ rfl
          have q2 := mc 2 _ rfl
          have q3 := mc 3 _ rfl
          rw [Nat.add_zero] at q0
          clear mc mh
          go_enter Tryd.func15, Tryd.ntmps15
          go_wp2_with fail
          refine (cg _).mono ?_
          rintro e w' ⟨rfl, rfl⟩
          generalize w.alloc (.cells #[.string nm, .int .i64 pa, .int .i64 re, .bool ge, .slice (some ⟨b, off, none⟩) cx.length c1, .slice ka kx.length kc, .slice pa' px.length pc, .slice ha hx.length hc] 36) = w1 at *
          have HO0 : OwnI w1.heap.size w1 (.slice none 0 0) [] := OwnI.nil _ _
          have HB0 : Hid (Below w1.heap.size w1 w1) := HR.out
          have HOa := own_new HO0 (.cells #[.int .i64 ((k : Int) + 1)] 3)
          have HBa := below_new HB0.out HB0.out.size (.cells #[.int .i64 ((k : Int) + 1)] 3)
          have oca := one_cell w1 ((k : Int) + 1)
          have sza := HBa.size
          go_wp2_with (at_builtin; refine app_one rfl _ _ rfl w1.heap.size (.slice none 0 0) [] rfl HOa w1.heap.size ((k : Int) + 1) rfl oca (by simp) sza ?_)
          intro v2 w2 HO2 hg2
          have HB2 : Hid (Below w1.heap.size w1 w2) := HBa.grown hg2 sza HOa.base
          clear HOa HBa oca sza hg2 q0 q1 q2 q3 m4 m7
          obtain ⟨m4, m7, mh, mc⟩ := HF.out w2 HB2.out
          have q0 := mc 0 _ rfl
          have q1 := mc 1 _ rfl
          have q2 := mc 2 _ rfl
          have q3 := mc 3 _ rfl
          rw [Nat.add_zero] at q0
          clear mc mh
          have kj := cj w2
          go_wp2_with fail
          refine kj.mono ?_
          rintro e w3 ⟨rfl, hb3⟩
          have HB3 : Hid (Below w1.heap.size w1 w3) := HB2.out.trans (hb3.mono HB2.out.size)
          have HO3 := HO2.kept hb3
          clear kj hb3 q0 q1 q2 q3 m4 m7
          obtain ⟨m4, m7, mh, mc⟩ := HF.out w3 HB3.out
          clear mc
          have HOa := own_new HO3 (.cells #[.int .i64 j1] 3)
          have HBa := below_new HB3.out HB3.out.size (.cells #[.int .i64 j1] 3)
          have oca := one_cell w3 j1
          have sza := HBa.size
          clear mh m4
          go_wp2_with (at_builtin; refine app_one rfl _ _ rfl w1.heap.size v2 [((k : Int) + 1)] rfl HOa w3.heap.size j1 rfl oca (by simp) sza ?_)
          intro v4 w4 HO4 hg4
          have HB4 : Hid (Below w1.heap.size w1 w4) := HBa.grown hg4 sza HOa.base
          clear HOa HBa oca sza hg4 m7
          obtain ⟨m4, m7, mh, mc⟩ := HF.out w4 HB4.out
          clear mc
          have kc2 := cc.out w4 mh
          clear mh m4
          go_wp2_with fail
          refine kc2.mono ?_
          rintro e w5 ⟨rfl, hb5⟩
          have HB5 : Hid (Below w1.heap.size w1 w5) := HB4.out.trans (hb5.mono HB4.out.size)
          have HO5 := HO4.kept hb5
          clear kc2 hb5 m7
          have HOa := own_new HO5 (.cells #[.int .i64 t1] 3)
          have HBa := below_new HB5.out HB5.out.size (.cells #[.int .i64 t1] 3)
          have oca := one_cell w5 t1
          have sza := HBa.size
          go_wp2_with (at_builtin; refine app_one rfl _ _ rfl w1.heap.size v4 [((k : Int) + 1), j1] rfl HOa w5.heap.size t1 rfl oca (by simp) sza ?_)
          intro v6 w6 HO6 hg6
          have HB6 : Hid (Below w1.heap.size w1 w6) := HBa.grown hg6 sza HOa.base
          clear HOa HBa oca sza hg6
          have kr := cr.out w6 v6 [((k : Int) + 1), j1, t1] HO6 HB6.out (by simp)
          clear HO6
          go_wp2_with fail
          refine kr.mono ?_
          rintro e w7 ⟨v7, rfl, h7, h8⟩
          have H7 : Hid (OwnI w1.heap.size w7 v7 (risen [((k : Int) + 1), j1, t1]) ∧ Below w1.heap.size w1 w7) := ⟨h7, h8⟩
          clear h7 h8 kr
          go_wp2_with fail
          go_ret
          exact ⟨_, rfl, HL.out _ _ _ H7.out.1, HD.out _ H7.out.2⟩
    · have e1 : decide (k + 1 < cx.length) = false := decide_eq_false kn
      cases j2 with
      | false =>
        cases t2 with
        | false =>
          rw [e1]
          show Calls Tryd.prog 15 _ w fun e w' => ∃ v, e = .returned v ∧ OwnI w.heap.size w' v (risen []) ∧ Below w.heap.size w w'
          clear e1
          obtain ⟨m4, m7, mh, mc⟩ := HF.out _ HR.out
          have q0 := mc 0 _ rfl
          have q1 := mc 1 _ rfl
          have q2 := mc 2 _ rfl
          have q3 := mc 3 _ rfl
          rw [Nat.add_zero] at q0
          clear mc mh
          go_enter Tryd.func15, Tryd.ntmps15
          go_wp2_with fail
          refine (cg _).mono ?_
          rintro e w' ⟨rfl, rfl⟩
          generalize w.alloc (.cells #[.string nm, .int .i64 pa, .int .i64 re, .bool ge, .slice (some ⟨b, off, none⟩) cx.length c1, .slice ka kx.length kc, .slice pa' px.length pc, .slice ha hx.length hc] 36) = w1 at *
          have HO0 : OwnI w1.heap.size w1 (.slice none 0 0) [] := OwnI.nil _ _
          have HB0 : Hid (Below w1.heap.size w1 w1) := HR.out
          have kj := cj w1
          go_wp2_with fail
          refine kj.mono ?_
          rintro e w3 ⟨rfl, hb3⟩
          have HB3 : Hid (Below w1.heap.size w1 w3) := HB0.out.trans (hb3.mono HB0.out.size)
          have HO3 := HO0.kept hb3
          clear kj hb3 q0 q1 q2 q3 m4 m7
          obtain ⟨m4, m7, mh, mc⟩ := HF.out w3 HB3.out
          clear mc
          have kc2 := cc.out w3 mh
          clear mh m4
          go_wp2_with fail
          refine kc2.mono ?_
          rintro e w5 ⟨rfl, hb5⟩
          have HB5 : Hid (Below w1.heap.size w1 w5) := HB3.out.trans (hb5.mono HB3.out.size)
          have HO5 := HO3.kept hb5
          clear kc2 hb5 m7
          have kr := cr.out w5 (.slice none 0 0) [] HO5 HB5.out (by simp)
          clear HO5
          go_wp2_with fail
          refine kr.mono ?_
          rintro e w7 ⟨v7, rfl, h7, h8⟩
          have H7 : Hid (OwnI w1.heap.size w7 v7 (risen []) ∧ Below w1.heap.size w1 w7) := ⟨h7, h8⟩
          clear h7 h8 kr
          go_wp2_with fail
          go_ret
          exact ⟨_, rfl, HL.out _ _ _ H7.out.1, HD.out _ H7.out.2⟩
        | true =>
          rw [e1]
          show Calls Tryd.prog 15 _ w fun e w' => ∃ v, e = .returned v ∧ OwnI w.heap.size w' v (risen [t1]) ∧ Below w.heap.size w w'
          clear e1
          obtain ⟨m4, m7, mh, mc⟩ := HF.out _ HR.out
          have q0 := mc 0 _ rfl
          have q1 := mc 1 _ rfl
          have q2 := mc 2 _ rfl
          have q3 := mc 3 _ rfl
          rw [Nat.add_zero] at q0
          clear mc mh
          go_enter Tryd.func15, Tryd.ntmps15
          go_wp2_with fail
          refine (cg _).mono ?_
          rintro e w' ⟨rfl, rfl⟩
          generalize w.alloc (.cells #[.string nm, .int .i64 pa, .int .i64 re, .bool ge, .slice (some ⟨b, off, none⟩) cx.length c1, .slice ka kx.length kc, .slice pa' px.length pc, .slice ha hx.length hc] 36) = w1 at *
          have HO0 : OwnI w1.heap.size w1 (.slice none 0 0) [] := OwnI.nil _ _
          have HB0 : Hid (Below w1.heap.size w1 w1) := HR.out
          have kj := cj w1
          go_wp2_with fail
          refine kj.mono ?_
          rintro e w3 ⟨rfl, hb3⟩
          have HB3 : Hid (Below w1.heap.size w1 w3) := HB0.out.trans (hb3.mono HB0.out.size)
          have HO3 := HO0.kept hb3
          clear kj hb3 q0 q1 q2 q3 m4 m7
          obtain ⟨m4, m7, mh, mc⟩ := HF.out w3 HB3.out
          clear mc
          have kc2 := cc.out w3 mh
          clear mh m4
          go_wp2_with fail
          refine kc2.mono ?_
          rintro e w5 ⟨rfl, hb5⟩
          have HB5 : Hid (Below w1.heap.size w1 w5) := HB3.out.trans (hb5.mono HB3.out.size)
          have HO5 := HO3.kept hb5
          clear kc2 hb5 m7
          have HOa := own_new HO5 (.cells #[.int .i64 t1] 3)
          have HBa := below_new HB5.out HB5.out.size (.cells #[.int .i64 t1] 3)
          have oca := one_cell w5 t1
          have sza := HBa.size
          go_wp2_with (at_builtin; refine app_one rfl _ _ rfl w1.heap.size (.slice none 0 0) [] rfl HOa w5.heap.size t1 rfl oca (by simp) sza ?_)
          intro v6 w6 HO6 hg6
          have HB6 : Hid (Below w1.heap.size w1 w6) := HBa.grown hg6 sza HOa.base
          clear HOa HBa oca sza hg6
          have kr := cr.out w6 v6 [t1] HO6 HB6.out (by simp)
          clear HO6
          go_wp2_with fail
          refine kr.mono ?_
          rintro e w7 ⟨v7, rfl, h7, h8⟩
          have H7 : Hid (OwnI w1.heap.size w7 v7 (risen [t1]) ∧ Below w1.heap.size w1 w7) := ⟨h7, h8⟩
          clear h7 h8 kr
          go_wp2_with fail
          go_ret
          exact ⟨_, rfl, HL.out _ _ _ H7.out.1, HD.out _ H7.out.2⟩
      | true =>
        cases t2 with
        | false =>
          rw [e1]
          show Calls Tryd.prog 15 _ w fun e w' => ∃ v, e = .returned v ∧ OwnI w.heap.size w' v (risen [j1]) ∧ Below w.heap.size w w'
          clear e1
          obtain ⟨m4, m7, mh, mc⟩ := HF.out _ HR.out
          have q0 := mc 0 _ rfl
          have q1 := mc 1 _ rfl
          have q2 := mc 2 _ rfl
          have q3 := mc 3 _ rfl
          rw [Nat.add_zero] at q0
          clear mc mh
          go_enter Tryd.func15, Tryd.ntmps15
          go_wp2_with fail
          refine (cg _).mono ?_
          rintro e w' ⟨rfl, rfl⟩
          generalize w.alloc (.cells #[.string nm, .int .i64 pa, .int .i64 re, .bool ge, .slice (some ⟨b, off, none⟩) cx.length c1, .slice ka kx.length kc, .slice pa' px.length pc, .slice ha hx.length hc] 36) = w1 at *
          have HO0 : OwnI w1.heap.size w1 (.slice none 0 0) [] := OwnI.nil _ _
          have HB0 : Hid (Below w1.heap.size w1 w1) := HR.out
          have kj := cj w1
          go_wp2_with fail
          refine kj.mono ?_
          rintro e w3 ⟨rfl, hb3⟩
          have HB3 : Hid (Below w1.heap.size w1 w3) := HB0.out.trans (hb3.mono HB0.out.size)
          have HO3 := HO0.kept hb3
          clear kj hb3 q0 q1 q2 q3 m4 m7
          obtain ⟨m4, m7, mh, mc⟩ := HF.out w3 HB3.out
          clear mc
          have HOa := own_new HO3 (.cells #[.int .i64 j1] 3)
          have HBa := below_new HB3.out HB3.out.size (.cells #[.int .i64 j1] 3)
          have oca := one_cell w3 j1
          have sza := HBa.size
          clear mh m4
          go_wp2_with (at_builtin; refine app_one rfl _ _ rfl w1.heap.size (.slice none 0 0) [] rfl HOa w3.heap.size j1 rfl oca (by simp) sza ?_)
          intro v4 w4 HO4 hg4
          have HB4 : Hid (Below w1.heap.size w1 w4) := HBa.grown hg4 sza HOa.base
          clear HOa HBa oca sza hg4 m7
          obtain ⟨m4, m7, mh, mc⟩ := HF.out w4 HB4.out
          clear mc
          have kc2 := cc.out w4 mh
          clear mh m4
          go_wp2_with fail
          refine kc2.mono ?_
          rintro e w5 ⟨rfl, hb5⟩
          have HB5 : Hid (Below w1.heap.size w1 w5) := HB4.out.trans (hb5.mono HB4.out.size)
          have HO5 := HO4.kept hb5
          clear kc2 hb5 m7
          have kr := cr.out w5 v4 [j1] HO5 HB5.out (by simp)
          clear HO5
          go_wp2_with fail
          refine kr.mono ?_
          rintro e w7 ⟨v7, rfl, h7, h8⟩
          have H7 : Hid (OwnI w1.heap.size w7 v7 (risen [j1]) ∧ Below w1.heap.size w1 w7) := ⟨h7, h8⟩
          clear h7 h8 kr
          go_wp2_with fail
          go_ret
          exact ⟨_, rfl, HL.out _ _ _ H7.out.1, HD.out _ H7.out.2⟩
        | true =>
          rw [e1]
          show Calls Tryd.prog 15 _ w fun e w' => ∃ v, e = .returned v ∧ OwnI w.heap.size w' v (risen [j1, t1]) ∧ Below w.heap.size w w'
          clear e1
          obtain ⟨m4, m7, mh, mc⟩ := HF.out _ HR.out
          have q0 := mc 0 _ rfl
          have q1 := mc 1 _ rfl
          have q2 := mc 2 _ rfl
          have q3 := mc 3 _ rfl
          rw [Nat.add_zero] at q0
          clear mc mh
          go_enter Tryd.func15, Tryd.ntmps15
          go_wp2_with fail
          refine (cg _).mono ?_
          rintro e w' ⟨rfl, rfl⟩
          generalize w.alloc (.cells #[.string nm, .int .i64 pa, .int .i64 re, .bool ge, .slice (some ⟨b, off, none⟩) cx.length c1, .slice ka kx.length kc, .slice pa' px.length pc, .slice ha hx.length hc] 36) = w1 at *
          have HO0 : OwnI w1.heap.size w1 (.slice none 0 0) [] := OwnI.nil _ _
          have HB0 : Hid (Below w1.heap.size w1 w1) := HR.out
          have kj := cj w1
          go_wp2_with fail
          refine kj.mono ?_
          rintro e w3 ⟨rfl, hb3⟩
          have HB3 : Hid (Below w1.heap.size w1 w3) := HB0.out.trans (hb3.mono HB0.out.size)
          have HO3 := HO0.kept hb3
          clear kj hb3 q0 q1 q2 q3 m4 m7
          obtain ⟨m4, m7, mh, mc⟩ := HF.out w3 HB3.out
          clear mc
          have HOa := own_new HO3 (.cells #[.int .i64 j1] 3)
          have HBa := below_new HB3.out HB3.out.size (.cells #[.int .i64 j1] 3)
          have oca := one_cell w3 j1
          have sza := HBa.size
          clear mh m4
          go_wp2_with (at_builtin; refine app_one rfl _ _ rfl w1.heap.size (.slice none 0 0) [] rfl HOa w3.heap.size j1 rfl oca (by simp) sza ?_)
          intro v4 w4 HO4 hg4
          have HB4 : Hid (Below w1.heap.size w1 w4) := HBa.grown hg4 sza HOa.base
          clear HOa HBa oca sza hg4 m7
          obtain ⟨m4, m7, mh, mc⟩ := HF.out w4 HB4.out
          clear mc
          have kc2 := cc.out w4 mh
          clear mh m4
          go_wp2_with fail
          refine kc2.mono ?_
          rintro e w5 ⟨rfl, hb5⟩
          have HB5 : Hid (Below w1.heap.size w1 w5) := HB4.out.trans (hb5.mono HB4.out.size)
          have HO5 := HO4.kept hb5
          clear kc2 hb5 m7
          have HOa := own_new HO5 (.cells #[.int .i64 t1] 3)
          have HBa := below_new HB5.out HB5.out.size (.cells #[.int .i64 t1] 3)
          have oca := one_cell w5 t1
          have sza := HBa.size
          go_wp2_with (at_builtin; refine app_one rfl _ _ rfl w1.heap.size v4 [j1] rfl HOa w5.heap.size t1 rfl oca (by simp) sza ?_)
          intro v6 w6 HO6 hg6
          have HB6 : Hid (Below w1.heap.size w1 w6) := HBa.grown hg6 sza HOa.base
          clear HOa HBa oca sza hg6
          have kr := cr.out w6 v6 [j1, t1] HO6 HB6.out (by simp)
          clear HO6
          go_wp2_with fail
          refine kr.mono ?_
          rintro e w7 ⟨v7, rfl, h7, h8⟩
          have H7 : Hid (OwnI w1.heap.size w7 v7 (risen [j1, t1]) ∧ Below w1.heap.size w1 w7) := ⟨h7, h8⟩
          clear h7 h8 kr
          go_wp2_with fail
          go_ret
          exact ⟨_, rfl, HL.out _ _ _ H7.out.1, HD.out _ H7.out.2⟩

theorem next_any (f : Fn) (x : Int) (w : World) (hf : f.ok w) :
    Calls Tryd.prog 15 #[fnV f, .int .i64 x] w fun e w' => ∃ v, e = .returned v ∧ OwnI w.heap.size w' v (nextI f x) ∧ Below w.heap.size w w' := by
  by_cases h0 : x < 0
  · exact next_out f x w (.inl h0)
  by_cases h1 : (f.code.xs.length : Int) ≤ x
  · exact next_out f x w (.inr h1)
  obtain ⟨k, rfl⟩ : ∃ k : Nat, x = (k : Int) := ⟨x.toNat, by omega⟩
  exact next_in f k _ w hf (List.getElem?_eq_getElem (by omega))

end Go.Proofs.YtkoamenfbnpdbaaDoor.Cd
