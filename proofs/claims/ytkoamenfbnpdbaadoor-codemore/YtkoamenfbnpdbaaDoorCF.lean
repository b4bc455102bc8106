/- Package code: fits. -/
import Derived.Test.YtkoamenfbnpdbaaDoorCE
import Derived.Deep.RegionHeldLaw
namespace Go.Proofs.YtkoamenfbnpdbaaDoor.Cd
open Go.RowKit Go.Deep
set_option linter.unusedVariables false

def shapeOk : List UInt8 → Bool
  | [a, b, c] => letters.contains (a.toNat : Int) && letters.contains (b.toNat : Int) && letters.contains (c.toNat : Int) && (a.toNat != 110) && (b.toNat != 110) && (c.toNat != 110 || b.toNat == 114)
  | _ => false

theorem shL_ok : ∀ t ∈ shL, shapeOk t = true := by decide

/-- an instruction's operands are what its shape says -/
def fitsB (f : Fn) (y : Ins) (fn : Int) : Bool :=
  match shapeI y.op with
  | [a, b, c] => meansB f y a.toNat y.a fn && meansB f y b.toNat y.b fn && meansB f y c.toNat y.c fn
  | _ => false

theorem shape_cases (op : Int) : shapeI op = [] ∨ ∃ a b c : UInt8, shapeI op = [a, b, c] ∧ (a.toNat : Int) ∈ letters ∧ (b.toNat : Int) ∈ letters ∧ (c.toNat : Int) ∈ letters ∧ (a.toNat : Int) ≠ 110 ∧ (b.toNat : Int) ≠ 110 ∧ ((c.toNat : Int) = 110 → (b.toNat : Int) = 114) := by
  by_cases h0 : op < 0 ∨ 63 ≤ op
  · exact Or.inl (shapeI_out op h0)
  · right
    obtain ⟨k, rfl⟩ : ∃ k : Nat, op = (k : Int) := ⟨op.toNat, by omega⟩
    obtain ⟨t, h1, h2⟩ := shapeI_in k (by omega)
    have h3 := shL_ok t (List.mem_of_getElem? h1)
    rw [h2]
    clear h1 h2 h0
    match t, h3 with
    | [a, b, c], h3 =>
      simp only [shapeOk, Bool.and_eq_true, Bool.or_eq_true, bne_iff_ne, beq_iff_eq, List.contains_iff_mem] at h3
      obtain ⟨⟨⟨⟨⟨h1, h2⟩, h3⟩, h4⟩, h5⟩, h6⟩ := h3
      refine ⟨a, b, c, rfl, h1, h2, h3, by omega, by omega, fun h => ?_⟩
      rcases h6 with h6 | h6
      · omega
      · omega

theorem bs_data (l : List UInt8) : (bs l).data.toList = l := rfl
theorem bs_toList (l : List UInt8) : (bs l).toList = l := by rw [ByteArray.toList_eq, bs_data]

theorem idx_str (s : ByteArray) (k : Nat) (u : UInt8) (w : World) (h : s.data[k]? = some u) : (Instr.index 9 (.string s) (.int .i64 k)).run Tryd.prog w = .ok (.int .u8 u.toNat) w := by
  have hk : k < s.size := (Array.getElem?_eq_some_iff.1 h).1
  have hv : s[k] = u := (Array.getElem?_eq_some_iff.1 h).2
  simp [go_sem, Instr.index, hk, hv]

theorem idx72 (a b c : Value) (k : Nat) (u : Value) (w : World) (h : (#[a, b, c] : Array Value)[k]? = some u) (hk : k < 3) : (Instr.index 72 (.agg #[a, b, c]) (.int .i64 k)).run Tryd.prog w = .ok u w := by
  have : k = 0 ∨ k = 1 ∨ k = 2 := by omega
  rcases this with rfl | rfl | rfl <;> (simp at h; subst h; simp [go_sem, Instr.index])

theorem fits_none (f : Fn) (y : Ins) (fn : Int) (w : World) (hS : ShAt w) (h : shapeI y.op = []) :
    Calls Tryd.prog 34 #[fnV f, insV y, .int .i64 fn] w fun e w' => e = .returned (.bool false) ∧ Below w.heap.size w w' := by
  have HB : Hid (Below w.heap.size w ((w.alloc (fnB f)).alloc (.cells #[.int .i64 y.op, .int .i64 y.a, .int .i64 y.b, .int .i64 y.c] 43))) := below_new (below_new (Below.refl _ _) (Nat.le_refl _) _) (by rw [size_new]; omega) _
  have cs := shape_any y.op _ (hS.below HB.out)
  rw [h] at cs
  have hne : (bs []).toList = [] := bs_toList []
  clear h hS
  generalize bs [] = s at *
  obtain ⟨nm, pa, re, ge, ⟨ca, c1, cx⟩, ⟨ka, kc, kx⟩, ⟨pa', pc, px⟩, ⟨ha, hc, hx⟩⟩ := f
  obtain ⟨op, ia, ib, ic⟩ := y
  unfold fnB at *
  unfold fnV insV
  unfold Sli.val at *
  simp only at *
  go_enter Tryd.func34, Tryd.ntmps34
  go_wp2_with fail
  refine cs.mono ?_
  rintro e w' ⟨rfl, rfl⟩
  go_wp2_with fail
  go_ret
  exact ⟨rfl, HB.out⟩

structure FitAt (w1 wr : World) : Prop where
  bel : Below w1.heap.size w1 wr

set_option maxRecDepth 100000 in
set_option maxHeartbeats 4000000 in
theorem fits_some (f : Fn) (y : Ins) (fn : Int) (w : World) (hf : f.ok w) (hS : ShAt w) (h1 : 0 ≤ f.regs) (h2 : f.regs ≤ 400) (l0 l1 l2 : UInt8) (h : shapeI y.op = [l0, l1, l2])
    (m0 : (l0.toNat : Int) ∈ letters) (m1 : (l1.toNat : Int) ∈ letters) (m2 : (l2.toNat : Int) ∈ letters) (n0 : (l0.toNat : Int) ≠ 110) (n1 : (l1.toNat : Int) ≠ 110) (n2 : (l2.toNat : Int) = 110 → (l1.toNat : Int) = 114) :
    Calls Tryd.prog 34 #[fnV f, insV y, .int .i64 fn] w fun e w' => e = .returned (.bool (meansB f y l0.toNat y.a fn && meansB f y l1.toNat y.b fn && meansB f y l2.toNat y.c fn)) ∧ Below w.heap.size w w' := by
  have B1 : Below w.heap.size w ((w.alloc (fnB f)).alloc (.cells #[.int .i64 y.op, .int .i64 y.a, .int .i64 y.b, .int .i64 y.c] 43)) := below_new (below_new (Below.refl _ _) (Nat.le_refl _) _) (by rw [size_new]; omega) _
  have cs := shape_any y.op _ (hS.below B1)
  rw [h] at cs
  clear h hS
  have hf1 := hf.kept (cells_below B1)
  have HF : Hid (∀ w', Below ((w.alloc (fnB f)).alloc (.cells #[.int .i64 y.op, .int .i64 y.a, .int .i64 y.b, .int .i64 y.c] 43)).heap.size ((w.alloc (fnB f)).alloc (.cells #[.int .i64 y.op, .int .i64 y.a, .int .i64 y.b, .int .i64 y.c] 43)) w' →
      f.ok w' ∧ (∀ j u, (fnC f)[j]? = some u → w'.cell? ⟨w.heap.size, j, none⟩ = some u) ∧ (∀ j u, (insC y)[j]? = some u → w'.cell? ⟨w.heap.size + 1, j, none⟩ = some u)) := by
    intro w' h
    have h' := cells_below h
    refine ⟨hf1.kept h', fun j u hj => h' _ _ (cells_below (below_new (Below.refl _ _) (Nat.le_refl _) _) _ _ (fnB_cell f w j u hj)), fun j u hj => h' _ _ ?_⟩
    have := insB_cell y.op y.a y.b y.c (w.alloc (fnB f)) j u hj
    rw [size_new] at this
    exact this
  have HD : Hid (∀ w', Below ((w.alloc (fnB f)).alloc (.cells #[.int .i64 y.op, .int .i64 y.a, .int .i64 y.b, .int .i64 y.c] 43)).heap.size ((w.alloc (fnB f)).alloc (.cells #[.int .i64 y.op, .int .i64 y.a, .int .i64 y.b, .int .i64 y.c] 43)) w' → Below w.heap.size w w') := fun w' h => B1.trans (h.mono B1.size)
  have HR : Hid (Below ((w.alloc (fnB f)).alloc (.cells #[.int .i64 y.op, .int .i64 y.a, .int .i64 y.b, .int .i64 y.c] 43)).heap.size ((w.alloc (fnB f)).alloc (.cells #[.int .i64 y.op, .int .i64 y.a, .int .i64 y.b, .int .i64 y.c] 43)) ((w.alloc (fnB f)).alloc (.cells #[.int .i64 y.op, .int .i64 y.a, .int .i64 y.b, .int .i64 y.c] 43))) := Below.refl _ _
  have HM0 : Hid (∀ w', f.ok w' → Calls Tryd.prog 39 #[fnV f, insV y, .int .u8 l0.toNat, .int .i64 y.a, .int .i64 fn] w' fun e w'' => e = .returned (.bool (meansB f y l0.toNat y.a fn)) ∧ Below w'.heap.size w' w'') := fun w' h => means_any f y _ _ fn w' m0 h.consts (fun e => absurd e n0)
  have HM1 : Hid (∀ w', f.ok w' → Calls Tryd.prog 39 #[fnV f, insV y, .int .u8 l1.toNat, .int .i64 y.b, .int .i64 fn] w' fun e w'' => e = .returned (.bool (meansB f y l1.toNat y.b fn)) ∧ Below w'.heap.size w' w'') := fun w' h => means_any f y _ _ fn w' m1 h.consts (fun e => absurd e n1)
  have HM2 : Hid (meansB f y l1.toNat y.b fn = true → ∀ w', f.ok w' → Calls Tryd.prog 39 #[fnV f, insV y, .int .u8 l2.toNat, .int .i64 y.c, .int .i64 fn] w' fun e w'' => e = .returned (.bool (meansB f y l2.toNat y.c fn)) ∧ Below w'.heap.size w' w'') := fun hb w' h => means_any f y _ _ fn w' m2 h.consts (fun e => by
    rw [n2 e] at hb
    have hb : withinB y.b f.regs = true := hb
    unfold withinB at hb
    simp at hb
    exact ⟨h1, h2, hb.1, hb.2⟩)
  have hx0 : ∀ w, (Instr.index 9 (.string (bs [l0, l1, l2])) (.int .i64 0)).run Tryd.prog w = .ok (.int .u8 l0.toNat) w := fun w => idx_str _ 0 l0 w rfl
  have hx1 : ∀ w, (Instr.index 9 (.string (bs [l0, l1, l2])) (.int .i64 1)).run Tryd.prog w = .ok (.int .u8 l1.toNat) w := fun w => idx_str _ 1 l1 w rfl
  have hx2 : ∀ w, (Instr.index 9 (.string (bs [l0, l1, l2])) (.int .i64 2)).run Tryd.prog w = .ok (.int .u8 l2.toNat) w := fun w => idx_str _ 2 l2 w rfl
  have hz0 : ∀ w, (Instr.index 72 (.agg #[.int .i64 y.a, .int .i64 y.b, .int .i64 y.c]) (.int .i64 0)).run Tryd.prog w = .ok (.int .i64 y.a) w := fun w => idx72 _ _ _ 0 _ w rfl (by omega)
  have hz1 : ∀ w, (Instr.index 72 (.agg #[.int .i64 y.a, .int .i64 y.b, .int .i64 y.c]) (.int .i64 1)).run Tryd.prog w = .ok (.int .i64 y.b) w := fun w => idx72 _ _ _ 1 _ w rfl (by omega)
  have hz2 : ∀ w, (Instr.index 72 (.agg #[.int .i64 y.a, .int .i64 y.b, .int .i64 y.c]) (.int .i64 2)).run Tryd.prog w = .ok (.int .i64 y.c) w := fun w => idx72 _ _ _ 2 _ w rfl (by omega)
  have hne : (bs [l0, l1, l2]).toList.isEmpty = false := by rw [bs_toList]; rfl
  have hne2 : (Value.string (bs [l0, l1, l2])) ≠ .string ⟨#[]⟩ := by
    intro e
    have := congrArg (fun v => match v with | Value.string s => s.size | _ => 0) e
    simp [bs, ByteArray.size] at this
  clear m0 m1 m2 n0 n1 n2 hf hf1 B1 h1 h2
  generalize meansB f y l0.toNat y.a fn = M0 at *
  generalize meansB f y l1.toNat y.b fn = M1 at *
  generalize meansB f y l2.toNat y.c fn = M2 at *
  generalize (l0.toNat : Int) = L0 at *
  generalize (l1.toNat : Int) = L1 at *
  generalize (l2.toNat : Int) = L2 at *
  generalize bs [l0, l1, l2] = s at *
  generalize hMM : (M0 && M1 && M2) = MM
  have HMM : Hid (MM = (M0 && M1 && M2)) := hMM.symm
  clear hMM
  obtain ⟨nm, pa, re, ge, ⟨ca, c1, cx⟩, ⟨ka, kc, kx⟩, ⟨pa', pc, px⟩, ⟨ha, hc, hx⟩⟩ := f
  obtain ⟨op, ia, ib, ic⟩ := y
  unfold fnB at *
  unfold fnV insV at *
  unfold Sli.val at *
  simp only at *
  go_enter Tryd.func34, Tryd.ntmps34
  go_wp2_with fail
  refine cs.mono ?_
  rintro e w' ⟨rfl, rfl⟩
  go_wp2_with fail
  generalize (w.alloc (.cells #[.string nm, .int .i64 pa, .int .i64 re, .bool ge, .slice ca cx.length c1, .slice ka kx.length kc, .slice pa' px.length pc, .slice ha hx.length hc] 36)).alloc (.cells #[.int .i64 op, .int .i64 ia, .int .i64 ib, .int .i64 ic] 43) = w1 at *
  go_loopw [22] (fun i wr => ∃ k : Int, ((0 ≤ k ∧ k ≤ 3) ∧ Below w1.heap.size w1 wr ∧ (0 < k → M0 = true) ∧ (1 < k → M1 = true) ∧ (2 < k → M2 = true)) ∧ i = .int .i64 k) (fun i wr => 3 - (intOf i).toNat)
  case atStart => exact ⟨0, ⟨⟨by omega, by omega⟩, HR.out, fun h => absurd h (by omega), fun h => absurd h (by omega), fun h => absurd h (by omega)⟩, rfl⟩
  case round =>
    obtain ⟨k, ⟨kle, hB, b0, b1, b2⟩, rfl⟩ := hrel
    have HB : Hid (Below w1.heap.size w1 wr) := hB
    have HK : Hid ((0 < k → M0 = true) ∧ (1 < k → M1 = true) ∧ (2 < k → M2 = true)) := ⟨b0, b1, b2⟩
    obtain ⟨hok, hfc, hic⟩ := HF.out wr hB
    have q0 := hfc 0 _ rfl
    have q1 := hfc 1 _ rfl
    have q2 := hfc 2 _ rfl
    have q3 := hfc 3 _ rfl
    have q4 := hfc 4 _ rfl
    have q5 := hfc 5 _ rfl
    have q6 := hfc 6 _ rfl
    have q7 := hfc 7 _ rfl
    have i0 := hic 0 _ rfl
    have i1 := hic 1 _ rfl
    have i2 := hic 2 _ rfl
    have i3 := hic 3 _ rfl
    have HW : Hid (Fn.ok wr ⟨nm, pa, re, ge, ⟨ca, c1, cx⟩, ⟨ka, kc, kx⟩, ⟨pa', pc, px⟩, ⟨ha, hc, hx⟩⟩) := hok
    clear hok hfc hic hB b0 b1 b2
    unfold Sli.val at *
    simp only at *
    have hk : k = 0 ∨ k = 1 ∨ k = 2 ∨ k = 3 := by omega
    rcases hk with rfl | rfl | rfl | rfl
    · have cm : ∀ w', w' = wr.drew → Calls Tryd.prog 39 #[.agg #[.string nm, .int .i64 pa, .int .i64 re, .bool ge, .slice ca cx.length c1, .slice ka kx.length kc, .slice pa' px.length pc, .slice ha hx.length hc], .agg #[.int .i64 op, .int .i64 ia, .int .i64 ib, .int .i64 ic], .int .u8 L0, .int .i64 ia, .int .i64 fn] w' fun e w'' => e = .returned (.bool M0) ∧ Below wr.heap.size wr w'' ∧ ∀ a u, wr.cell? a = some u → w''.cell? a = some u := by
        intro w' e
        subst e
        refine (HM0.out wr.drew (HW.out.kept (fun a u h => h))).mono ?_
        rintro e w'' ⟨rfl, hb⟩
        have hb' : Below wr.heap.size wr w'' := (Below.refl wr.heap.size wr).drew.trans hb
        exact ⟨rfl, hb', cells_below hb'⟩
      have HN : Hid (M0 = true → ((0 : Int) < 0 + 1 → M0 = true) ∧ ((1 : Int) < 0 + 1 → M1 = true) ∧ ((2 : Int) < 0 + 1 → M2 = true)) := fun h => ⟨fun _ => h, fun e => absurd e (by omega), fun e => absurd e (by omega)⟩
      have HX : Hid (M0 = false → MM = false) := fun h => by rw [HMM.out]; simp [h]
      cases M0 with
      | true =>
        go_wp2_with fail
        go_region_held_law (fun w' => w'.cell? ⟨w.heap.size, 0, none⟩ = some (.string nm) ∧ w'.cell? ⟨w.heap.size, 1, none⟩ = some (.int .i64 pa) ∧ w'.cell? ⟨w.heap.size, 2, none⟩ = some (.int .i64 re) ∧ w'.cell? ⟨w.heap.size, 3, none⟩ = some (.bool ge) ∧ w'.cell? ⟨w.heap.size, 4, none⟩ = some (.slice ca cx.length c1) ∧ w'.cell? ⟨w.heap.size, 5, none⟩ = some (.slice ka kx.length kc) ∧ w'.cell? ⟨w.heap.size, 6, none⟩ = some (.slice pa' px.length pc) ∧ w'.cell? ⟨w.heap.size, 7, none⟩ = some (.slice ha hx.length hc) ∧ w'.cell? ⟨w.heap.size + 1, 0, none⟩ = some (.int .i64 op) ∧ w'.cell? ⟨w.heap.size + 1, 1, none⟩ = some (.int .i64 ia) ∧ w'.cell? ⟨w.heap.size + 1, 2, none⟩ = some (.int .i64 ib) ∧ w'.cell? ⟨w.heap.size + 1, 3, none⟩ = some (.int .i64 ic)) (first | go_keep) ((go_at_call 39; refine (cm _ rfl).mono ?_; rintro e w5 ⟨rfl, hb5, hk5⟩))
        all_goals
          have HB5 : Hid (Below w1.heap.size w1 w5) := HB.out.trans (hb5.mono HB.out.size)
          clear hb5 hk5 q0 q1 q2 q3 q4 q5 q6 q7 i0 i1 i2 i3
          go_wp2_with fail
          refine ⟨⟨0 + 1, ⟨⟨by omega, by omega⟩, HB5.out, HN.out (by first | rfl | trivial)⟩, by go_num⟩, ?_⟩
          simp [intOf]
      | false =>
        go_wp2_with fail
        go_region_held_law (fun w' => w'.cell? ⟨w.heap.size, 0, none⟩ = some (.string nm) ∧ w'.cell? ⟨w.heap.size, 1, none⟩ = some (.int .i64 pa) ∧ w'.cell? ⟨w.heap.size, 2, none⟩ = some (.int .i64 re) ∧ w'.cell? ⟨w.heap.size, 3, none⟩ = some (.bool ge) ∧ w'.cell? ⟨w.heap.size, 4, none⟩ = some (.slice ca cx.length c1) ∧ w'.cell? ⟨w.heap.size, 5, none⟩ = some (.slice ka kx.length kc) ∧ w'.cell? ⟨w.heap.size, 6, none⟩ = some (.slice pa' px.length pc) ∧ w'.cell? ⟨w.heap.size, 7, none⟩ = some (.slice ha hx.length hc) ∧ w'.cell? ⟨w.heap.size + 1, 0, none⟩ = some (.int .i64 op) ∧ w'.cell? ⟨w.heap.size + 1, 1, none⟩ = some (.int .i64 ia) ∧ w'.cell? ⟨w.heap.size + 1, 2, none⟩ = some (.int .i64 ib) ∧ w'.cell? ⟨w.heap.size + 1, 3, none⟩ = some (.int .i64 ic)) (first | go_keep) ((go_at_call 39; refine (cm _ rfl).mono ?_; rintro e w5 ⟨rfl, hb5, hk5⟩))
        all_goals
          have HB5 : Hid (Below w1.heap.size w1 w5) := HB.out.trans (hb5.mono HB.out.size)
          clear hb5 hk5 q0 q1 q2 q3 q4 q5 q6 q7 i0 i1 i2 i3
          go_wp2_with fail
          go_ret
          rw [HX.out (by first | rfl | trivial)]
          exact ⟨rfl, HD.out _ HB5.out⟩
    · have cm : ∀ w', w' = wr.drew → Calls Tryd.prog 39 #[.agg #[.string nm, .int .i64 pa, .int .i64 re, .bool ge, .slice ca cx.length c1, .slice ka kx.length kc, .slice pa' px.length pc, .slice ha hx.length hc], .agg #[.int .i64 op, .int .i64 ia, .int .i64 ib, .int .i64 ic], .int .u8 L1, .int .i64 ib, .int .i64 fn] w' fun e w'' => e = .returned (.bool M1) ∧ Below wr.heap.size wr w'' ∧ ∀ a u, wr.cell? a = some u → w''.cell? a = some u := by
        intro w' e
        subst e
        refine (HM1.out wr.drew (HW.out.kept (fun a u h => h))).mono ?_
        rintro e w'' ⟨rfl, hb⟩
        have hb' : Below wr.heap.size wr w'' := (Below.refl wr.heap.size wr).drew.trans hb
        exact ⟨rfl, hb', cells_below hb'⟩
      have HN : Hid (M1 = true → ((0 : Int) < 1 + 1 → M0 = true) ∧ ((1 : Int) < 1 + 1 → M1 = true) ∧ ((2 : Int) < 1 + 1 → M2 = true)) := fun h => ⟨fun _ => HK.out.1 (by omega), fun _ => h, fun e => absurd e (by omega)⟩
      have HX : Hid (M1 = false → MM = false) := fun h => by rw [HMM.out]; simp [h]
      cases M1 with
      | true =>
        go_wp2_with fail
        go_region_held_law (fun w' => w'.cell? ⟨w.heap.size, 0, none⟩ = some (.string nm) ∧ w'.cell? ⟨w.heap.size, 1, none⟩ = some (.int .i64 pa) ∧ w'.cell? ⟨w.heap.size, 2, none⟩ = some (.int .i64 re) ∧ w'.cell? ⟨w.heap.size, 3, none⟩ = some (.bool ge) ∧ w'.cell? ⟨w.heap.size, 4, none⟩ = some (.slice ca cx.length c1) ∧ w'.cell? ⟨w.heap.size, 5, none⟩ = some (.slice ka kx.length kc) ∧ w'.cell? ⟨w.heap.size, 6, none⟩ = some (.slice pa' px.length pc) ∧ w'.cell? ⟨w.heap.size, 7, none⟩ = some (.slice ha hx.length hc) ∧ w'.cell? ⟨w.heap.size + 1, 0, none⟩ = some (.int .i64 op) ∧ w'.cell? ⟨w.heap.size + 1, 1, none⟩ = some (.int .i64 ia) ∧ w'.cell? ⟨w.heap.size + 1, 2, none⟩ = some (.int .i64 ib) ∧ w'.cell? ⟨w.heap.size + 1, 3, none⟩ = some (.int .i64 ic)) (first | go_keep) ((go_at_call 39; refine (cm _ rfl).mono ?_; rintro e w5 ⟨rfl, hb5, hk5⟩))
        all_goals
          have HB5 : Hid (Below w1.heap.size w1 w5) := HB.out.trans (hb5.mono HB.out.size)
          clear hb5 hk5 q0 q1 q2 q3 q4 q5 q6 q7 i0 i1 i2 i3
          go_wp2_with fail
          refine ⟨⟨1 + 1, ⟨⟨by omega, by omega⟩, HB5.out, HN.out (by first | rfl | trivial)⟩, by go_num⟩, ?_⟩
          simp [intOf]
      | false =>
        go_wp2_with fail
        go_region_held_law (fun w' => w'.cell? ⟨w.heap.size, 0, none⟩ = some (.string nm) ∧ w'.cell? ⟨w.heap.size, 1, none⟩ = some (.int .i64 pa) ∧ w'.cell? ⟨w.heap.size, 2, none⟩ = some (.int .i64 re) ∧ w'.cell? ⟨w.heap.size, 3, none⟩ = some (.bool ge) ∧ w'.cell? ⟨w.heap.size, 4, none⟩ = some (.slice ca cx.length c1) ∧ w'.cell? ⟨w.heap.size, 5, none⟩ = some (.slice ka kx.length kc) ∧ w'.cell? ⟨w.heap.size, 6, none⟩ = some (.slice pa' px.length pc) ∧ w'.cell? ⟨w.heap.size, 7, none⟩ = some (.slice ha hx.length hc) ∧ w'.cell? ⟨w.heap.size + 1, 0, none⟩ = some (.int .i64 op) ∧ w'.cell? ⟨w.heap.size + 1, 1, none⟩ = some (.int .i64 ia) ∧ w'.cell? ⟨w.heap.size + 1, 2, none⟩ = some (.int .i64 ib) ∧ w'.cell? ⟨w.heap.size + 1, 3, none⟩ = some (.int .i64 ic)) (first | go_keep) ((go_at_call 39; refine (cm _ rfl).mono ?_; rintro e w5 ⟨rfl, hb5, hk5⟩))
        all_goals
          have HB5 : Hid (Below w1.heap.size w1 w5) := HB.out.trans (hb5.mono HB.out.size)
          clear hb5 hk5 q0 q1 q2 q3 q4 q5 q6 q7 i0 i1 i2 i3
          go_wp2_with fail
          go_ret
          rw [HX.out (by first | rfl | trivial)]
          exact ⟨rfl, HD.out _ HB5.out⟩
    · have cm : ∀ w', w' = wr.drew → Calls Tryd.prog 39 #[.agg #[.string nm, .int .i64 pa, .int .i64 re, .bool ge, .slice ca cx.length c1, .slice ka kx.length kc, .slice pa' px.length pc, .slice ha hx.length hc], .agg #[.int .i64 op, .int .i64 ia, .int .i64 ib, .int .i64 ic], .int .u8 L2, .int .i64 ic, .int .i64 fn] w' fun e w'' => e = .returned (.bool M2) ∧ Below wr.heap.size wr w'' ∧ ∀ a u, wr.cell? a = some u → w''.cell? a = some u := by
        intro w' e
        subst e
        refine (HM2.out (HK.out.2.1 (by omega)) wr.drew (HW.out.kept (fun a u h => h))).mono ?_
        rintro e w'' ⟨rfl, hb⟩
        have hb' : Below wr.heap.size wr w'' := (Below.refl wr.heap.size wr).drew.trans hb
        exact ⟨rfl, hb', cells_below hb'⟩
      have HN : Hid (M2 = true → ((0 : Int) < 2 + 1 → M0 = true) ∧ ((1 : Int) < 2 + 1 → M1 = true) ∧ ((2 : Int) < 2 + 1 → M2 = true)) := fun h => ⟨fun _ => HK.out.1 (by omega), fun _ => HK.out.2.1 (by omega), fun _ => h⟩
      have HX : Hid (M2 = false → MM = false) := fun h => by rw [HMM.out]; simp [h]
      cases M2 with
      | true =>
        go_wp2_with fail
        go_region_held_law (fun w' => w'.cell? ⟨w.heap.size, 0, none⟩ = some (.string nm) ∧ w'.cell? ⟨w.heap.size, 1, none⟩ = some (.int .i64 pa) ∧ w'.cell? ⟨w.heap.size, 2, none⟩ = some (.int .i64 re) ∧ w'.cell? ⟨w.heap.size, 3, none⟩ = some (.bool ge) ∧ w'.cell? ⟨w.heap.size, 4, none⟩ = some (.slice ca cx.length c1) ∧ w'.cell? ⟨w.heap.size, 5, none⟩ = some (.slice ka kx.length kc) ∧ w'.cell? ⟨w.heap.size, 6, none⟩ = some (.slice pa' px.length pc) ∧ w'.cell? ⟨w.heap.size, 7, none⟩ = some (.slice ha hx.length hc) ∧ w'.cell? ⟨w.heap.size + 1, 0, none⟩ = some (.int .i64 op) ∧ w'.cell? ⟨w.heap.size + 1, 1, none⟩ = some (.int .i64 ia) ∧ w'.cell? ⟨w.heap.size + 1, 2, none⟩ = some (.int .i64 ib) ∧ w'.cell? ⟨w.heap.size + 1, 3, none⟩ = some (.int .i64 ic)) (first | go_keep) ((go_at_call 39; refine (cm _ rfl).mono ?_; rintro e w5 ⟨rfl, hb5, hk5⟩))
        all_goals
          have HB5 : Hid (Below w1.heap.size w1 w5) := HB.out.trans (hb5.mono HB.out.size)
          clear hb5 hk5 q0 q1 q2 q3 q4 q5 q6 q7 i0 i1 i2 i3
          go_wp2_with fail
          refine ⟨⟨2 + 1, ⟨⟨by omega, by omega⟩, HB5.out, HN.out (by first | rfl | trivial)⟩, by go_num⟩, ?_⟩
          simp [intOf]
      | false =>
        go_wp2_with fail
        go_region_held_law (fun w' => w'.cell? ⟨w.heap.size, 0, none⟩ = some (.string nm) ∧ w'.cell? ⟨w.heap.size, 1, none⟩ = some (.int .i64 pa) ∧ w'.cell? ⟨w.heap.size, 2, none⟩ = some (.int .i64 re) ∧ w'.cell? ⟨w.heap.size, 3, none⟩ = some (.bool ge) ∧ w'.cell? ⟨w.heap.size, 4, none⟩ = some (.slice ca cx.length c1) ∧ w'.cell? ⟨w.heap.size, 5, none⟩ = some (.slice ka kx.length kc) ∧ w'.cell? ⟨w.heap.size, 6, none⟩ = some (.slice pa' px.length pc) ∧ w'.cell? ⟨w.heap.size, 7, none⟩ = some (.slice ha hx.length hc) ∧ w'.cell? ⟨w.heap.size + 1, 0, none⟩ = some (.int .i64 op) ∧ w'.cell? ⟨w.heap.size + 1, 1, none⟩ = some (.int .i64 ia) ∧ w'.cell? ⟨w.heap.size + 1, 2, none⟩ = some (.int .i64 ib) ∧ w'.cell? ⟨w.heap.size + 1, 3, none⟩ = some (.int .i64 ic)) (first | go_keep) ((go_at_call 39; refine (cm _ rfl).mono ?_; rintro e w5 ⟨rfl, hb5, hk5⟩))
        all_goals
          have HB5 : Hid (Below w1.heap.size w1 w5) := HB.out.trans (hb5.mono HB.out.size)
          clear hb5 hk5 q0 q1 q2 q3 q4 q5 q6 q7 i0 i1 i2 i3
          go_wp2_with fail
          go_ret
          rw [HX.out (by first | rfl | trivial)]
          exact ⟨rfl, HD.out _ HB5.out⟩
    · have HE : Hid (MM = true) := by
        show _ = _
        rw [HMM.out, HK.out.1 (by omega), HK.out.2.1 (by omega), HK.out.2.2 (by omega)]
        rfl
      go_wp2_with fail
      go_ret
      rw [HE.out]
      exact ⟨rfl, HD.out _ HB.out⟩

theorem fits_any (f : Fn) (y : Ins) (fn : Int) (w : World) (hf : f.ok w) (hS : ShAt w) (h1 : 0 ≤ f.regs) (h2 : f.regs ≤ 400) :
    Calls Tryd.prog 34 #[fnV f, insV y, .int .i64 fn] w fun e w' => e = .returned (.bool (fitsB f y fn)) ∧ Below w.heap.size w w' := by
  rcases shape_cases y.op with h | ⟨a, b, c, h, m0, m1, m2, n0, n1, n2⟩
  · have e : fitsB f y fn = false := by unfold fitsB; rw [h]
    rw [e]
    exact fits_none f y fn w hS h
  · have e : fitsB f y fn = (meansB f y a.toNat y.a fn && meansB f y b.toNat y.b fn && meansB f y c.toNat y.c fn) := by unfold fitsB; rw [h]
    rw [e]
    exact fits_some f y fn w hf hS h1 h2 a b c h m0 m1 m2 n0 n1 n2

end Go.Proofs.YtkoamenfbnpdbaaDoor.Cd
