/- CodeCut: the law's walk. -/
import Derived.Test.YtkoamenfbnpdbaaDoorCY
import Derived.Test.YtkoamenfbnpdbaaDoorCR
namespace Go.Proofs.YtkoamenfbnpdbaaDoor.Cd
open Go.RowKit
set_option linter.unusedVariables false

/-- a slice of one function, in a block of its own -/
theorem one_fns (f : Fn) (w : World) (g cap : Nat) (hg : w.heap[g]? = some (.cells #[.string f.name, .int .i64 f.params, .int .i64 f.regs, .bool f.gen, f.code.val, f.consts.val, f.caps.val, f.hnds.val] 36 (0, 0))) (hf : f.ok w) (hc : 1 ≤ cap) (hm : cap ≤ maxLen) : FnsOk w ⟨some ⟨g, 0, none⟩, cap, [f]⟩ := by
  constructor
  · refine ⟨hc, hm, fun _ => ⟨g, 0, rfl, ?_⟩⟩
    intro i y hi j u hj
    cases i with
    | zero =>
      simp at hi
      subst hi
      rw [cell_of_row w g _ _ 36 (0, 0) hg]
      simp only [Nat.zero_mul, Nat.zero_add]
      have hj' : ([.string f.name, .int .i64 f.params, .int .i64 f.regs, .bool f.gen, f.code.val, f.consts.val, f.caps.val, f.hnds.val] : List Value)[j]? = some u := hj
      rw [← hj']
      exact List.getElem?_toArray
    | succ i => simp at hi
  · intro y hy
    simp at hy
    subst hy
    exact hf

theorem cut_ok (f : Fn) (k : Nat) (w : World) (hf : f.ok w) : (cutF f k).ok w := by
  refine ⟨⟨?_, hf.code.cap, ?_⟩, hf.consts, hf.caps, hf.hnds⟩
  · show (f.code.xs.take k).length ≤ f.code.cap
    have := hf.code.len
    rw [List.length_take]
    omega
  · intro h0
    have h0' : f.code.xs.take k ≠ [] := h0
    obtain ⟨b, off, h1, h2⟩ := hf.code.cells (fun e => h0' (by rw [e]; simp))
    refine ⟨b, off, h1, ?_⟩
    intro i y hi j u hj
    have hi' : (f.code.xs.take k)[i]? = some y := hi
    rw [List.getElem?_take] at hi'
    split at hi'
    · exact h2 i y hi' j u hj
    · cases hi'

set_option maxRecDepth 100000 in
set_option maxHeartbeats 64000000 in
theorem cut_walk (f : Fn) (x : Int) (w : World) (hS : ShAt w) (hf : f.ok w) (hlen : (f.code.xs.length + f.hnds.xs.length + 1) * 8 ≤ 140737488355328) :
    Calls Tryd.prog 8 #[fnV f, .int .i64 x] w fun e w' => e = .returned (.bool true) ∧ Below w.heap.size w w' := by
  have B1 := below_new (Below.refl w.heap.size w) (Nat.le_refl _) (fnB f)
  have B2 := below_new B1 B1.size (fnB f)
  have B3 := below_new B2 B2.size (.cells #[.slice (some ⟨w.heap.size + 1, 0, none⟩) 1 1] 24)
  have s2 : ((w.alloc (fnB f)).alloc (fnB f)).heap.size = w.heap.size + 2 := by rw [size_new, size_new]
  have hf3 := hf.kept (cells_below B3)
  have hS3 := hS.below B3
  have r1 : (((w.alloc (fnB f)).alloc (fnB f)).alloc (.cells #[.slice (some ⟨w.heap.size + 1, 0, none⟩) 1 1] 24)).heap[w.heap.size + 1]? = some (.cells #[.string f.name, .int .i64 f.params, .int .i64 f.regs, .bool f.gen, f.code.val, f.consts.val, f.caps.val, f.hnds.val] 36 (0, 0)) := by
    show (((w.heap.push _).push _).push _)[w.heap.size + 1]? = _
    rw [Array.getElem?_push_lt (by simp), Array.getElem_push]
    simp [fnB]
  have ok3 := one_fns f _ (w.heap.size + 1) 1 r1 hf3 (Nat.le_refl _) (by unfold maxLen; omega)
  have kc := check_any ⟨some ⟨w.heap.size + 1, 0, none⟩, 1, [f]⟩ _ ok3 hS3
  have m0 : (((w.alloc (fnB f)).alloc (fnB f)).alloc (.cells #[.slice (some ⟨w.heap.size + 1, 0, none⟩) 1 1] 24)).cell? ⟨w.heap.size + 2, 0, none⟩ = some (.slice (some ⟨w.heap.size + 1, 0, none⟩) 1 1) := by
    have := progB_cell (.slice (some ⟨w.heap.size + 1, 0, none⟩) 1 1) ((w.alloc (fnB f)).alloc (fnB f))
    rw [s2] at this
    exact this
  have HF : Hid (∀ w', Below (((w.alloc (fnB f)).alloc (fnB f)).alloc (.cells #[.slice (some ⟨w.heap.size + 1, 0, none⟩) 1 1] 24)).heap.size (((w.alloc (fnB f)).alloc (fnB f)).alloc (.cells #[.slice (some ⟨w.heap.size + 1, 0, none⟩) 1 1] 24)) w' → f.ok w' ∧ ShAt w' ∧ Below w.heap.size w w' ∧ ∀ j u, (fnC f)[j]? = some u → w'.cell? ⟨w.heap.size, j, none⟩ = some u) := by
    intro w' h
    refine ⟨hf3.kept (cells_below h), hS3.below h, B3.trans (h.mono B3.size), fun j u hj => cells_below h _ _ ?_⟩
    exact cells_below (below_new (Below.refl _ _) (Nat.le_refl _) _) _ _ (cells_below (below_new (Below.refl _ _) (Nat.le_refl _) _) _ _ (fnB_cell f w j u hj))
  have HA : Hid (∀ w', Below (((w.alloc (fnB f)).alloc (fnB f)).alloc (.cells #[.slice (some ⟨w.heap.size + 1, 0, none⟩) 1 1] 24)).heap.size (((w.alloc (fnB f)).alloc (fnB f)).alloc (.cells #[.slice (some ⟨w.heap.size + 1, 0, none⟩) 1 1] 24)) w' → Calls Tryd.prog 9 #[] w' fun e w'' => e = .returned (.bool true) ∧ Below w'.heap.size w' w'') := fun w' h => alive_any w' (HF.out w' h).2.1
  have hml : f.code.xs.length ≤ maxLen := Nat.le_trans hf.code.len hf.code.cap
  have hmc : f.code.xs.length ≤ f.code.cap := hf.code.len
  have hmh : f.hnds.xs.length ≤ maxLen := Nat.le_trans hf.hnds.len hf.hnds.cap
  unfold maxLen at hml hmh
  have HLN : Hid ((f.code.xs.length + f.hnds.xs.length + 1) * 8 ≤ 140737488355328) := hlen
  clear hf hf3 hS hS3 ok3 r1 s2 B1 B2 B3 m0 hlen
  have kc1 : checkI ([f] : List Fn) = checkI [f] := rfl
  simp only at kc
  unfold Sli.val at kc
  simp only [List.length_cons, List.length_nil, Nat.zero_add] at kc
  by_cases hgo : checkB [f] = true ∧ 1 ≤ x ∧ x ≤ (f.code.xs.length : Int)
  case neg =>
    have HN : Hid (¬ (checkB [f] = true ∧ 1 ≤ x ∧ x ≤ (f.code.xs.length : Int))) := hgo
    clear hgo
    rcases check_cases [f] with ⟨hcb, hci⟩ | ⟨hcb, hci⟩
    · rw [hci] at kc
      have hx : x < 1 ∨ (f.code.xs.length : Int) < x := by
        rcases Int.lt_or_le x 1 with h | h
        · exact Or.inl h
        · rcases Int.lt_or_le (f.code.xs.length : Int) x with h2 | h2
          · exact Or.inr h2
          · exact absurd ⟨hcb, h, h2⟩ HN.out
      clear HN hcb hci HLN
      have HM : Hid (∀ w', Below (((w.alloc (fnB f)).alloc (fnB f)).alloc (.cells #[.slice (some ⟨w.heap.size + 1, 0, none⟩) 1 1] 24)).heap.size (((w.alloc (fnB f)).alloc (fnB f)).alloc (.cells #[.slice (some ⟨w.heap.size + 1, 0, none⟩) 1 1] 24)) w' → w'.cell? ⟨w.heap.size, 4, none⟩ = some f.code.val ∧ Below w.heap.size w w') := fun w' h => ⟨(HF.out w' h).2.2.2 4 _ rfl, (HF.out w' h).2.2.1⟩
      clear HF
      obtain ⟨nm, pa, re, ge, ⟨ca, c1, cx⟩, ⟨ka, kc', kx⟩, ⟨pa', pc, px⟩, ⟨ha, hc, hx'⟩⟩ := f
      unfold fnB at *
      unfold fnV at *
      unfold Sli.val at *
      simp only at *
      by_cases h1 : x < 1
      · go_enter Tryd.func8, Tryd.ntmps8
        go_wp2_with fail
        refine kc.mono ?_
        rintro e w4 ⟨rfl, hb4⟩
        obtain ⟨m4, _⟩ := HM.out w4 hb4
        have ka := HA.out w4 hb4
        have HB4 : Hid (Below w.heap.size w w4) := (HM.out w4 hb4).2
        clear kc hb4
        go_wp2_with fail
        refine ka.mono ?_
        rintro e w5 ⟨rfl, hb5⟩
        have HB5 : Hid (Below w.heap.size w w5) := HB4.out.trans (hb5.mono HB4.out.size)
        clear ka hb5 m4
        go_wp2_with fail
        go_ret
        exact ⟨rfl, HB5.out⟩
      · have h2 : (cx.length : Int) < x := by omega
        clear hx
        go_enter Tryd.func8, Tryd.ntmps8
        go_wp2_with fail
        refine kc.mono ?_
        rintro e w4 ⟨rfl, hb4⟩
        obtain ⟨m4, _⟩ := HM.out w4 hb4
        have ka := HA.out w4 hb4
        have HB4 : Hid (Below w.heap.size w w4) := (HM.out w4 hb4).2
        clear kc hb4
        go_wp2_with fail
        refine ka.mono ?_
        rintro e w5 ⟨rfl, hb5⟩
        have HB5 : Hid (Below w.heap.size w w5) := HB4.out.trans (hb5.mono HB4.out.size)
        clear ka hb5 m4
        go_wp2_with fail
        go_ret
        exact ⟨rfl, HB5.out⟩
    · rw [hci] at kc
      clear HN hcb hci HLN
      have HM : Hid (∀ w', Below (((w.alloc (fnB f)).alloc (fnB f)).alloc (.cells #[.slice (some ⟨w.heap.size + 1, 0, none⟩) 1 1] 24)).heap.size (((w.alloc (fnB f)).alloc (fnB f)).alloc (.cells #[.slice (some ⟨w.heap.size + 1, 0, none⟩) 1 1] 24)) w' → w'.cell? ⟨w.heap.size, 4, none⟩ = some f.code.val ∧ Below w.heap.size w w') := fun w' h => ⟨(HF.out w' h).2.2.2 4 _ rfl, (HF.out w' h).2.2.1⟩
      clear HF
      obtain ⟨nm, pa, re, ge, ⟨ca, c1, cx⟩, ⟨ka, kc', kx⟩, ⟨pa', pc, px⟩, ⟨ha, hc, hx'⟩⟩ := f
      unfold fnB at *
      unfold fnV at *
      unfold Sli.val at *
      simp only at *
      go_enter Tryd.func8, Tryd.ntmps8
      go_wp2_with fail
      refine kc.mono ?_
      rintro e w4 ⟨rfl, hb4⟩
      obtain ⟨m4, _⟩ := HM.out w4 hb4
      have ka := HA.out w4 hb4
      have HB4 : Hid (Below w.heap.size w w4) := (HM.out w4 hb4).2
      clear kc hb4
      go_wp2_with fail
      refine ka.mono ?_
      rintro e w5 ⟨rfl, hb5⟩
      have HB5 : Hid (Below w.heap.size w w5) := HB4.out.trans (hb5.mono HB4.out.size)
      clear ka hb5 m4
      go_wp2_with fail
      go_ret
      exact ⟨rfl, HB5.out⟩
  obtain ⟨hcb, hx1, hx2⟩ := hgo
  obtain ⟨k, rfl⟩ : ∃ k : Nat, x = (k : Int) := ⟨x.toNat, by omega⟩
  have hk0 : 1 ≤ k := by omega
  have hk : k ≤ f.code.xs.length := by omega
  have hex : ∃ y, f.code.xs[k - 1]? = some y := ⟨_, List.getElem?_eq_getElem (by omega)⟩
  obtain ⟨y, hy⟩ := hex
  have HCC : Hid (checkB [cutF f k] = ((!goesB y.op && (risen (startL (cutF f k))).all (fun n => decide (n < (k : Int)))) && f.hnds.xs.all (fun h => decide (h.to ≤ (k : Int))))) := cut_check f k y hcb hk0 hk hy
  have hci : checkI [f] = 0 := by
    rcases check_cases [f] with ⟨_, h⟩ | ⟨h, _⟩
    · exact h
    · rw [hcb] at h; cases h
  rw [hci] at kc
  have HST : Hid (∀ w', f.ok w' → Calls Tryd.prog 17 #[fnV (cutF f k)] w' fun e w'' => ∃ v, e = .returned v ∧ OwnI w'.heap.size w'' v (risen (startL (cutF f k))) ∧ Below w'.heap.size w' w'') := fun w' h => starts_any (cutF f k) w' (cut_ok f k w' h) (by
    have h1 := HLN.out
    have h2 : (cutF f k).code.xs.length ≤ f.code.xs.length := by
      show (f.code.xs.take k).length ≤ _
      rw [List.length_take]
      omega
    have h3 : (cutF f k).hnds.xs.length = f.hnds.xs.length := rfl
    omega)
  have HSL : Hid ((risen (startL (cutF f k))).length ≤ 17592186044416) := by
    have h0 := risen_length (startL (cutF f k))
    have h1 := HLN.out
    have h2 : (startL (cutF f k)).length ≤ f.code.xs.length + f.hnds.xs.length := by
      unfold startL tgL
      rw [List.length_append, List.length_map]
      have h3 := jumpsL_len (cutF f k).code.xs
      have h4 : (cutF f k).code.xs.length ≤ f.code.xs.length := by
        show (f.code.xs.take k).length ≤ _
        rw [List.length_take]
        omega
      have h5 : (cutF f k).hnds.xs.length = f.hnds.xs.length := rfl
      omega
    show _ ≤ _
    omega
  have HCK : Hid (∀ w', f.ok w' → ShAt w' → Calls Tryd.prog 10 #[.agg #[.slice (some ⟨w'.heap.size, 0, none⟩) 1 1]] (w'.alloc (fnB (cutF f k))) fun e w'' => e = .returned (.int .i64 (checkI [cutF f k])) ∧ Below w'.heap.size w' w'') := by
    intro w' h1 h2
    have b1 := below_new (Below.refl w'.heap.size w') (Nat.le_refl _) (fnB (cutF f k))
    have okk := one_fns (cutF f k) (w'.alloc (fnB (cutF f k))) w'.heap.size 1 (by show (w'.heap.push _)[w'.heap.size]? = _; rw [Array.getElem?_push_size]; rfl) (cut_ok f k _ (h1.kept (cells_below b1))) (Nat.le_refl _) (by unfold maxLen; omega)
    have kk := check_any ⟨some ⟨w'.heap.size, 0, none⟩, 1, [cutF f k]⟩ _ okk (h2.below b1)
    exact kk.mono fun e w'' h => ⟨h.1, b1.trans (h.2.mono b1.size)⟩
  have ke := ends_any y.op
  obtain ⟨b, off, had, hcell⟩ := (HF.out _ (Below.refl _ _)).1.code.cells (by intro e; rw [e] at hy; simp at hy)
  have HY : Hid (∀ w', Below (((w.alloc (fnB f)).alloc (fnB f)).alloc (.cells #[.slice (some ⟨w.heap.size + 1, 0, none⟩) 1 1] 24)).heap.size (((w.alloc (fnB f)).alloc (fnB f)).alloc (.cells #[.slice (some ⟨w.heap.size + 1, 0, none⟩) 1 1] 24)) w' → w'.cell? ⟨b, off + (k - 1) * 4, none⟩ = some (.int .i64 y.op)) := by
    intro w' h
    have h1 := hcell (k - 1) y hy 0 _ rfl
    rw [Nat.add_zero] at h1
    exact cells_below h _ _ h1
  have HG : Hid (∀ w4 w', Below (((w.alloc (fnB f)).alloc (fnB f)).alloc (.cells #[.slice (some ⟨w.heap.size + 1, 0, none⟩) 1 1] 24)).heap.size (((w.alloc (fnB f)).alloc (fnB f)).alloc (.cells #[.slice (some ⟨w.heap.size + 1, 0, none⟩) 1 1] 24)) w4 → Below (w4.alloc (fnB (cutF f k))).heap.size (w4.alloc (fnB (cutF f k))) w' → f.ok w' ∧ ShAt w' ∧ Below w.heap.size w w' ∧ (∀ j u, (fnC f)[j]? = some u → w'.cell? ⟨w.heap.size, j, none⟩ = some u) ∧ ∀ j u, (fnC (cutF f k))[j]? = some u → w'.cell? ⟨w4.heap.size, j, none⟩ = some u) := by
    intro w4 w' h4 h
    have b1 := below_new (Below.refl w4.heap.size w4) (Nat.le_refl _) (fnB (cutF f k))
    have b2 := b1.trans (h.mono b1.size)
    have b3 := h4.trans (b2.mono h4.size)
    obtain ⟨a1, a2, a3, a4⟩ := HF.out w' b3
    exact ⟨a1, a2, a3, a4, fun j u hj => cells_below h _ _ (fnB_cell (cutF f k) w4 j u hj)⟩
  have HCI : Hid (∀ t : Bool, checkB [cutF f k] = t → checkI [cutF f k] = if t then 0 else 80) := fun t h => by unfold checkI; rw [h]
  clear hcb hci hy hcell HLN
  have lk : (cutF f k).code.xs.length = k := by
    show (f.code.xs.take k).length = k
    rw [List.length_take]
    omega
  generalize risen (startL (cutF f k)) = SL at *
  generalize checkI [cutF f k] = CI at *
  generalize checkB [cutF f k] = CB at *
  generalize hgo : (!goesB y.op) = E at *
  clear hgo
  obtain ⟨op, ia, ib, ic⟩ := y
  have HGV : Hid (fnV (cutF f k) = .agg #[.string f.name, .int .i64 f.params, .int .i64 f.regs, .bool f.gen, .slice f.code.at' k f.code.cap, f.consts.val, f.caps.val, f.hnds.val]) := by
    show fnV (cutF f k) = _
    unfold fnV
    show Value.agg #[.string f.name, .int .i64 f.params, .int .i64 f.regs, .bool f.gen, .slice f.code.at' (cutF f k).code.xs.length f.code.cap, f.consts.val, f.caps.val, f.hnds.val] = _
    rw [lk]
  have HGB : Hid (fnB (cutF f k) = .cells #[.string f.name, .int .i64 f.params, .int .i64 f.regs, .bool f.gen, .slice f.code.at' k f.code.cap, f.consts.val, f.caps.val, f.hnds.val] 36) := by
    show fnB (cutF f k) = _
    unfold fnB
    show Obj.cells #[.string f.name, .int .i64 f.params, .int .i64 f.regs, .bool f.gen, .slice f.code.at' (cutF f k).code.xs.length f.code.cap, f.consts.val, f.caps.val, f.hnds.val] 36 = _
    rw [lk]
  have HGC : Hid (fnC (cutF f k) = [.string f.name, .int .i64 f.params, .int .i64 f.regs, .bool f.gen, .slice f.code.at' k f.code.cap, f.consts.val, f.caps.val, f.hnds.val]) := by
    show fnC (cutF f k) = _
    unfold fnC
    show [.string f.name, .int .i64 f.params, .int .i64 f.regs, .bool f.gen, .slice f.code.at' (cutF f k).code.xs.length f.code.cap, f.consts.val, f.caps.val, f.hnds.val] = _
    rw [lk]
  have HG2 := HG.out
  have HST2 := HST.out
  have HCK2 := HCK.out
  simp only [HGB.out, HGC.out] at HG2
  simp only [HGV.out] at HST2
  simp only [HGB.out] at HCK2
  clear HG HST HCK HGV HGB HGC lk
  have HHX : Hid (∀ F : Fn, F = f → F.hnds.xs = f.hnds.xs ∧ F.hnds.at' = f.hnds.at') := fun F h => by rw [h]; exact ⟨rfl, rfl⟩
  obtain ⟨nm, pa, re, ge, ⟨ca, c1, cx⟩, ⟨ka, kc', kx⟩, ⟨pa', pc, px⟩, ⟨ha, hc, hx⟩⟩ := f
  unfold fnB at *
  unfold fnV at *
  unfold fnC at *
  unfold Sli.val at *
  simp only at *
  subst had
  generalize hFF : (⟨nm, pa, re, ge, ⟨some ⟨b, off, none⟩, c1, cx⟩, ⟨ka, kc', kx⟩, ⟨pa', pc, px⟩, ⟨ha, hc, hx⟩⟩ : Fn) = F at *
  have HFH : Hid (F.hnds.xs = hx ∧ F.hnds.at' = ha) := HHX.out F rfl
  clear hFF HHX
  have HG : Hid (∀ w4 w', Below (((w.alloc (.cells #[.string nm, .int .i64 pa, .int .i64 re, .bool ge, .slice (some ⟨b, off, none⟩) cx.length c1, .slice ka kx.length kc', .slice pa' px.length pc, .slice ha hx.length hc] 36)).alloc (.cells #[.string nm, .int .i64 pa, .int .i64 re, .bool ge, .slice (some ⟨b, off, none⟩) cx.length c1, .slice ka kx.length kc', .slice pa' px.length pc, .slice ha hx.length hc] 36)).alloc (.cells #[.slice (some ⟨w.heap.size + 1, 0, none⟩) 1 1] 24)).heap.size (((w.alloc (.cells #[.string nm, .int .i64 pa, .int .i64 re, .bool ge, .slice (some ⟨b, off, none⟩) cx.length c1, .slice ka kx.length kc', .slice pa' px.length pc, .slice ha hx.length hc] 36)).alloc (.cells #[.string nm, .int .i64 pa, .int .i64 re, .bool ge, .slice (some ⟨b, off, none⟩) cx.length c1, .slice ka kx.length kc', .slice pa' px.length pc, .slice ha hx.length hc] 36)).alloc (.cells #[.slice (some ⟨w.heap.size + 1, 0, none⟩) 1 1] 24)) w4 → Below (w4.alloc (.cells #[.string nm, .int .i64 pa, .int .i64 re, .bool ge, .slice (some ⟨b, off, none⟩) k c1, .slice ka kx.length kc', .slice pa' px.length pc, .slice ha hx.length hc] 36)).heap.size (w4.alloc (.cells #[.string nm, .int .i64 pa, .int .i64 re, .bool ge, .slice (some ⟨b, off, none⟩) k c1, .slice ka kx.length kc', .slice pa' px.length pc, .slice ha hx.length hc] 36)) w' → F.ok w' ∧ ShAt w' ∧ Below w.heap.size w w' ∧ (∀ j u, ([.string nm, .int .i64 pa, .int .i64 re, .bool ge, .slice (some ⟨b, off, none⟩) cx.length c1, .slice ka kx.length kc', .slice pa' px.length pc, .slice ha hx.length hc] : List Value)[j]? = some u → w'.cell? ⟨w.heap.size, j, none⟩ = some u) ∧ ∀ j u, ([.string nm, .int .i64 pa, .int .i64 re, .bool ge, .slice (some ⟨b, off, none⟩) k c1, .slice ka kx.length kc', .slice pa' px.length pc, .slice ha hx.length hc] : List Value)[j]? = some u → w'.cell? ⟨w4.heap.size, j, none⟩ = some u) := HG2
  have HST : Hid (∀ w', F.ok w' → Calls Tryd.prog 17 #[.agg #[.string nm, .int .i64 pa, .int .i64 re, .bool ge, .slice (some ⟨b, off, none⟩) k c1, .slice ka kx.length kc', .slice pa' px.length pc, .slice ha hx.length hc]] w' fun e w'' => ∃ v, e = .returned v ∧ OwnI w'.heap.size w'' v SL ∧ Below w'.heap.size w' w'') := HST2
  have HCK : Hid (∀ w', F.ok w' → ShAt w' → Calls Tryd.prog 10 #[.agg #[.slice (some ⟨w'.heap.size, 0, none⟩) 1 1]] (w'.alloc (.cells #[.string nm, .int .i64 pa, .int .i64 re, .bool ge, .slice (some ⟨b, off, none⟩) k c1, .slice ka kx.length kc', .slice pa' px.length pc, .slice ha hx.length hc] 36)) fun e w'' => e = .returned (.int .i64 CI) ∧ Below w'.heap.size w' w'') := HCK2
  clear HG2 HST2 HCK2 kc1
  go_enter Tryd.func8, Tryd.ntmps8
  go_wp2_with fail
  refine kc.mono ?_
  rintro e w4 ⟨rfl, hb4⟩
  have HB4 : Hid (Below (((w.alloc (.cells #[.string nm, .int .i64 pa, .int .i64 re, .bool ge, .slice (some ⟨b, off, none⟩) cx.length c1, .slice ka kx.length kc', .slice pa' px.length pc, .slice ha hx.length hc] 36)).alloc (.cells #[.string nm, .int .i64 pa, .int .i64 re, .bool ge, .slice (some ⟨b, off, none⟩) cx.length c1, .slice ka kx.length kc', .slice pa' px.length pc, .slice ha hx.length hc] 36)).alloc (.cells #[.slice (some ⟨w.heap.size + 1, 0, none⟩) 1 1] 24)).heap.size (((w.alloc (.cells #[.string nm, .int .i64 pa, .int .i64 re, .bool ge, .slice (some ⟨b, off, none⟩) cx.length c1, .slice ka kx.length kc', .slice pa' px.length pc, .slice ha hx.length hc] 36)).alloc (.cells #[.string nm, .int .i64 pa, .int .i64 re, .bool ge, .slice (some ⟨b, off, none⟩) cx.length c1, .slice ka kx.length kc', .slice pa' px.length pc, .slice ha hx.length hc] 36)).alloc (.cells #[.slice (some ⟨w.heap.size + 1, 0, none⟩) 1 1] 24)) w4) := hb4
  obtain ⟨_, _, _, fc⟩ := HF.out w4 hb4
  have q0 := fc 0 _ rfl
  have q1 := fc 1 _ rfl
  have q2 := fc 2 _ rfl
  have q3 := fc 3 _ rfl
  have q4 := fc 4 _ rfl
  have q5 := fc 5 _ rfl
  have q6 := fc 6 _ rfl
  have q7 := fc 7 _ rfl
  have n4 : (w4.alloc (.cells #[.string nm, .int .i64 pa, .int .i64 re, .bool ge, .slice (some ⟨b, off, none⟩) cx.length c1, .slice ka kx.length kc', .slice pa' px.length pc, .slice ha hx.length hc] 36)).cell? ⟨w.heap.size, 4, none⟩ = some (.slice (some ⟨b, off, none⟩) cx.length c1) := cells_below (below_new (Below.refl _ _) (Nat.le_refl _) _) _ _ q4
  have o4 : (w4.alloc (.cells #[.string nm, .int .i64 pa, .int .i64 re, .bool ge, .slice (some ⟨b, off, none⟩) k c1, .slice ka kx.length kc', .slice pa' px.length pc, .slice ha hx.length hc] 36)).cell? ⟨w.heap.size, 4, none⟩ = some (.slice (some ⟨b, off, none⟩) cx.length c1) := cells_below (below_new (Below.refl _ _) (Nat.le_refl _) _) _ _ q4
  have yo : (w4.alloc (.cells #[.string nm, .int .i64 pa, .int .i64 re, .bool ge, .slice (some ⟨b, off, none⟩) k c1, .slice ka kx.length kc', .slice pa' px.length pc, .slice ha hx.length hc] 36)).cell? ⟨b, off + (k - 1) * 4, none⟩ = some (.int .i64 op) := cells_below (below_new (Below.refl _ _) (Nat.le_refl _) _) _ _ (HY.out w4 hb4)
  clear kc hb4 fc
  have ek : ((k : Int) - 1) = ((k - 1 : Nat) : Int) := by omega
  go_wp2_with fail
  refine (ke _).mono ?_
  rintro e w' ⟨rfl, rfl⟩
  clear q0 q1 q2 q3 q4 q5 q6 q7 n4 o4 yo ke HY
  obtain ⟨ok5, _, _, _, gc5⟩ := HG.out w4 _ HB4.out (Below.refl _ _)
  have q0 := gc5 0 _ rfl
  have q1 := gc5 1 _ rfl
  have q2 := gc5 2 _ rfl
  have q3 := gc5 3 _ rfl
  have q4 := gc5 4 _ rfl
  have q5 := gc5 5 _ rfl
  have q6 := gc5 6 _ rfl
  have q7 := gc5 7 _ rfl
  have ks := HST.out _ ok5
  have HH : Hid (∀ w', Below (w4.alloc (.cells #[.string nm, .int .i64 pa, .int .i64 re, .bool ge, .slice (some ⟨b, off, none⟩) k c1, .slice ka kx.length kc', .slice pa' px.length pc, .slice ha hx.length hc] 36)).heap.size (w4.alloc (.cells #[.string nm, .int .i64 pa, .int .i64 re, .bool ge, .slice (some ⟨b, off, none⟩) k c1, .slice ka kx.length kc', .slice pa' px.length pc, .slice ha hx.length hc] 36)) w' → F.ok w' ∧ ShAt w' ∧ Below w.heap.size w w' ∧ (∀ j u, ([.string nm, .int .i64 pa, .int .i64 re, .bool ge, .slice (some ⟨b, off, none⟩) cx.length c1, .slice ka kx.length kc', .slice pa' px.length pc, .slice ha hx.length hc] : List Value)[j]? = some u → w'.cell? ⟨w.heap.size, j, none⟩ = some u) ∧ ∀ j u, ([.string nm, .int .i64 pa, .int .i64 re, .bool ge, .slice (some ⟨b, off, none⟩) k c1, .slice ka kx.length kc', .slice pa' px.length pc, .slice ha hx.length hc] : List Value)[j]? = some u → w'.cell? ⟨w4.heap.size, j, none⟩ = some u) := fun w' h => HG.out w4 w' HB4.out h
  have HH0 : Hid (Below (w4.alloc (.cells #[.string nm, .int .i64 pa, .int .i64 re, .bool ge, .slice (some ⟨b, off, none⟩) k c1, .slice ka kx.length kc', .slice pa' px.length pc, .slice ha hx.length hc] 36)).heap.size (w4.alloc (.cells #[.string nm, .int .i64 pa, .int .i64 re, .bool ge, .slice (some ⟨b, off, none⟩) k c1, .slice ka kx.length kc', .slice pa' px.length pc, .slice ha hx.length hc] 36)) (w4.alloc (.cells #[.string nm, .int .i64 pa, .int .i64 re, .bool ge, .slice (some ⟨b, off, none⟩) k c1, .slice ka kx.length kc', .slice pa' px.length pc, .slice ha hx.length hc] 36))) := Below.refl _ _
  clear ok5 gc5 HG HST HF HA HB4
  generalize hwg : w4.alloc (.cells #[.string nm, .int .i64 pa, .int .i64 re, .bool ge, .slice (some ⟨b, off, none⟩) k c1, .slice ka kx.length kc', .slice pa' px.length pc, .slice ha hx.length hc] 36) = wg at *
  clear hwg
  generalize w4.heap.size = gb at *
  go_wp2_with fail
  refine ks.mono ?_
  rintro e w5 ⟨v5, rfl, ho5, hb5⟩
  obtain ⟨ad5, cap5, rfl, l5, m5, i5⟩ := ho5.ints
  have HB5 : Hid (Below wg.heap.size wg w5) := hb5
  have HI5 : Hid (IntsAt w5 ad5 SL) := i5
  have sl := HSL.out
  clear ks ho5 hb5 i5 l5 m5 q0 q1 q2 q3 q4 q5 q6 q7
  have HT1 : Hid (∀ ok : Bool, (ok && (SL.drop SL.length).all (fun n => decide (n < (k : Int)))) = (E && SL.all (fun n => decide (n < (k : Int)))) → ok = (E && SL.all (fun n => decide (n < (k : Int))))) := fun ok h => by
    rw [List.drop_length] at h
    simpa using h
  generalize hT1 : (E && SL.all (fun n => decide (n < (k : Int)))) = T1 at *
  have HE0 : Hid ((E && (SL.drop 0).all (fun n => decide (n < (k : Int)))) = T1) := hT1
  clear hT1
  go_wp2_with fail
  go_loopw [7, 47] (fun o i wr => ∃ (q : Nat) (ok : Bool), (q ≤ SL.length ∧ (ok && (SL.drop q).all (fun n => decide (n < (k : Int)))) = T1 ∧ w5 = wr) ∧ o = .bool ok ∧ i = .int .i64 q) (fun o i wr => SL.length - (intOf i).toNat)
  case atStart => exact ⟨0, E, ⟨Nat.zero_le _, HE0.out, rfl⟩, rfl, rfl⟩
  case round =>
    obtain ⟨q, ok, ⟨qle, hv, rfl⟩, rfl, rfl⟩ := hrel
    have HV : Hid ((ok && (SL.drop q).all (fun n => decide (n < (k : Int)))) = T1) := hv
    clear hv HE0
    rcases Nat.lt_or_ge q SL.length with d | d
    · have hex : ∃ z, SL[q]? = some z := ⟨_, List.getElem?_eq_getElem d⟩
      obtain ⟨z, hz⟩ := hex
      obtain ⟨zb, zo, rfl, zc⟩ := HI5.out (by intro e; rw [e] at d; simp at d)
      have z0 := zc q z hz
      have HV2 : Hid ((ok && (decide (z < (k : Int)) && (SL.drop (q + 1)).all (fun n => decide (n < (k : Int))))) = T1) := by
        show _ = _
        rw [← HV.out, List.drop_eq_getElem_cons d, List.all_cons]
        rw [List.getElem?_eq_getElem d] at hz
        rw [Option.some.inj hz]
      clear zc hz
      cases ok with
      | false =>
        go_wp2_with fail
        refine ⟨⟨q + 1, false, ⟨d, ?_, by first | rfl | trivial⟩, by first | rfl | trivial, by go_num⟩, ?_⟩
        · have h := HV2.out
          rw [Bool.false_and] at h ⊢
          exact h
        · simp [intOf]
          omega
      | true =>
        by_cases zk : z < (k : Int)
        · go_wp2_with fail
          refine ⟨⟨q + 1, true, ⟨d, ?_, by first | rfl | trivial⟩, by first | rfl | trivial, by go_num⟩, ?_⟩
          · have h := HV2.out
            rw [decide_eq_true zk, Bool.true_and] at h
            exact h
          · simp [intOf]
            omega
        · have zd : decide (z < (k : Int)) = false := decide_eq_false zk
          go_wp2_with fail
          refine ⟨⟨q + 1, false, ⟨d, ?_, by first | rfl | trivial⟩, by first | rfl | trivial, by go_num⟩, ?_⟩
          · have h := HV2.out
            rw [decide_eq_false zk, Bool.false_and, Bool.and_false] at h
            rw [Bool.false_and]
            exact h
          · simp [intOf]
            omega
    · have hq : q = SL.length := by omega
      have HOK : Hid (ok = T1) := HT1.out ok (by rw [← hq]; exact HV.out)
      have hdq : decide (q < SL.length) = false := decide_eq_false (by omega)
      have m7 := (HH.out w5 HB5.out).2.2.2.1 7 _ rfl
      clear HV hq HT1 HI5
      go_wp2_with fail
      clear m7
      have HT2 : Hid (∀ ok2 : Bool, (ok2 && (hx.drop hx.length).all (fun h => decide (h.to ≤ (k : Int)))) = CB → ok2 = CB) := fun ok2 h => by
        rw [List.drop_length] at h
        simpa using h
      have HE1 : Hid ((ok && (hx.drop 0).all (fun h => decide (h.to ≤ (k : Int)))) = CB) := by
        show _ = _
        rw [HCC.out, HOK.out]
        rfl
      clear HCC HOK
      go_loopw [7, 61] (fun o i wr => ∃ (q : Nat) (ok : Bool), (q ≤ hx.length ∧ (ok && (hx.drop q).all (fun h => decide (h.to ≤ (k : Int)))) = CB ∧ Below wg.heap.size wg wr) ∧ o = .bool ok ∧ i = .int .i64 q) (fun o i wr => hx.length - (intOf i).toNat)
      case atStart => exact ⟨0, ok, ⟨Nat.zero_le _, HE1.out, HB5.out⟩, rfl, rfl⟩
      case round =>
        clear HE1 HB5
        obtain ⟨q2, ok2, ⟨q2le, hv, hbr⟩, rfl, rfl⟩ := hrel
        have HV : Hid ((ok2 && (hx.drop q2).all (fun h => decide (h.to ≤ (k : Int)))) = CB) := hv
        have HBR : Hid (Below wg.heap.size wg wr) := hbr
        clear hv hbr
        rcases Nat.lt_or_ge q2 hx.length with d2 | d2
        · have hex : ∃ z, hx[q2]? = some z := ⟨_, List.getElem?_eq_getElem d2⟩
          obtain ⟨z, hz⟩ := hex
          obtain ⟨zb, zo, had, zc⟩ := (HH.out wr HBR.out).1.hnds.cells (by rw [HFH.out.1]; intro e; rw [e] at d2; simp at d2)
          rw [HFH.out.2] at had
          subst had
          have hz' : F.hnds.xs[q2]? = some z := by rw [HFH.out.1]; exact hz
          have z0 := zc q2 z hz' 0 _ rfl
          have z1 := zc q2 z hz' 1 _ rfl
          have z2 := zc q2 z hz' 2 _ rfl
          rw [Nat.add_zero] at z0
          have HV2 : Hid ((ok2 && (decide (z.to ≤ (k : Int)) && (hx.drop (q2 + 1)).all (fun h => decide (h.to ≤ (k : Int))))) = CB) := by
            show _ = _
            rw [← HV.out, List.drop_eq_getElem_cons d2, List.all_cons]
            rw [List.getElem?_eq_getElem d2] at hz
            rw [Option.some.inj hz]
          clear zc hz hz'
          obtain ⟨fr, to, tg⟩ := z
          simp only at *
          have HN : Hid (Below wg.heap.size wg (wr.alloc (.cells #[.int .i64 fr, .int .i64 to, .int .i64 tg] 49))) := below_new HBR.out HBR.out.size _
          cases ok2 with
          | false =>
            go_wp2_with fail
            refine ⟨⟨q2 + 1, false, ⟨d2, ?_, HN.out⟩, by first | rfl | trivial, by go_num⟩, ?_⟩
            · have h := HV2.out
              rw [Bool.false_and] at h ⊢
              exact h
            · simp [intOf]
              omega
          | true =>
            by_cases zk : to ≤ (k : Int)
            · go_wp2_with fail
              refine ⟨⟨q2 + 1, true, ⟨d2, ?_, HN.out⟩, by first | rfl | trivial, by go_num⟩, ?_⟩
              · have h := HV2.out
                rw [decide_eq_true zk, Bool.true_and] at h
                exact h
              · simp [intOf]
                omega
            · have zd : decide (to ≤ (k : Int)) = false := decide_eq_false zk
              go_wp2_with fail
              refine ⟨⟨q2 + 1, false, ⟨d2, ?_, HN.out⟩, by first | rfl | trivial, by go_num⟩, ?_⟩
              · have h := HV2.out
                rw [decide_eq_false zk, Bool.false_and, Bool.and_false] at h
                rw [Bool.false_and]
                exact h
              · simp [intOf]
                omega
        · have hq2 : q2 = hx.length := by omega
          have HOK2 : Hid (ok2 = CB) := HT2.out ok2 (by rw [← hq2]; exact HV.out)
          have ka := alive_any wr (HH.out wr HBR.out).2.1
          clear HV hq2 HT2
          go_wp2_with fail
          refine ka.mono ?_
          rintro e w7 ⟨rfl, hb7⟩
          have HB7 : Hid (Below wg.heap.size wg w7) := HBR.out.trans (hb7.mono HBR.out.size)
          obtain ⟨ok7, sh7, be7, _, gc7⟩ := HH.out w7 HB7.out
          have q0 := gc7 0 _ rfl
          have q1 := gc7 1 _ rfl
          have q2' := gc7 2 _ rfl
          have q3 := gc7 3 _ rfl
          have q4 := gc7 4 _ rfl
          have q5 := gc7 5 _ rfl
          have q6 := gc7 6 _ rfl
          have q7 := gc7 7 _ rfl
          have kk := HCK.out w7 ok7 sh7
          have HB8 : Hid (Below w.heap.size w w7) := be7
          clear ka hb7 ok7 sh7 be7 gc7
          cases CB with
          | true =>
            have e1 := HCI.out true (by first | rfl | trivial)
            simp only [if_true] at e1
            have e2 := HOK2.out
            subst e2
            subst e1
            go_wp2_with fail
            refine kk.mono ?_
            rintro e w9 ⟨rfl, hb9⟩
            have HB9 : Hid (Below w.heap.size w w9) := HB8.out.trans (hb9.mono HB8.out.size)
            clear kk hb9 q0 q1 q2' q3 q4 q5 q6 q7
            go_wp2_with fail
            go_ret
            exact ⟨rfl, HB9.out⟩
          | false =>
            have e1 : CI = 80 := HCI.out false (by first | rfl | trivial)
            have e2 := HOK2.out
            subst e2
            subst e1
            go_wp2_with fail
            refine kk.mono ?_
            rintro e w9 ⟨rfl, hb9⟩
            have HB9 : Hid (Below w.heap.size w w9) := HB8.out.trans (hb9.mono HB8.out.size)
            clear kk hb9 q0 q1 q2' q3 q4 q5 q6 q7
            go_wp2_with fail
            go_ret
            exact ⟨rfl, HB9.out⟩

end Go.Proofs.YtkoamenfbnpdbaaDoor.Cd
