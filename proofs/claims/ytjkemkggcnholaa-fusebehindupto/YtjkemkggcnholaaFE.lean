/- The document's Starts. -/
import Derived.Test.YtjkemkggcnholaaFD
namespace Go.Proofs.Ytjkemkggcnholaa.Fu
open Go.RowKit
set_option linter.unusedVariables false

theorem putAll_app (a : List Int) (z : Int) : putAll (a ++ [z]) = putF z false (putAll a) := by
  unfold putAll
  rw [List.foldl_append]
  rfl

theorem putAll_len (a : List Int) : (putAll a).length ≤ a.length := by
  rw [← risen_put]
  exact risen_length a

structure R1At (cx : List Ins) (w1 wr : World) (v : Value) (k : Nat) : Prop where
  le : k ≤ cx.length
  own : OwnI w1.heap.size wr v (putAll (jumpsL (cx.take k)))
  bel : Below w1.heap.size w1 wr

structure R2At (cx : List Ins) (hx : List Hnd) (w1 wr : World) (v : Value) (k : Nat) : Prop where
  le : k ≤ hx.length
  own : OwnI w1.heap.size wr v (putAll (jumpsL cx ++ tgL (hx.take k)))
  bel : Below w1.heap.size w1 wr

set_option maxRecDepth 100000 in
set_option maxHeartbeats 4000000 in
theorem rstarts_any (f : Fn) (w : World) (hf : f.ok w) (hlen : (f.code.xs.length + f.hnds.xs.length + 1) * 8 ≤ 140737488355328) :
    Calls Try.prog 12 #[fnV f] w fun e w' => ∃ v, e = .returned v ∧ OwnI w.heap.size w' v (risen (startL f)) ∧ Below w.heap.size w w' := by
  rw [risen_put]
  have hcl : (f.code.xs.length : Int) ≤ 17592186044416 := by omega
  have hhl : (f.hnds.xs.length : Int) ≤ 17592186044416 := by omega
  have HLN : Hid ((f.code.xs.length + f.hnds.xs.length + 1) * 8 ≤ 140737488355328) := hlen
  clear hlen
  have B0 : Below w.heap.size w (w.alloc (fnB f)) := (Below.refl _ _).alloc (Nat.le_refl _) _
  have hf1 := hf.kept (cells_below B0)
  have HF : Hid (∀ w', Below (w.alloc (fnB f)).heap.size (w.alloc (fnB f)) w' → w'.cell? ⟨w.heap.size, 4, none⟩ = some f.code.val ∧ w'.cell? ⟨w.heap.size, 7, none⟩ = some f.hnds.val ∧ f.ok w') := by
    intro w' h
    have h' := cells_below h
    exact ⟨h' _ _ (fnB_cell f w 4 _ rfl), h' _ _ (fnB_cell f w 7 _ rfl), hf1.kept h'⟩
  have HD : Hid (∀ w', Below (w.alloc (fnB f)).heap.size (w.alloc (fnB f)) w' → Below w.heap.size w w') := fun w' h => B0.trans (h.mono B0.size)
  have HL : Hid (∀ w' v zs, OwnI (w.alloc (fnB f)).heap.size w' v zs → OwnI w.heap.size w' v zs) := fun w' v zs h => h.low B0.size
  have HR : Hid (Below (w.alloc (fnB f)).heap.size (w.alloc (fnB f)) (w.alloc (fnB f))) := Below.refl _ _
  clear hf hf1 B0
  obtain ⟨nm, pa, re, ge, ⟨ca, c1, cx⟩, ⟨ka, kc, kx⟩, ⟨pa', pc, px⟩, ⟨ha, hc, hx⟩⟩ := f
  unfold fnB at *
  unfold fnV
  unfold Sli.val at *
  have HQ : Hid (startL ⟨nm, pa, re, ge, ⟨ca, c1, cx⟩, ⟨ka, kc, kx⟩, ⟨pa', pc, px⟩, ⟨ha, hc, hx⟩⟩ = jumpsL cx ++ tgL hx) := rfl
  generalize startL ⟨nm, pa, re, ge, ⟨ca, c1, cx⟩, ⟨ka, kc, kx⟩, ⟨pa', pc, px⟩, ⟨ha, hc, hx⟩⟩ = SL at *
  simp only at *
  go_enter Try.func12, Try.ntmps12
  go_wp2_with fail
  generalize w.alloc (.cells #[.string nm, .int .i64 pa, .int .i64 re, .bool ge, .slice ca cx.length c1, .slice ka kx.length kc, .slice pa' px.length pc, .slice ha hx.length hc] 27) = w1 at *
  go_loopw [3, 4] (fun v i wr => ∃ k : Nat, R1At cx w1 wr v k ∧ i = .int .i64 k) (fun v i wr => cx.length - (intOf i).toNat)
  case atStart => exact ⟨0, ⟨Nat.zero_le _, OwnI.nil _ _, HR.out⟩, rfl⟩
  case round =>
    obtain ⟨k, hr, rfl⟩ := hrel
    have HS : Hid (R1At cx w1 wr u3 k) := hr
    have ple := hr.le
    clear hr
    have m4 := (HF.out wr HS.out.bel).1
    rcases Nat.lt_or_ge k cx.length with c | c
    · have hex : ∃ y, cx[k]? = some y := ⟨_, List.getElem?_eq_getElem c⟩
      obtain ⟨y, hy⟩ := hex
      have HT : Hid (jumpsL (cx.take (k + 1)) = jumpsL (cx.take k) ++ (if (jumpI y).2 then [(jumpI y).1] else [])) := by
        show _ = _
        rw [take_at cx k y hy, jumpsL_app, jumpsL, jumpsL, List.append_nil]
      have hcc := (HF.out wr HS.out.bel).2.2.code.cells (by intro e; simp at e; subst e; simp at c)
      obtain ⟨b, off, rfl, hcc⟩ := hcc
      have g0 := hcc k y hy 0 _ rfl
      have g1 := hcc k y hy 1 _ rfl
      have g2 := hcc k y hy 2 _ rfl
      have g3 := hcc k y hy 3 _ rfl
      rw [Nat.add_zero] at g0
      clear hcc hy
      obtain ⟨op, ia, ib, ic⟩ := y
      simp only at g0 g1 g2 g3
      have HB1 : Hid (Below w1.heap.size w1 (wr.alloc (.cells #[.int .i64 op, .int .i64 ia, .int .i64 ib, .int .i64 ic] 41))) := below_new HS.out.bel HS.out.bel.size _
      have HO1 : Hid (OwnI w1.heap.size (wr.alloc (.cells #[.int .i64 op, .int .i64 ia, .int .i64 ib, .int .i64 ic] 41)) u3 (putAll (jumpsL (cx.take k)))) := own_new HS.out.own _
      have HW : Hid (∀ w', Below (wr.alloc (.cells #[.int .i64 op, .int .i64 ia, .int .i64 ib, .int .i64 ic] 41)).heap.size (wr.alloc (.cells #[.int .i64 op, .int .i64 ia, .int .i64 ib, .int .i64 ic] 41)) w' → w'.cell? ⟨wr.heap.size, 0, none⟩ = some (.int .i64 op) ∧ w'.cell? ⟨wr.heap.size, 2, none⟩ = some (.int .i64 ib)) := by
        intro w' h
        have h' := cells_below h
        exact ⟨h' _ _ (insB_cell _ _ _ _ wr 0 _ rfl), h' _ _ (insB_cell _ _ _ _ wr 2 _ rfl)⟩
      have OB : Hid (((putAll (jumpsL (cx.take k))).length + 1) * 8 ≤ 140737488355328) := by
        have h0 := putAll_len (jumpsL (cx.take k))
        have h1 := jumpsL_len (cx.take k)
        have h2 := HLN.out
        rw [List.length_take] at h1
        show _ ≤ _
        omega
      generalize hJL : jumpsL (cx.take k) = JL at *
      clear hJL
      by_cases h57 : op = 57
      · subst h57
        have HT2 : Hid (jumpsL (cx.take (k + 1)) = JL ++ [ia]) := by
          show _ = _
          rw [HT.out]
          rfl
        clear HT
        have kp := put_own w1.heap.size _ u3 _ ia HO1.out HB1.out.size OB.out
        have HA : Hid (putAll (JL ++ [ia]) = putF ia false (putAll JL)) := putAll_app _ _
        go_wp2_with fail
        refine kp.mono ?_
        rintro e w3 ⟨v3, rfl, ho3, hb3⟩
        have HP : Hid (R1At cx w1 w3 v3 (k + 1)) := ⟨c, by rw [HT2.out, HA.out]; exact ho3, HB1.out.trans (hb3.mono HB1.out.size)⟩
        obtain ⟨i0, i2⟩ := HW.out w3 hb3
        clear kp ho3 hb3 g0 g1 g2 g3 m4
        go_wp2_with fail
        refine ⟨⟨k + 1, HP.out, by go_num⟩, ?_⟩
        simp [intOf]
        omega
      by_cases h58 : op = 58
      · subst h58
        have HT2 : Hid (jumpsL (cx.take (k + 1)) = JL ++ [ib]) := by
          show _ = _
          rw [HT.out]
          rfl
        clear HT
        have kp := put_own w1.heap.size _ u3 _ ib HO1.out HB1.out.size OB.out
        have HA : Hid (putAll (JL ++ [ib]) = putF ib false (putAll JL)) := putAll_app _ _
        go_wp2_with fail
        refine kp.mono ?_
        rintro e w3 ⟨v3, rfl, ho3, hb3⟩
        have HP : Hid (R1At cx w1 w3 v3 (k + 1)) := ⟨c, by rw [HT2.out, HA.out]; exact ho3, HB1.out.trans (hb3.mono HB1.out.size)⟩
        obtain ⟨i0, i2⟩ := HW.out w3 hb3
        clear kp ho3 hb3 g0 g1 g2 g3 m4
        go_wp2_with fail
        refine ⟨⟨k + 1, HP.out, by go_num⟩, ?_⟩
        simp [intOf]
        omega
      by_cases h59 : op = 59
      · subst h59
        have HT2 : Hid (jumpsL (cx.take (k + 1)) = JL ++ [ib]) := by
          show _ = _
          rw [HT.out]
          rfl
        clear HT
        have kp := put_own w1.heap.size _ u3 _ ib HO1.out HB1.out.size OB.out
        have HA : Hid (putAll (JL ++ [ib]) = putF ib false (putAll JL)) := putAll_app _ _
        go_wp2_with fail
        refine kp.mono ?_
        rintro e w3 ⟨v3, rfl, ho3, hb3⟩
        have HP : Hid (R1At cx w1 w3 v3 (k + 1)) := ⟨c, by rw [HT2.out, HA.out]; exact ho3, HB1.out.trans (hb3.mono HB1.out.size)⟩
        obtain ⟨i0, i2⟩ := HW.out w3 hb3
        clear kp ho3 hb3 g0 g1 g2 g3 m4
        go_wp2_with fail
        refine ⟨⟨k + 1, HP.out, by go_num⟩, ?_⟩
        simp [intOf]
        omega
      have HP0 : Hid (R1At cx w1 (wr.alloc (.cells #[.int .i64 op, .int .i64 ia, .int .i64 ib, .int .i64 ic] 41)) u3 (k + 1)) := by
        refine ⟨c, ?_, HB1.out⟩
        rw [HT.out, show jumpI ⟨op, ia, ib, ic⟩ = (0, false) from by unfold jumpI; simp [h57, h58, h59]]
        show OwnI _ _ _ (putAll (JL ++ []))
        rw [List.append_nil]
        exact HO1.out
      clear HT
      have e57 : (op == 57) = false := by simpa using h57
      have e58 : (op == 58) = false := by simpa using h58
      have e59 : (op == 59) = false := by simpa using h59
      go_wp2_with fail
      refine ⟨⟨k + 1, HP0.out, by go_num⟩, ?_⟩
      simp [intOf]
      omega
    · have hk : k = cx.length := by omega
      have HO : Hid (OwnI w1.heap.size wr u3 (putAll (jumpsL cx))) := by
        have := HS.out.own
        rw [hk, List.take_length] at this
        exact this
      have HB : Hid (Below w1.heap.size w1 wr) := HS.out.bel
      have hdk : decide (k < cx.length) = false := decide_eq_false (by omega)
      clear HS hk
      go_wp2_with fail
      clear m4
      go_loopw [3, 6] (fun v i wr => ∃ k : Nat, R2At cx hx w1 wr v k ∧ i = .int .i64 k) (fun v i wr => hx.length - (intOf i).toNat)
      case atStart => exact ⟨0, ⟨Nat.zero_le _, by rw [List.take_zero]; show OwnI _ _ _ (putAll (jumpsL cx ++ [])); rw [List.append_nil]; exact HO.out, HB.out⟩, rfl⟩
      case round =>
        clear HO HB
        obtain ⟨q, hr, rfl⟩ := hrel
        have HS : Hid (R2At cx hx w1 wr u3 q) := hr
        have qle := hr.le
        clear hr
        have m7 := (HF.out wr HS.out.bel).2.1
        rcases Nat.lt_or_ge q hx.length with c' | c'
        · have hex : ∃ y, hx[q]? = some y := ⟨_, List.getElem?_eq_getElem c'⟩
          obtain ⟨y, hy⟩ := hex
          have HT : Hid (putAll (jumpsL cx ++ tgL (hx.take (q + 1))) = putF y.target false (putAll (jumpsL cx ++ tgL (hx.take q)))) := by
            show _ = _
            unfold tgL
            rw [take_at hx q y hy, List.map_append, ← List.append_assoc]
            exact putAll_app _ _
          have hcc := (HF.out wr HS.out.bel).2.2.hnds.cells (by intro e; simp at e; subst e; simp at c')
          obtain ⟨b, off, rfl, hcc⟩ := hcc
          have g2 := hcc q y hy 2 _ rfl
          clear hcc hy
          obtain ⟨fr, to, tg⟩ := y
          simp only at g2 HT
          have ob : ((putAll (jumpsL cx ++ tgL (hx.take q))).length + 1) * 8 ≤ 140737488355328 := by
            have h0 := putAll_len (jumpsL cx ++ tgL (hx.take q))
            have h1 := jumpsL_len cx
            have h2 := HLN.out
            unfold tgL at h0 ⊢
            rw [List.length_append, List.length_map, List.length_take] at h0
            omega
          have kp := put_own w1.heap.size wr u3 _ tg HS.out.own HS.out.bel.size ob
          clear ob
          generalize putAll (jumpsL cx ++ tgL (hx.take q)) = L0 at *
          go_wp2_with fail
          refine kp.mono ?_
          rintro e w5 ⟨v5, rfl, ho5, hb5⟩
          have HP : Hid (R2At cx hx w1 w5 v5 (q + 1)) := ⟨c', by rw [HT.out]; exact ho5, HS.out.bel.trans (hb5.mono HS.out.bel.size)⟩
          clear ho5 hb5 kp g2 m7
          go_wp2_with fail
          refine ⟨⟨q + 1, HP.out, by go_num⟩, ?_⟩
          simp [intOf]
          omega
        · have hk : q = hx.length := by omega
          have HO : Hid (OwnI w1.heap.size wr u3 (putAll SL)) := by
            have := HS.out.own
            rw [hk, List.take_length, ← HQ.out] at this
            exact this
          clear hk
          go_wp2_with fail
          go_ret
          exact ⟨_, rfl, HL.out _ _ _ HO.out, HD.out _ HS.out.bel⟩

theorem below_dN {B : Nat} {a w : World} (h : Below B a w) (n : Nat) : Below B a (w.drewN n) := by
  induction n with
  | zero => exact h
  | succ n ih => exact ih.drew
end Go.Proofs.Ytjkemkggcnholaa.Fu
