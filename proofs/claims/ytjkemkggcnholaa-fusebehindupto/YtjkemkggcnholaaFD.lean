/- Package code: Starts. -/
import Derived.Test.YtjkemkggcnholaaFC
namespace Go.Proofs.Ytjkemkggcnholaa.Fu
open Go.RowKit
set_option linter.unusedVariables false

/-- where some instructions jump -/
def jumpsL : List Ins → List Int
  | [] => []
  | y :: r => (if (jumpI y).2 then [(jumpI y).1] else []) ++ jumpsL r

theorem jumpsL_app : ∀ a b, jumpsL (a ++ b) = jumpsL a ++ jumpsL b
  | [], b => rfl
  | y :: a, b => by rw [List.cons_append, jumpsL, jumpsL_app a b, jumpsL, List.append_assoc]

theorem jumpsL_len : ∀ a, (jumpsL a).length ≤ a.length
  | [] => Nat.le_refl _
  | y :: a => by
    rw [jumpsL, List.length_append]
    have := jumpsL_len a
    have : (if (jumpI y).2 then [(jumpI y).1] else []).length ≤ 1 := by split <;> simp
    rw [List.length_cons]
    omega

def tgL (hs : List Hnd) : List Int := hs.map (·.target)

/-- the places to which code jumps, and at which it catches, as they are found -/
def startL (f : Fn) : List Int := jumpsL f.code.xs ++ tgL f.hnds.xs

theorem take_at {β : Type} (l : List β) (k : Nat) (y : β) (h : l[k]? = some y) : l.take (k + 1) = l.take k ++ [y] := by
  rw [List.take_add_one, h]
  rfl

theorem size_new (w : World) (o : Obj) : (w.alloc o).heap.size = w.heap.size + 1 := by show (w.heap.push _).size = _; simp

structure S1At (cx : List Ins) (w1 wr : World) (v : Value) (k : Nat) : Prop where
  le : k ≤ cx.length
  own : OwnI w1.heap.size wr v (jumpsL (cx.take k))
  bel : Below w1.heap.size w1 wr

structure S2At (cx : List Ins) (hx : List Hnd) (w1 wr : World) (v : Value) (k : Nat) : Prop where
  le : k ≤ hx.length
  own : OwnI w1.heap.size wr v (jumpsL cx ++ tgL (hx.take k))
  bel : Below w1.heap.size w1 wr

set_option maxRecDepth 100000 in
set_option maxHeartbeats 4000000 in
theorem starts_any (f : Fn) (w : World) (hf : f.ok w) (hlen : (f.code.xs.length + f.hnds.xs.length + 1) * 8 ≤ 140737488355328) :
    Calls Try.prog 14 #[fnV f] w fun e w' => ∃ v, e = .returned v ∧ OwnI w.heap.size w' v (risen (startL f)) ∧ Below w.heap.size w w' := by
  have hcl : (f.code.xs.length : Int) ≤ 17592186044416 := by omega
  have hhl : (f.hnds.xs.length : Int) ≤ 17592186044416 := by omega
  have HLN : Hid ((f.code.xs.length + f.hnds.xs.length + 1) * 8 ≤ 140737488355328) := hlen
  clear hlen
  have B0 : Below w.heap.size w (w.alloc (fnB f)) := (Below.refl _ _).alloc (Nat.le_refl _) _
  have hf1 := hf.kept (cells_below B0)
  have HF : Hid (∀ w', Below (w.alloc (fnB f)).heap.size (w.alloc (fnB f)) w' → w'.cell? ⟨w.heap.size, 4, none⟩ = some f.code.val ∧ w'.cell? ⟨w.heap.size, 7, none⟩ = some f.hnds.val ∧ f.ok w') := by
    intro w' h
    have h' := cells_below h
    exact ⟨h' _ _ (fnB_cell f w 4 _ rfl), h' _ _ (fnB_cell f w 7 _ rfl), hf1.kept h'⟩
  have HD : Hid (∀ w', Below (w.alloc (fnB f)).heap.size (w.alloc (fnB f)) w' → Below w.heap.size w w') := fun w' h => B0.trans (h.mono B0.size)
  have HL : Hid (∀ w' v zs, OwnI (w.alloc (fnB f)).heap.size w' v zs → OwnI w.heap.size w' v zs) := fun w' v zs h => h.low B0.size
  have HR : Hid (Below (w.alloc (fnB f)).heap.size (w.alloc (fnB f)) (w.alloc (fnB f))) := Below.refl _ _
  have cr : Hid (∀ w' v zs, OwnI (w.alloc (fnB f)).heap.size w' v zs → Below (w.alloc (fnB f)).heap.size (w.alloc (fnB f)) w' → zs.length < 4611686018427387904 →
    Calls Try.prog 21 #[v] w' fun e w'' => ∃ v', e = .returned v' ∧ OwnI (w.alloc (fnB f)).heap.size w'' v' (risen zs) ∧ Below (w.alloc (fnB f)).heap.size (w.alloc (fnB f)) w'') := fun w' v zs h1 h2 h3 => rising_any _ w' v zs h1 h2 h3
  clear hf hf1 B0
  obtain ⟨nm, pa, re, ge, ⟨ca, c1, cx⟩, ⟨ka, kc, kx⟩, ⟨pa', pc, px⟩, ⟨ha, hc, hx⟩⟩ := f
  unfold fnB at *
  unfold fnV
  unfold Sli.val at *
  have HQ : Hid (startL ⟨nm, pa, re, ge, ⟨ca, c1, cx⟩, ⟨ka, kc, kx⟩, ⟨pa', pc, px⟩, ⟨ha, hc, hx⟩⟩ = jumpsL cx ++ tgL hx) := rfl
  generalize startL ⟨nm, pa, re, ge, ⟨ca, c1, cx⟩, ⟨ka, kc, kx⟩, ⟨pa', pc, px⟩, ⟨ha, hc, hx⟩⟩ = SL at *
  simp only at *
  have m4 := (HF.out _ HR.out).1
  go_enter Try.func14, Try.ntmps14
  go_wp2_with fail
  generalize w.alloc (.cells #[.string nm, .int .i64 pa, .int .i64 re, .bool ge, .slice ca cx.length c1, .slice ka kx.length kc, .slice pa' px.length pc, .slice ha hx.length hc] 27) = w1 at *
  clear m4
  go_loopw [3, 13] (fun v i wr => ∃ k : Nat, S1At cx w1 wr v k ∧ i = .int .i64 k) (fun v i wr => cx.length - (intOf i).toNat)
  case atStart => exact ⟨0, ⟨Nat.zero_le _, OwnI.nil _ _, HR.out⟩, rfl⟩
  case round =>
    obtain ⟨k, hr, rfl⟩ := hrel
    have HS : Hid (S1At cx w1 wr u3 k) := hr
    have ple := hr.le
    clear hr
    rcases Nat.lt_or_ge k cx.length with c | c
    · have hex : ∃ y, cx[k]? = some y := ⟨_, List.getElem?_eq_getElem c⟩
      obtain ⟨y, hy⟩ := hex
      have HT : Hid (jumpsL (cx.take (k + 1)) = jumpsL (cx.take k) ++ (if (jumpI y).2 then [(jumpI y).1] else [])) := by
        show _ = _
        rw [take_at cx k y hy, jumpsL_app, jumpsL, jumpsL, List.append_nil]
      have hcc := (HF.out wr HS.out.bel).2.2.code.cells (by intro e; simp at e; subst e; simp at c)
      obtain ⟨b, off, rfl, hcc⟩ := hcc
      have g0 := hcc k y hy 0 _ rfl
      have g1 := hcc k y hy 1 _ rfl
      have g2 := hcc k y hy 2 _ rfl
      have g3 := hcc k y hy 3 _ rfl
      rw [Nat.add_zero] at g0
      have cj := jump_any y
      clear hcc hy
      unfold insV at cj
      obtain ⟨op, ia, ib, ic⟩ := y
      simp only at g0 g1 g2 g3 cj
      generalize jumpI ⟨op, ia, ib, ic⟩ = J at *
      obtain ⟨j1, j2⟩ := J
      have HB1 : Hid (Below w1.heap.size w1 (wr.alloc (.cells #[.int .i64 op, .int .i64 ia, .int .i64 ib, .int .i64 ic] 41))) := below_new HS.out.bel HS.out.bel.size _
      have HO1 := own_new HS.out.own (.cells #[.int .i64 op, .int .i64 ia, .int .i64 ib, .int .i64 ic] 41)
      have kj := cj (wr.alloc (.cells #[.int .i64 op, .int .i64 ia, .int .i64 ib, .int .i64 ic] 41))
      have ob : ((jumpsL (cx.take k)).length + 1) * 8 ≤ 140737488355328 := by
        have h1 := jumpsL_len (cx.take k)
        have h2 := HLN.out
        rw [List.length_take] at h1
        omega
      cases j2 with
      | true =>
        have HT2 : Hid (jumpsL (cx.take (k + 1)) = jumpsL (cx.take k) ++ [j1]) := HT.out
        clear HT
        generalize jumpsL (cx.take k) = L0 at *
        go_wp2_with fail
        refine kj.mono ?_
        rintro e w3 ⟨rfl, hb3⟩
        have HB3 := HB1.out.trans (hb3.mono HB1.out.size)
        have HO3 := own_new (HO1.kept hb3) (.cells #[.int .i64 j1] 3)
        have HB4 : Hid (Below w1.heap.size w1 (w3.alloc (.cells #[.int .i64 j1] 3))) := below_new HB3 HB3.size _
        have hB4 := HB4.out.size
        have oc := one_cell w3 j1
        clear kj hb3 HO1 HB3 g0 g1 g2 g3
        go_wp2_with (at_builtin; refine app_one rfl _ _ rfl w1.heap.size u3 L0 rfl HO3 w3.heap.size j1 rfl oc ob hB4 ?_)
        intro v5 w5 ho5 hg5
        have HP : Hid (S1At cx w1 w5 v5 (k + 1)) := ⟨c, by rw [HT2.out]; exact ho5, HB4.out.grown hg5 hB4 HO3.base⟩
        clear ho5 hg5 HO3 oc
        go_wp2_with fail
        refine ⟨⟨k + 1, HP.out, by go_num⟩, ?_⟩
        simp [intOf]
        omega
      | false =>
        have HT2 : Hid (jumpsL (cx.take (k + 1)) = jumpsL (cx.take k)) := by
          show _ = _
          rw [HT.out]
          exact List.append_nil _
        clear HT
        generalize jumpsL (cx.take k) = L0 at *
        go_wp2_with fail
        refine kj.mono ?_
        rintro e w3 ⟨rfl, hb3⟩
        have HP : Hid (S1At cx w1 w3 u3 (k + 1)) := ⟨c, by rw [HT2.out]; exact HO1.kept hb3, HB1.out.trans (hb3.mono HB1.out.size)⟩
        clear kj hb3 HO1 g0 g1 g2 g3
        go_wp2_with fail
        refine ⟨⟨k + 1, HP.out, by go_num⟩, ?_⟩
        simp [intOf]
        omega
    · have hk : k = cx.length := by omega
      have HO : Hid (OwnI w1.heap.size wr u3 (jumpsL cx)) := by
        have := HS.out.own
        rw [hk, List.take_length] at this
        exact this
      have HB : Hid (Below w1.heap.size w1 wr) := HS.out.bel
      have m7 := (HF.out wr HS.out.bel).2.1
      have hdk : decide (k < cx.length) = false := decide_eq_false (by omega)
      clear HS hk
      go_wp2_with fail
      clear m7
      go_loopw [3, 31] (fun v i wr => ∃ k : Nat, S2At cx hx w1 wr v k ∧ i = .int .i64 k) (fun v i wr => hx.length - (intOf i).toNat)
      case atStart => exact ⟨0, ⟨Nat.zero_le _, by rw [List.take_zero]; show OwnI _ _ _ (jumpsL cx ++ []); rw [List.append_nil]; exact HO.out, HB.out⟩, rfl⟩
      case round =>
        clear HO HB
        obtain ⟨q, hr, rfl⟩ := hrel
        have HS : Hid (S2At cx hx w1 wr u3 q) := hr
        have qle := hr.le
        clear hr
        rcases Nat.lt_or_ge q hx.length with c' | c'
        · have hex : ∃ y, hx[q]? = some y := ⟨_, List.getElem?_eq_getElem c'⟩
          obtain ⟨y, hy⟩ := hex
          have HT : Hid (jumpsL cx ++ tgL (hx.take (q + 1)) = (jumpsL cx ++ tgL (hx.take q)) ++ [y.target]) := by
            show _ = _
            unfold tgL
            rw [take_at hx q y hy, List.map_append, List.append_assoc]
            rfl
          have hcc := (HF.out wr HS.out.bel).2.2.hnds.cells (by intro e; simp at e; subst e; simp at c')
          obtain ⟨b, off, rfl, hcc⟩ := hcc
          have g0 := hcc q y hy 0 _ rfl
          have g1 := hcc q y hy 1 _ rfl
          have g2 := hcc q y hy 2 _ rfl
          rw [Nat.add_zero] at g0
          clear hcc hy
          obtain ⟨fr, to, tg⟩ := y
          simp only at g0 g1 g2 HT
          have ob : ((jumpsL cx ++ tgL (hx.take q)).length + 1) * 8 ≤ 140737488355328 := by
            have h1 := jumpsL_len cx
            have h2 := HLN.out
            unfold tgL
            rw [List.length_append, List.length_map, List.length_take]
            omega
          have HO1 := own_new (own_new HS.out.own (.cells #[.int .i64 fr, .int .i64 to, .int .i64 tg] 49)) (.cells #[.int .i64 tg] 3)
          have HB1 := below_new HS.out.bel HS.out.bel.size (.cells #[.int .i64 fr, .int .i64 to, .int .i64 tg] 49)
          have HB2 : Hid (Below w1.heap.size w1 ((wr.alloc (.cells #[.int .i64 fr, .int .i64 to, .int .i64 tg] 49)).alloc (.cells #[.int .i64 tg] 3))) := below_new HB1 HB1.size _
          have hB2 := HB2.out.size
          have oc := one_cell (wr.alloc (.cells #[.int .i64 fr, .int .i64 to, .int .i64 tg] 49)) tg
          rw [size_new] at oc
          clear HB1
          generalize jumpsL cx ++ tgL (hx.take q) = L0 at *
          go_wp2_with (at_builtin; refine app_one rfl _ _ rfl w1.heap.size u3 L0 rfl HO1 (wr.heap.size + 1) tg rfl oc ob hB2 ?_)
          intro v5 w5 ho5 hg5
          have HP : Hid (S2At cx hx w1 w5 v5 (q + 1)) := ⟨c', by rw [HT.out]; exact ho5, HB2.out.grown hg5 hB2 HO1.base⟩
          clear ho5 hg5 HO1 oc
          go_wp2_with fail
          refine ⟨⟨q + 1, HP.out, by go_num⟩, ?_⟩
          simp [intOf]
          omega
        · have hk : q = hx.length := by omega
          have HO : Hid (OwnI w1.heap.size wr u3 SL) := by
            have := HS.out.own
            rw [hk, List.take_length, ← HQ.out] at this
            exact this
          have sl : SL.length < 4611686018427387904 := by
            rw [HQ.out]
            have h1 := jumpsL_len cx
            have h2 := HLN.out
            unfold tgL
            rw [List.length_append, List.length_map]
            omega
          have kr := cr.out wr u3 SL HO.out HS.out.bel sl
          clear hk sl
          go_wp2_with fail
          refine kr.mono ?_
          rintro e w7 ⟨v7, rfl, h7, h8⟩
          have H7 : Hid (OwnI w1.heap.size w7 v7 (risen SL) ∧ Below w1.heap.size w1 w7) := ⟨h7, h8⟩
          clear h7 h8 kr
          go_wp2_with fail
          go_ret
          exact ⟨_, rfl, HL.out _ _ _ H7.out.1, HD.out _ H7.out.2⟩
end Go.Proofs.Ytjkemkggcnholaa.Fu
