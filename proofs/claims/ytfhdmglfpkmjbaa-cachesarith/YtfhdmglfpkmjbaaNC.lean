/- Caches: Find. -/
import Derived.Test.YtfhdmglfpkmjbaaNB
namespace Go.Proofs.Ytfhdmglfpkmjbaa.Hp
open Go.RowKit
set_option linter.unusedVariables false
set_option linter.unusedSimpArgs false

def isE (vf : Int → Bool) (sh : Int) (e : En) : Bool := e.sh == sh && hldB vf e
def fndE (vf : Int → Bool) (sh : Int) (l : List En) : Option En := l.find? (isE vf sh)
def noE : En := ⟨0, 0, 0, 0⟩
def fvE (o : Option En) : Value := .tuple #[(o.getD noE).val, .bool o.isSome]

theorem fnd_hit {vf : Int → Bool} {sh : Int} {l : List En} {i : Nat} {e : En} (hi : l[i]? = some e) (h0 : fndE vf sh (l.take i) = none) (h : isE vf sh e = true) : fndE vf sh l = some e := by
  unfold fndE at *
  have hl := (List.getElem?_eq_some_iff.1 hi).1
  rw [show l = l.take i ++ l.drop i from (List.take_append_drop i l).symm, List.find?_append, h0, Option.none_or]
  have hd : l.drop i = e :: l.drop (i + 1) := by
    rw [List.drop_eq_getElem_cons hl]
    rw [(List.getElem?_eq_some_iff.1 hi).2]
  rw [hd, List.find?_cons_of_pos h]
theorem fnd_miss {vf : Int → Bool} {sh : Int} {l : List En} {i : Nat} {e : En} (hi : l[i]? = some e) (h0 : fndE vf sh (l.take i) = none) (h : isE vf sh e = false) : fndE vf sh (l.take (i + 1)) = none := by
  unfold fndE at *
  rw [take_at l i e hi, List.find?_append, h0, Option.none_or, List.find?_cons_of_neg (by simp [h])]
  rfl

/-- four cells of a block, an entry's -/
structure EnAt (w : World) (b : Nat) (o : Nat) (e : En) : Prop where
  c0 : w.cell? ⟨b, o, none⟩ = some (.int .i64 e.sh)
  c1 : w.cell? ⟨b, o + 1, none⟩ = some (.int .i64 e.ho)
  c2 : w.cell? ⟨b, o + 2, none⟩ = some (.int .i64 e.sl)
  c3 : w.cell? ⟨b, o + 3, none⟩ = some (.int .i64 e.ce)
theorem EnAt.below {w w' : World} {b o : Nat} {e : En} (h : EnAt w b o e) (hb : Below w.heap.size w w') : EnAt w' b o e :=
  ⟨cells_below hb _ _ h.c0, cells_below hb _ _ h.c1, cells_below hb _ _ h.c2, cells_below hb _ _ h.c3⟩
theorem sli_en {w : World} {m : Sli En} (hm : m.ok encE 4 w) {i : Nat} {e : En} (hi : m.xs[i]? = some e) : ∃ b off, m.at' = some ⟨b, off, none⟩ ∧ EnAt w b (off + i * 4) e := by
  obtain ⟨b, off, h1, h2⟩ := hm.cells (by intro q; rw [q] at hi; simp at hi)
  exact ⟨b, off, h1, h2 i e hi 0 _ rfl, h2 i e hi 1 _ rfl, h2 i e hi 2 _ rfl, h2 i e hi 3 _ rfl⟩

/-- a box of the call's own -/
def BxE (W : World) (b : Nat) (e : En) : Prop := W.heap[b]? = some (.cells #[.int .i64 e.sh, .int .i64 e.ho, .int .i64 e.sl, .int .i64 e.ce] 26 (0, 0))
/-- an entry stored -/
def stE (W : World) (b : Nat) (e : En) : World := (((W.setCell ⟨b, 0, none⟩ (.int .i64 e.sh)).setCell ⟨b, 1, none⟩ (.int .i64 e.ho)).setCell ⟨b, 2, none⟩ (.int .i64 e.sl)).setCell ⟨b, 3, none⟩ (.int .i64 e.ce)
/-- a site's variable -/
def BxS (W : World) (b : Nat) (st : Int) (v : Value) : Prop := W.heap[b]? = some (.cells #[.int .i64 st, v] 24 (0, 0))
def stS (W : World) (b : Nat) (st : Int) (v : Value) : World := (W.setCell ⟨b, 0, none⟩ (.int .i64 st)).setCell ⟨b, 1, none⟩ v

section
variable {w W W' : World} {b n : Nat} {e : En} {st : Int} {v : Value}
theorem BxE.lt (h : BxE W b e) : b < W.heap.size := (Array.getElem?_eq_some_iff.1 h).1
theorem BxE.below (h : BxE W b e) (hB : Below W.heap.size W W') : BxE W' b e := by
  unfold BxE
  rw [hB.block b h.lt]
  exact h
theorem BxE.at' (h : BxE W b e) : EnAt W b 0 e := ⟨cell_of_row W b 0 _ _ (0, 0) h, cell_of_row W b 1 _ _ (0, 0) h, cell_of_row W b 2 _ _ (0, 0) h, cell_of_row W b 3 _ _ (0, 0) h⟩
theorem BxE.fz (h : BxE W b e) (j : Nat) : W.frozen? ⟨b, j, none⟩ = false := frozen_of_row W b j _ _ h
theorem BxE.put (h : BxE W b e) (x : En) : BxE (stE W b x) b x := by
  have s0 := heap_setCell_same W b 0 _ _ (.int .i64 x.sh) h
  have s1 := heap_setCell_same _ b 1 _ _ (.int .i64 x.ho) s0
  have s2 := heap_setCell_same _ b 2 _ _ (.int .i64 x.sl) s1
  exact heap_setCell_same _ b 3 _ _ (.int .i64 x.ce) s2
theorem stE_below (hB : Below n w W) (hb : n ≤ b) (x : En) : Below n w (stE W b x) := (((hB.setCell hb _).setCell hb _).setCell hb _).setCell hb _
theorem bxE_new (w : World) (e : En) : BxE (w.alloc (.cells #[.int .i64 e.sh, .int .i64 e.ho, .int .i64 e.sl, .int .i64 e.ce] 26)) w.heap.size e := at_new _ _
theorem BxS.lt (h : BxS W b st v) : b < W.heap.size := (Array.getElem?_eq_some_iff.1 h).1
theorem BxS.below (h : BxS W b st v) (hB : Below W.heap.size W W') : BxS W' b st v := by
  unfold BxS
  rw [hB.block b h.lt]
  exact h
theorem BxS.ce (h : BxS W b st v) : W.cell? ⟨b, 0, none⟩ = some (.int .i64 st) ∧ W.cell? ⟨b, 1, none⟩ = some v := ⟨cell_of_row W b 0 _ _ (0, 0) h, cell_of_row W b 1 _ _ (0, 0) h⟩
theorem BxS.fz (h : BxS W b st v) (j : Nat) : W.frozen? ⟨b, j, none⟩ = false := frozen_of_row W b j _ _ h
theorem BxS.put (h : BxS W b st v) (st' : Int) (v' : Value) : BxS (stS W b st' v') b st' v' := by
  have s0 := heap_setCell_same W b 0 _ _ (.int .i64 st') h
  exact heap_setCell_same _ b 1 _ _ v' s0
theorem stS_below (hB : Below n w W) (hb : n ≤ b) (st' : Int) (v' : Value) : Below n w (stS W b st' v') := (hB.setCell hb _).setCell hb _
theorem bxS_new (w : World) (st : Int) (v : Value) : BxS (w.alloc (.cells #[.int .i64 st, v] 24)) w.heap.size st v := at_new _ _
end

theorem res1 {P : Program} {fn : Func} {p : Tmp} {ty : TypeId} (h : fn.results = #[.cell p ty]) (tmps : Array Value) (w : World) (g : Nat) (t : TypeId) (cs : Array Value) (fr : Nat × Nat) (d : TypeDesc)
    (hp : tmps.getD p undef = .pointer (some ⟨g, 0, none⟩)) (hg : w.heap[g]? = some (.cells cs t fr))
    (hu : P.underlying ty = some d) (hd : (match d with | .struct _ | .array _ _ => true | _ => false) = true) (hi : (P.info? ty).map (·.size) = some cs.size) :
    (results fn tmps).run P w = .ok (.agg cs) w := by
  have hp' : tmps[p]?.getD undef = .pointer (some ⟨g, 0, none⟩) := by simpa using hp
  simp [results, h, hp', asAddr, run_loadVar_row w g t ty cs fr d hg hu hd hi]
theorem res2 {P : Program} {fn : Func} {p a : Tmp} {ty : TypeId} (h : fn.results = #[.cell p ty, .tmp a]) (tmps : Array Value) (w : World) (g : Nat) (t : TypeId) (cs : Array Value) (fr : Nat × Nat) (d : TypeDesc)
    (hp : tmps.getD p undef = .pointer (some ⟨g, 0, none⟩)) (hg : w.heap[g]? = some (.cells cs t fr))
    (hu : P.underlying ty = some d) (hd : (match d with | .struct _ | .array _ _ => true | _ => false) = true) (hi : (P.info? ty).map (·.size) = some cs.size) :
    (results fn tmps).run P w = .ok (.tuple #[.agg cs, tmps.getD a undef]) w := by
  have hp' : tmps[p]?.getD undef = .pointer (some ⟨g, 0, none⟩) := by simpa using hp
  simp [results, h, hp', asAddr, run_loadVar_row w g t ty cs fr d hg hu hd hi]

set_option maxRecDepth 100000 in
set_option maxHeartbeats 2000000 in
theorem find_any {X : World → Prop} {f : Nat} {cap : Array Value} {vf : Int → Bool} (A : Ask X f cap vf) (m : Sli En) (st sh : Int) (w : World) (hX : X w) (hm : m.ok encE 4 w) :
    Calls Try.prog 11 #[.agg #[.int .i64 st, m.val], .int .i64 sh, fnV f cap] w fun r w' => r = .returned (fvE (fndE vf sh m.xs)) ∧ Below w.heap.size w w' := by
  have HA : Hid (Ask X f cap vf) := A
  have HX : Hid (X w) := hX
  have HM : Hid (m.ok encE 4 w) := hm
  obtain ⟨ad, cp, l⟩ := m
  have hlim : (l.length : Int) ≤ 9223372036854775807 := by have := hm.len; have := hm.cap; unfold maxLen at this; simp only at *; omega
  unfold Sli.val
  simp only
  obtain ⟨w2, hw2⟩ : ∃ w2, w2 = (w.alloc (.cells #[.int .i64 st, .slice ad l.length cp] 24)).alloc (.cells #[.int .i64 0, .int .i64 0, .int .i64 0, .int .i64 0] 26) := ⟨_, rfl⟩
  have HB2 : Hid (Below w.heap.size w w2) := by rw [hw2]; exact B2 w _ _
  have HBX : Hid (BxE w2 (w.heap.size + 1) noE) := by
    rw [hw2]
    have := bxE_new (w.alloc (.cells #[.int .i64 st, .slice ad l.length cp] 24)) noE
    rw [size_new] at this
    exact this
  generalize hg : fnV f cap = F at *
  clear A hX hm
  go_enter Try.func11, Try.ntmps11
  go_wp2_with fail
  rw [← hw2]
  clear hw2
  go_loopw [13] (fun p wr => ∃ i : Nat, i ≤ l.length ∧ Hid (fndE vf sh (l.take i) = none) ∧ Hid (Below w.heap.size w wr) ∧ Hid (BxE wr (w.heap.size + 1) noE) ∧ p = .int .i64 (i : Int)) (fun p wr => ((l.length : Int) - intOf p).toNat)
  case atStart => exact ⟨0, Nat.zero_le _, rfl, HB2, HBX, rfl⟩
  case round =>
    obtain ⟨i, hi, hno, hbw, hbx, rfl⟩ := hrel
    by_cases c : i < l.length
    · have hex : ∃ e, l[i]? = some e := ⟨_, List.getElem?_eq_getElem c⟩
      obtain ⟨e, he⟩ := hex
      obtain ⟨b, off, hb1, hen⟩ := sli_en (HM.out.kept (cells_below hbw.out)) he
      simp only at hb1
      subst hb1
      have hii : (i : Int) < (l.length : Int) := by omega
      have hii2 : decide ((i : Int) < (l.length : Int)) = true := decide_eq_true hii
      have hw1 : IntKind.i64.wrap ((i : Int) + 1) = ((i + 1 : Nat) : Int) := by rw [IntKind.wrap_i64]; omega
      obtain ⟨c0, c1, c2, c3⟩ := hen
      have HE : Hid (l[i]? = some e) := he
      clear he hi
      obtain ⟨esh, eho, esl, ece⟩ := e
      simp only at c0 c1 c2 c3
      go_upto_region 4 with fail
      obtain ⟨W, hW⟩ : ∃ W, W = wr.alloc (.cells #[.int .i64 esh, .int .i64 eho, .int .i64 esl, .int .i64 ece] 26) := ⟨_, rfl⟩
      have hBW : Below wr.heap.size wr W := by rw [hW]; exact (Below.refl _ _).alloc (Nat.le_refl _) _
      have hE : BxE W wr.heap.size ⟨esh, eho, esl, ece⟩ := by rw [hW]; exact bxE_new wr ⟨esh, eho, esl, ece⟩
      have HBW : Hid (Below w.heap.size w W) := hbw.out.trans (hBW.mono hbw.out.size)
      have HBX2 : Hid (BxE W (w.heap.size + 1) noE) := hbx.out.below hBW
      obtain ⟨d0, d1, d2, d3⟩ := hE.at'
      simp only [Nat.zero_add] at d1 d2 d3
      rw [← hW]
      clear hW hBW c0 c1 c2 c3 hE
      have KH := holds_any HA.out ⟨esh, eho, esl, ece⟩ W (HA.out.kept HX.out (HBW.out))
      unfold En.val at KH
      simp only at KH
      rw [hg] at KH
      have HN1 : Hid (isE vf sh ⟨esh, eho, esl, ece⟩ = false → fndE vf sh (l.take (i + 1)) = none) := fun q => fnd_miss HE.out hno.out q
      have HN2 : Hid (isE vf sh ⟨esh, eho, esl, ece⟩ = true → fndE vf sh l = some ⟨esh, eho, esl, ece⟩) := fun q => fnd_hit HE.out hno.out q
      have HI : Hid (i < l.length) := c
      by_cases cs : esh = sh
      · subst cs
        have hie : Hid (isE vf esh ⟨esh, eho, esl, ece⟩ = hldB vf ⟨esh, eho, esl, ece⟩) := by unfold isE; show (_ : Bool) = _; simp
        generalize hldB vf ⟨esh, eho, esl, ece⟩ = r at *
        go_wp2_with fail
        refine KH.mono ?_
        rintro ee w3 ⟨rfl, hb3⟩
        have e0 := cells_below hb3 _ _ d0
        have e1 := cells_below hb3 _ _ d1
        have e2 := cells_below hb3 _ _ d2
        have e3 := cells_below hb3 _ _ d3
        have HB3 : Hid (Below w.heap.size w w3) := HBW.out.trans (hb3.mono HBW.out.size)
        have HX3 : Hid (BxE w3 (w.heap.size + 1) noE) := HBX2.out.below hb3
        clear KH hb3 d0 d1 d2 d3 hno hbw hbx HBW HBX2
        cases r with
        | false =>
          go_wp2_with fail
          refine ⟨⟨i + 1, HI.out, HN1.out hie.out, HB3, HX3, rfl⟩, ?_⟩
          have := HI.out
          simp [intOf]
          omega
        | true =>
          have hfd := HN2.out hie.out
          obtain ⟨z0, z1, z2, z3⟩ := HX3.out.at'
          have zf0 := HX3.out.fz 0
          have zf1 := HX3.out.fz 1
          have zf2 := HX3.out.fz 2
          have zf3 := HX3.out.fz 3
          have HPU : Hid (BxE (stE w3 (w.heap.size + 1) ⟨esh, eho, esl, ece⟩) (w.heap.size + 1) ⟨esh, eho, esl, ece⟩ ∧ Below w.heap.size w (stE w3 (w.heap.size + 1) ⟨esh, eho, esl, ece⟩)) := ⟨HX3.out.put _, stE_below HB3.out (by omega) _⟩
          simp only [Nat.zero_add] at z1 z2 z3
          have HFD : Hid (fndE vf esh l = some ⟨esh, eho, esl, ece⟩) := hfd
          clear HN1 HN2 hfd HX3
          go_wp2_with fail
          refine bodyPost_ret (res2 rfl _ _ (w.heap.size + 1) 26 _ (0, 0) _ rfl HPU.out.1 Try.underlying26 rfl (by kernel_rfl)) rfl ?_
          rw [HFD.out]
          exact ⟨rfl, HPU.out.2⟩
      · have hsh : (esh == sh) = false := by simpa using cs
        have HN : Hid (fndE vf sh (l.take (i + 1)) = none) := HN1.out (by unfold isE; show (_ : Bool) = _; simp [hsh])
        clear KH HN1 HN2 hno hbw hbx
        go_wp2_with fail
        refine ⟨⟨i + 1, HI.out, HN, HBW, HBX2, rfl⟩, ?_⟩
        have := HI.out
        simp [intOf]
        omega
    · have hii2 : decide ((i : Int) < (l.length : Int)) = false := decide_eq_false (by omega)
      have hil : i = l.length := by omega
      subst hil
      rw [List.take_length] at hno
      obtain ⟨z0, z1, z2, z3⟩ := hbx.out.at'
      have zf0 := hbx.out.fz 0
      have zf1 := hbx.out.fz 1
      have zf2 := hbx.out.fz 2
      have zf3 := hbx.out.fz 3
      have HPU : Hid (BxE (stE wr (w.heap.size + 1) noE) (w.heap.size + 1) noE ∧ Below w.heap.size w (stE wr (w.heap.size + 1) noE)) := ⟨hbx.out.put _, stE_below hbw.out (by omega) _⟩
      simp only [Nat.zero_add] at z1 z2 z3
      clear hbx
      go_wp2_with fail
      refine bodyPost_ret (res2 rfl _ _ (w.heap.size + 1) 26 _ (0, 0) _ rfl HPU.out.1 Try.underlying26 rfl (by kernel_rfl)) rfl ?_
      rw [hno.out]
      exact ⟨rfl, HPU.out.2⟩
end Go.Proofs.Ytfhdmglfpkmjbaa.Hp
