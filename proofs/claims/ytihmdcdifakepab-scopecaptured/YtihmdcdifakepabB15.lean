/- The resolver's walk: declare. -/
import Derived.Test.YtihmdcdifakepabMK
import Derived.Test.YtihmdcdifakepabB13
import Derived.Test.YtihmdcdifakepabB14
namespace Go.Proofs.Ytihmdcdifakepab.Rv
open Go.RowKit Go.Proofs.Ytihmdcdifakepab.Sc Go.Proofs.Ytihmdcdifakepab.Rz
set_option linter.unusedVariables false
set_option linter.unusedSimpArgs false

theorem fnd_any (nm : ByteArray) : ∀ b : Blk, (fnd nm b).isSome = b.any (fun e => decide (e.1 = nm))
  | [] => rfl
  | e :: b => by
    have ih := fnd_any nm b
    unfold fnd at *
    by_cases c : e.1 = nm
    · rw [List.find?_cons_of_pos (by simpa using c), List.any_cons]
      simp [c]
    · rw [List.find?_cons_of_neg (by simpa using c), List.any_cons, ih]
      simp [c]
theorem le_sum {x : Nat} : ∀ {l : List Nat}, x ∈ l → x ≤ l.sum
  | [], h => by cases h
  | y :: l, h => by
    rw [List.sum_cons]
    rcases List.mem_cons.1 h with q | q
    · omega
    · have := le_sum q; omega

/-- one more slot of the function -/
theorem Mem.bump {w : World} {B rb : Nat} {O : Nat → Prop} {s : Rz.RS} {v6 : Value} (h : Mem w B rb O s v6) : ∃ g n cap, w.cell? ⟨rb, 0, none⟩ = some (.slice (some ⟨g, 0, none⟩) n cap) ∧ w.cell? ⟨g, s.fn * 4 + 3, none⟩ = some (.int .i64 (varsAt s : Int)) ∧ w.frozen? ⟨g, s.fn * 4 + 3, none⟩ = false ∧ (∀ W, Below w.heap.size w W → Calls Try.prog 40 #[.pointer (some ⟨rb, 0, none⟩)] W fun e w' => e = .returned (.pointer (some ⟨g, s.fn * 4, none⟩)) ∧ Below W.heap.size W w') ∧ ∀ W, Below w.heap.size w W → Went W B rb O (bumpP s) v6 (W.setCell ⟨g, s.fn * 4 + 3, none⟩ (.int .i64 ((varsAt s : Int) + 1))) := by
  obtain ⟨tg, v0, v1, v2, v3, ms, h, hO⟩ := h
  have hfn := h.gd.fnl
  obtain ⟨y, hy⟩ : ∃ y, s.scopes[s.fn]? = some y := ⟨_, List.getElem?_eq_getElem hfn⟩
  have hva : varsAt s = y.vars := by unfold varsAt; rw [hy]; rfl
  obtain ⟨ad, cap, rfl, l1, l2, hg⟩ := own_slice h.r0
  obtain ⟨g, rfl⟩ := hg (by intro e; rw [e] at hfn; simp at hfn)
  obtain ⟨_, _, _, _, _, r6, r7⟩ := h.r0.read rtScp.len
  have d3 := r6 s.fn y hy 3 _ rfl
  refine ⟨g, s.scopes.length, cap, h.c.1, by rw [hva]; exact d3, r7 _, fun W hW => scope_any W B rb O s v6 tg _ v1 v2 v3 ms (h.below hW) g _ cap rfl, fun W hW => ?_⟩
  have hp := (h.below hW).put0 (i := s.fn) (j := 3) (y := y) (y' := { y with vars := y.vars + 1 }) (u := .int .i64 ((varsAt s : Int) + 1)) hy (by omega) (by rw [hva]; simp [scpC]) ?_
  · obtain ⟨p1, p2⟩ := hp
    have e1 : bumpP s = { s with scopes := s.scopes.set s.fn { y with vars := y.vars + 1 } } := by
      unfold bumpP
      rw [modify_set _ _ _ y hy]
    rw [e1]
    exact went_of hO p1 p2 (fun b q => Or.inl q)
  · exact ⟨by simpa using hfn, h.gd.blk, h.gd.wf⟩

set_option maxRecDepth 100000 in
set_option maxHeartbeats 4000000 in
theorem declare_any (w : World) (B rb : Nat) (O : Nat → Prop) (s : Rz.RS) (v6 : Value) (h : Mem w B rb O s v6) (hb : bg s < 1000000000) (b0 : Blk) (bs : List Blk) (hbs : s.blocks = b0 :: bs) (kind pl num : Int) (nm op : ByteArray) (kv : Value) (hs : nm.size ≤ maxLen) (kd : Int) :
    Calls Try.prog 28 #[.pointer (some ⟨rb, 0, none⟩), .agg #[.int .i64 kind, .int .i64 pl, .string nm, .int .u64 num, .string op, kv], .int .i64 kd] w (Out w B rb O v6 (.tuple #[]) (declP nm pl kd s)) := by
  obtain ⟨wb, hwb⟩ : ∃ wb, wb = w.alloc (.cells #[.int .i64 kind, .int .i64 pl, .string nm, .int .u64 num, .string op, kv] 25) := ⟨_, rfl⟩
  have hbl : Below w.heap.size w wb := by rw [hwb]; exact below_new (Below.refl _ _) (Nat.le_refl _) _
  have hbx : wb.heap[w.heap.size]? = some (.cells #[.int .i64 kind, .int .i64 pl, .string nm, .int .u64 num, .string op, kv] 25 (0, 0)) := by rw [hwb]; exact at_new _ _
  have HOL : Hid (∀ b, O b → b < w.heap.size) := fun b q => (h.lt b q).2
  have hmb := h.below hbl
  have HMB : Hid (Mem wb B rb O s v6) := hmb
  have HBL : Hid (Below w.heap.size w wb) := hbl
  obtain ⟨tg, v0, v1, v2, v3, ms, hm, hO⟩ := hmb
  have hml := hm.ml
  rw [hbs, List.length_cons] at hml
  obtain ⟨ms0, m, rfl⟩ : ∃ ms0 m, ms = ms0 ++ [m] := by
    rcases List.eq_nil_or_concat ms with e | ⟨a, b, e⟩
    · rw [e] at hml; simp at hml
    · exact ⟨a, b, by rw [e, List.concat_eq_append]⟩
  have hlast : (ms0 ++ [m])[ms0.length]? = some m := by simp
  have hln : (ms0 ++ [m]).length = ms0.length + 1 := by simp
  obtain ⟨ad3, cap3, rfl, l1, l2, hg3⟩ := own_slice hm.r3
  obtain ⟨g, rfl⟩ := hg3 (by simp)
  obtain ⟨_, _, _, _, _, r6, r7⟩ := hm.r3.read rtMp.len
  have d3 := r6 ms0.length m hlast 0 _ rfl
  rw [Nat.mul_one, Nat.add_zero] at d3
  have c3 := hm.c.2.2.2.1
  rw [hln] at c3
  have hmp := hm.mp ms0.length m b0 hlast (by rw [hbs, List.reverse_cons, List.getElem?_append_right (by rw [List.length_reverse]; omega)]; simp only [List.length_reverse]; rw [show ms0.length - bs.length = 0 by omega]; rfl)
  have hwf0 := hm.gd.wf b0 (by rw [hbs]; exact List.mem_cons_self ..)
  have hlk : ∀ W, Below wb.heap.size wb W → (Instr.lookup 98 (.map m) (.string nm) true).run Try.prog W = .ok (lookV nm b0) W := fun W hW => (hmp.kept (fun mb e => by subst e; exact hW.block mb (hm.tm ms0.length mb hlast).2.2)).look hwf0 hs
  have hli : (ms0.length : Int) + 1 ≤ 9223372036854775807 := by unfold maxLen at l2; rw [hln] at l1; omega
  obtain ⟨bg0, bn0, bc0, q0, q3, qf, qs, qw⟩ := HMB.out.bump
  have HSTEP : Hid (∀ W, Below wb.heap.size wb W → Calls Try.prog 40 #[.pointer (some ⟨rb, 0, none⟩)] W fun e w' => e = .returned (.pointer (some ⟨bg0, s.fn * 4, none⟩)) ∧ Below W.heap.size W w') := qs
  have HW : Hid (∀ W, Below wb.heap.size wb W → Went W B rb O (bumpP s) v6 (W.setCell ⟨bg0, s.fn * 4 + 3, none⟩ (.int .i64 ((varsAt s : Int) + 1)))) := qw
  have HVW : Hid (lookV nm b0 = .tuple #[.int .i64 (((fnd nm b0).map (fun e => (e.2 : Int))).getD 0), .bool (b0.any (fun e => decide (e.1 = nm)))]) := by show _ = _; unfold lookV; rw [fnd_any]
  rw [HVW.out] at hlk
  generalize ((fnd nm b0).map (fun e => (e.2 : Int))).getD 0 = fkk at *
  have HNO : Hid (b0.any (fun e => decide (e.1 = nm)) = false → ∀ x ∈ b0, x.1 ≠ nm) := fun q x hx e => by
    have : b0.any (fun e => decide (e.1 = nm)) = true := List.any_eq_true.2 ⟨x, hx, by simpa using e⟩
    rw [q] at this; cases this
  obtain ⟨R, hR⟩ : ∃ R, R = declP nm pl kd s := ⟨_, rfl⟩
  rw [← hR]
  unfold declP at hR
  have hhd : s.blocks.headD [] = b0 := by rw [hbs]; rfl
  rw [hhd] at hR
  have HR : Hid (R = if b0.any (fun e => decide (e.1 = nm)) = true then .error (pl, 71) else if 200 ≤ varsAt s then .error (pl, 72) else .ok (putVarP nm pl kd (varsAt s) (bumpP s))) := hR
  have HVAR : Hid (b0.any (fun e => decide (e.1 = nm)) = false → ∀ W, Below wb.heap.size wb W → (W.setCell ⟨bg0, s.fn * 4 + 3, none⟩ (.int .i64 ((varsAt s : Int) + 1))).heap[w.heap.size]? = some (.cells #[.int .i64 kind, .int .i64 pl, .string nm, .int .u64 num, .string op, kv] 25 (0, 0)) ∧ Calls Try.prog 41 #[.pointer (some ⟨rb, 0, none⟩), .agg #[.int .i64 kind, .int .i64 pl, .string nm, .int .u64 num, .string op, kv], .int .i64 kd, .int .i64 (varsAt s : Int)] (W.setCell ⟨bg0, s.fn * 4 + 3, none⟩ (.int .i64 ((varsAt s : Int) + 1))) fun e w' => e = .returned (.tuple #[]) ∧ Went w B rb O (putVarP nm pl kd (varsAt s) (bumpP s)) v6 w') := fun hno W hW => by
    have hw := qw W hW
    have hchg : Chg O w (W.setCell ⟨bg0, s.fn * 4 + 3, none⟩ (.int .i64 ((varsAt s : Int) + 1))) := by
      obtain ⟨O1, m1, c1, o1⟩ := hw
      exact (Chg.of_below (HBL.out.trans (hW.mono HBL.out.size))).trans c1 (fun _ _ q => q)
    refine ⟨?_, ?_⟩
    · obtain ⟨O1, m1, c1, o1⟩ := hw
      rw [c1.block w.heap.size (Nat.lt_of_lt_of_le (by rw [hwb, size_new]; omega) hW.size) (fun q => by have := HOL.out _ q; omega), hW.block _ (by rw [hwb, size_new]; omega)]
      exact hbx
    · obtain ⟨O1, m1, c1, o1⟩ := hw
      have hbg : bg (bumpP s) ≤ 1000000000 := by
        have h1 := sum_bump s.scopes s.fn
        unfold bg bumpP at *
        simp only [List.length_modify]
        omega
      refine (variable_any _ B rb O1 (bumpP s) v6 m1 hbg b0 bs hbs kind pl num nm op kv hs (HNO.out hno) kd (varsAt s)).mono ?_
      rintro e w' ⟨rfl, hq⟩
      exact ⟨rfl, went_then hchg (fun b q => (o1 b q).imp id (fun q => Nat.le_trans (Nat.le_trans HBL.out.size hW.size) q)) hq⟩
  have HCH : Hid (∀ W, Below wb.heap.size wb W → Chg O w W) := fun W hW => Chg.of_below (HBL.out.trans (hW.mono HBL.out.size))
  have a1 : wb.cell? ⟨w.heap.size, 1, none⟩ = some (.int .i64 pl) := by rw [cell_of_row wb _ 1 _ 25 (0, 0) hbx]; rfl
  have a2 : wb.cell? ⟨w.heap.size, 2, none⟩ = some (.string nm) := by rw [cell_of_row wb _ 2 _ 25 (0, 0) hbx]; rfl
  have HLK : Hid (∀ W, Below wb.heap.size wb W → (Instr.lookup 98 (.map m) (.string nm) true).run Try.prog W = .ok (.tuple #[.int .i64 fkk, .bool (b0.any (fun e => decide (e.1 = nm)))]) W) := hlk
  have hva : (varsAt s : Int) ≤ 1000000000 := by
    obtain ⟨y, hy⟩ : ∃ y, s.scopes[s.fn]? = some y := ⟨_, List.getElem?_eq_getElem h.gd.fnl⟩
    have h1 : varsAt s = y.vars := by unfold varsAt; rw [hy]; rfl
    have h2 : y.vars ≤ (s.scopes.map Rz.Scp.vars).sum := le_sum (List.mem_map.2 ⟨y, List.mem_of_getElem? hy, rfl⟩)
    unfold bg at hb
    omega
  have HQ3 : Hid (wb.cell? ⟨bg0, s.fn * 4 + 3, none⟩ = some (.int .i64 (varsAt s : Int)) ∧ wb.frozen? ⟨bg0, s.fn * 4 + 3, none⟩ = false ∧ bg0 < wb.heap.size) := ⟨q3, qf, World.block_lt_of_cell? wb _ q3⟩
  generalize b0.any (fun e => decide (e.1 = nm)) = an at *
  generalize varsAt s = va at *
  generalize s.fn = fn at *
  have hli2 : (0 : Int) ≤ (ms0.length : Int) := by omega
  generalize ms0.length = ml at *
  clear hR hhd h hmp hwf0 hm hO hml hlast hln l1 l2 r6 r7 qs qw HMB hbs hb hs hg3 q0 q3 qf HNO HVW hlk
  go_enter Try.func28, Try.ntmps28
  go_upto_region 1 with fail
  rw [← hwb]
  clear hwb
  have hwk : IntKind.i64.wrap ((ml : Int) + 1 - 1) = (ml : Int) := by rw [IntKind.wrap_i64]; omega
  have hwk2 : IntKind.i64.wrap (ml : Int) = (ml : Int) := by rw [IntKind.wrap_i64]; omega
  have hlt1 : (ml : Int) < (ml : Int) + 1 := by omega
  go_region_held (fun W => W.cell? ⟨rb, 3, none⟩ = some (.slice (some ⟨g, 0, none⟩) (ml + 1) cap3) ∧ W.cell? ⟨g, ml, none⟩ = some (.map m) ∧ W.cell? ⟨w.heap.size, 2, none⟩ = some (.string nm) ∧ (Instr.lookup 98 (.map m) (.string nm) true).run Try.prog W = .ok (.tuple #[.int .i64 fkk, .bool an]) W) (exact ⟨Sc.cells_below ((Below.refl _ _).drew) _ _ c3, Sc.cells_below ((Below.refl _ _).drew) _ _ d3, Sc.cells_below ((Below.refl _ _).drew) _ _ a2, HLK.out _ ((Below.refl _ _).drew)⟩) (fail)
  obtain ⟨wc, hwc⟩ : ∃ wc, wc = wb.drew := ⟨_, rfl⟩
  have hbc : Below wb.heap.size wb wc := by rw [hwc]; exact (Below.refl _ _).drew
  have HBC : Hid (Below wb.heap.size wb wc) := hbc
  have e1 := Sc.cells_below hbc _ _ a1
  rw [← hwc]
  clear hwc c3 d3 a2 a1 hwk hwk2 hlt1 hbl hbx
  cases an with
  | true =>
    have HC := (show Hid _ from HCH.out wc hbc)
    clear HVAR HSTEP HW hbc
    go_wp2_with fail
    refine ⟨rfl, ?_⟩
    rw [HR.out]
    first | rw [if_pos trivial] | rw [if_pos rfl]
    exact ⟨rfl, HC.out⟩
  | false =>
    have k1 := HSTEP.out wc hbc
    clear hbc
    go_wp2_with fail
    refine k1.mono ?_
    rintro e w1 ⟨rfl, hb1⟩
    have HB1 : Hid (Below wb.heap.size wb w1) := HBC.out.trans (hb1.mono HBC.out.size)
    have z3 := Sc.cells_below HB1.out _ _ HQ3.out.1
    have z1 := Sc.cells_below hb1 _ _ e1
    clear k1 hb1 e1
    by_cases c2 : 200 ≤ va
    · have c2' : (200 : Int) ≤ (va : Int) := by omega
      have HC := (show Hid _ from HCH.out w1 HB1.out)
      clear HVAR HSTEP HW
      go_wp2_with fail
      refine ⟨rfl, ?_⟩
      rw [HR.out]
      first | rw [if_neg (fun q => q)] | rw [if_neg (by decide)]
      rw [if_pos c2]
      exact ⟨rfl, HC.out⟩
    · have c2' : (va : Int) < 200 := by omega
      have HC2 : Hid (¬ 200 ≤ va) := c2
      have k2 := HSTEP.out w1 HB1.out
      clear c2 hva hli hli2
      go_upto_region 7 with fail
      clear c2' z1 z3
      go_wp2_with fail
      refine k2.mono ?_
      rintro e w2 ⟨rfl, hb2⟩
      have HB2 : Hid (Below wb.heap.size wb w2) := HB1.out.trans (hb2.mono HB1.out.size)
      have y3 := Sc.cells_below HB2.out _ _ HQ3.out.1
      have yf : w2.frozen? ⟨bg0, fn * 4 + 3, none⟩ = false := by
        rw [World.frozen?_of_block (w := wb) (a := ⟨bg0, fn * 4 + 3, none⟩) (HB2.out.block bg0 HQ3.out.2.2)]
        exact HQ3.out.2.1
      obtain ⟨hbx2, kv2⟩ := HVAR.out (by first | trivial | rfl) w2 HB2.out
      have hw5 : IntKind.i64.wrap ((va : Int) + 1) = (va : Int) + 1 := by have := HC2.out; rw [IntKind.wrap_i64]; omega
      obtain ⟨w3, hw3⟩ : ∃ w3, w3 = w2.setCell ⟨bg0, fn * 4 + 3, none⟩ (.int .i64 ((va : Int) + 1)) := ⟨_, rfl⟩
      rw [← hw3] at hbx2 kv2
      have g0 : w3.cell? ⟨w.heap.size, 0, none⟩ = some (.int .i64 kind) := by rw [cell_of_row w3 _ 0 _ 25 (0, 0) hbx2]; rfl
      have g1 : w3.cell? ⟨w.heap.size, 1, none⟩ = some (.int .i64 pl) := by rw [cell_of_row w3 _ 1 _ 25 (0, 0) hbx2]; rfl
      have g2 : w3.cell? ⟨w.heap.size, 2, none⟩ = some (.string nm) := by rw [cell_of_row w3 _ 2 _ 25 (0, 0) hbx2]; rfl
      have g3 : w3.cell? ⟨w.heap.size, 3, none⟩ = some (.int .u64 num) := by rw [cell_of_row w3 _ 3 _ 25 (0, 0) hbx2]; rfl
      have g4 : w3.cell? ⟨w.heap.size, 4, none⟩ = some (.string op) := by rw [cell_of_row w3 _ 4 _ 25 (0, 0) hbx2]; rfl
      have g5 : w3.cell? ⟨w.heap.size, 5, none⟩ = some kv := by rw [cell_of_row w3 _ 5 _ 25 (0, 0) hbx2]; rfl
      clear k2 hb2 hbx2 HVAR HSTEP HW
      go_upto_region 8 with fail
      rw [← hw3]
      clear hw3 y3 yf
      go_wp2_with fail
      refine kv2.mono ?_
      rintro e w4 ⟨rfl, h4⟩
      have HG : Hid (Went w B rb O (putVarP nm pl kd va (bumpP s)) v6 w4) := h4
      clear kv2 h4
      go_wp2_with fail
      go_end0
      rw [HR.out]
      first | rw [if_neg (fun q => q)] | rw [if_neg (by decide)]
      rw [if_neg HC2.out]
      exact ⟨rfl, HG.out⟩
end Go.Proofs.Ytihmdcdifakepab.Rv

/- The resolver's walk: items, block. -/
namespace Go.Proofs.Ytihmdcdifakepab.Rv
open Go.RowKit Go.Proofs.Ytihmdcdifakepab.Sc Go.Proofs.Ytihmdcdifakepab.Rz
set_option linter.unusedVariables false
set_option linter.unusedSimpArgs false

/-- what one of a block's statements declares -/
def hd1 (x : Nd) : RM := fun s => if x.kind = 31 then declP x.name x.pl 1 s else if x.kind = 32 then declP x.name x.pl 2 s else if x.kind = 33 then declP x.name x.pl 4 s else .ok s

theorem heads_app {α : Type} (nd : α → Nd) : ∀ (l : List α) (k : α) (r : List α) (s s1 : Rz.RS), headsP nd l s = .ok s1 → headsP nd (l ++ k :: r) s = (hd1 (nd k) s1).bind (headsP nd r)
  | [], k, r, s, s1, e => by
    unfold headsP at e
    obtain rfl := Except.ok.inj e
    rfl
  | x :: l, k, r, s, s1, e => by
    unfold headsP at e
    obtain ⟨s2, e1, e2⟩ := bind_ok e
    rw [List.cons_append, headsP, e1]
    exact heads_app nd l k r s2 s1 e2

theorem decl_keeps {nm : ByteArray} {pl kd : Int} {s s' : Rz.RS} (e : declP nm pl kd s = .ok s') : s'.blocks.length = s.blocks.length ∧ s'.labels = s.labels ∧ s'.loops = s.loops ∧ s'.fn = s.fn := by
  unfold declP at e
  split at e
  · cases e
  · split at e
    · cases e
    · obtain rfl := Except.ok.inj e
      refine ⟨?_, rfl, rfl, rfl⟩
      unfold putVarP bumpP
      simp only
      cases s.blocks <;> rfl

theorem hd1_keeps {x : Nd} {s s' : Rz.RS} (e : hd1 x s = .ok s') : s'.blocks.length = s.blocks.length ∧ s'.labels = s.labels ∧ s'.loops = s.loops ∧ s'.fn = s.fn ∧ cr s' ≤ cr s + 2 := by
  unfold hd1 at e
  have hd : ∀ kd, declP x.name x.pl kd s = .ok s' → s'.blocks.length = s.blocks.length ∧ s'.labels = s.labels ∧ s'.loops = s.loops ∧ s'.fn = s.fn ∧ cr s' ≤ cr s + 2 := fun kd q => ⟨(decl_keeps q).1, (decl_keeps q).2.1, (decl_keeps q).2.2.1, (decl_keeps q).2.2.2, cr_decl _ _ _ s s' q⟩
  split at e
  · exact hd _ e
  · split at e
    · exact hd _ e
    · split at e
      · exact hd _ e
      · obtain rfl := Except.ok.inj e
        exact ⟨rfl, rfl, rfl, rfl, by omega⟩

/-- those up to i were declared -/
structure HdAt (W0 : World) (n : Nat) (w : World) (rb : Nat) (O : Nat → Prop) (s : Rz.RS) (v6 : Value) (xs : List (Tr n)) (i : Nat) (wr : World) : Prop where
  le : i ≤ xs.length
  went : ∃ s1, headsP (ndR n) (xs.take i) s = .ok s1 ∧ (∃ O1, On W0 rb O1 s1 v6 wr ∧ Chg O w wr ∧ (∀ b, O1 b → O b ∨ w.heap.size ≤ b)) ∧ cr s1 ≤ cr s + 2 * i ∧ s1.blocks.length = s.blocks.length ∧ s1.labels = s.labels ∧ s1.loops = s.loops ∧ s1.fn = s.fn

theorem HdAt.start {W0 : World} {n : Nat} {w : World} {rb : Nat} {O : Nat → Prop} {s : Rz.RS} {v6 : Value} {xs : List (Tr n)} (h : On W0 rb O s v6 w) : HdAt W0 n w rb O s v6 xs 0 w :=
  ⟨Nat.zero_le _, s, rfl, ⟨O, h, Chg.refl _ _, fun b q => Or.inl q⟩, by omega, rfl, rfl, rfl, rfl⟩
theorem HdAt.bel {W0 : World} {n : Nat} {w : World} {rb : Nat} {O : Nat → Prop} {s : Rz.RS} {v6 : Value} {xs : List (Tr n)} {i : Nat} {wr : World} (h : HdAt W0 n w rb O s v6 xs i wr) : Below W0.heap.size W0 wr := by
  obtain ⟨hle, s1, e1, ⟨O1, o1, o2, o3⟩, _⟩ := h
  exact o1.bel

/-- nothing is declared by it -/
theorem HdAt.skip {W0 : World} {n : Nat} {w : World} {rb : Nat} {O : Nat → Prop} {s : Rz.RS} {v6 : Value} {xs : List (Tr n)} {i : Nat} {wr wb : World} (h : HdAt W0 n w rb O s v6 xs i wr) {t : Tr n} (ht : xs[i]? = some t) (hk : ∀ s1, hd1 (ndR n t) s1 = .ok s1) (hb : Below wr.heap.size wr wb) : HdAt W0 n w rb O s v6 xs (i + 1) wb := by
  have hil : i < xs.length := (List.getElem?_eq_some_iff.1 ht).1
  obtain ⟨hle, s1, e1, ⟨O1, o1, o2, o3⟩, b1, b2, b3, b4, b5⟩ := h
  refine ⟨hil, s1, ?_, ⟨O1, o1.below hb, o2.trans (Chg.of_below hb) (fun _ _ (q : O _) => q), o3⟩, by omega, b2, b3, b4, b5⟩
  have htk : xs.take (i + 1) = xs.take i ++ t :: [] := by rw [List.take_add_one, ht]; rfl
  rw [htk, heads_app (ndR n) (xs.take i) t [] s s1 e1, hk]
  rfl

/-- one more is declared -/
theorem HdAt.step {W0 : World} {n : Nat} {w : World} {rb : Nat} {O : Nat → Prop} {s : Rz.RS} {v6 : Value} {xs : List (Tr n)} {i : Nat} {wr wb : World} (h : HdAt W0 n w rb O s v6 xs i wr) {t : Tr n} (ht : xs[i]? = some t) (kd : Int) (hk : ∀ s1, hd1 (ndR n t) s1 = declP (ndR n t).name (ndR n t).pl kd s1) (hb : Below wr.heap.size wr wb) (hbud : cr s + 2 * xs.length + 1 ≤ lim) (hd : dp s + 1 ≤ lim) (hne : 1 ≤ s.blocks.length) (hs : (ndR n t).name.size ≤ maxLen) (kind num : Int) (op : ByteArray) (kv : Value) :
    Calls Try.prog 28 #[.pointer (some ⟨rb, 0, none⟩), .agg #[.int .i64 kind, .int .i64 (ndR n t).pl, .string (ndR n t).name, .int .u64 num, .string op, kv], .int .i64 kd] wb fun e w' => (e = .returned (.tuple #[]) ∧ HdAt W0 n w rb O s v6 xs (i + 1) w') ∨ ∃ er, e = .panicked (thrown er) ∧ headsP (ndR n) xs s = .error er ∧ Chg O w w' := by
  have hil : i < xs.length := (List.getElem?_eq_some_iff.1 ht).1
  obtain ⟨hle, s1, e1, ⟨O1, o1, o2, o3⟩, b1, b2, b3, b4, b5⟩ := h
  obtain ⟨c0, cs, hbs⟩ : ∃ c0 cs, s1.blocks = c0 :: cs := by
    cases hq : s1.blocks with
    | nil => rw [hq] at b2; simp at b2; omega
    | cons a b => exact ⟨a, b, rfl⟩
  have hbg : bg s1 < 1000000000 := by
    have hdp : dp s1 = dp s := by unfold dp; rw [b2, b3, b4]
    have := bg_of (s := s1) (by omega) (by omega)
    unfold cr dp bg lim at *
    omega
  have hc2 : Chg O w wb := o2.trans (Chg.of_below hb) (fun _ _ (q : O _) => q)
  have hsub : ∀ a, a < w.heap.size → O1 a → O a := fun a ha q => by
    rcases o3 a q with c | c
    · exact c
    · omega
  refine (declare_any wb W0.heap.size rb O1 s1 v6 (o1.below hb).mem hbg c0 cs hbs kind (ndR n t).pl num (ndR n t).name op kv hs kd).mono ?_
  intro e w' ho
  have hdr : xs.drop i = t :: xs.drop (i + 1) := by
    rw [List.drop_eq_getElem_cons hil]
    congr 1
    exact (List.getElem?_eq_some_iff.1 ht).2
  have hsp : xs = xs.take i ++ t :: xs.drop (i + 1) := by rw [← hdr, List.take_append_drop]
  have hea := heads_app (ndR n) (xs.take i) t (xs.drop (i + 1)) s s1 e1
  rw [← hsp, hk] at hea
  cases hr : declP (ndR n t).name (ndR n t).pl kd s1 with
  | error er =>
    rw [hr] at ho hea
    obtain ⟨rfl, g2⟩ := ho
    exact Or.inr ⟨er, rfl, hea, hc2.trans g2 hsub⟩
  | ok s2 =>
    rw [hr] at ho
    obtain ⟨rfl, g2⟩ := ho
    obtain ⟨O2, k1, k2, k3⟩ := (o1.below hb).went g2
    obtain ⟨p1, p2, p3, p4⟩ := decl_keeps hr
    have hcr := cr_decl _ _ _ s1 s2 hr
    refine Or.inl ⟨rfl, hil, s2, ?_, ⟨O2, k1, hc2.trans k2 hsub, fun b q => ?_⟩, by omega, by rw [p1, b2], by rw [p2, b3], by rw [p3, b4], by rw [p4, b5]⟩
    · have htk : xs.take (i + 1) = xs.take i ++ t :: [] := by rw [List.take_add_one, ht]; rfl
      rw [htk, heads_app (ndR n) (xs.take i) t [] s s1 e1, hk, hr]
      rfl
    · rcases k3 b q with c | c
      · exact o3 b c
      · exact Or.inr (Nat.le_trans hc2.size c)
end Go.Proofs.Ytihmdcdifakepab.Rv
