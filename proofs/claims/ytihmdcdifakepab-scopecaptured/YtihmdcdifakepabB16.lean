/- The resolver's walk: give. -/
import Derived.Test.YtihmdcdifakepabB14
import Derived.Test.YtihmdcdifakepabB15
namespace Go.Proofs.Ytihmdcdifakepab.Rv
open Go.RowKit Go.Proofs.Ytihmdcdifakepab.Sc Go.Proofs.Ytihmdcdifakepab.Rz
set_option linter.unusedVariables false
set_option linter.unusedSimpArgs false

/-- where what is left of a row lies -/
def rsO (off kq : Nat) : Nat := if kq = 0 then off else off + 6
theorem run_rest (w : World) (b off m kq : Nat) (h : m ≤ kq) : (Instr.slice 23 (.slice (some ⟨b, off, none⟩) (m + 1) (kq + 1)) (some (.int .i64 1)) none none).run Try.prog w = .ok (.slice (some ⟨b, rsO off kq, none⟩) m kq) w := by
  have h1 : (1 : Int) ≤ (m : Int) + 1 := by omega
  unfold rsO
  by_cases c : kq = 0
  · subst c
    obtain rfl : m = 0 := by omega
    simp [Instr.slice, Instr.sliceBounds, Instr.sliceBound, asIntOf, run_underlying Try.underlying23, go_sem, h1]
  · simp [Instr.slice, Instr.sliceBounds, Instr.sliceBound, asIntOf, run_underlying Try.underlying23, go_sem, h1, c]

theorem kids_rest {n : Nat} {w : World} {b off kq : Nat} {t : Tr n} {r : List (Tr n)} (h : Sli.ok (encT n) 6 w ⟨some ⟨b, off, none⟩, kq + 1, t :: r⟩) : Sli.ok (encT n) 6 w ⟨some ⟨b, rsO off kq, none⟩, kq, r⟩ := by
  have h1 := h.len
  have h2 := h.cap
  simp only [List.length_cons] at h1 h2
  refine ⟨by simp only; omega, by simp only; omega, fun h0 => ?_⟩
  have hk : kq ≠ 0 := by
    intro q
    have : r.length = 0 := by omega
    exact h0 (List.eq_nil_of_length_eq_zero this)
  unfold rsO
  rw [if_neg hk]
  refine ⟨b, off + 6, rfl, fun i y hi j u hj => ?_⟩
  obtain ⟨b', off', e1, hc⟩ := h.cells (by simp)
  cases e1
  have := hc (i + 1) y (by simpa using hi) j u hj
  rw [show off + 6 + i * 6 + j = off + (i + 1) * 6 + j by omega]
  exact this

theorem nd_same : ∀ (n : Nat) (t : Tr n), ndR n t = ndT n t
  | 0, t => nomatch (t : Empty)
  | n + 1, (x, s) => rfl

theorem okT_name {n : Nat} {w : World} {t : Tr n} (h : okT n w t) : (ndT n t).name.size ≤ maxLen := by
  cases n with
  | zero => exact nomatch (t : Empty)
  | succ n => obtain ⟨x, s⟩ := t; exact h.1.name

theorem use_lt {s s1 : Rz.RS} (h : Gd s) {nm : ByteArray} {pl : Int} {v : Option Nat} (e : useP bi nm pl s = .ok (v, s1)) : ∀ i, v = some i → i < s1.vars.length := by
  intro i hi
  subst hi
  unfold useP at e
  split at e
  · rename_i v' hf
    have e := Except.ok.inj e
    have e1 := (Prod.mk.inj e).1
    have e2 := (Prod.mk.inj e).2
    obtain rfl : v' = i := Option.some.inj e1
    have := find_lt nm _ s.blocks v' h.blk hf
    rw [← e2]
    split
    · simpa [capP] using this
    · exact this
  · split at e
    · have e := Except.ok.inj e
      have e1 := (Prod.mk.inj e).1
      cases e1
    · cases e

set_option maxRecDepth 100000 in
set_option maxHeartbeats 4000000 in
theorem give_any (W0 : World) (n : Nat) (hN : NC W0 n) (w : World) (rb : Nat) (O : Nat → Prop) (s : Rz.RS) (v6 : Value) (h : On W0 rb O s v6 w) (x : Nd) (ka : Option Addr) (kc : Nat) (t : Tr n) (r : List (Tr n)) (hok : Sli.ok (encT n) 6 W0 ⟨ka, kc, t :: r⟩) (hks : ∀ y ∈ t :: r, okF n W0 y) (hb : cr s + 3 + 8 * ((t :: r).map (szT n)).sum ≤ lim) (hd : dp s + 4 * n ≤ lim) :
    Calls Try.prog 50 #[.pointer (some ⟨rb, 0, none⟩), .agg #[.int .i64 x.kind, .int .i64 x.pl, .string x.name, .int .u64 x.num, .string x.op, .slice ka (r.length + 1) kc]] w (Out w W0.heap.size rb O v6 (.tuple #[]) (giveP bi (ndR n) (resP bi n).1 (t :: r) s)) := by
  obtain ⟨y, b, off, k1, k2, x0, x1, x2, x3, x4, x5⟩ := kid_at (hok.kept (Sc.cells_below h.bel)) (k := 0) (by simp)
  simp only at k1 k2
  subst k1
  obtain rfl : t = y := by simpa using k2
  simp only [Nat.zero_mul, Nat.add_zero] at x0 x1 x2 x3 x4 x5
  have hcl := hok.len
  have hcm := hok.cap
  simp only [List.length_cons] at hcl hcm
  obtain ⟨kq, rfl⟩ : ∃ kq, kc = kq + 1 := ⟨kc - 1, by omega⟩
  obtain ⟨w0, hw0⟩ : ∃ w0, w0 = w.alloc (.cells #[.int .i64 x.kind, .int .i64 x.pl, .string x.name, .int .u64 x.num, .string x.op, .slice (some ⟨b, off, none⟩) (r.length + 1) (kq + 1)] 25) := ⟨_, rfl⟩
  have hbl0 : Below w.heap.size w w0 := by rw [hw0]; exact below_new (Below.refl _ _) (Nat.le_refl _) _
  have a5 : w0.cell? ⟨w.heap.size, 5, none⟩ = some (.slice (some ⟨b, off, none⟩) (r.length + 1) (kq + 1)) := by rw [hw0]; exact box_new w _ _ 5 _ rfl
  have z0 := Sc.cells_below hbl0 _ _ x0
  have z1 := Sc.cells_below hbl0 _ _ x1
  have z2 := Sc.cells_below hbl0 _ _ x2
  have z3 := Sc.cells_below hbl0 _ _ x3
  have z4 := Sc.cells_below hbl0 _ _ x4
  have z5 := Sc.cells_below hbl0 _ _ x5
  have hsz0 : w0.heap.size = w.heap.size + 1 := by rw [hw0, size_new]
  obtain ⟨wb, hwb⟩ : ∃ wb, wb = w0.alloc (.cells #[.int .i64 (ndT n t).kind, .int .i64 (ndT n t).pl, .string (ndT n t).name, .int .u64 (ndT n t).num, .string (ndT n t).op, .slice (atT n t) (nkT n t) (capT n t)] 25) := ⟨_, rfl⟩
  have hblb : Below w0.heap.size w0 wb := by rw [hwb]; exact below_new (Below.refl _ _) (Nat.le_refl _) _
  have hbl : Below w.heap.size w wb := hbl0.trans (hblb.mono hbl0.size)
  have b5 := Sc.cells_below hblb _ _ a5
  have hbx : wb.heap[w0.heap.size]? = some (.cells #[.int .i64 (ndT n t).kind, .int .i64 (ndT n t).pl, .string (ndT n t).name, .int .u64 (ndT n t).num, .string (ndT n t).op, .slice (atT n t) (nkT n t) (capT n t)] 25 (0, 0)) := by rw [hwb]; exact at_new _ _
  clear x0 x1 x2 x3 x4 x5
  have g0 : wb.cell? ⟨w0.heap.size, 0, none⟩ = some (.int .i64 (ndT n t).kind) := by rw [cell_of_row wb _ 0 _ 25 (0, 0) hbx]; rfl
  have g1 : wb.cell? ⟨w0.heap.size, 1, none⟩ = some (.int .i64 (ndT n t).pl) := by rw [cell_of_row wb _ 1 _ 25 (0, 0) hbx]; rfl
  have g2 : wb.cell? ⟨w0.heap.size, 2, none⟩ = some (.string (ndT n t).name) := by rw [cell_of_row wb _ 2 _ 25 (0, 0) hbx]; rfl
  have g3 : wb.cell? ⟨w0.heap.size, 3, none⟩ = some (.int .u64 (ndT n t).num) := by rw [cell_of_row wb _ 3 _ 25 (0, 0) hbx]; rfl
  have g4 : wb.cell? ⟨w0.heap.size, 4, none⟩ = some (.string (ndT n t).op) := by rw [cell_of_row wb _ 4 _ 25 (0, 0) hbx]; rfl
  have g5 : wb.cell? ⟨w0.heap.size, 5, none⟩ = some (.slice (atT n t) (nkT n t) (capT n t)) := by rw [cell_of_row wb _ 5 _ 25 (0, 0) hbx]; rfl
  have HB : Hid (Below w.heap.size w wb) := hbl
  have hon := h.below hbl
  have hrl : (r.length : Int) + 1 ≤ 9223372036854775807 := by unfold maxLen at hcm; omega
  have hkc : (r.length : Int) + 1 ≤ (kq + 1 : Nat) := by omega
  have hkm : ((kq + 1 : Nat) : Int) ≤ 9223372036854775807 := by unfold maxLen at hcm; omega
  obtain ⟨R, hR⟩ : ∃ R, R = giveP bi (ndR n) (resP bi n).1 (t :: r) s := ⟨_, rfl⟩
  rw [← hR]
  unfold giveP at hR
  simp only at hR
  rw [nd_same] at hR
  by_cases c : (ndT n t).kind = 3
  · rw [if_pos c] at hR
    have HRe : Hid (∀ er, useP bi (ndT n t).name (ndT n t).pl s = .error er → R = .error er) := fun er e => by rw [hR, e]
    have HRs : Hid (∀ v s1, useP bi (ndT n t).name (ndT n t).pl s = .ok (v, s1) → staysP v s1 = true → R = .error ((ndT n t).pl, 74)) := fun v s1 e e2 => by rw [hR, e]; simp only [e2, if_true]
    have HRn : Hid (∀ v s1, useP bi (ndT n t).name (ndT n t).pl s = .ok (v, s1) → staysP v s1 = false → R = eachP (resP bi n).1 r s1) := fun v s1 e e2 => by rw [hR, e]; simp only [e2, Bool.false_eq_true, if_false]
    clear hR
    have c' : ((ndT n t).kind != 3) = false := by rw [c]; rfl
    have hbgs : bg s ≤ 1000000000 := bg_of (by simp only [List.map_cons, List.sum_cons] at hb; omega) (by omega)
    have ku := use_any wb W0.heap.size rb O s v6 hon.mem hbgs (ndT n t).kind (ndT n t).pl (ndT n t).num (ndT n t).name (ndT n t).op (.slice (atT n t) (nkT n t) (capT n t)) (okT_name (hks t (List.mem_cons_self ..)).1)
    have HOL : Hid (∀ b, O b → b < w.heap.size) := fun b q => (h.mem.lt b q).2
    have HREST : Hid (∀ v s1 w1, useP bi (ndT n t).name (ndT n t).pl s = .ok (v, s1) → Went wb W0.heap.size rb O s1 v6 w1 → (Calls Try.prog 61 #[.pointer (some ⟨rb, 0, none⟩), .int .i64 ((v.map (fun i => (i : Int))).getD (-1))] w1 fun e w' => e = .returned (.bool (staysP v s1)) ∧ w' = w1) ∧ (Calls Try.prog 29 #[.pointer (some ⟨rb, 0, none⟩), .slice (some ⟨b, rsO off kq, none⟩) r.length kq] w1 (Out w W0.heap.size rb O v6 (.tuple #[]) (eachP (resP bi n).1 r s1)))) := fun v s1 w1 hu hw => by
      have hlt := use_lt hon.mem.gd hu
      have hcr := cr_use bi _ _ s s1 v hu
      have hsm := use_same bi _ _ s s1 v hu
      obtain ⟨O1, o1, o2, o3⟩ := hon.went hw
      refine ⟨stays_any w1 _ rb O1 s1 v6 o1.mem v hlt, ?_⟩
      simp only [List.map_cons, List.sum_cons] at hb
      refine (each_any W0 n hN w1 rb O1 s1 v6 o1 ⟨some ⟨b, rsO off kq, none⟩, kq, r⟩ (kids_rest hok) (fun y hy => hks y (List.mem_cons_of_mem _ hy)) (by simp only; omega) (by unfold dp at *; rw [hsm.blocks, hsm.labels, hsm.loops]; exact hd)).mono ?_
      intro e w' ho
      have hcw : Chg O w w1 := (Chg.of_below hbl).trans o2 (fun _ _ q => q)
      have h3 : ∀ b, O1 b → O b ∨ w.heap.size ≤ b := fun b q => (o3 b q).imp id (fun q => Nat.le_trans hbl.size q)
      have hsub : ∀ a, a < w.heap.size → O1 a → O a := fun a ha q => by
        rcases h3 a q with c | c
        · exact c
        · omega
      cases hr : eachP (resP bi n).1 r s1 with
      | error er =>
        simp only at ho
        rw [hr] at ho
        exact ⟨ho.1, hcw.trans ho.2 hsub⟩
      | ok s2 =>
        simp only at ho
        rw [hr] at ho
        obtain ⟨p1, O2, p2, p3, p4⟩ := ho
        exact ⟨p1, O2, p2, hcw.trans p3 hsub, fun b q => by
          rcases p4 b q with c | c
          · exact h3 b c
          · exact Or.inr (Nat.le_trans hcw.size c)⟩
    have HCB : Hid (∀ w1, Chg O wb w1 → w1.cell? ⟨w.heap.size, 5, none⟩ = some (.slice (some ⟨b, off, none⟩) (r.length + 1) (kq + 1)) ∧ w1.cell? ⟨w0.heap.size, 1, none⟩ = some (.int .i64 (ndT n t).pl) ∧ Chg O w w1) := fun w1 hc => ⟨hc.cell b5 (fun q => by have := HOL.out _ q; simp only at this; omega), hc.cell g1 (fun q => by have := HOL.out _ q; simp only at this; omega), (Chg.of_below hbl).trans hc (fun _ _ q => q)⟩
    have hwn : ¬ w.heap.size = w0.heap.size := by omega
    clear hon hok hks hb hd hN h hcl hcm hbx k2 c hbl hbgs hbl0 hblb hsz0
    generalize (ndT n t).kind = q0 at *
    generalize (ndT n t).pl = q1 at *
    generalize (ndT n t).name = q2 at *
    generalize (ndT n t).num = q3 at *
    generalize (ndT n t).op = q4 at *
    generalize atT n t = q5 at *
    generalize nkT n t = q6 at *
    generalize capT n t = q7 at *
    generalize useP bi q2 q1 s = u at *
    go_enter Try.func50, Try.ntmps50
    go_upto_region 1 with fail
    rw [← hw0]
    clear hw0
    go_upto_region 2 with fail
    rw [← hwb]
    clear hwb z0 z1 z2 z3 z4 z5 a5
    go_wp2_with fail
    refine ku.mono ?_
    intro e w1 ho
    clear ku
    cases u with
    | error er =>
      obtain ⟨rfl, g⟩ := ho
      refine ⟨rfl, ?_⟩
      rw [HRe.out er rfl]
      exact ⟨rfl, (HCB.out w1 g).2.2⟩
    | ok p =>
      obtain ⟨v, s1⟩ := p
      obtain ⟨rfl, g⟩ := ho
      obtain ⟨k1, k2⟩ := HREST.out v s1 w1 rfl g
      obtain ⟨y5, y1, yc⟩ := HCB.out w1 (by obtain ⟨_, _, gg, _⟩ := g; exact gg)
      have HYC : Hid (Chg O w w1) := yc
      clear g yc b5 g0 g1 g2 g3 g4 g5 HREST HCB
      generalize (v.map (fun i => (i : Int))).getD (-1) = pv at *
      cases hst : staysP v s1 with
      | true =>
        rw [hst] at k1
        clear k2
        go_wp2_with fail
        refine k1.mono ?_
        rintro e w2 ⟨rfl, rfl⟩
        clear k1
        have HST : Hid (staysP v s1 = true) := hst
        clear hst
        go_wp2_with fail
        refine ⟨rfl, ?_⟩
        rw [HRs.out v s1 rfl HST.out]
        exact ⟨rfl, HYC.out⟩
      | false =>
        rw [hst] at k1
        have HST : Hid (staysP v s1 = false) := hst
        have K2 : Hid (Calls Try.prog 29 #[.pointer (some ⟨rb, 0, none⟩), .slice (some ⟨b, rsO off kq, none⟩) r.length kq] w1 (Out w W0.heap.size rb O v6 (.tuple #[]) (eachP (resP bi n).1 r s1))) := k2
        clear hst k2
        go_wp2_with fail
        refine k1.mono ?_
        rintro e w2 ⟨rfl, rfl⟩
        clear k1
        have h1r : (1 : Int) ≤ (r.length : Int) + 1 := by omega
        have h2r : (r.length : Int) + 1 ≤ (kq : Int) + 1 := by omega
        have h3r : (kq : Int) + 1 ≤ 9223372036854775807 := by omega
        have hsl := fun w => run_rest w b off r.length kq (by omega)
        clear hkc hkm hrl c' hwn h1r h2r h3r
        go_wp2_with fail
        refine K2.out.mono ?_
        intro e w3 ho
        clear K2
        cases hq : eachP (resP bi n).1 r s1 with
        | error er =>
          rw [hq] at ho
          obtain ⟨rfl, g⟩ := ho
          refine ⟨rfl, ?_⟩
          rw [HRn.out v s1 rfl HST.out, hq]
          exact ⟨rfl, g⟩
        | ok s' =>
          rw [hq] at ho
          obtain ⟨rfl, g⟩ := ho
          have HG : Hid (Went w W0.heap.size rb O s' v6 w3) := g
          have HQ : Hid (eachP (resP bi n).1 r s1 = .ok s') := hq
          clear g hq
          go_wp2_with fail
          go_end0
          rw [HRn.out v s1 rfl HST.out, HQ.out]
          exact ⟨rfl, HG.out⟩
  · rw [if_neg c] at hR
    subst hR
    have c' : ((ndT n t).kind != 3) = true := by simpa using c
    have ke := each_any W0 n hN wb rb O s v6 hon ⟨some ⟨b, off, none⟩, kq + 1, t :: r⟩ hok hks (by simp only; omega) hd
    simp only [List.length_cons] at ke
    generalize eachP (resP bi n).1 (t :: r) s = q at *
    clear hon hok hks hb hd hN h hcl hcm hbx k2 c hbl
    generalize (ndT n t).kind = q0 at *
    generalize (ndT n t).pl = q1 at *
    generalize (ndT n t).name = q2 at *
    generalize (ndT n t).num = q3 at *
    generalize (ndT n t).op = q4 at *
    generalize atT n t = q5 at *
    generalize nkT n t = q6 at *
    generalize capT n t = q7 at *
    have hwn : ¬ w.heap.size = w0.heap.size := by omega
    clear hbl0 hblb hsz0
    go_enter Try.func50, Try.ntmps50
    go_upto_region 1 with fail
    rw [← hw0]
    clear hw0
    go_upto_region 2 with fail
    rw [← hwb]
    clear hwb z0 z1 z2 z3 z4 z5 a5
    go_wp2_with fail
    refine ke.mono ?_
    intro e w1 ho
    have ho2 := ho.behind HB.out
    clear ke ho
    cases q with
    | error er =>
      obtain ⟨rfl, g⟩ := ho2
      exact ⟨rfl, rfl, g⟩
    | ok s' =>
      obtain ⟨rfl, g⟩ := ho2
      have HG : Hid (Went w W0.heap.size rb O s' v6 w1) := g
      clear g
      go_wp2_with fail
      go_end0
      exact ⟨rfl, HG.out⟩

end Go.Proofs.Ytihmdcdifakepab.Rv

/- The resolver's walk: items, block: the walks. -/
namespace Go.Proofs.Ytihmdcdifakepab.Rv
open Go.RowKit Go.Proofs.Ytihmdcdifakepab.Sc Go.Proofs.Ytihmdcdifakepab.Rz
set_option linter.unusedVariables false
set_option linter.unusedSimpArgs false

theorem HdAt.last {W0 : World} {n : Nat} (hN : NC W0 n) {w : World} {rb : Nat} {O : Nat → Prop} {s : Rz.RS} {v6 : Value} {sl : Sli (Tr n)} {i : Nat} {wr : World} (h : HdAt W0 n w rb O s v6 sl.xs i wr) (hi : sl.xs.length ≤ i) (hok : sl.ok (encT n) 6 W0) (hks : ∀ y ∈ sl.xs, okF n W0 y) (hb : cr s + 2 + 8 * (sl.xs.map (szT n)).sum ≤ lim) (hd : dp s + 4 * n ≤ lim) :
    Calls Try.prog 29 #[.pointer (some ⟨rb, 0, none⟩), .slice sl.at' sl.xs.length sl.cap] wr (Out w W0.heap.size rb O v6 (.tuple #[]) (itemsP (ndR n) (resP bi n).1 sl.xs s)) := by
  have hle := h.le
  obtain ⟨_, s1, e1, ⟨O1, o1, o2, o3⟩, b1, b2, b3, b4, b5⟩ := h
  have hil : i = sl.xs.length := by omega
  subst hil
  rw [List.take_length] at e1
  have hdp : dp s1 = dp s := by unfold dp; rw [b2, b3, b4]
  refine (each_any W0 n hN wr rb O1 s1 v6 o1 sl hok hks (by omega) (by omega)).mono ?_
  intro e w' ho
  have hit : itemsP (ndR n) (resP bi n).1 sl.xs s = eachP (resP bi n).1 sl.xs s1 := by unfold itemsP; rw [e1]; rfl
  rw [hit]
  have hsub : ∀ a, a < w.heap.size → O1 a → O a := fun a ha q => by
    rcases o3 a q with c | c
    · exact c
    · omega
  cases hr : eachP (resP bi n).1 sl.xs s1 with
  | error er =>
    rw [hr] at ho
    exact ⟨ho.1, o2.trans ho.2 hsub⟩
  | ok s2 =>
    rw [hr] at ho
    obtain ⟨p1, O2, p2, p3, p4⟩ := ho
    exact ⟨p1, O2, p2, o2.trans p3 hsub, fun b q => by
      rcases p4 b q with c | c
      · exact o3 b c
      · exact Or.inr (Nat.le_trans o2.size c)⟩

set_option maxRecDepth 100000 in
set_option maxHeartbeats 4000000 in
theorem items_any (W0 : World) (n : Nat) (hN : NC W0 n) (w : World) (rb : Nat) (O : Nat → Prop) (s : Rz.RS) (v6 : Value) (h : On W0 rb O s v6 w) (sl : Sli (Tr n)) (hok : sl.ok (encT n) 6 W0) (hks : ∀ y ∈ sl.xs, okF n W0 y) (hb : cr s + 2 + 8 * (sl.xs.map (szT n)).sum ≤ lim) (hd : dp s + 1 + 4 * n ≤ lim) (hne : 1 ≤ s.blocks.length) :
    Calls Try.prog 20 #[.pointer (some ⟨rb, 0, none⟩), .slice sl.at' sl.xs.length sl.cap] w (Out w W0.heap.size rb O v6 (.tuple #[]) (itemsP (ndR n) (resP bi n).1 sl.xs s)) := by
  have hsl := sum_len (szT n) (sz_pos n) sl.xs
  have HS : Hid (HdAt W0 n w rb O s v6 sl.xs 0 w) := HdAt.start h
  have HST : Hid (∀ (i : Nat) (t : Tr n), sl.xs[i]? = some t → ∀ wr wb, HdAt W0 n w rb O s v6 sl.xs i wr → Below wr.heap.size wr wb → ∀ kd : Int, (∀ s1, hd1 (ndR n t) s1 = declP (ndR n t).name (ndR n t).pl kd s1) → Calls Try.prog 28 #[.pointer (some ⟨rb, 0, none⟩), .agg #[.int .i64 (ndT n t).kind, .int .i64 (ndT n t).pl, .string (ndT n t).name, .int .u64 (ndT n t).num, .string (ndT n t).op, .slice (atT n t) (nkT n t) (capT n t)], .int .i64 kd] wb fun e w' => (e = .returned (.tuple #[]) ∧ HdAt W0 n w rb O s v6 sl.xs (i + 1) w') ∨ ∃ er, e = .panicked (thrown er) ∧ itemsP (ndR n) (resP bi n).1 sl.xs s = .error er ∧ Chg O w w') := fun i t ht wr wb he hb' kd hk => by
    have hs : (ndR n t).name.size ≤ maxLen := by rw [nd_same]; exact okT_name (hks t (List.mem_of_getElem? ht)).1
    have := he.step ht kd hk hb' (by omega) (by omega) hne hs (ndT n t).kind (ndT n t).num (ndT n t).op (.slice (atT n t) (nkT n t) (capT n t))
    rw [nd_same] at this
    refine this.mono ?_
    rintro e w' (q | ⟨er, q1, q2, q3⟩)
    · exact Or.inl q
    · exact Or.inr ⟨er, q1, by unfold itemsP; rw [q2]; rfl, q3⟩
  have HSK : Hid (∀ (i : Nat) (t : Tr n), sl.xs[i]? = some t → ∀ wr wb, HdAt W0 n w rb O s v6 sl.xs i wr → Below wr.heap.size wr wb → (∀ s1, hd1 (ndR n t) s1 = .ok s1) → HdAt W0 n w rb O s v6 sl.xs (i + 1) wb) := fun i t ht wr wb he hb' hk => he.skip ht hk hb'
  have HLA : Hid (∀ (i : Nat) (wr : World), HdAt W0 n w rb O s v6 sl.xs i wr → sl.xs.length ≤ i → Calls Try.prog 29 #[.pointer (some ⟨rb, 0, none⟩), .slice sl.at' sl.xs.length sl.cap] wr (Out w W0.heap.size rb O v6 (.tuple #[]) (itemsP (ndR n) (resP bi n).1 sl.xs s))) := fun i wr he hi => he.last hN hi hok hks hb (by omega)
  have HK : Hid (∀ W, Below W0.heap.size W0 W → Sli.ok (encT n) 6 W sl) := fun W hW => hok.kept (Sc.cells_below hW)
  have HND : Hid (∀ t : Tr n, ndR n t = ndT n t) := fun t => nd_same n t
  have hlim : (sl.xs.length : Int) ≤ 9223372036854775806 := by unfold lim at hb; omega
  obtain ⟨ka, kc, kx⟩ := sl
  simp only at *
  obtain ⟨R, hR⟩ : ∃ R, R = itemsP (ndR n) (resP bi n).1 kx s := ⟨_, rfl⟩
  rw [← hR] at HST HLA ⊢
  clear h hok hks hb hd hN hsl hR
  go_enter Try.func20, Try.ntmps20
  go_wp2_with fail
  go_loopw [8] (fun i wr => ∃ k : Nat, Hid (HdAt W0 n w rb O s v6 kx k wr) ∧ i = .int .i64 (k : Int)) (fun i wr => kx.length - (intOf i).toNat)
  case atStart => exact ⟨0, HS, rfl⟩
  case round =>
    clear HS
    obtain ⟨i, HE, rfl⟩ := hrel
    rcases Nat.lt_or_ge i kx.length with c | c
    · obtain ⟨y, b, off, k1, k2, x0, x1, x2, x3, x4, x5⟩ := kid_at (HK.out wr HE.out.bel) (k := i) c
      simp only at k1 k2
      subst k1
      have hil : (i : Int) < kx.length := by omega
      have hw2 : IntKind.i64.wrap ((i : Int) + 1) = ((i + 1 : Nat) : Int) := by rw [IntKind.wrap_i64]; omega
      obtain ⟨wb, hwb⟩ : ∃ wb, wb = wr.alloc (.cells #[.int .i64 (ndT n y).kind, .int .i64 (ndT n y).pl, .string (ndT n y).name, .int .u64 (ndT n y).num, .string (ndT n y).op, .slice (atT n y) (nkT n y) (capT n y)] 25) := ⟨_, rfl⟩
      have hbl : Below wr.heap.size wr wb := by rw [hwb]; exact below_new (Below.refl _ _) (Nat.le_refl _) _
      have b0 : wb.cell? ⟨wr.heap.size, 0, none⟩ = some (.int .i64 (ndT n y).kind) := by rw [hwb]; exact box_new wr _ _ 0 _ rfl
      have b1 : wb.cell? ⟨wr.heap.size, 1, none⟩ = some (.int .i64 (ndT n y).pl) := by rw [hwb]; exact box_new wr _ _ 1 _ rfl
      have b2 : wb.cell? ⟨wr.heap.size, 2, none⟩ = some (.string (ndT n y).name) := by rw [hwb]; exact box_new wr _ _ 2 _ rfl
      have b3 : wb.cell? ⟨wr.heap.size, 3, none⟩ = some (.int .u64 (ndT n y).num) := by rw [hwb]; exact box_new wr _ _ 3 _ rfl
      have b4 : wb.cell? ⟨wr.heap.size, 4, none⟩ = some (.string (ndT n y).op) := by rw [hwb]; exact box_new wr _ _ 4 _ rfl
      have b5 : wb.cell? ⟨wr.heap.size, 5, none⟩ = some (.slice (atT n y) (nkT n y) (capT n y)) := by rw [hwb]; exact box_new wr _ _ 5 _ rfl
      have HQ : Hid (i < kx.length) := c
      have HU := (show Hid _ from HST.out i y k2 wr wb HE.out hbl)
      have HV := (show Hid _ from HSK.out i y k2 wr wb HE.out hbl)
      rw [HND.out y] at HU HV
      have HH : Hid (∀ s1, hd1 (ndT n y) s1 = if (ndT n y).kind = 31 then declP (ndT n y).name (ndT n y).pl 1 s1 else if (ndT n y).kind = 32 then declP (ndT n y).name (ndT n y).pl 2 s1 else if (ndT n y).kind = 33 then declP (ndT n y).name (ndT n y).pl 4 s1 else .ok s1) := fun s1 => rfl
      obtain ⟨kd, hkd⟩ : ∃ kd, kd = (ndT n y).kind := ⟨_, rfl⟩
      rw [← hkd] at HH HU b0 hwb x0
      clear hbl k2 HE HST HSK c
      generalize hd1 (ndT n y) = H1 at *
      generalize (ndT n y).pl = q1 at *
      generalize (ndT n y).name = q2 at *
      generalize (ndT n y).num = q3 at *
      generalize (ndT n y).op = q4 at *
      generalize atT n y = q5 at *
      generalize nkT n y = q6 at *
      generalize capT n y = q7 at *
      clear hkd
      go_upto_region 3 with fail
      rw [← hwb]
      clear hwb x0 x1 x2 x3 x4 x5
      by_cases k31 : kd = 31
      · subst k31
        have hu := HU.out 1 (fun s1 => by rw [HH.out]; rfl)
        clear HU HV HH
        go_wp2_with fail
        refine hu.mono ?_
        rintro e w1 (⟨rfl, h1⟩ | ⟨er, rfl, h1, h2⟩)
        · have HN1 : Hid (HdAt W0 n w rb O s v6 kx (i + 1) w1) := h1
          clear hu h1
          go_wp2_with fail
          refine ⟨⟨i + 1, HN1, by go_num⟩, ?_⟩
          simp [intOf]
          have := HQ.out
          omega
        · refine ⟨rfl, ?_⟩
          rw [h1]
          exact ⟨rfl, h2⟩
      by_cases k32 : kd = 32
      · subst k32
        have hu := HU.out 2 (fun s1 => by rw [HH.out]; rfl)
        clear HU HV HH k31
        go_wp2_with fail
        refine hu.mono ?_
        rintro e w1 (⟨rfl, h1⟩ | ⟨er, rfl, h1, h2⟩)
        · have HN1 : Hid (HdAt W0 n w rb O s v6 kx (i + 1) w1) := h1
          clear hu h1
          go_wp2_with fail
          refine ⟨⟨i + 1, HN1, by go_num⟩, ?_⟩
          simp [intOf]
          have := HQ.out
          omega
        · refine ⟨rfl, ?_⟩
          rw [h1]
          exact ⟨rfl, h2⟩
      by_cases k33 : kd = 33
      · subst k33
        have hu := HU.out 4 (fun s1 => by rw [HH.out]; rfl)
        clear HU HV HH k31 k32
        go_wp2_with fail
        refine hu.mono ?_
        rintro e w1 (⟨rfl, h1⟩ | ⟨er, rfl, h1, h2⟩)
        · have HN1 : Hid (HdAt W0 n w rb O s v6 kx (i + 1) w1) := h1
          clear hu h1
          go_wp2_with fail
          refine ⟨⟨i + 1, HN1, by go_num⟩, ?_⟩
          simp [intOf]
          have := HQ.out
          omega
        · refine ⟨rfl, ?_⟩
          rw [h1]
          exact ⟨rfl, h2⟩
      · have HN1 : Hid (HdAt W0 n w rb O s v6 kx (i + 1) wb) := HV.out (fun s1 => by rw [HH.out, if_neg k31, if_neg k32, if_neg k33])
        have j1 : (kd == (31 : Int)) = false := by simpa using k31
        have j2 : (kd == (32 : Int)) = false := by simpa using k32
        have j3 : (kd == (33 : Int)) = false := by simpa using k33
        clear HU HV HH
        go_wp2_with fail
        refine ⟨⟨i + 1, HN1, by go_num⟩, ?_⟩
        simp [intOf]
        have := HQ.out
        omega
    · have hil : ¬ (i : Int) < kx.length := by omega
      have ke := HLA.out i wr HE.out c
      clear HE HST HSK HK HLA
      go_wp2_with fail
      refine ke.mono ?_
      intro e w1 ho
      clear ke
      cases R with
      | error er =>
        obtain ⟨rfl, g⟩ := ho
        exact ⟨rfl, rfl, g⟩
      | ok s' =>
        obtain ⟨rfl, g⟩ := ho
        have HG : Hid (Went w W0.heap.size rb O s' v6 w1) := g
        clear g
        go_wp2_with fail
        go_end0
        exact ⟨rfl, HG.out⟩
end Go.Proofs.Ytihmdcdifakepab.Rv
