/- The resolver's walk: block. -/
import Derived.Test.YtihmdcdifakepaaB18
import Derived.Test.YtihmdcdifakepaaB15
import Derived.Test.YtihmdcdifakepaaB16
import Derived.Deep.LoopGhost
namespace Go.Proofs.Ytihmdcdifakepaa.Rv
open Go.RowKit Go.Proofs.Ytihmdcdifakepaa.Sc Go.Proofs.Ytihmdcdifakepaa.Rz
set_option linter.unusedVariables false
set_option linter.unusedSimpArgs false

theorem heads_keeps {α : Type} (nd : α → Nd) : ∀ (l : List α) (s s' : Rz.RS), headsP nd l s = .ok s' → s'.blocks.length = s.blocks.length
  | [], s, s', e => by
    unfold headsP at e
    obtain rfl := Except.ok.inj e
    rfl
  | k :: r, s, s', e => by
    unfold headsP at e
    obtain ⟨s2, e1, e2⟩ := bind_ok e
    rw [heads_keeps nd r s2 s' e2]
    exact (hd1_keeps (x := nd k) (s := s) (s' := s2) e1).1
theorem items_keeps {n : Nat} {l : List (Tr n)} {s s' : Rz.RS} (e : itemsP (ndR n) (resP bi n).1 l s = .ok s') : s'.blocks.length = s.blocks.length := by
  unfold itemsP at e
  obtain ⟨s2, e1, e2⟩ := bind_ok e
  rw [(keeps_each (keeps_resP bi n).1 l s2 s' e2).blocks]
  exact heads_keeps _ l s s2 e1

set_option maxRecDepth 100000 in
set_option maxHeartbeats 2000000 in
theorem block_any (W0 : World) (n : Nat) (hN : NC W0 n) (w : World) (rb : Nat) (O : Nat → Prop) (s : Rz.RS) (v6 : Value) (h : On W0 rb O s v6 w) (sl : Sli (Tr n)) (hok : sl.ok (encT n) 6 W0) (hks : ∀ y ∈ sl.xs, okF n W0 y) (hb : cr s + 2 + 8 * (sl.xs.map (szT n)).sum ≤ lim) (hd : dp s + 2 + 4 * n ≤ lim) :
    Calls Try.prog 36 #[.pointer (some ⟨rb, 0, none⟩), .slice sl.at' sl.xs.length sl.cap] w (Out w W0.heap.size rb O v6 (.tuple #[]) (blockP (ndR n) (resP bi n).1 sl.xs s)) := by
  have ko := open_any w W0.heap.size rb O s v6 h.mem (bg_of (by omega) (by omega))
  have HIT : Hid (∀ w1, Went w W0.heap.size rb O (openP s) v6 w1 → Calls Try.prog 52 #[.pointer (some ⟨rb, 0, none⟩), .slice sl.at' sl.xs.length sl.cap] w1 (Out w W0.heap.size rb O v6 (.tuple #[]) (itemsP (ndR n) (resP bi n).1 sl.xs (openP s)))) := fun w1 hw => rel h hw fun O1 o1 => items_any W0 n hN w1 rb O1 (openP s) v6 o1 sl hok hks (by rw [cr_open]; exact hb) (by unfold dp openP at *; simp only [List.length_cons]; omega) (by unfold openP; simp)
  have HSH : Hid (∀ s2 w2, itemsP (ndR n) (resP bi n).1 sl.xs (openP s) = .ok s2 → Went w W0.heap.size rb O s2 v6 w2 → Calls Try.prog 53 #[.pointer (some ⟨rb, 0, none⟩)] w2 (fun e w' => e = .returned (.tuple #[]) ∧ Went w W0.heap.size rb O (shutP s2) v6 w')) := fun s2 w2 e hw => relW h hw fun O1 o1 => by
    have hl := items_keeps e
    unfold openP at hl
    simp only [List.length_cons] at hl
    obtain ⟨b0, bs, hbs⟩ : ∃ b0 bs, s2.blocks = b0 :: bs := by
      cases hq : s2.blocks with
      | nil => rw [hq] at hl; simp at hl
      | cons a b => exact ⟨a, b, rfl⟩
    exact shut_any w2 W0.heap.size rb O1 s2 v6 o1.mem b0 bs hbs
  obtain ⟨R, hR⟩ : ∃ R, R = blockP (ndR n) (resP bi n).1 sl.xs s := ⟨_, rfl⟩
  rw [← hR]
  unfold blockP at hR
  have HR : Hid (R = (itemsP (ndR n) (resP bi n).1 sl.xs (openP s)).bind fun s => .ok (shutP s)) := hR
  generalize itemsP (ndR n) (resP bi n).1 sl.xs (openP s) = I at *
  generalize sl.at' = ka at *
  generalize sl.cap = kc at *
  generalize sl.xs.length = kl at *
  clear h hok hks hb hd hN hR
  go_enter Try.func36, Try.ntmps36
  go_wp2_with fail
  refine ko.mono ?_
  rintro e w1 ⟨rfl, h1⟩
  have ki := HIT.out w1 h1
  clear ko h1 HIT
  go_wp2_with fail
  refine ki.mono ?_
  intro e w2 ho
  clear ki
  cases I with
  | error er =>
    obtain ⟨rfl, g⟩ := ho
    refine ⟨rfl, ?_⟩
    rw [HR.out]
    exact ⟨rfl, g⟩
  | ok s2 =>
    obtain ⟨rfl, g⟩ := ho
    have ks := HSH.out s2 w2 rfl g
    clear g HSH
    go_wp2_with fail
    refine ks.mono ?_
    rintro e w3 ⟨rfl, h3⟩
    have HG : Hid (Went w W0.heap.size rb O (shutP s2) v6 w3) := h3
    clear ks h3
    go_wp2_with fail
    go_end0
    rw [HR.out]
    exact ⟨rfl, HG.out⟩
end Go.Proofs.Ytihmdcdifakepaa.Rv

/- The resolver's walk: jump. -/
namespace Go.Proofs.Ytihmdcdifakepaa.Rv
open Go.RowKit Go.Proofs.Ytihmdcdifakepaa.Sc Go.Proofs.Ytihmdcdifakepaa.Rz
set_option linter.unusedVariables false
set_option linter.unusedSimpArgs false

set_option maxRecDepth 100000 in
set_option maxHeartbeats 2000000 in
theorem jump_any (w : World) (B rb : Nat) (O : Nat → Prop) (s : Rz.RS) (v6 : Value) (h : Mem w B rb O s v6) (x : Nd) (kv : Value) :
    Calls Try.prog 83 #[.pointer (some ⟨rb, 0, none⟩), .agg #[.int .i64 x.kind, .int .i64 x.pl, .string x.name, .int .u64 x.num, .string x.op, kv]] w (Out w B rb O v6 (.tuple #[]) (jumpP x s)) := by
  obtain ⟨wb, hwb⟩ : ∃ wb, wb = w.alloc (.cells #[.int .i64 x.kind, .int .i64 x.pl, .string x.name, .int .u64 x.num, .string x.op, kv] 25) := ⟨_, rfl⟩
  have hb : Below w.heap.size w wb := by rw [hwb]; exact (Below.refl _ _).alloc (Nat.le_refl _) _
  have hX : NdB w.heap.size x kv wb := by rw [hwb]; exact at_new _ _
  have b0 : wb.cell? ⟨w.heap.size, 0, none⟩ = some (.int .i64 x.kind) := cell_of_row wb _ 0 _ _ (0, 0) hX
  have b1 : wb.cell? ⟨w.heap.size, 1, none⟩ = some (.int .i64 x.pl) := cell_of_row wb _ 1 _ _ (0, 0) hX
  have b2 : wb.cell? ⟨w.heap.size, 2, none⟩ = some (.string x.name) := cell_of_row wb _ 2 _ _ (0, 0) hX
  have b3 : wb.cell? ⟨w.heap.size, 3, none⟩ = some (.int .u64 x.num) := cell_of_row wb _ 3 _ _ (0, 0) hX
  have b4 : wb.cell? ⟨w.heap.size, 4, none⟩ = some (.string x.op) := cell_of_row wb _ 4 _ _ (0, 0) hX
  have b5 : wb.cell? ⟨w.heap.size, 5, none⟩ = some kv := cell_of_row wb _ 5 _ _ (0, 0) hX
  have kc := canJump_any wb B rb O s v6 (h.below hb) x kv
  have HB : Hid (Below w.heap.size w wb) := hb
  have HW : Hid (∀ W, Below w.heap.size w W → Went w B rb O s v6 W ∧ Chg O w W) := fun W hW => ⟨Went.same h hW, Chg.of_below hW⟩
  obtain ⟨R, hR⟩ : ∃ R, R = jumpP x s := ⟨_, rfl⟩
  rw [← hR]
  have HR : Hid (R = if jmB x s = true then .ok s else .error (x.pl, 75)) := hR
  generalize jmB x s = q at *
  generalize x.kind = q0 at *
  generalize x.pl = q1 at *
  generalize x.name = q2 at *
  generalize x.num = q3 at *
  generalize x.op = q4 at *
  clear h hX hb hR
  go_enter Try.func83, Try.ntmps83
  go_upto_region 1 with fail
  rw [← hwb]
  clear hwb
  go_wp2_with fail
  refine kc.mono ?_
  rintro e w1 ⟨rfl, hb1⟩
  have HB1 : Hid (Below w.heap.size w w1) := HB.out.trans (hb1.mono HB.out.size)
  have d1 := Sc.cells_below hb1 _ _ b1
  clear kc hb1 b0 b1 b2 b3 b4 b5
  cases q with
  | true =>
    go_wp2_with fail
    go_end0
    rw [HR.out]
    first | rw [if_pos trivial] | rw [if_pos rfl]
    exact ⟨rfl, (HW.out w1 HB1.out).1⟩
  | false =>
    go_wp2_with fail
    refine ⟨rfl, ?_⟩
    rw [HR.out]
    first | rw [if_neg (fun q => q)] | rw [if_neg (by decide)]
    exact ⟨rfl, (HW.out w1 HB1.out).2⟩
end Go.Proofs.Ytihmdcdifakepaa.Rv

/- The resolver's walk: does a label stand at a loop? -/
namespace Go.Proofs.Ytihmdcdifakepaa.Rv
open Go.RowKit Go.Proofs.Ytihmdcdifakepaa.Sc Go.Proofs.Ytihmdcdifakepaa.Rz
set_option linter.unusedVariables false
set_option linter.unusedSimpArgs false

def loopB (k : Int) : Bool := decide (36 ≤ k) && decide (k ≤ 38)

set_option maxRecDepth 100000 in
theorem isLoop_any (k : Int) (w : World) : Calls Try.prog 93 #[.int .i64 k] w fun e w' => e = .returned (.bool (loopB k)) ∧ w' = w := by
  obtain ⟨R, hR⟩ : ∃ R, R = loopB k := ⟨_, rfl⟩
  rw [← hR]
  unfold loopB at hR
  by_cases c1 : k = 36
  · subst c1
    have : R = true := by rw [hR]; rfl
    subst this
    clear hR
    go_enter Try.func93, Try.ntmps93
    go_wp2_with fail
    go_ret
    exact ⟨rfl, rfl⟩
  by_cases c2 : k = 37
  · subst c2
    have : R = true := by rw [hR]; rfl
    subst this
    clear hR
    go_enter Try.func93, Try.ntmps93
    go_wp2_with fail
    go_ret
    exact ⟨rfl, rfl⟩
  have hR2 : R = (k == 38) := by
    rw [hR]
    by_cases c3 : k = 38
    · subst c3; rfl
    · rw [show (k == 38) = false by simpa using c3]
      simp
      omega
  have h1 : (k == (36 : Int)) = false := by simpa using c1
  have h2 : (k == (37 : Int)) = false := by simpa using c2
  subst hR2
  clear hR
  go_enter Try.func93, Try.ntmps93
  go_wp2_with fail
  go_ret
  exact ⟨rfl, rfl⟩

/-- the variable holds a tree of g levels that leads where the first one does -/
structure LdAt (W0 : World) (w : World) (r : Bool) (g : Nat) (wr : World) : Prop where
  bel : Below w.heap.size w wr
  at' : ∃ t : Tr g, okF g W0 t ∧ leadT g t = r ∧ wr.heap[w.heap.size]? = some (.cells #[.int .i64 (ndT g t).kind, .int .i64 (ndT g t).pl, .string (ndT g t).name, .int .u64 (ndT g t).num, .string (ndT g t).op, .slice (atT g t) (nkT g t) (capT g t)] 25 (0, 0))

set_option maxRecDepth 100000 in
set_option maxHeartbeats 2000000 in
theorem lead_any (W0 : World) (n : Nat) (t : Tr n) (ht : okF n W0 t) (w : World) (hb : Below W0.heap.size W0 w) :
    Calls Try.prog 89 #[valT n t] w fun e w' => e = .returned (.bool (leadT n t)) ∧ Below w.heap.size w w' := by
  obtain ⟨wb, hwb⟩ : ∃ wb, wb = w.alloc (.cells #[.int .i64 (ndT n t).kind, .int .i64 (ndT n t).pl, .string (ndT n t).name, .int .u64 (ndT n t).num, .string (ndT n t).op, .slice (atT n t) (nkT n t) (capT n t)] 25) := ⟨_, rfl⟩
  have hbl : Below w.heap.size w wb := by rw [hwb]; exact below_new (Below.refl _ _) (Nat.le_refl _) _
  have HS : Hid (LdAt W0 w (leadT n t) n wb) := ⟨hbl, t, ht, rfl, by rw [hwb]; exact at_new _ _⟩
  have HW0 : Hid (Below W0.heap.size W0 w) := hb
  unfold valT
  generalize leadT n t = R at *
  generalize (ndT n t).kind = q0 at *
  generalize (ndT n t).pl = q1 at *
  generalize (ndT n t).name = q2 at *
  generalize (ndT n t).num = q3 at *
  generalize (ndT n t).op = q4 at *
  generalize atT n t = q5 at *
  generalize nkT n t = q6 at *
  generalize capT n t = q7 at *
  clear hbl ht hb
  go_enter Try.func89, Try.ntmps89
  go_upto_region 1 with fail
  rw [← hwb]
  clear hwb
  go_loopg [5] n (fun g p wr => Hid (LdAt W0 w R g wr))
  case atStart => exact HS
  case round =>
    clear HS
    have HE := hrel
    clear hrel
    obtain ⟨t1, ht1, hl1, hbx⟩ := HE.out.at'
    have HBE : Hid (Below w.heap.size w wr) := HE.out.bel
    cases gk with
    | zero => exact nomatch (t1 : Empty)
    | succ g =>
      obtain ⟨x, sl⟩ := t1
      have c0 : wr.cell? ⟨w.heap.size, 0, none⟩ = some (.int .i64 x.kind) := by rw [cell_of_row wr _ 0 _ 25 (0, 0) hbx]; rfl
      have c5 : wr.cell? ⟨w.heap.size, 5, none⟩ = some (.slice sl.at' sl.xs.length sl.cap) := by rw [cell_of_row wr _ 5 _ 25 (0, 0) hbx]; rfl
      have HF : Hid (wr.heap[w.heap.size]? = some (.cells #[.int .i64 x.kind, .int .i64 x.pl, .string x.name, .int .u64 x.num, .string x.op, .slice sl.at' sl.xs.length sl.cap] 25 (0, 0))) := hbx
      have hfz : ∀ j, wr.frozen? ⟨w.heap.size, j, none⟩ = false := fun j => frozen_of_row wr _ j _ 25 hbx
      have d1 : wr.cell? ⟨w.heap.size, 1, none⟩ = some (.int .i64 x.pl) := by rw [cell_of_row wr _ 1 _ 25 (0, 0) hbx]; rfl
      have d2 : wr.cell? ⟨w.heap.size, 2, none⟩ = some (.string x.name) := by rw [cell_of_row wr _ 2 _ 25 (0, 0) hbx]; rfl
      have d3 : wr.cell? ⟨w.heap.size, 3, none⟩ = some (.int .u64 x.num) := by rw [cell_of_row wr _ 3 _ 25 (0, 0) hbx]; rfl
      have d4 : wr.cell? ⟨w.heap.size, 4, none⟩ = some (.string x.op) := by rw [cell_of_row wr _ 4 _ 25 (0, 0) hbx]; rfl
      by_cases ck : x.kind = 41
      · have hlen : 1 ≤ sl.xs.length := ht1.2.1 (by omega)
        obtain ⟨y, b, off, k1, k2, x0, x1, x2, x3, x4, x5⟩ := kid_at (ht1.1.2.1.kept (Sc.cells_below (HW0.out.trans (HBE.out.mono HW0.out.size)))) (k := 0) (by omega)
        have hy : okF g W0 y ∧ leadT g y = R := by
          refine ⟨⟨ht1.1.2.2 y (List.mem_of_getElem? k2), ht1.2.2.2.2 y (List.mem_of_getElem? k2)⟩, ?_⟩
          rw [← hl1]
          show leadT g y = if x.kind = 41 then ((sl.xs[0]?).map (leadT g)).getD false else _
          rw [if_pos ck, k2]
          rfl
        have HY : Hid (okF g W0 y ∧ leadT g y = R) := hy
        have f0 := hfz 0
        have f1 := hfz 1
        have f2 := hfz 2
        have f3 := hfz 3
        have f4 := hfz 4
        have f5 := hfz 5
        have HNX : Hid (LdAt W0 w R g ((((((wr.setCell ⟨w.heap.size, 0, none⟩ (.int .i64 (ndT g y).kind)).setCell ⟨w.heap.size, 1, none⟩ (.int .i64 (ndT g y).pl)).setCell ⟨w.heap.size, 2, none⟩ (.string (ndT g y).name)).setCell ⟨w.heap.size, 3, none⟩ (.int .u64 (ndT g y).num)).setCell ⟨w.heap.size, 4, none⟩ (.string (ndT g y).op)).setCell ⟨w.heap.size, 5, none⟩ (.slice (atT g y) (nkT g y) (capT g y)))) := by
          have s0 := heap_setCell_same wr w.heap.size 0 _ 25 (.int .i64 (ndT g y).kind) HF.out
          have s1 := heap_setCell_same _ w.heap.size 1 _ 25 (.int .i64 (ndT g y).pl) s0
          have s2 := heap_setCell_same _ w.heap.size 2 _ 25 (.string (ndT g y).name) s1
          have s3 := heap_setCell_same _ w.heap.size 3 _ 25 (.int .u64 (ndT g y).num) s2
          have s4 := heap_setCell_same _ w.heap.size 4 _ 25 (.string (ndT g y).op) s3
          have s5 := heap_setCell_same _ w.heap.size 5 _ 25 (.slice (atT g y) (nkT g y) (capT g y)) s4
          have hq : w.heap.size ≤ (⟨w.heap.size, 0, none⟩ : Addr).block := Nat.le_refl _
          exact ⟨(((((HBE.out.setCell (p := ⟨w.heap.size, 0, none⟩) hq _).setCell (p := ⟨w.heap.size, 1, none⟩) hq _).setCell (p := ⟨w.heap.size, 2, none⟩) hq _).setCell (p := ⟨w.heap.size, 3, none⟩) hq _).setCell (p := ⟨w.heap.size, 4, none⟩) hq _).setCell (p := ⟨w.heap.size, 5, none⟩) hq _, y, HY.out.1, HY.out.2, s5⟩
        obtain ⟨m, hm⟩ : ∃ m, sl.xs.length = m + 1 := ⟨sl.xs.length - 1, by omega⟩
        have hml : (0 : Int) < (m : Int) + 1 := by omega
        rw [k1, hm] at c5
        rw [ck] at c0
        simp only [Nat.zero_mul, Nat.add_zero] at x0 x1 x2 x3 x4 x5
        clear hbx hfz ht1 hl1 HE hy HF HY hlen k2 hm k1 ck
        generalize (ndT g y).kind = r0 at *
        generalize (ndT g y).pl = r1 at *
        generalize (ndT g y).name = r2 at *
        generalize (ndT g y).num = r3 at *
        generalize (ndT g y).op = r4 at *
        generalize atT g y = r5 at *
        generalize nkT g y = r6 at *
        generalize capT g y = r7 at *
        go_wp2_with fail
        go_roundg g
        case measure => omega
        case rel => exact HNX
      · have hck : (x.kind == (41 : Int)) = false := by simpa using ck
        have hR : R = loopB x.kind := by
          rw [← hl1]
          show (if x.kind = 41 then ((sl.xs[0]?).map (leadT g)).getD false else _) = _
          rw [if_neg ck]
          rfl
        have ki := isLoop_any x.kind wr
        rw [← hR] at ki
        clear hbx hfz ht1 hl1 HE HF hR d1 d2 d3 d4 c5 ck
        generalize x.kind = kd at *
        go_wp2_with fail
        refine ki.mono ?_
        rintro e w1 ⟨rfl, rfl⟩
        clear ki
        go_wp2_with fail
        go_ret
        exact ⟨rfl, HBE.out⟩
end Go.Proofs.Ytihmdcdifakepaa.Rv

/- The resolver's walk: for of. -/
namespace Go.Proofs.Ytihmdcdifakepaa.Rv
open Go.RowKit Go.Proofs.Ytihmdcdifakepaa.Sc Go.Proofs.Ytihmdcdifakepaa.Rz
set_option linter.unusedVariables false
set_option linter.unusedSimpArgs false

theorem bg_lt {s : Rz.RS} (h1 : cr s ≤ lim) (h2 : dp s ≤ lim) : bg s < 1000000000 := by
  unfold cr dp bg lim at *
  omega
theorem NdB.chg {nb : Nat} {x : Nd} {kv : Value} {w w' : World} {O : Nat → Prop} (h : NdB nb x kv w) (hc : Chg O w w') (hn : ¬ O nb) : NdB nb x kv w' := by
  unfold NdB
  rw [hc.block nb (Array.getElem?_eq_some_iff.1 h).1 hn]
  exact h
theorem Went.chg {w w' : World} {B rb : Nat} {O : Nat → Prop} {s : Rz.RS} {v6 : Value} (h : Went w B rb O s v6 w') : Chg O w w' := by obtain ⟨_, _, h2, _⟩ := h; exact h2
theorem NdB.cs {nb : Nat} {x : Nd} {kv : Value} {w : World} (h : NdB nb x kv w) : w.cell? ⟨nb, 0, none⟩ = some (.int .i64 x.kind) ∧ w.cell? ⟨nb, 1, none⟩ = some (.int .i64 x.pl) ∧ w.cell? ⟨nb, 2, none⟩ = some (.string x.name) ∧ w.cell? ⟨nb, 3, none⟩ = some (.int .u64 x.num) ∧ w.cell? ⟨nb, 4, none⟩ = some (.string x.op) ∧ w.cell? ⟨nb, 5, none⟩ = some kv :=
  ⟨cell_of_row w _ 0 _ _ (0, 0) h, cell_of_row w _ 1 _ _ (0, 0) h, cell_of_row w _ 2 _ _ (0, 0) h, cell_of_row w _ 3 _ _ (0, 0) h, cell_of_row w _ 4 _ _ (0, 0) h, cell_of_row w _ 5 _ _ (0, 0) h⟩

/-- a kid's value and its cells -/
theorem kid_val {n : Nat} {w : World} {b off kc : Nat} {xs : List (Tr n)} (h : Sli.ok (encT n) 6 w ⟨some ⟨b, off, none⟩, kc, xs⟩) {k : Nat} {y : Tr n} (hy : xs[k]? = some y) :
    w.cell? ⟨b, off + k * 6, none⟩ = some (.int .i64 (ndT n y).kind) ∧ w.cell? ⟨b, off + k * 6 + 1, none⟩ = some (.int .i64 (ndT n y).pl) ∧ w.cell? ⟨b, off + k * 6 + 2, none⟩ = some (.string (ndT n y).name) ∧
      w.cell? ⟨b, off + k * 6 + 3, none⟩ = some (.int .u64 (ndT n y).num) ∧ w.cell? ⟨b, off + k * 6 + 4, none⟩ = some (.string (ndT n y).op) ∧ w.cell? ⟨b, off + k * 6 + 5, none⟩ = some (.slice (atT n y) (nkT n y) (capT n y)) := by
  have hk : k < xs.length := (List.getElem?_eq_some_iff.1 hy).1
  obtain ⟨y', b', off', k1, k2, x0, x1, x2, x3, x4, x5⟩ := kid_at h (k := k) hk
  simp only [Option.some.injEq, Addr.mk.injEq, and_true] at k1 k2
  obtain ⟨rfl, rfl⟩ := k1
  rw [hy] at k2
  obtain rfl := Option.some.inj k2
  exact ⟨x0, x1, x2, x3, x4, x5⟩

theorem each_one {n : Nat} (t : Tr n) (s : Rz.RS) : eachP (resP bi n).1 [t] s = (resP bi n).1 t s := by
  unfold eachP
  cases (resP bi n).1 t s with
  | error e => rfl
  | ok s' => rfl

set_option maxRecDepth 100000 in
set_option maxHeartbeats 4000000 in
theorem loopOf_any (W0 : World) (n : Nat) (hN : NC W0 n) (w : World) (rb : Nat) (O : Nat → Prop) (s : Rz.RS) (v6 : Value) (h0 : On W0 rb O s v6 w) (x : Nd) (hnm : x.name.size ≤ maxLen) (sl : Sli (Tr n)) (hok : sl.ok (encT n) 6 W0) (hks : ∀ y ∈ sl.xs, okF n W0 y) (hl : sl.xs.length = 2) (hb : cr s + 8 + 8 * (sl.xs.map (szT n)).sum ≤ lim) (hd : dp s + 4 + 4 * n ≤ lim) :
    Calls Try.prog 81 #[.pointer (some ⟨rb, 0, none⟩), .agg #[.int .i64 x.kind, .int .i64 x.pl, .string x.name, .int .u64 x.num, .string x.op, .slice sl.at' sl.xs.length sl.cap]] w (Out w W0.heap.size rb O v6 (.tuple #[]) (loopOfP (resP bi n).1 x sl.xs s)) := by
  obtain ⟨ka, kc, kx⟩ := sl
  simp only at *
  obtain ⟨t0, t1, rfl⟩ : ∃ t0 t1, kx = [t0, t1] := by
    match kx, hl with
    | [t0, t1], _ => exact ⟨t0, t1, rfl⟩
  obtain ⟨b, off, hka, _⟩ := hok.cells (by simp)
  simp only at hka
  subst hka
  have hkc : 2 ≤ kc := by have := hok.len; simpa using this
  obtain ⟨kq, rfl⟩ : ∃ kq, kc = kq + 1 := ⟨kc - 1, by omega⟩
  obtain ⟨wb, hwb⟩ : ∃ wb, wb = w.alloc (.cells #[.int .i64 x.kind, .int .i64 x.pl, .string x.name, .int .u64 x.num, .string x.op, .slice (some ⟨b, off, none⟩) 2 (kq + 1)] 25) := ⟨_, rfl⟩
  have hbl : Below w.heap.size w wb := by rw [hwb]; exact below_new (Below.refl _ _) (Nat.le_refl _) _
  have hX : NdB w.heap.size x (.slice (some ⟨b, off, none⟩) 2 (kq + 1)) wb := by rw [hwb]; exact at_new _ _
  have h := h0.below hbl
  have hnO : ¬ O w.heap.size := fun q => by have := (h0.mem.lt _ q).2; omega
  have HX : Hid (∀ W, Chg O wb W → NdB w.heap.size x (.slice (some ⟨b, off, none⟩) 2 (kq + 1)) W) := fun W hc => hX.chg hc hnO
  have HB : Hid (Below w.heap.size w wb) := hbl
  simp only [List.map_cons, List.map_nil, List.sum_cons, List.sum_nil] at hb
  have k1 := hN t0 (hks t0 (by simp)) wb rb O s v6 h (by omega) (by omega)
  obtain ⟨x0, x1, x2, x3, x4, x5⟩ := kid_val (hok.kept (Sc.cells_below h.bel)) (k := 0) (y := t0) (by simp)
  simp only [Nat.zero_mul, Nat.add_zero] at x0 x1 x2 x3 x4 x5
  have KO : Hid (∀ s1 w1, (resP bi n).1 t0 s = .ok s1 → Went wb W0.heap.size rb O s1 v6 w1 → Calls Try.prog 51 #[.pointer (some ⟨rb, 0, none⟩)] w1 (fun e w' => e = .returned (.tuple #[]) ∧ Went wb W0.heap.size rb O (openP s1) v6 w')) := fun s1 w1 e hw => relW h hw fun O1 o1 => by
    have hc := (cr_res bi n).1 t0 s s1 e
    have hk := (keeps_resP bi n).1 t0 s s1 e
    exact open_any w1 W0.heap.size rb O1 s1 v6 o1.mem (bg_of (by omega) (by unfold dp at *; rw [hk.blocks, hk.labels, hk.loops]; omega))
  have KD : Hid (∀ s1 w1 (kd : Int), (resP bi n).1 t0 s = .ok s1 → Went wb W0.heap.size rb O (openP s1) v6 w1 → Calls Try.prog 64 #[.pointer (some ⟨rb, 0, none⟩), .agg #[.int .i64 x.kind, .int .i64 x.pl, .string x.name, .int .u64 x.num, .string x.op, .slice (some ⟨b, off, none⟩) 2 (kq + 1)], .int .i64 kd] w1 (Out wb W0.heap.size rb O v6 (.tuple #[]) (declP x.name x.pl kd (openP s1)))) := fun s1 w1 kd e hw => rel h hw fun O1 o1 => by
    have hc := (cr_res bi n).1 t0 s s1 e
    have hk := (keeps_resP bi n).1 t0 s s1 e
    exact declare_any w1 W0.heap.size rb O1 (openP s1) v6 o1.mem (bg_lt (by rw [cr_open]; omega) (by unfold dp openP at *; simp only [List.length_cons]; rw [hk.blocks, hk.labels, hk.loops]; omega)) [] s1.blocks rfl x.kind x.pl x.num x.name x.op _ hnm kd
  have KL : Hid (∀ s1 s2 w1 (kd : Int), (resP bi n).1 t0 s = .ok s1 → declP x.name x.pl kd (openP s1) = .ok s2 → Went wb W0.heap.size rb O s2 v6 w1 → Calls Try.prog 80 #[.pointer (some ⟨rb, 0, none⟩), .slice (some ⟨b, rsO off kq, none⟩) 1 kq] w1 (Out wb W0.heap.size rb O v6 (.tuple #[]) (loopP (resP bi n).1 [t1] s2))) := fun s1 s2 w1 kd e e2 hw => rel h hw fun O1 o1 => by
    have hc := (cr_res bi n).1 t0 s s1 e
    have hk := (keeps_resP bi n).1 t0 s s1 e
    have hc2 := cr_decl _ _ _ (openP s1) s2 e2
    obtain ⟨p1, p2, p3, p4⟩ := decl_keeps e2
    rw [cr_open] at hc2
    exact loop_any W0 n hN w1 rb O1 s2 v6 o1 ⟨some ⟨b, rsO off kq, none⟩, kq, [t1]⟩ (kids_rest hok) (fun y hy => hks y (List.mem_cons_of_mem _ hy)) (by simp only [List.map_cons, List.map_nil, List.sum_cons, List.sum_nil]; omega) (by unfold dp at *; rw [p1, p2, p3]; unfold openP; simp only [List.length_cons]; rw [hk.blocks, hk.labels, hk.loops]; omega)
  have KS : Hid (∀ s1 s2 s3 w1 (kd : Int), (resP bi n).1 t0 s = .ok s1 → declP x.name x.pl kd (openP s1) = .ok s2 → loopP (resP bi n).1 [t1] s2 = .ok s3 → Went wb W0.heap.size rb O s3 v6 w1 → Calls Try.prog 53 #[.pointer (some ⟨rb, 0, none⟩)] w1 (fun e w' => e = .returned (.tuple #[]) ∧ Went wb W0.heap.size rb O (shutP s3) v6 w')) := fun s1 s2 s3 w1 kd e e2 e3 hw => relW h hw fun O1 o1 => by
    obtain ⟨p1, _, _, _⟩ := decl_keeps e2
    have hq : s3.blocks = s2.blocks := by
      unfold loopP at e3
      obtain ⟨s4, f1, f2⟩ := bind_ok e3
      obtain rfl := Except.ok.inj f2
      exact (keeps_each (keeps_resP bi n).1 [t1] _ s4 f1).blocks
    obtain ⟨c0, cs, hbs⟩ : ∃ c0 cs, s3.blocks = c0 :: cs := by
      cases hz : s3.blocks with
      | nil => rw [← hq, hz] at p1; unfold openP at p1; simp at p1
      | cons a b => exact ⟨a, b, rfl⟩
    exact shut_any w1 W0.heap.size rb O1 s3 v6 o1.mem c0 cs hbs
  obtain ⟨R, hR⟩ : ∃ R, R = loopOfP (resP bi n).1 x [t0, t1] s := ⟨_, rfl⟩
  rw [← hR]
  unfold loopOfP at hR
  simp only [List.take_succ_cons, List.take_zero, List.drop_succ_cons, List.drop_zero] at hR
  rw [each_one] at hR
  have HR : Hid (R = ((resP bi n).1 t0 s).bind fun s1 => (declP x.name x.pl (if isS x.op [99, 111, 110, 115, 116] then 2 else 1) (openP s1)).bind fun s2 => (loopP (resP bi n).1 [t1] s2).bind fun s3 => .ok (shutP s3)) := hR
  have hsl : ∀ w : World, (Instr.slice 23 (.slice (some ⟨b, off, none⟩) 2 (kq + 1)) (some (.int .i64 1)) none none).run Try.prog w = .ok (.slice (some ⟨b, rsO off kq, none⟩) 1 kq) w := fun w => run_rest w b off 1 kq (by omega)
  have KD' := (show Hid _ from KD.out)
  unfold valT at k1
  generalize (resP bi n).1 t0 s = I at *
  generalize (ndT n t0).kind = q0 at *
  generalize (ndT n t0).pl = q1 at *
  generalize (ndT n t0).name = q2 at *
  generalize (ndT n t0).num = q3 at *
  generalize (ndT n t0).op = q4 at *
  generalize atT n t0 = q5 at *
  generalize nkT n t0 = q6 at *
  generalize capT n t0 = q7 at *
  unfold isS at HR
  obtain ⟨_, _, _, _, _, a5⟩ := hX.cs
  clear h h0 hok hks hb hd hN hR hl hkc hbl hX hnm hnO KD'
  go_enter Try.func81, Try.ntmps81
  go_upto_region 1 with fail
  rw [← hwb]
  clear hwb
  go_wp2_with fail
  refine k1.mono ?_
  intro e w1 ho
  clear k1 x0 x1 x2 x3 x4 x5 a5
  cases I with
  | error er =>
    obtain ⟨rfl, g9⟩ := ho
    refine ⟨rfl, ?_⟩
    rw [HR.out]
    exact ⟨rfl, (Chg.of_below HB.out).trans g9 (fun _ _ q => q)⟩
  | ok s1 =>
    obtain ⟨rfl, g1⟩ := ho
    have ko := KO.out s1 w1 rfl g1
    clear KO g1
    go_wp2_with fail
    refine ko.mono ?_
    rintro e w2 ⟨rfl, g2⟩
    obtain ⟨a0, a1, a2, a3, a4, a5⟩ := (HX.out w2 g2.chg).cs
    clear ko
    by_cases cc : (x.op.toList == [99, 111, 110, 115, 116]) = true
    · have HR2 := HR.out
      rw [cc] at HR2
      have HR : Hid (R = (declP x.name x.pl 2 (openP s1)).bind fun s2 => (loopP (resP bi n).1 [t1] s2).bind fun s3 => .ok (shutP s3)) := HR2
      clear HR2
      have kd2 := KD.out s1 w2 2 rfl g2
      have KL2 := (show Hid _ from fun s2 w1 => KL.out s1 s2 w1 2 rfl)
      have KS2 := (show Hid _ from fun s2 s3 w1 => KS.out s1 s2 s3 w1 2 rfl)
      generalize declP x.name x.pl 2 (openP s1) = D at *
      clear KD KL KS g2
      go_wp2_with fail
      refine kd2.mono ?_
      intro e w3 ho
      clear kd2 a0 a1 a2 a3 a4 a5
      cases D with
      | error er =>
        obtain ⟨rfl, g9⟩ := ho
        refine ⟨rfl, ?_⟩
        rw [HR.out]
        exact ⟨rfl, (Chg.of_below HB.out).trans g9 (fun _ _ q => q)⟩
      | ok s2 =>
        obtain ⟨rfl, g3⟩ := ho
        have kl2 := KL2.out s2 w3 rfl g3
        obtain ⟨_, _, _, _, _, a5⟩ := (HX.out w3 g3.chg).cs
        have HR : Hid (R = (loopP (resP bi n).1 [t1] s2).bind fun s3 => .ok (shutP s3)) := HR.out
        have KS3 := (show Hid _ from fun s3 w1 => KS2.out s2 s3 w1 rfl)
        generalize loopP (resP bi n).1 [t1] s2 = L at *
        clear KL2 KS2 g3
        go_wp2_with fail
        refine kl2.mono ?_
        intro e w4 ho
        clear kl2 a5
        cases L with
        | error er =>
          obtain ⟨rfl, g9⟩ := ho
          refine ⟨rfl, ?_⟩
          rw [HR.out]
          exact ⟨rfl, (Chg.of_below HB.out).trans g9 (fun _ _ q => q)⟩
        | ok s3 =>
          obtain ⟨rfl, g4⟩ := ho
          have ks2 := KS3.out s3 w4 rfl g4
          clear KS3 g4
          go_wp2_with fail
          refine ks2.mono ?_
          rintro e w5 ⟨rfl, g5⟩
          have HG : Hid (Went w W0.heap.size rb O (shutP s3) v6 w5) := g5.behind HB.out
          clear ks2 g5
          go_wp2_with fail
          go_end0
          rw [HR.out]
          exact ⟨rfl, HG.out⟩
    · have cf : (x.op.toList == [99, 111, 110, 115, 116]) = false := by simpa using cc
      have HR2 := HR.out
      rw [cf] at HR2
      have HR : Hid (R = (declP x.name x.pl 1 (openP s1)).bind fun s2 => (loopP (resP bi n).1 [t1] s2).bind fun s3 => .ok (shutP s3)) := HR2
      clear HR2 cc
      have kd2 := KD.out s1 w2 1 rfl g2
      have KL2 := (show Hid _ from fun s2 w1 => KL.out s1 s2 w1 1 rfl)
      have KS2 := (show Hid _ from fun s2 s3 w1 => KS.out s1 s2 s3 w1 1 rfl)
      generalize declP x.name x.pl 1 (openP s1) = D at *
      clear KD KL KS g2
      go_wp2_with fail
      refine kd2.mono ?_
      intro e w3 ho
      clear kd2 a0 a1 a2 a3 a4 a5
      cases D with
      | error er =>
        obtain ⟨rfl, g9⟩ := ho
        refine ⟨rfl, ?_⟩
        rw [HR.out]
        exact ⟨rfl, (Chg.of_below HB.out).trans g9 (fun _ _ q => q)⟩
      | ok s2 =>
        obtain ⟨rfl, g3⟩ := ho
        have kl2 := KL2.out s2 w3 rfl g3
        obtain ⟨_, _, _, _, _, a5⟩ := (HX.out w3 g3.chg).cs
        have HR : Hid (R = (loopP (resP bi n).1 [t1] s2).bind fun s3 => .ok (shutP s3)) := HR.out
        have KS3 := (show Hid _ from fun s3 w1 => KS2.out s2 s3 w1 rfl)
        generalize loopP (resP bi n).1 [t1] s2 = L at *
        clear KL2 KS2 g3
        go_wp2_with fail
        refine kl2.mono ?_
        intro e w4 ho
        clear kl2 a5
        cases L with
        | error er =>
          obtain ⟨rfl, g9⟩ := ho
          refine ⟨rfl, ?_⟩
          rw [HR.out]
          exact ⟨rfl, (Chg.of_below HB.out).trans g9 (fun _ _ q => q)⟩
        | ok s3 =>
          obtain ⟨rfl, g4⟩ := ho
          have ks2 := KS3.out s3 w4 rfl g4
          clear KS3 g4
          go_wp2_with fail
          refine ks2.mono ?_
          rintro e w5 ⟨rfl, g5⟩
          have HG : Hid (Went w W0.heap.size rb O (shutP s3) v6 w5) := g5.behind HB.out
          clear ks2 g5
          go_wp2_with fail
          go_end0
          rw [HR.out]
          exact ⟨rfl, HG.out⟩
end Go.Proofs.Ytihmdcdifakepaa.Rv
