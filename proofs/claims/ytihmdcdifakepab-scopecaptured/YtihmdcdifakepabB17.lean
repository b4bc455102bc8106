/- The resolver's walk: block. -/
import Derived.Test.YtihmdcdifakepabB16
import Derived.Test.YtihmdcdifakepabB13
import Derived.Test.YtihmdcdifakepabB14
import Derived.Deep.LoopGhost
namespace Go.Proofs.Ytihmdcdifakepab.Rv
open Go.RowKit Go.Proofs.Ytihmdcdifakepab.Sc Go.Proofs.Ytihmdcdifakepab.Rz
set_option linter.unusedVariables false
set_option linter.unusedSimpArgs false

theorem heads_keeps {α : Type} (nd : α → Nd) : ∀ (l : List α) (s s' : Rz.RS), headsP nd l s = .ok s' → s'.blocks.length = s.blocks.length
  | [], s, s', e => by
    unfold headsP at e
    obtain rfl := Except.ok.inj e
    rfl
  | k :: r, s, s', e => by
    unfold headsP at e
    obtain ⟨s2, e1, e2⟩ := bind_ok e
    rw [heads_keeps nd r s2 s' e2]
    exact (hd1_keeps (x := nd k) (s := s) (s' := s2) e1).1
theorem items_keeps {n : Nat} {l : List (Tr n)} {s s' : Rz.RS} (e : itemsP (ndR n) (resP bi n).1 l s = .ok s') : s'.blocks.length = s.blocks.length := by
  unfold itemsP at e
  obtain ⟨s2, e1, e2⟩ := bind_ok e
  rw [(keeps_each (keeps_resP bi n).1 l s2 s' e2).blocks]
  exact heads_keeps _ l s s2 e1

set_option maxRecDepth 100000 in
set_option maxHeartbeats 2000000 in
theorem block_any (W0 : World) (n : Nat) (hN : NC W0 n) (w : World) (rb : Nat) (O : Nat → Prop) (s : Rz.RS) (v6 : Value) (h : On W0 rb O s v6 w) (sl : Sli (Tr n)) (hok : sl.ok (encT n) 6 W0) (hks : ∀ y ∈ sl.xs, okF n W0 y) (hb : cr s + 2 + 8 * (sl.xs.map (szT n)).sum ≤ lim) (hd : dp s + 2 + 4 * n ≤ lim) :
    Calls Try.prog 13 #[.pointer (some ⟨rb, 0, none⟩), .slice sl.at' sl.xs.length sl.cap] w (Out w W0.heap.size rb O v6 (.tuple #[]) (blockP (ndR n) (resP bi n).1 sl.xs s)) := by
  have ko := open_any w W0.heap.size rb O s v6 h.mem (bg_of (by omega) (by omega))
  have HIT : Hid (∀ w1, Went w W0.heap.size rb O (openP s) v6 w1 → Calls Try.prog 20 #[.pointer (some ⟨rb, 0, none⟩), .slice sl.at' sl.xs.length sl.cap] w1 (Out w W0.heap.size rb O v6 (.tuple #[]) (itemsP (ndR n) (resP bi n).1 sl.xs (openP s)))) := fun w1 hw => rel h hw fun O1 o1 => items_any W0 n hN w1 rb O1 (openP s) v6 o1 sl hok hks (by rw [cr_open]; exact hb) (by unfold dp openP at *; simp only [List.length_cons]; omega) (by unfold openP; simp)
  have HSH : Hid (∀ s2 w2, itemsP (ndR n) (resP bi n).1 sl.xs (openP s) = .ok s2 → Went w W0.heap.size rb O s2 v6 w2 → Calls Try.prog 21 #[.pointer (some ⟨rb, 0, none⟩)] w2 (fun e w' => e = .returned (.tuple #[]) ∧ Went w W0.heap.size rb O (shutP s2) v6 w')) := fun s2 w2 e hw => relW h hw fun O1 o1 => by
    have hl := items_keeps e
    unfold openP at hl
    simp only [List.length_cons] at hl
    obtain ⟨b0, bs, hbs⟩ : ∃ b0 bs, s2.blocks = b0 :: bs := by
      cases hq : s2.blocks with
      | nil => rw [hq] at hl; simp at hl
      | cons a b => exact ⟨a, b, rfl⟩
    exact shut_any w2 W0.heap.size rb O1 s2 v6 o1.mem b0 bs hbs
  obtain ⟨R, hR⟩ : ∃ R, R = blockP (ndR n) (resP bi n).1 sl.xs s := ⟨_, rfl⟩
  rw [← hR]
  unfold blockP at hR
  have HR : Hid (R = (itemsP (ndR n) (resP bi n).1 sl.xs (openP s)).bind fun s => .ok (shutP s)) := hR
  generalize itemsP (ndR n) (resP bi n).1 sl.xs (openP s) = I at *
  generalize sl.at' = ka at *
  generalize sl.cap = kc at *
  generalize sl.xs.length = kl at *
  clear h hok hks hb hd hN hR
  go_enter Try.func13, Try.ntmps13
  go_wp2_with fail
  refine ko.mono ?_
  rintro e w1 ⟨rfl, h1⟩
  have ki := HIT.out w1 h1
  clear ko h1 HIT
  go_wp2_with fail
  refine ki.mono ?_
  intro e w2 ho
  clear ki
  cases I with
  | error er =>
    obtain ⟨rfl, g⟩ := ho
    refine ⟨rfl, ?_⟩
    rw [HR.out]
    exact ⟨rfl, g⟩
  | ok s2 =>
    obtain ⟨rfl, g⟩ := ho
    have ks := HSH.out s2 w2 rfl g
    clear g HSH
    go_wp2_with fail
    refine ks.mono ?_
    rintro e w3 ⟨rfl, h3⟩
    have HG : Hid (Went w W0.heap.size rb O (shutP s2) v6 w3) := h3
    clear ks h3
    go_wp2_with fail
    go_end0
    rw [HR.out]
    exact ⟨rfl, HG.out⟩
end Go.Proofs.Ytihmdcdifakepab.Rv

/- The resolver's walk: jump. -/
namespace Go.Proofs.Ytihmdcdifakepab.Rv
open Go.RowKit Go.Proofs.Ytihmdcdifakepab.Sc Go.Proofs.Ytihmdcdifakepab.Rz
set_option linter.unusedVariables false
set_option linter.unusedSimpArgs false

set_option maxRecDepth 100000 in
set_option maxHeartbeats 2000000 in
theorem jump_any (w : World) (B rb : Nat) (O : Nat → Prop) (s : Rz.RS) (v6 : Value) (h : Mem w B rb O s v6) (x : Nd) (kv : Value) :
    Calls Try.prog 56 #[.pointer (some ⟨rb, 0, none⟩), .agg #[.int .i64 x.kind, .int .i64 x.pl, .string x.name, .int .u64 x.num, .string x.op, kv]] w (Out w B rb O v6 (.tuple #[]) (jumpP x s)) := by
  obtain ⟨wb, hwb⟩ : ∃ wb, wb = w.alloc (.cells #[.int .i64 x.kind, .int .i64 x.pl, .string x.name, .int .u64 x.num, .string x.op, kv] 25) := ⟨_, rfl⟩
  have hb : Below w.heap.size w wb := by rw [hwb]; exact (Below.refl _ _).alloc (Nat.le_refl _) _
  have hX : NdB w.heap.size x kv wb := by rw [hwb]; exact at_new _ _
  have b0 : wb.cell? ⟨w.heap.size, 0, none⟩ = some (.int .i64 x.kind) := cell_of_row wb _ 0 _ _ (0, 0) hX
  have b1 : wb.cell? ⟨w.heap.size, 1, none⟩ = some (.int .i64 x.pl) := cell_of_row wb _ 1 _ _ (0, 0) hX
  have b2 : wb.cell? ⟨w.heap.size, 2, none⟩ = some (.string x.name) := cell_of_row wb _ 2 _ _ (0, 0) hX
  have b3 : wb.cell? ⟨w.heap.size, 3, none⟩ = some (.int .u64 x.num) := cell_of_row wb _ 3 _ _ (0, 0) hX
  have b4 : wb.cell? ⟨w.heap.size, 4, none⟩ = some (.string x.op) := cell_of_row wb _ 4 _ _ (0, 0) hX
  have b5 : wb.cell? ⟨w.heap.size, 5, none⟩ = some kv := cell_of_row wb _ 5 _ _ (0, 0) hX
  have kc := canJump_any wb B rb O s v6 (h.below hb) x kv
  have HB : Hid (Below w.heap.size w wb) := hb
  have HW : Hid (∀ W, Below w.heap.size w W → Went w B rb O s v6 W ∧ Chg O w W) := fun W hW => ⟨Went.same h hW, Chg.of_below hW⟩
  obtain ⟨R, hR⟩ : ∃ R, R = jumpP x s := ⟨_, rfl⟩
  rw [← hR]
  have HR : Hid (R = if jmB x s = true then .ok s else .error (x.pl, 75)) := hR
  generalize jmB x s = q at *
  generalize x.kind = q0 at *
  generalize x.pl = q1 at *
  generalize x.name = q2 at *
  generalize x.num = q3 at *
  generalize x.op = q4 at *
  clear h hX hb hR
  go_enter Try.func56, Try.ntmps56
  go_upto_region 1 with fail
  rw [← hwb]
  clear hwb
  go_wp2_with fail
  refine kc.mono ?_
  rintro e w1 ⟨rfl, hb1⟩
  have HB1 : Hid (Below w.heap.size w w1) := HB.out.trans (hb1.mono HB.out.size)
  have d1 := Sc.cells_below hb1 _ _ b1
  clear kc hb1 b0 b1 b2 b3 b4 b5
  cases q with
  | true =>
    go_wp2_with fail
    go_end0
    rw [HR.out]
    first | rw [if_pos trivial] | rw [if_pos rfl]
    exact ⟨rfl, (HW.out w1 HB1.out).1⟩
  | false =>
    go_wp2_with fail
    refine ⟨rfl, ?_⟩
    rw [HR.out]
    first | rw [if_neg (fun q => q)] | rw [if_neg (by decide)]
    exact ⟨rfl, (HW.out w1 HB1.out).2⟩
end Go.Proofs.Ytihmdcdifakepab.Rv

/- The resolver's walk: does a label stand at a loop? -/
namespace Go.Proofs.Ytihmdcdifakepab.Rv
open Go.RowKit Go.Proofs.Ytihmdcdifakepab.Sc Go.Proofs.Ytihmdcdifakepab.Rz
set_option linter.unusedVariables false
set_option linter.unusedSimpArgs false

def loopB (k : Int) : Bool := decide (36 ≤ k) && decide (k ≤ 38)

set_option maxRecDepth 100000 in
theorem isLoop_any (k : Int) (w : World) : Calls Try.prog 69 #[.int .i64 k] w fun e w' => e = .returned (.bool (loopB k)) ∧ w' = w := by
  obtain ⟨R, hR⟩ : ∃ R, R = loopB k := ⟨_, rfl⟩
  rw [← hR]
  unfold loopB at hR
  by_cases c1 : k = 36
  · subst c1
    have : R = true := by rw [hR]; rfl
    subst this
    clear hR
    go_enter Try.func69, Try.ntmps69
    go_wp2_with fail
    go_ret
    exact ⟨rfl, rfl⟩
  by_cases c2 : k = 37
  · subst c2
    have : R = true := by rw [hR]; rfl
    subst this
    clear hR
    go_enter Try.func69, Try.ntmps69
    go_wp2_with fail
    go_ret
    exact ⟨rfl, rfl⟩
  have hR2 : R = (k == 38) := by
    rw [hR]
    by_cases c3 : k = 38
    · subst c3; rfl
    · rw [show (k == 38) = false by simpa using c3]
      simp
      omega
  have h1 : (k == (36 : Int)) = false := by simpa using c1
  have h2 : (k == (37 : Int)) = false := by simpa using c2
  subst hR2
  clear hR
  go_enter Try.func69, Try.ntmps69
  go_wp2_with fail
  go_ret
  exact ⟨rfl, rfl⟩

/-- the variable holds a tree of g levels that leads where the first one does -/
structure LdAt (W0 : World) (w : World) (r : Bool) (g : Nat) (wr : World) : Prop where
  bel : Below w.heap.size w wr
  at' : ∃ t : Tr g, okF g W0 t ∧ leadT g t = r ∧ wr.heap[w.heap.size]? = some (.cells #[.int .i64 (ndT g t).kind, .int .i64 (ndT g t).pl, .string (ndT g t).name, .int .u64 (ndT g t).num, .string (ndT g t).op, .slice (atT g t) (nkT g t) (capT g t)] 25 (0, 0))

set_option maxRecDepth 100000 in
set_option maxHeartbeats 2000000 in
theorem lead_any (W0 : World) (n : Nat) (t : Tr n) (ht : okF n W0 t) (w : World) (hb : Below W0.heap.size W0 w) :
    Calls Try.prog 64 #[valT n t] w fun e w' => e = .returned (.bool (leadT n t)) ∧ Below w.heap.size w w' := by
  obtain ⟨wb, hwb⟩ : ∃ wb, wb = w.alloc (.cells #[.int .i64 (ndT n t).kind, .int .i64 (ndT n t).pl, .string (ndT n t).name, .int .u64 (ndT n t).num, .string (ndT n t).op, .slice (atT n t) (nkT n t) (capT n t)] 25) := ⟨_, rfl⟩
  have hbl : Below w.heap.size w wb := by rw [hwb]; exact below_new (Below.refl _ _) (Nat.le_refl _) _
  have HS : Hid (LdAt W0 w (leadT n t) n wb) := ⟨hbl, t, ht, rfl, by rw [hwb]; exact at_new _ _⟩
  have HW0 : Hid (Below W0.heap.size W0 w) := hb
  unfold valT
  generalize leadT n t = R at *
  generalize (ndT n t).kind = q0 at *
  generalize (ndT n t).pl = q1 at *
  generalize (ndT n t).name = q2 at *
  generalize (ndT n t).num = q3 at *
  generalize (ndT n t).op = q4 at *
  generalize atT n t = q5 at *
  generalize nkT n t = q6 at *
  generalize capT n t = q7 at *
  clear hbl ht hb
  go_enter Try.func64, Try.ntmps64
  go_upto_region 1 with fail
  rw [← hwb]
  clear hwb
  go_loopg [5] n (fun g p wr => Hid (LdAt W0 w R g wr))
  case atStart => exact HS
  case round =>
    clear HS
    have HE := hrel
    clear hrel
    obtain ⟨t1, ht1, hl1, hbx⟩ := HE.out.at'
    have HBE : Hid (Below w.heap.size w wr) := HE.out.bel
    cases gk with
    | zero => exact nomatch (t1 : Empty)
    | succ g =>
      obtain ⟨x, sl⟩ := t1
      have c0 : wr.cell? ⟨w.heap.size, 0, none⟩ = some (.int .i64 x.kind) := by rw [cell_of_row wr _ 0 _ 25 (0, 0) hbx]; rfl
      have c5 : wr.cell? ⟨w.heap.size, 5, none⟩ = some (.slice sl.at' sl.xs.length sl.cap) := by rw [cell_of_row wr _ 5 _ 25 (0, 0) hbx]; rfl
      have HF : Hid (wr.heap[w.heap.size]? = some (.cells #[.int .i64 x.kind, .int .i64 x.pl, .string x.name, .int .u64 x.num, .string x.op, .slice sl.at' sl.xs.length sl.cap] 25 (0, 0))) := hbx
      have hfz : ∀ j, wr.frozen? ⟨w.heap.size, j, none⟩ = false := fun j => frozen_of_row wr _ j _ 25 hbx
      have d1 : wr.cell? ⟨w.heap.size, 1, none⟩ = some (.int .i64 x.pl) := by rw [cell_of_row wr _ 1 _ 25 (0, 0) hbx]; rfl
      have d2 : wr.cell? ⟨w.heap.size, 2, none⟩ = some (.string x.name) := by rw [cell_of_row wr _ 2 _ 25 (0, 0) hbx]; rfl
      have d3 : wr.cell? ⟨w.heap.size, 3, none⟩ = some (.int .u64 x.num) := by rw [cell_of_row wr _ 3 _ 25 (0, 0) hbx]; rfl
      have d4 : wr.cell? ⟨w.heap.size, 4, none⟩ = some (.string x.op) := by rw [cell_of_row wr _ 4 _ 25 (0, 0) hbx]; rfl
      by_cases ck : x.kind = 41
      · have hlen : 1 ≤ sl.xs.length := ht1.2.1 (by omega)
        obtain ⟨y, b, off, k1, k2, x0, x1, x2, x3, x4, x5⟩ := kid_at (ht1.1.2.1.kept (Sc.cells_below (HW0.out.trans (HBE.out.mono HW0.out.size)))) (k := 0) (by omega)
        have hy : okF g W0 y ∧ leadT g y = R := by
          refine ⟨⟨ht1.1.2.2 y (List.mem_of_getElem? k2), ht1.2.2.2.2 y (List.mem_of_getElem? k2)⟩, ?_⟩
          rw [← hl1]
          show leadT g y = if x.kind = 41 then ((sl.xs[0]?).map (leadT g)).getD false else _
          rw [if_pos ck, k2]
          rfl
        have HY : Hid (okF g W0 y ∧ leadT g y = R) := hy
        have f0 := hfz 0
        have f1 := hfz 1
        have f2 := hfz 2
        have f3 := hfz 3
        have f4 := hfz 4
        have f5 := hfz 5
        have HNX : Hid (LdAt W0 w R g ((((((wr.setCell ⟨w.heap.size, 0, none⟩ (.int .i64 (ndT g y).kind)).setCell ⟨w.heap.size, 1, none⟩ (.int .i64 (ndT g y).pl)).setCell ⟨w.heap.size, 2, none⟩ (.string (ndT g y).name)).setCell ⟨w.heap.size, 3, none⟩ (.int .u64 (ndT g y).num)).setCell ⟨w.heap.size, 4, none⟩ (.string (ndT g y).op)).setCell ⟨w.heap.size, 5, none⟩ (.slice (atT g y) (nkT g y) (capT g y)))) := by
          have s0 := heap_setCell_same wr w.heap.size 0 _ 25 (.int .i64 (ndT g y).kind) HF.out
          have s1 := heap_setCell_same _ w.heap.size 1 _ 25 (.int .i64 (ndT g y).pl) s0
          have s2 := heap_setCell_same _ w.heap.size 2 _ 25 (.string (ndT g y).name) s1
          have s3 := heap_setCell_same _ w.heap.size 3 _ 25 (.int .u64 (ndT g y).num) s2
          have s4 := heap_setCell_same _ w.heap.size 4 _ 25 (.string (ndT g y).op) s3
          have s5 := heap_setCell_same _ w.heap.size 5 _ 25 (.slice (atT g y) (nkT g y) (capT g y)) s4
          have hq : w.heap.size ≤ (⟨w.heap.size, 0, none⟩ : Addr).block := Nat.le_refl _
          exact ⟨(((((HBE.out.setCell (p := ⟨w.heap.size, 0, none⟩) hq _).setCell (p := ⟨w.heap.size, 1, none⟩) hq _).setCell (p := ⟨w.heap.size, 2, none⟩) hq _).setCell (p := ⟨w.heap.size, 3, none⟩) hq _).setCell (p := ⟨w.heap.size, 4, none⟩) hq _).setCell (p := ⟨w.heap.size, 5, none⟩) hq _, y, HY.out.1, HY.out.2, s5⟩
        obtain ⟨m, hm⟩ : ∃ m, sl.xs.length = m + 1 := ⟨sl.xs.length - 1, by omega⟩
        have hml : (0 : Int) < (m : Int) + 1 := by omega
        rw [k1, hm] at c5
        rw [ck] at c0
        simp only [Nat.zero_mul, Nat.add_zero] at x0 x1 x2 x3 x4 x5
        clear hbx hfz ht1 hl1 HE hy HF HY hlen k2 hm k1 ck
        generalize (ndT g y).kind = r0 at *
        generalize (ndT g y).pl = r1 at *
        generalize (ndT g y).name = r2 at *
        generalize (ndT g y).num = r3 at *
        generalize (ndT g y).op = r4 at *
        generalize atT g y = r5 at *
        generalize nkT g y = r6 at *
        generalize capT g y = r7 at *
        go_wp2_with fail
        go_roundg g
        case measure => omega
        case rel => exact HNX
      · have hck : (x.kind == (41 : Int)) = false := by simpa using ck
        have hR : R = loopB x.kind := by
          rw [← hl1]
          show (if x.kind = 41 then ((sl.xs[0]?).map (leadT g)).getD false else _) = _
          rw [if_neg ck]
          rfl
        have ki := isLoop_any x.kind wr
        rw [← hR] at ki
        clear hbx hfz ht1 hl1 HE HF hR d1 d2 d3 d4 c5 ck
        generalize x.kind = kd at *
        go_wp2_with fail
        refine ki.mono ?_
        rintro e w1 ⟨rfl, rfl⟩
        clear ki
        go_wp2_with fail
        go_ret
        exact ⟨rfl, HBE.out⟩
end Go.Proofs.Ytihmdcdifakepab.Rv
