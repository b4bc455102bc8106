/- The resolver's walk: for of. -/
import Derived.Test.YtihmdcdifakepabB17
namespace Go.Proofs.Ytihmdcdifakepab.Rv
open Go.RowKit Go.Proofs.Ytihmdcdifakepab.Sc Go.Proofs.Ytihmdcdifakepab.Rz
set_option linter.unusedVariables false
set_option linter.unusedSimpArgs false

theorem bg_lt {s : Rz.RS} (h1 : cr s ≤ lim) (h2 : dp s ≤ lim) : bg s < 1000000000 := by
  unfold cr dp bg lim at *
  omega
theorem NdB.chg {nb : Nat} {x : Nd} {kv : Value} {w w' : World} {O : Nat → Prop} (h : NdB nb x kv w) (hc : Chg O w w') (hn : ¬ O nb) : NdB nb x kv w' := by
  unfold NdB
  rw [hc.block nb (Array.getElem?_eq_some_iff.1 h).1 hn]
  exact h
theorem Went.chg {w w' : World} {B rb : Nat} {O : Nat → Prop} {s : Rz.RS} {v6 : Value} (h : Went w B rb O s v6 w') : Chg O w w' := by obtain ⟨_, _, h2, _⟩ := h; exact h2
theorem NdB.cs {nb : Nat} {x : Nd} {kv : Value} {w : World} (h : NdB nb x kv w) : w.cell? ⟨nb, 0, none⟩ = some (.int .i64 x.kind) ∧ w.cell? ⟨nb, 1, none⟩ = some (.int .i64 x.pl) ∧ w.cell? ⟨nb, 2, none⟩ = some (.string x.name) ∧ w.cell? ⟨nb, 3, none⟩ = some (.int .u64 x.num) ∧ w.cell? ⟨nb, 4, none⟩ = some (.string x.op) ∧ w.cell? ⟨nb, 5, none⟩ = some kv :=
  ⟨cell_of_row w _ 0 _ _ (0, 0) h, cell_of_row w _ 1 _ _ (0, 0) h, cell_of_row w _ 2 _ _ (0, 0) h, cell_of_row w _ 3 _ _ (0, 0) h, cell_of_row w _ 4 _ _ (0, 0) h, cell_of_row w _ 5 _ _ (0, 0) h⟩

/-- a kid's value and its cells -/
theorem kid_val {n : Nat} {w : World} {b off kc : Nat} {xs : List (Tr n)} (h : Sli.ok (encT n) 6 w ⟨some ⟨b, off, none⟩, kc, xs⟩) {k : Nat} {y : Tr n} (hy : xs[k]? = some y) :
    w.cell? ⟨b, off + k * 6, none⟩ = some (.int .i64 (ndT n y).kind) ∧ w.cell? ⟨b, off + k * 6 + 1, none⟩ = some (.int .i64 (ndT n y).pl) ∧ w.cell? ⟨b, off + k * 6 + 2, none⟩ = some (.string (ndT n y).name) ∧
      w.cell? ⟨b, off + k * 6 + 3, none⟩ = some (.int .u64 (ndT n y).num) ∧ w.cell? ⟨b, off + k * 6 + 4, none⟩ = some (.string (ndT n y).op) ∧ w.cell? ⟨b, off + k * 6 + 5, none⟩ = some (.slice (atT n y) (nkT n y) (capT n y)) := by
  have hk : k < xs.length := (List.getElem?_eq_some_iff.1 hy).1
  obtain ⟨y', b', off', k1, k2, x0, x1, x2, x3, x4, x5⟩ := kid_at h (k := k) hk
  simp only [Option.some.injEq, Addr.mk.injEq, and_true] at k1 k2
  obtain ⟨rfl, rfl⟩ := k1
  rw [hy] at k2
  obtain rfl := Option.some.inj k2
  exact ⟨x0, x1, x2, x3, x4, x5⟩

theorem each_one {n : Nat} (t : Tr n) (s : Rz.RS) : eachP (resP bi n).1 [t] s = (resP bi n).1 t s := by
  unfold eachP
  cases (resP bi n).1 t s with
  | error e => rfl
  | ok s' => rfl

set_option maxRecDepth 100000 in
set_option maxHeartbeats 4000000 in
theorem loopOf_any (W0 : World) (n : Nat) (hN : NC W0 n) (w : World) (rb : Nat) (O : Nat → Prop) (s : Rz.RS) (v6 : Value) (h0 : On W0 rb O s v6 w) (x : Nd) (hnm : x.name.size ≤ maxLen) (sl : Sli (Tr n)) (hok : sl.ok (encT n) 6 W0) (hks : ∀ y ∈ sl.xs, okF n W0 y) (hl : sl.xs.length = 2) (hb : cr s + 8 + 8 * (sl.xs.map (szT n)).sum ≤ lim) (hd : dp s + 4 + 4 * n ≤ lim) :
    Calls Try.prog 54 #[.pointer (some ⟨rb, 0, none⟩), .agg #[.int .i64 x.kind, .int .i64 x.pl, .string x.name, .int .u64 x.num, .string x.op, .slice sl.at' sl.xs.length sl.cap]] w (Out w W0.heap.size rb O v6 (.tuple #[]) (loopOfP (resP bi n).1 x sl.xs s)) := by
  obtain ⟨ka, kc, kx⟩ := sl
  simp only at *
  obtain ⟨t0, t1, rfl⟩ : ∃ t0 t1, kx = [t0, t1] := by
    match kx, hl with
    | [t0, t1], _ => exact ⟨t0, t1, rfl⟩
  obtain ⟨b, off, hka, _⟩ := hok.cells (by simp)
  simp only at hka
  subst hka
  have hkc : 2 ≤ kc := by have := hok.len; simpa using this
  obtain ⟨kq, rfl⟩ : ∃ kq, kc = kq + 1 := ⟨kc - 1, by omega⟩
  obtain ⟨wb, hwb⟩ : ∃ wb, wb = w.alloc (.cells #[.int .i64 x.kind, .int .i64 x.pl, .string x.name, .int .u64 x.num, .string x.op, .slice (some ⟨b, off, none⟩) 2 (kq + 1)] 25) := ⟨_, rfl⟩
  have hbl : Below w.heap.size w wb := by rw [hwb]; exact below_new (Below.refl _ _) (Nat.le_refl _) _
  have hX : NdB w.heap.size x (.slice (some ⟨b, off, none⟩) 2 (kq + 1)) wb := by rw [hwb]; exact at_new _ _
  have h := h0.below hbl
  have hnO : ¬ O w.heap.size := fun q => by have := (h0.mem.lt _ q).2; omega
  have HX : Hid (∀ W, Chg O wb W → NdB w.heap.size x (.slice (some ⟨b, off, none⟩) 2 (kq + 1)) W) := fun W hc => hX.chg hc hnO
  have HB : Hid (Below w.heap.size w wb) := hbl
  simp only [List.map_cons, List.map_nil, List.sum_cons, List.sum_nil] at hb
  have k1 := hN t0 (hks t0 (by simp)) wb rb O s v6 h (by omega) (by omega)
  obtain ⟨x0, x1, x2, x3, x4, x5⟩ := kid_val (hok.kept (Sc.cells_below h.bel)) (k := 0) (y := t0) (by simp)
  simp only [Nat.zero_mul, Nat.add_zero] at x0 x1 x2 x3 x4 x5
  have KO : Hid (∀ s1 w1, (resP bi n).1 t0 s = .ok s1 → Went wb W0.heap.size rb O s1 v6 w1 → Calls Try.prog 19 #[.pointer (some ⟨rb, 0, none⟩)] w1 (fun e w' => e = .returned (.tuple #[]) ∧ Went wb W0.heap.size rb O (openP s1) v6 w')) := fun s1 w1 e hw => relW h hw fun O1 o1 => by
    have hc := (cr_res bi n).1 t0 s s1 e
    have hk := (keeps_resP bi n).1 t0 s s1 e
    exact open_any w1 W0.heap.size rb O1 s1 v6 o1.mem (bg_of (by omega) (by unfold dp at *; rw [hk.blocks, hk.labels, hk.loops]; omega))
  have KD : Hid (∀ s1 w1 (kd : Int), (resP bi n).1 t0 s = .ok s1 → Went wb W0.heap.size rb O (openP s1) v6 w1 → Calls Try.prog 28 #[.pointer (some ⟨rb, 0, none⟩), .agg #[.int .i64 x.kind, .int .i64 x.pl, .string x.name, .int .u64 x.num, .string x.op, .slice (some ⟨b, off, none⟩) 2 (kq + 1)], .int .i64 kd] w1 (Out wb W0.heap.size rb O v6 (.tuple #[]) (declP x.name x.pl kd (openP s1)))) := fun s1 w1 kd e hw => rel h hw fun O1 o1 => by
    have hc := (cr_res bi n).1 t0 s s1 e
    have hk := (keeps_resP bi n).1 t0 s s1 e
    exact declare_any w1 W0.heap.size rb O1 (openP s1) v6 o1.mem (bg_lt (by rw [cr_open]; omega) (by unfold dp openP at *; simp only [List.length_cons]; rw [hk.blocks, hk.labels, hk.loops]; omega)) [] s1.blocks rfl x.kind x.pl x.num x.name x.op _ hnm kd
  have KL : Hid (∀ s1 s2 w1 (kd : Int), (resP bi n).1 t0 s = .ok s1 → declP x.name x.pl kd (openP s1) = .ok s2 → Went wb W0.heap.size rb O s2 v6 w1 → Calls Try.prog 53 #[.pointer (some ⟨rb, 0, none⟩), .slice (some ⟨b, rsO off kq, none⟩) 1 kq] w1 (Out wb W0.heap.size rb O v6 (.tuple #[]) (loopP (resP bi n).1 [t1] s2))) := fun s1 s2 w1 kd e e2 hw => rel h hw fun O1 o1 => by
    have hc := (cr_res bi n).1 t0 s s1 e
    have hk := (keeps_resP bi n).1 t0 s s1 e
    have hc2 := cr_decl _ _ _ (openP s1) s2 e2
    obtain ⟨p1, p2, p3, p4⟩ := decl_keeps e2
    rw [cr_open] at hc2
    exact loop_any W0 n hN w1 rb O1 s2 v6 o1 ⟨some ⟨b, rsO off kq, none⟩, kq, [t1]⟩ (kids_rest hok) (fun y hy => hks y (List.mem_cons_of_mem _ hy)) (by simp only [List.map_cons, List.map_nil, List.sum_cons, List.sum_nil]; omega) (by unfold dp at *; rw [p1, p2, p3]; unfold openP; simp only [List.length_cons]; rw [hk.blocks, hk.labels, hk.loops]; omega)
  have KS : Hid (∀ s1 s2 s3 w1 (kd : Int), (resP bi n).1 t0 s = .ok s1 → declP x.name x.pl kd (openP s1) = .ok s2 → loopP (resP bi n).1 [t1] s2 = .ok s3 → Went wb W0.heap.size rb O s3 v6 w1 → Calls Try.prog 21 #[.pointer (some ⟨rb, 0, none⟩)] w1 (fun e w' => e = .returned (.tuple #[]) ∧ Went wb W0.heap.size rb O (shutP s3) v6 w')) := fun s1 s2 s3 w1 kd e e2 e3 hw => relW h hw fun O1 o1 => by
    obtain ⟨p1, _, _, _⟩ := decl_keeps e2
    have hq : s3.blocks = s2.blocks := by
      unfold loopP at e3
      obtain ⟨s4, f1, f2⟩ := bind_ok e3
      obtain rfl := Except.ok.inj f2
      exact (keeps_each (keeps_resP bi n).1 [t1] _ s4 f1).blocks
    obtain ⟨c0, cs, hbs⟩ : ∃ c0 cs, s3.blocks = c0 :: cs := by
      cases hz : s3.blocks with
      | nil => rw [← hq, hz] at p1; unfold openP at p1; simp at p1
      | cons a b => exact ⟨a, b, rfl⟩
    exact shut_any w1 W0.heap.size rb O1 s3 v6 o1.mem c0 cs hbs
  obtain ⟨R, hR⟩ : ∃ R, R = loopOfP (resP bi n).1 x [t0, t1] s := ⟨_, rfl⟩
  rw [← hR]
  unfold loopOfP at hR
  simp only [List.take_succ_cons, List.take_zero, List.drop_succ_cons, List.drop_zero] at hR
  rw [each_one] at hR
  have HR : Hid (R = ((resP bi n).1 t0 s).bind fun s1 => (declP x.name x.pl (if isS x.op [99, 111, 110, 115, 116] then 2 else 1) (openP s1)).bind fun s2 => (loopP (resP bi n).1 [t1] s2).bind fun s3 => .ok (shutP s3)) := hR
  have hsl : ∀ w : World, (Instr.slice 23 (.slice (some ⟨b, off, none⟩) 2 (kq + 1)) (some (.int .i64 1)) none none).run Try.prog w = .ok (.slice (some ⟨b, rsO off kq, none⟩) 1 kq) w := fun w => run_rest w b off 1 kq (by omega)
  have KD' := (show Hid _ from KD.out)
  unfold valT at k1
  generalize (resP bi n).1 t0 s = I at *
  generalize (ndT n t0).kind = q0 at *
  generalize (ndT n t0).pl = q1 at *
  generalize (ndT n t0).name = q2 at *
  generalize (ndT n t0).num = q3 at *
  generalize (ndT n t0).op = q4 at *
  generalize atT n t0 = q5 at *
  generalize nkT n t0 = q6 at *
  generalize capT n t0 = q7 at *
  unfold isS at HR
  obtain ⟨_, _, _, _, _, a5⟩ := hX.cs
  clear h h0 hok hks hb hd hN hR hl hkc hbl hX hnm hnO KD'
  go_enter Try.func54, Try.ntmps54
  go_upto_region 1 with fail
  rw [← hwb]
  clear hwb
  go_wp2_with fail
  refine k1.mono ?_
  intro e w1 ho
  clear k1 x0 x1 x2 x3 x4 x5 a5
  cases I with
  | error er =>
    obtain ⟨rfl, g9⟩ := ho
    refine ⟨rfl, ?_⟩
    rw [HR.out]
    exact ⟨rfl, (Chg.of_below HB.out).trans g9 (fun _ _ q => q)⟩
  | ok s1 =>
    obtain ⟨rfl, g1⟩ := ho
    have ko := KO.out s1 w1 rfl g1
    clear KO g1
    go_wp2_with fail
    refine ko.mono ?_
    rintro e w2 ⟨rfl, g2⟩
    obtain ⟨a0, a1, a2, a3, a4, a5⟩ := (HX.out w2 g2.chg).cs
    clear ko
    by_cases cc : (x.op.toList == [99, 111, 110, 115, 116]) = true
    · have HR2 := HR.out
      rw [cc] at HR2
      have HR : Hid (R = (declP x.name x.pl 2 (openP s1)).bind fun s2 => (loopP (resP bi n).1 [t1] s2).bind fun s3 => .ok (shutP s3)) := HR2
      clear HR2
      have kd2 := KD.out s1 w2 2 rfl g2
      have KL2 := (show Hid _ from fun s2 w1 => KL.out s1 s2 w1 2 rfl)
      have KS2 := (show Hid _ from fun s2 s3 w1 => KS.out s1 s2 s3 w1 2 rfl)
      generalize declP x.name x.pl 2 (openP s1) = D at *
      clear KD KL KS g2
      go_wp2_with fail
      refine kd2.mono ?_
      intro e w3 ho
      clear kd2 a0 a1 a2 a3 a4 a5
      cases D with
      | error er =>
        obtain ⟨rfl, g9⟩ := ho
        refine ⟨rfl, ?_⟩
        rw [HR.out]
        exact ⟨rfl, (Chg.of_below HB.out).trans g9 (fun _ _ q => q)⟩
      | ok s2 =>
        obtain ⟨rfl, g3⟩ := ho
        have kl2 := KL2.out s2 w3 rfl g3
        obtain ⟨_, _, _, _, _, a5⟩ := (HX.out w3 g3.chg).cs
        have HR : Hid (R = (loopP (resP bi n).1 [t1] s2).bind fun s3 => .ok (shutP s3)) := HR.out
        have KS3 := (show Hid _ from fun s3 w1 => KS2.out s2 s3 w1 rfl)
        generalize loopP (resP bi n).1 [t1] s2 = L at *
        clear KL2 KS2 g3
        go_wp2_with fail
        refine kl2.mono ?_
        intro e w4 ho
        clear kl2 a5
        cases L with
        | error er =>
          obtain ⟨rfl, g9⟩ := ho
          refine ⟨rfl, ?_⟩
          rw [HR.out]
          exact ⟨rfl, (Chg.of_below HB.out).trans g9 (fun _ _ q => q)⟩
        | ok s3 =>
          obtain ⟨rfl, g4⟩ := ho
          have ks2 := KS3.out s3 w4 rfl g4
          clear KS3 g4
          go_wp2_with fail
          refine ks2.mono ?_
          rintro e w5 ⟨rfl, g5⟩
          have HG : Hid (Went w W0.heap.size rb O (shutP s3) v6 w5) := g5.behind HB.out
          clear ks2 g5
          go_wp2_with fail
          go_end0
          rw [HR.out]
          exact ⟨rfl, HG.out⟩
    · have cf : (x.op.toList == [99, 111, 110, 115, 116]) = false := by simpa using cc
      have HR2 := HR.out
      rw [cf] at HR2
      have HR : Hid (R = (declP x.name x.pl 1 (openP s1)).bind fun s2 => (loopP (resP bi n).1 [t1] s2).bind fun s3 => .ok (shutP s3)) := HR2
      clear HR2 cc
      have kd2 := KD.out s1 w2 1 rfl g2
      have KL2 := (show Hid _ from fun s2 w1 => KL.out s1 s2 w1 1 rfl)
      have KS2 := (show Hid _ from fun s2 s3 w1 => KS.out s1 s2 s3 w1 1 rfl)
      generalize declP x.name x.pl 1 (openP s1) = D at *
      clear KD KL KS g2
      go_wp2_with fail
      refine kd2.mono ?_
      intro e w3 ho
      clear kd2 a0 a1 a2 a3 a4 a5
      cases D with
      | error er =>
        obtain ⟨rfl, g9⟩ := ho
        refine ⟨rfl, ?_⟩
        rw [HR.out]
        exact ⟨rfl, (Chg.of_below HB.out).trans g9 (fun _ _ q => q)⟩
      | ok s2 =>
        obtain ⟨rfl, g3⟩ := ho
        have kl2 := KL2.out s2 w3 rfl g3
        obtain ⟨_, _, _, _, _, a5⟩ := (HX.out w3 g3.chg).cs
        have HR : Hid (R = (loopP (resP bi n).1 [t1] s2).bind fun s3 => .ok (shutP s3)) := HR.out
        have KS3 := (show Hid _ from fun s3 w1 => KS2.out s2 s3 w1 rfl)
        generalize loopP (resP bi n).1 [t1] s2 = L at *
        clear KL2 KS2 g3
        go_wp2_with fail
        refine kl2.mono ?_
        intro e w4 ho
        clear kl2 a5
        cases L with
        | error er =>
          obtain ⟨rfl, g9⟩ := ho
          refine ⟨rfl, ?_⟩
          rw [HR.out]
          exact ⟨rfl, (Chg.of_below HB.out).trans g9 (fun _ _ q => q)⟩
        | ok s3 =>
          obtain ⟨rfl, g4⟩ := ho
          have ks2 := KS3.out s3 w4 rfl g4
          clear KS3 g4
          go_wp2_with fail
          refine ks2.mono ?_
          rintro e w5 ⟨rfl, g5⟩
          have HG : Hid (Went w W0.heap.size rb O (shutP s3) v6 w5) := g5.behind HB.out
          clear ks2 g5
          go_wp2_with fail
          go_end0
          rw [HR.out]
          exact ⟨rfl, HG.out⟩
end Go.Proofs.Ytihmdcdifakepab.Rv
