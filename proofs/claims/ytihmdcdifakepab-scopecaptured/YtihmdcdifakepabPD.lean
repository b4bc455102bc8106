/- ScopeCaptured: the walk. -/
import Derived.Test.YtihmdcdifakepabPC
namespace Go.Proofs.Ytihmdcdifakepab.Rv
open Go.RowKit Go.Proofs.Ytihmdcdifakepab.Sc Go.Proofs.Ytihmdcdifakepab.Rz
set_option linter.unusedVariables false
set_option linter.unusedSimpArgs false

theorem SnAt.drew {wq wr : World} {sb : Nat} {bs : List Bool} (h : SnAt wq sb bs wr) (nq : Nat) : SnAt wq sb bs (wr.drewN nq) := ⟨⟨h.ch.os, h.ch.tape, h.ch.output, h.ch.size, h.ch.block⟩, h.bx⟩

set_option maxRecDepth 100000 in
set_option maxHeartbeats 4000000 in
theorem captured_bad (w : World) (x : Nd) (ka : Option Addr) (kl kc : Nat) (er : Rz.Er) (her : er.2 ≠ 0) (HC : ∀ w1, Below w.heap.size w w1 → Calls Try.prog 4 #[.agg #[.int .i64 x.kind, .int .i64 x.pl, .string x.name, .int .u64 x.num, .string x.op, .slice ka kl kc]] w1 (ResO w1 (.error er))) :
    Calls Try.prog 3 #[.agg #[.int .i64 x.kind, .int .i64 x.pl, .string x.name, .int .u64 x.num, .string x.op, .slice ka kl kc]] w fun e w' => e = .returned (.bool true) ∧ Below w.heap.size w w' := by
  obtain ⟨wb, hwb⟩ : ∃ wb, wb = w.alloc (.cells #[.int .i64 x.kind, .int .i64 x.pl, .string x.name, .int .u64 x.num, .string x.op, .slice ka kl kc] 25) := ⟨_, rfl⟩
  have hbl : Below w.heap.size w wb := by rw [hwb]; exact (Below.refl _ _).alloc (Nat.le_refl _) _
  have hX : NdB w.heap.size x (.slice ka kl kc) wb := by rw [hwb]; exact at_new _ _
  have k15 := HC wb hbl
  have HB : Hid (Below w.heap.size w wb) := hbl
  obtain ⟨a0, a1, a2, a3, a4, a5⟩ := hX.cs
  have hcc : (er.2 != (0 : Int)) = true := by simpa using her
  clear hX hbl HC her
  go_enter Try.func3, Try.ntmps3
  go_upto_region 1 with fail
  rw [← hwb]
  clear hwb
  go_wp2_with fail
  refine k15.mono ?_
  rintro e w1 ⟨hb1, he⟩
  have he : e = .returned (.tuple #[.agg #[.slice none 0 0, .slice none 0 0, .slice none 0 0], .int .i64 er.1, .int .i64 er.2]) := he
  subst he
  have HB1 : Hid (Below w.heap.size w w1) := HB.out.trans (hb1.mono HB.out.size)
  obtain ⟨w2, hw2⟩ : ∃ w2, w2 = w1.alloc (.cells #[.slice none 0 0, .slice none 0 0, .slice none 0 0] 30) := ⟨_, rfl⟩
  have hb2 : Below w1.heap.size w1 w2 := by rw [hw2]; exact (Below.refl _ _).alloc (Nat.le_refl _) _
  have HB2 : Hid (Below w.heap.size w w2) := HB1.out.trans (hb2.mono HB1.out.size)
  have hal := alive_any w2
  clear k15 a0 a1 a2 a3 a4 a5 hb1 hb2
  go_upto_region 2 with fail
  rw [← hw2]
  clear hw2
  go_wp2_with fail
  refine hal.mono ?_
  rintro e w3 ⟨rfl, hb3⟩
  have HB3 : Hid (Below w.heap.size w w3) := HB2.out.trans (hb3.mono HB2.out.size)
  clear hal hb3
  go_wp2_with fail
  go_ret
  exact ⟨rfl, HB3.out⟩

set_option maxRecDepth 100000 in
set_option maxHeartbeats 8000000 in
theorem captured_ok (w : World) (n : Nat) (hn : n ≤ 1000) (x : Nd) (sl : Sli (Tr n)) (s : Rz.RS) (hok : okT (n + 1) w ((x, sl) : Nd × Sli (Tr n))) (hr : rootP (n + 1) ((x, sl) : Nd × Sli (Tr n)) = true) (hR : resolveP bi (n + 1) ((x, sl) : Nd × Sli (Tr n)) = .ok s) :
    Calls Try.prog 3 #[.agg #[.int .i64 x.kind, .int .i64 x.pl, .string x.name, .int .u64 x.num, .string x.op, .slice sl.at' sl.xs.length sl.cap]] w fun e w' => e = .returned (.bool true) ∧ Below w.heap.size w w' := by
  have hsz := root_sizeA hr
  obtain ⟨wb, hwb⟩ : ∃ wb, wb = w.alloc (.cells #[.int .i64 x.kind, .int .i64 x.pl, .string x.name, .int .u64 x.num, .string x.op, .slice sl.at' sl.xs.length sl.cap] 25) := ⟨_, rfl⟩
  have hbl : Below w.heap.size w wb := by rw [hwb]; exact (Below.refl _ _).alloc (Nat.le_refl _) _
  have hX : NdB w.heap.size x (.slice sl.at' sl.xs.length sl.cap) wb := by rw [hwb]; exact at_new _ _
  have k15 := resolve_right wb n x sl (okT_kept hok (Sc.cells_below hbl)) hr hsz hn
  rw [hR] at k15
  have HB : Hid (Below w.heap.size w wb) := hbl
  have HBD : Hid (s.scopes.length ≤ 2000000 ∧ s.vars.length ≤ 2000000 ∧ s.uses.length ≤ 2000000) := res_bound3 hsz hR
  have HINV : Hid (∀ u ∈ s.uses, -1 ≤ u.var ∧ u.var < (s.vars.length : Int)) := (uses_plain bi (n + 1) _ s hR).use
  obtain ⟨own, hown⟩ : ∃ own, own = (ownersT (n + 1) ((x, sl) : Nd × Sli (Tr n)) 0 0).1 := ⟨_, rfl⟩
  have HCP : Hid (Cp s own) := by rw [hown]; exact cap_of hr hR
  have HOWN : Hid (∀ W0 w4 cb, Below w.heap.size w W0 → Below W0.heap.size W0 w4 → W0.heap.size ≤ cb → w4.heap[cb]? = some (.cells #[.int .i64 ((0 : Nat) : Int)] 40 (0, 0)) → Calls Try.prog 6 #[.agg #[.int .i64 x.kind, .int .i64 x.pl, .string x.name, .int .u64 x.num, .string x.op, .slice sl.at' sl.xs.length sl.cap], .int .i64 ((0 : Nat) : Int), .pointer (some ⟨cb, 0, none⟩), .slice none 0 0] w4 fun e w' => ∃ p q, e = .returned (.slice p own.length q) ∧ OwnR ioC 1 3 W0.heap.size w' (.slice p own.length q) own ∧ Chg (fun b => b = cb) w4 w') := fun W0 w4 cb h1 h2 h3 h4 => by
    have q := own_any W0 (n + 1) ((x, sl) : Nd × Sli (Tr n)) ⟨okT_kept hok (Sc.cells_below h1), fit_root hr⟩ hsz w4 cb 0 0 (.slice none 0 0) [] h2 h3 h4 (OwnR.nil _ _) (by simp [Value.ownBlock]) (by simp; omega) (by omega)
    refine q.mono ?_
    rintro e w' ⟨p, q, he, r1, r2, r3, r4⟩
    rw [List.nil_append, ← hown] at he r1
    exact ⟨p, q, he, r1, r3.mono (fun b r => by rcases r with r | r; exact r; simp [Value.ownBlock] at r)⟩
  obtain ⟨a0, a1, a2, a3, a4, a5⟩ := hX.cs
  have HX : Hid (∀ W, Below wb.heap.size wb W → NdB w.heap.size x (.slice sl.at' sl.xs.length sl.cap) W) := fun W hW => hX.chg (O := fun _ => False) (Chg.of_below hW) id
  clear hX hbl hok hr hR hsz hn hown
  generalize sl.at' = ka at *
  generalize sl.cap = kc at *
  generalize sl.xs.length = kl at *
  go_enter Try.func3, Try.ntmps3
  go_upto_region 1 with fail
  rw [← hwb]
  clear hwb
  go_wp2_with fail
  refine k15.mono ?_
  rintro e w1 ⟨hb1, v0, v1, v2, rfl, r0, r1, r2, -⟩
  obtain ⟨p0, q0, rfl⟩ := row_len2 r0
  obtain ⟨p1, q1, rfl⟩ := row_len2 r1
  obtain ⟨p2, q2, rfl⟩ := row_len2 r2
  obtain ⟨w2, hw2⟩ : ∃ w2, w2 = w1.alloc (.cells #[.slice p0 s.scopes.length q0, .slice p1 s.vars.length q1, .slice p2 s.uses.length q2] 30) := ⟨_, rfl⟩
  have hb2 : Below w1.heap.size w1 w2 := by rw [hw2]; exact (Below.refl _ _).alloc (Nat.le_refl _) _
  have t1 : w2.cell? ⟨w1.heap.size, 1, none⟩ = some (.slice p1 s.vars.length q1) := by rw [hw2]; exact box_new w1 _ _ 1 _ rfl
  have t2 : w2.cell? ⟨w1.heap.size, 2, none⟩ = some (.slice p2 s.uses.length q2) := by rw [hw2]; exact box_new w1 _ _ 2 _ rfl
  have hb12 : Below wb.heap.size wb w2 := hb1.trans (hb2.mono hb1.size)
  have HB2 : Hid (Below w.heap.size w w2) := HB.out.trans (hb12.mono HB.out.size)
  have R1 : Hid (OwnR vrC 6 44 wb.heap.size w2 (.slice p1 s.vars.length q1) s.vars) := r1.below hb2
  have R2 : Hid (OwnR usC 2 42 wb.heap.size w2 (.slice p2 s.uses.length q2) s.uses) := r2.below hb2
  have HT : Hid (w2.cell? ⟨w1.heap.size, 1, none⟩ = some (.slice p1 s.vars.length q1) ∧ w2.cell? ⟨w1.heap.size, 2, none⟩ = some (.slice p2 s.uses.length q2)) := ⟨t1, t2⟩
  obtain ⟨w3, hw3⟩ : ∃ w3, w3 = w2.alloc (.cells (madeCells #[.bool false] s.vars.length) 4) := ⟨_, rfl⟩
  have hb3 : Below w2.heap.size w2 w3 := by rw [hw3]; exact (Below.refl _ _).alloc (Nat.le_refl _) _
  have hmk := run_make_row' (P := Try.prog) 35 4 (.bool false) 1 Try.underlying35 (by kernel_rfl) rfl .i64 .i64 s.vars.length (by have := HBD.out.2.1; omega) (by have := HBD.out.2.1; omega)
  obtain ⟨w4, hw4⟩ : ∃ w4, w4 = w3.alloc (.cells #[.int .i64 0] 40) := ⟨_, rfl⟩
  have hb4 : Below w3.heap.size w3 w4 := by rw [hw4]; exact (Below.refl _ _).alloc (Nat.le_refl _) _
  have hw23 : Below w.heap.size w w3 := HB2.out.trans (hb3.mono HB2.out.size)
  have k6 := HOWN.out w3 w4 w3.heap.size hw23 hb4 (Nat.le_refl _) (by rw [hw4]; exact at_new _ _)
  have hfb : w3.heap[w2.heap.size]? = some (.cells ((frB s.uses own s.vars 0).map Value.bool).toArray 4 (0, 0)) := by
    rw [hw3, at_new, made_rep, fr_zero]
    simp
  have HSZ : Hid (w3.heap.size = w2.heap.size + 1 ∧ w2.heap.size = w1.heap.size + 1) := ⟨by rw [hw3, size_new], by rw [hw2, size_new]⟩
  have HB3 : Hid (Below w2.heap.size w2 w3 ∧ Below w3.heap.size w3 w4 ∧ w3.heap[w2.heap.size]? = some (.cells ((frB s.uses own s.vars 0).map Value.bool).toArray 4 (0, 0))) := ⟨hb3, hb4, hfb⟩
  have hb04 : Below wb.heap.size wb w3 := hb12.trans (hb3.mono hb12.size)
  obtain ⟨c0, c1, c2, c3, c4, c5⟩ := (HX.out w3 hb04).cs
  clear k15 a0 a1 a2 a3 a4 a5 hb1 hb2 hb12 r0 r1 r2 hb3 hb4 hfb hb04 hw23 HX HOWN HB t2
  go_upto_region 2 with fail
  rw [← hw2]
  clear hw2
  go_upto_region 5 with fail
  rw [← hw3]
  clear t1 hmk hw3
  go_wp2_with fail
  rw [← hw4]
  refine (show Calls Try.prog 6 #[.agg #[.int .i64 x.kind, .int .i64 x.pl, .string x.name, .int .u64 x.num, .string x.op, .slice ka kl kc], .int .i64 0, .pointer (some ⟨w3.heap.size, 0, none⟩), .slice none 0 0] w4 _ from k6).mono ?_
  rintro e w5 ⟨pO, qO, rfl, ro, hc5⟩
  have hb24 : Below w2.heap.size w2 w4 := HB3.out.1.trans (HB3.out.2.1.mono HB3.out.1.size)
  have hb25 : Below w2.heap.size w2 w5 := hc5.below hb24 hb24.size (fun b r => by have := HSZ.out.1; omega)
  have hS0 : SnAt w5 w2.heap.size (frB s.uses own s.vars 0) w5 := by
    refine ⟨Chg.refl _ _, ?_⟩
    have l3 : w2.heap.size < w3.heap.size := by have := HSZ.out.1; omega
    rw [hc5.block w2.heap.size (Nat.lt_of_lt_of_le l3 HB3.out.2.1.size) (by omega), HB3.out.2.1.block w2.heap.size l3]
    exact HB3.out.2.2
  have HS : Hid (SnAt w5 w2.heap.size (frB s.uses own s.vars 0) w5) := hS0
  have HBW : Hid (∀ wr, Chg (fun b => b = w2.heap.size) w5 wr → Below w2.heap.size w2 wr) := fun wr h => h.below hb25 hb25.size (fun b r => by omega)
  have HRO : Hid (∀ wr, Chg (fun b => b = w2.heap.size) w5 wr → OwnR ioC 1 3 w3.heap.size wr (.slice pO own.length qO) own) := fun wr h => ro.kept h (fun b r q => by have := (ro.lt b r).1; have := HSZ.out.1; omega)
  have u2 := Sc.cells_below hb25 _ _ HT.out.2
  have hlen : own.length = s.uses.length := HCP.out.len
  have HLN : Hid (own.length = s.uses.length) := hlen
  clear k6 c0 c1 c2 c3 c4 c5 hw4 hc5 ro hb24 hb25 hS0 hlen
  go_wp2_with fail
  go_loopw [31] (fun i wr => ∃ k : Nat, Hid (k ≤ s.uses.length ∧ SnAt w5 w2.heap.size (frB s.uses own s.vars k) wr) ∧ i = .int .i64 (k : Int)) (fun i wr => s.uses.length - (intOf i).toNat)
  case atStart => exact ⟨0, ⟨Nat.zero_le _, HS.out⟩, rfl⟩
  case round =>
    clear HS u2
    obtain ⟨k, HI2, rfl⟩ := hrel
    rcases Nat.lt_or_ge k s.uses.length with ck | ck
    · obtain ⟨u, hu⟩ : ∃ u, s.uses[k]? = some u := ⟨_, List.getElem?_eq_getElem ck⟩
      obtain ⟨g2, rfl, hc2⟩ := row_cells (fun y => (rfl : (usC y).length = 2)) R2.out hu
      have x0 := hc2 wr (HBW.out _ HI2.out.2.ch) 0 _ rfl
      have x1 := hc2 wr (HBW.out _ HI2.out.2.ch) 1 _ rfl
      rw [Nat.add_zero] at x0
      obtain ⟨hu1, hu2⟩ := HINV.out u (List.mem_of_getElem? hu)
      have hkl : (k : Int) < (s.uses.length : Int) := by omega
      have hko : (k : Int) < (own.length : Int) := by have := HLN.out; omega
      have hw4 : IntKind.i64.wrap ((k : Int) + 1) = ((k + 1 : Nat) : Int) := by have := HBD.out.2.2; rw [IntKind.wrap_i64]; omega
      obtain ⟨wv, hwv⟩ : ∃ wv, wv = wr.alloc (.cells #[.int .i64 u.pl, .int .i64 u.var] 42) := ⟨_, rfl⟩
      have hbv : Below wr.heap.size wr wv := by rw [hwv]; exact (Below.refl _ _).alloc (Nat.le_refl _) _
      have d1 : wv.cell? ⟨wr.heap.size, 1, none⟩ = some (.int .i64 u.var) := by rw [hwv]; exact box_new _ _ _ 1 _ rfl
      have HSV : Hid (SnAt w5 w2.heap.size (frB s.uses own s.vars k) wv) := HI2.out.2.below hbv
      have HLT : Hid (wr.heap.size ≠ w2.heap.size) := by
        show _ ≠ _
        have h1 := (Array.getElem?_eq_some_iff.1 HI2.out.2.bx).1
        omega
      have HQ2 : Hid (k < s.uses.length) := ck
      have t1 := Sc.cells_below (HBW.out wv HSV.out.ch) _ _ HT.out.1
      obtain ⟨o, ho⟩ : ∃ o, own[k]? = some o := ⟨_, List.getElem?_eq_getElem (by have := HLN.out; omega)⟩
      obtain ⟨g3, rfl, hc3⟩ := row_cells (fun y => (rfl : (ioC y).length = 1)) (HRO.out wv HSV.out.ch) ho
      have y0 := hc3 wv (Below.refl _ _) 0 _ rfl
      rw [Nat.add_zero, Nat.mul_one] at y0
      clear hc2 hc3 hbv HI2 ck
      go_upto_region 9 with fail
      rw [← hwv]
      clear hwv x0 x1
      by_cases cv : u.var < 0
      · have HN : Hid (SnAt w5 w2.heap.size (frB s.uses own s.vars (k + 1)) wv) := by
          show SnAt _ _ _ _
          rw [fr_skip (fun v => by
            unfold hitB
            rw [hu, ho]
            cases s.vars[v]? with
            | none => rfl
            | some xv =>
              have : ¬ u.var = (v : Int) := by omega
              simp [this])]
          exact HSV.out
        have hv1 : decide ((0 : Int) ≤ u.var) = false := by simpa using cv
        clear HSV hu ho hu1 hu2
        go_wp2_with fail
        go_quiet (fail)
        go_wp2_with fail
        refine ⟨⟨k + 1, ⟨HQ2.out, HN.out.drew _⟩, by go_num⟩, ?_⟩
        simp [intOf]
        have := HQ2.out
        omega
      · obtain ⟨v0, hv0⟩ : ∃ v0 : Nat, u.var = (v0 : Int) := ⟨u.var.toNat, by omega⟩
        rw [hv0] at d1 hu1 hu2
        have hvl : v0 < s.vars.length := by omega
        obtain ⟨xv, hxv⟩ : ∃ xv, s.vars[v0]? = some xv := ⟨_, List.getElem?_eq_getElem hvl⟩
        obtain ⟨g1, rfl, hc1⟩ := row_cells (fun y => (rfl : (vrC y).length = 6)) R1.out hxv
        have z3 := hc1 wv (HBW.out _ HSV.out.ch) 3 _ rfl
        have hv1 : (0 : Int) ≤ (v0 : Int) := by omega
        have hv2 : ¬ (v0 : Int) < 0 := by omega
        have hv3 : (v0 : Int) < (s.vars.length : Int) := by omega
        have hv4 : ¬ s.vars.length ≤ v0 := by omega
        by_cases cf : o = xv.fn
        · have hcf : ((o : Int) != (xv.fn : Int)) = false := by rw [cf]; simp
          have HN : Hid (SnAt w5 w2.heap.size (frB s.uses own s.vars (k + 1)) wv) := by
            show SnAt _ _ _ _
            rw [fr_skip (fun v => by
              unfold hitB
              rw [hu, ho]
              cases hq : s.vars[v]? with
              | none => rfl
              | some x2 =>
                by_cases e : v0 = v
                · subst e
                  rw [hxv] at hq
                  cases hq
                  simp [cf]
                · have : ¬ u.var = (v : Int) := by omega
                  simp [this])]
            exact HSV.out
          clear HSV hu ho hu1 hu2 hc1 hxv hv0 cf cv
          go_wp2_with fail
          go_quiet (fail)
          go_wp2_with fail
          refine ⟨⟨k + 1, ⟨HQ2.out, HN.out.drew _⟩, by go_num⟩, ?_⟩
          simp [intOf]
          have := HQ2.out
          omega
        · have hcf : ((o : Int) != (xv.fn : Int)) = true := by
            rw [bne_iff_ne]
            omega
          have hfs := fr_set (us := s.uses) (own := own) (vr := s.vars) (k := k) hvl (fun v => by
            unfold hitB
            rw [hu, ho]
            by_cases e : v0 = v
            · subst e
              rw [hxv]
              simp [hv0, cf]
            · have e2 : ¬ u.var = (v : Int) := by omega
              have e3 : ¬ v = v0 := by omega
              cases s.vars[v]? with
              | none => simp [e3]
              | some x2 => simp [e2, e3])
          have HN : Hid (∀ nq, SnAt w5 w2.heap.size (frB s.uses own s.vars (k + 1)) ((wv.drewN nq).setCell ⟨w2.heap.size, v0, none⟩ (.bool true))) := by
            show ∀ nq, SnAt _ _ _ _
            intro nq
            rw [hfs]
            exact (HSV.out.drew nq).put _ _
          obtain ⟨e1, e2⟩ := HSV.out.read (fr_get s.uses own k hvl)
          clear HSV hu ho hu1 hu2 hc1 hxv hv0 cf cv hfs
          go_wp2_with fail
          go_quiet (fail)
          go_wp2_with fail
          refine ⟨⟨k + 1, ⟨HQ2.out, HN.out _⟩, by go_num⟩, ?_⟩
          simp [intOf]
          have := HQ2.out
          omega
    · have hkl : ¬ (k : Int) < (s.uses.length : Int) := by omega
      have HFE : Hid (∀ v xv, s.vars[v]? = some xv → wr.cell? ⟨w2.heap.size, v, none⟩ = some (.bool xv.cap)) := fun v xv hxv => (HI2.out.2.read (fr_end HCP.out ck hxv)).1
      have HBR : Hid (Below w2.heap.size w2 wr) := HBW.out _ HI2.out.2.ch
      have t1 := Sc.cells_below HBR.out _ _ HT.out.1
      have t2 := Sc.cells_below HBR.out _ _ HT.out.2
      obtain ⟨wp, hwp⟩ : ∃ wp, wp = wr := ⟨_, rfl⟩
      rw [← hwp] at HFE HBR t1 t2
      rw [← hwp]
      clear HI2 ck hwp HRO HBW R2
      go_wp2_with fail
      go_loopw [66] (fun i3 wz => ∃ k3 : Nat, Hid (k3 ≤ s.vars.length ∧ Chg (fun _ => False) wp wz) ∧ i3 = .int .i64 (k3 : Int)) (fun i3 wz => s.vars.length - (intOf i3).toNat)
      case atStart => exact ⟨0, ⟨Nat.zero_le _, Chg.refl _ _⟩, rfl⟩
      case round =>
        obtain ⟨k3, HI3, rfl⟩ := hrel
        have HBQ : Hid (Below w2.heap.size w2 wr) := HI3.out.2.below HBR.out HBR.out.size (fun _ r => r.elim)
        have t1 := HI3.out.2.cell t1 id
        have t2 := HI3.out.2.cell t2 id
        rcases Nat.lt_or_ge k3 s.vars.length with ck | ck
        · obtain ⟨v, hv⟩ : ∃ v, s.vars[k3]? = some v := ⟨_, List.getElem?_eq_getElem ck⟩
          obtain ⟨g1, rfl, hc1⟩ := row_cells (fun y => (rfl : (vrC y).length = 6)) R1.out hv
          have z5 := hc1 _ HBQ.out 5 _ rfl
          have z6 := HI3.out.2.cell (HFE.out k3 v hv) id
          have HCN : Hid (Chg (fun _ => False) wp wr) := HI3.out.2
          have hkl3 : (k3 : Int) < (s.vars.length : Int) := by omega
          have hkl4 : ¬ (k3 : Int) < 0 := by omega
          have hkl5 : (0 : Int) ≤ (k3 : Int) := by omega
          have hkl6 : ¬ s.vars.length ≤ k3 := by omega
          have hw5 : IntKind.i64.wrap ((k3 : Int) + 1) = ((k3 + 1 : Nat) : Int) := by have := HBD.out.2.1; rw [IntKind.wrap_i64]; omega
          have hcp : (v.cap != v.cap) = false := by simp
          have HQ3 : Hid (k3 < s.vars.length) := ck
          clear hc1 hv ck t2 HI3
          go_wp2_with fail
          go_quiet (fail)
          go_wp2_with fail
          refine ⟨⟨k3 + 1, ⟨HQ3.out, ⟨HCN.out.os, HCN.out.tape, HCN.out.output, HCN.out.size, HCN.out.block⟩⟩, by go_num⟩, ?_⟩
          simp [intOf]
          have := HQ3.out
          omega
        · have hkl3 : ¬ (k3 : Int) < (s.vars.length : Int) := by omega
          have hal := alive_any wr
          have HB6 : Hid (Below w.heap.size w wr) := HB2.out.trans (HBQ.out.mono HB2.out.size)
          have HT2 : Hid (wr.cell? ⟨w1.heap.size, 2, none⟩ = some (.slice p2 s.uses.length q2)) := t2
          clear ck t1 t2 HI3
          go_wp2_with fail
          refine hal.mono ?_
          rintro e w9 ⟨rfl, hb9⟩
          have t9 := Sc.cells_below hb9 _ _ HT2.out
          have HB9 : Hid (Below w.heap.size w w9) := HB6.out.trans (hb9.mono HB6.out.size)
          have hle : (own.length : Int) = (s.uses.length : Int) := by have := HLN.out; omega
          rw [HLN.out]
          clear hal hb9 HT2
          go_wp2_with fail
          go_ret
          exact ⟨rfl, HB9.out⟩
end Go.Proofs.Ytihmdcdifakepab.Rv
