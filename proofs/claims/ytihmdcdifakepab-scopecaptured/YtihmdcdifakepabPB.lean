/- ScopeCaptured: owners. -/
import Derived.Test.YtihmdcdifakepabPA
import Derived.Test.YtihmdcdifakepabND
namespace Go.Proofs.Ytihmdcdifakepab.Rv
open Go.RowKit Go.Proofs.Ytihmdcdifakepab.Sc Go.Proofs.Ytihmdcdifakepab.Rz
set_option linter.unusedVariables false
set_option linter.unusedSimpArgs false

set_option maxRecDepth 100000 in
set_option maxHeartbeats 4000000 in
theorem own_name (W0 w : World) (x : Nd) (hk : x.kind = 3) (ka : Option Addr) (kl kc : Nat) (cb fn c : Nat) (p : Option Addr) (m q : Nat) (l : List Nat) (hbw : Below W0.heap.size W0 w) (hcnt : w.heap[cb]? = some (.cells #[.int .i64 (c : Int)] 40 (0, 0))) (hrow : OwnR ioC 1 3 W0.heap.size w (.slice p m q) l) (hvc : ¬ (Value.slice p m q).ownBlock = some cb) (hl : l.length + 1 ≤ 300000) :
    Calls Try.prog 6 #[.agg #[.int .i64 x.kind, .int .i64 x.pl, .string x.name, .int .u64 x.num, .string x.op, .slice ka kl kc], .int .i64 (fn : Int), .pointer (some ⟨cb, 0, none⟩), .slice p m q] w (OwO W0 w cb (.slice p m q) (l ++ [fn]) c) := by
  obtain ⟨wb, hwb⟩ : ∃ wb, wb = w.alloc (.cells #[.int .i64 x.kind, .int .i64 x.pl, .string x.name, .int .u64 x.num, .string x.op, .slice ka kl kc] 25) := ⟨_, rfl⟩
  have hbl : Below w.heap.size w wb := by rw [hwb]; exact (Below.refl _ _).alloc (Nat.le_refl _) _
  have hX : NdB w.heap.size x (.slice ka kl kc) wb := by rw [hwb]; exact at_new _ _
  obtain ⟨a0, -, -, -, -, -⟩ := hX.cs
  rw [hk] at a0
  obtain ⟨wa, hwa⟩ : ∃ wa, wa = wb.alloc (.cells #[.int .i64 (fn : Int)] 3) := ⟨_, rfl⟩
  have hba : Below wb.heap.size wb wa := by rw [hwa]; exact (Below.refl _ _).alloc (Nat.le_refl _) _
  have hwa2 : Below w.heap.size w wa := hbl.trans (hba.mono hbl.size)
  have HOW : Hid (OwnR ioC 1 3 W0.heap.size wa (.slice p m q) l) := hrow.below hwa2
  have HON : Hid (Sli.ok ioC 1 wa ⟨some ⟨wb.heap.size, 0, none⟩, 1, [fn]⟩) := one_sli rtIo (cs := #[.int .i64 (fn : Int)]) (t' := 3) (by rw [hwa]; exact at_new _ _) rfl
  have HBX : Hid (((l.length + 1) + (l.length + 1) / 4 + 192) * 8 ≤ 281474976710656 ∧ l.length + 1 ≤ maxLen) := ⟨by omega, by unfold maxLen; omega⟩
  have HSZ : Hid (W0.heap.size ≤ wa.heap.size) := Nat.le_trans hbw.size hwa2.size
  have HFIN : Hid (∀ v5 w5, OwnR ioC 1 3 W0.heap.size w5 v5 (l ++ [fn]) → wa.grownBy w5 (Value.slice p m q).ownBlock → (v5.ownBlock = (Value.slice p m q).ownBlock ∨ v5.ownBlock = some wa.heap.size) → w5.heap[cb]? = some (.cells #[.int .i64 (c : Int)] 40 (0, 0)) ∧ Chg (fun b => b = cb ∨ (Value.slice p m q).ownBlock = some b) w w5 ∧ ∀ b, v5.ownBlock = some b → (Value.slice p m q).ownBlock = some b ∨ w.heap.size ≤ b) := fun v5 w5 h1 h2 h3 => by
    have hc : Chg (fun b => (Value.slice p m q).ownBlock = some b) wa w5 := Chg.of_grown h2 (fun b r => r)
    have hlt : cb < w.heap.size := (Array.getElem?_eq_some_iff.1 hcnt).1
    refine ⟨(hc.block cb (Nat.lt_of_lt_of_le hlt hwa2.size) hvc).trans ((hwa2.block cb hlt).trans hcnt), (Chg.of_below hwa2).trans (hc.mono (fun b r => Or.inr r)) (fun _ _ r => r), fun b r => ?_⟩
    rcases h3 with e | e
    · rw [e] at r; exact Or.inl r
    · rw [e] at r
      have := Option.some.inj r
      have := hwa2.size
      exact Or.inr (by omega)
  rw [hwa] at HOW HON HSZ HFIN
  clear hX hbl hba hwa2 hrow hbw hcnt hvc hl hk hwa
  go_enter Try.func6, Try.ntmps6
  go_upto_region 1 with fail
  rw [← hwb]
  clear hwb
  go_wp2_with (at_builtin; refine app_row rtIo rfl _ _ rfl W0.heap.size (.slice p m q) l ?h1 HOW.out ⟨some ⟨wb.heap.size, 0, none⟩, 1, [fn]⟩ ?h3 HON.out HBX.out.2 HBX.out.1 HSZ.out ?_)
  case h1 => rfl
  case h3 => rfl
  intro v5 w5 ho5 hg5 hl5
  obtain ⟨p5, q5, rfl⟩ := row_len2 ho5
  obtain ⟨f1, f2, f3⟩ := HFIN.out _ w5 ho5 hg5 (by rw [size_new]; exact hl5)
  have HO : Hid (OwnR ioC 1 3 W0.heap.size w5 (.slice p5 (l ++ [fn]).length q5) (l ++ [fn]) ∧ w5.heap[cb]? = some (.cells #[.int .i64 (c : Int)] 40 (0, 0)) ∧ Chg (fun b => b = cb ∨ (Value.slice p m q).ownBlock = some b) w w5 ∧ ∀ b, (Value.slice p5 (l ++ [fn]).length q5).ownBlock = some b → (Value.slice p m q).ownBlock = some b ∨ w.heap.size ≤ b) := ⟨ho5, f1, f2, f3⟩
  clear ho5 hg5 hl5 f1 f2 f3 HOW HON HBX HSZ HFIN
  go_wp2_with fail
  go_ret
  exact ⟨p5, q5, rfl, HO.out.1, HO.out.2.1, HO.out.2.2.1, HO.out.2.2.2⟩

set_option maxRecDepth 100000 in
set_option maxHeartbeats 8000000 in
theorem own_fun (W0 : World) (n : Nat) (ih : OwC W0 n) (w : World) (x : Nd) (hk : x.kind = 12 ∨ x.kind = 33) (b off kc : Nat) (ks : List (Tr n)) (cc : Tr n) (hok : Sli.ok (encT n) 6 W0 ⟨some ⟨b, off, none⟩, kc, ks ++ [cc]⟩) (hks : okF n W0 cc) (hsz : szT n cc ≤ 131072) (cb fn c : Nat) (p : Option Addr) (m q : Nat) (l : List Nat) (hbw : Below W0.heap.size W0 w) (hcb : W0.heap.size ≤ cb) (hcnt : w.heap[cb]? = some (.cells #[.int .i64 (c : Int)] 40 (0, 0))) (hrow : OwnR ioC 1 3 W0.heap.size w (.slice p m q) l) (hvc : ¬ (Value.slice p m q).ownBlock = some cb) (hl : l.length + szT n cc ≤ 300000) (hc : c + 1 + szT n cc ≤ 300000) :
    Calls Try.prog 6 #[.agg #[.int .i64 x.kind, .int .i64 x.pl, .string x.name, .int .u64 x.num, .string x.op, .slice (some ⟨b, off, none⟩) (ks.length + 1) kc], .int .i64 (fn : Int), .pointer (some ⟨cb, 0, none⟩), .slice p m q] w (OwO W0 w cb (.slice p m q) (l ++ (foldOwn (ownersT n) (c + 1) [cc] (c + 1)).1) (foldOwn (ownersT n) (c + 1) [cc] (c + 1)).2) := by
  obtain ⟨wb, hwb⟩ : ∃ wb, wb = w.alloc (.cells #[.int .i64 x.kind, .int .i64 x.pl, .string x.name, .int .u64 x.num, .string x.op, .slice (some ⟨b, off, none⟩) (ks.length + 1) kc] 25) := ⟨_, rfl⟩
  have hbl : Below w.heap.size w wb := by rw [hwb]; exact (Below.refl _ _).alloc (Nat.le_refl _) _
  have hX : NdB w.heap.size x (.slice (some ⟨b, off, none⟩) (ks.length + 1) kc) wb := by rw [hwb]; exact at_new _ _
  obtain ⟨a0, -, -, -, -, a5⟩ := hX.cs
  have hcl : cb < w.heap.size := (Array.getElem?_eq_some_iff.1 hcnt).1
  have hcntb : wb.heap[cb]? = some (.cells #[.int .i64 (c : Int)] 40 (0, 0)) := (hbl.block cb hcl).trans hcnt
  obtain ⟨w1, hw1⟩ : ∃ w1, w1 = wb.setCell ⟨cb, 0, none⟩ (.int .i64 ((c : Int) + 1)) := ⟨_, rfl⟩
  have hc1 : Chg (fun b => b = cb) wb w1 := by rw [hw1]; exact Chg.set (S := fun b => b = cb) _ _ _ rfl
  have hcnt1 : w1.heap[cb]? = some (.cells #[.int .i64 ((c + 1 : Nat) : Int)] 40 (0, 0)) := by
    rw [hw1, heap_setCell_same wb cb 0 _ 40 _ hcntb]
    simp
  have hrow1 : OwnR ioC 1 3 W0.heap.size w1 (.slice p m q) l := (hrow.below hbl).kept hc1 (fun b r e => hvc (by rw [← e]; exact r))
  have hbw1 : Below W0.heap.size W0 w1 := hc1.below (hbw.trans (hbl.mono hbw.size)) (Nat.le_trans hbw.size hbl.size) (fun b r => by omega)
  have hcw : Chg (fun b => b = cb ∨ (Value.slice p m q).ownBlock = some b) w w1 := (Chg.of_below hbl).trans (hc1.mono (fun b r => Or.inl r)) (fun _ _ r => r)
  have k0 : wb.cell? ⟨cb, 0, none⟩ = some (.int .i64 (c : Int)) := cell_of_row wb _ 0 _ _ (0, 0) hcntb
  have kf : wb.frozen? ⟨cb, 0, none⟩ = false := by simp [World.frozen?, hcntb, go_sem]
  have k1 : w1.cell? ⟨cb, 0, none⟩ = some (.int .i64 ((c : Int) + 1)) := by rw [cell_of_row w1 _ 0 _ _ (0, 0) hcnt1]; simp
  have hwc : IntKind.i64.wrap ((c : Int) + 1) = (c : Int) + 1 := by rw [IntKind.wrap_i64]; omega
  have hkc : ks.length + 1 ≤ kc := by have := hok.len; simpa using this
  have hkm : kc ≤ maxLen := hok.cap
  have hmx : (ks.length : Int) ≤ 9223372036854775806 := by unfold maxLen at hkm; omega
  have hsl : ∀ w : World, (Instr.slice 23 (.slice (some ⟨b, off, none⟩) (ks.length + 1) kc) (some (.int .i64 (ks.length : Int))) none none).run Try.prog w = .ok (.slice (some ⟨b, off + ks.length * 6, none⟩) 1 (kc - ks.length)) w := fun w => run_last w b off ks.length kc hkc hkm
  have hwm : IntKind.i64.wrap ((ks.length : Int) + 1 - 1) = (ks.length : Int) := by rw [IntKind.wrap_i64]; omega
  have hwm2 : IntKind.i64.wrap (ks.length : Int) = (ks.length : Int) := by rw [IntKind.wrap_i64]; omega
  have hwm3 : wrap64 (ks.length : Int) = (ks.length : Int) := by unfold wrap64; omega
  have HK : Hid (∀ W, Below W0.heap.size W0 W → Sli.ok (encT n) 6 W ⟨some ⟨b, off + ks.length * 6, none⟩, kc - ks.length, [cc]⟩) := fun W hW => (kids_last hok).kept (Sc.cells_below hW)
  have hsum : (([cc] : List (Tr n)).map (szT n)).sum = szT n cc := by simp
  have HST : Hid (∀ k t lv wr wp, ([cc] : List (Tr n))[k]? = some t → OwAt W0 n [cc] w1 cb (c + 1) (c + 1) (.slice p m q) l k lv wr → Below wr.heap.size wr wp → Calls Try.prog 6 #[valT n t, .int .i64 (((c + 1 : Nat)) : Int), .pointer (some ⟨cb, 0, none⟩), lv] wp fun e w' => ∃ p' m' q', e = .returned (.slice p' m' q') ∧ OwAt W0 n [cc] w1 cb (c + 1) (c + 1) (.slice p m q) l (k + 1) (.slice p' m' q') w') := fun k t lv wr wp ht h hp => (h.step ih ht (by obtain rfl := List.mem_singleton.1 (List.mem_of_getElem? ht); exact hks) hbw1 hcb (fun b r => (hrow.lt b r).1) (Nat.lt_of_lt_of_le hcl (Nat.le_trans hbl.size hc1.size)) hvc hp (by rw [hsum]; exact hsz) (by rw [hsum]; exact hl) (by rw [hsum]; exact hc)).mono (fun e w' ⟨p', q', h1, h2⟩ => ⟨p', _, q', h1, h2⟩)
  have hkb : (x.kind == (3 : Int)) = false := by rcases hk with r | r <;> (rw [r]; rfl)
  have hkd : ((x.kind == (12 : Int)) = true) ∨ ((x.kind == (12 : Int)) = false ∧ (x.kind == (33 : Int)) = true) := by
    rcases hk with r | r
    · left; rw [r]; rfl
    · right; rw [r]; exact ⟨rfl, rfl⟩
  have HS : Hid (OwAt W0 n [cc] w1 cb (c + 1) (c + 1) (.slice p m q) l 0 (.slice p m q) w1) := OwAt.start hrow1 hcnt1
  have HBE : Hid (∀ wr, Chg (fun b => b = cb ∨ (Value.slice p m q).ownBlock = some b) w1 wr → Below W0.heap.size W0 wr) := fun wr h => h.below hbw1 hbw1.size (fun b r => by exact r.elim (fun e => by omega) (fun e => (hrow.lt b e).1))
  have HCW : Hid (Chg (fun b => b = cb ∨ (Value.slice p m q).ownBlock = some b) w w1) := hcw
  have HLN : Hid (([cc]).length ≤ 131072) := by
    show _ ≤ _
    simp
  have HWL : Hid (w.heap.size ≤ w1.heap.size) := hcw.size
  clear hX hbl hcl hcnt hcntb hrow hvc hbw hcb hl hc hcnt1 hrow1 hbw1 hcw ih hok hks hsz hc1 hkc hkm hmx hsum hk
  go_enter Try.func6, Try.ntmps6
  go_upto_region 1 with fail
  rw [← hwb]
  clear hwb
  rcases hkd with hkd | ⟨hkd, hkd2⟩
  all_goals
    go_upto_region 6 with fail
    rw [← hw1]
    clear hw1 k0 kf
    go_wp2_with fail
    go_loopw [3, 47] (fun lv i wr => ∃ (k : Nat) (p' : Option Addr) (m' q' : Nat), lv = .slice p' m' q' ∧ Hid (OwAt W0 n [cc] w1 cb (c + 1) (c + 1) (.slice p m q) l k (.slice p' m' q') wr) ∧ i = .int .i64 (k : Int)) (fun lv i wr => ([cc]).length - (intOf i).toNat)
    case atStart => exact ⟨0, p, m, q, rfl, HS, rfl⟩
    case round =>
      clear HS
      obtain ⟨k, p', m', q', rfl, HE, rfl⟩ := hrel
      rcases Nat.lt_or_ge k ([cc]).length with c0 | c0
      · obtain ⟨y, b', off', k1', k2, x0, x1, x2, x3, x4, x5⟩ := kid_at (HK.out wr (HBE.out wr HE.out.ch)) (k := k) c0
        simp only at k1' k2
        simp only [Option.some.injEq, Addr.mk.injEq, and_true] at k1'
        obtain ⟨rfl, rfl⟩ := k1'
        have hil : (k : Int) < (([cc]).length : Int) := by omega
        have hil' : (k : Int) < 1 := by simpa using hil
        have hw2 : IntKind.i64.wrap ((k : Int) + 1) = ((k + 1 : Nat) : Int) := by have := HLN.out; rw [IntKind.wrap_i64]; omega
        obtain ⟨wp, hwp⟩ : ∃ wp, wp = wr.alloc (.cells #[.int .i64 (ndT n y).kind, .int .i64 (ndT n y).pl, .string (ndT n y).name, .int .u64 (ndT n y).num, .string (ndT n y).op, .slice (atT n y) (nkT n y) (capT n y)] 25) := ⟨_, rfl⟩
        have hbp : Below wr.heap.size wr wp := by rw [hwp]; exact below_new (Below.refl _ _) (Nat.le_refl _) _
        have hY : NdB wr.heap.size (ndT n y) (.slice (atT n y) (nkT n y) (capT n y)) wp := by rw [hwp]; exact at_new _ _
        have hu := HST.out k y _ wr wp k2 HE.out hbp
        unfold valT at hu
        rw [Int.natCast_add, Int.natCast_one] at hu
        obtain ⟨b0, b1, b2, b3, b4, b5⟩ := hY.cs
        have HQ : Hid (k < ([cc]).length) := c0
        clear hbp hY c0 k2 HE HST HK
        generalize (ndT n y).kind = r0 at *
        generalize (ndT n y).pl = r1 at *
        generalize (ndT n y).name = r2 at *
        generalize (ndT n y).num = r3 at *
        generalize (ndT n y).op = r4 at *
        generalize atT n y = r5 at *
        generalize nkT n y = r6 at *
        generalize capT n y = r7 at *
        go_upto_region 11 with fail
        rw [← hwp]
        clear hwp x0 x1 x2 x3 x4 x5
        go_wp2_with fail
        refine hu.mono ?_
        rintro e w3 ⟨p3, m3, q3, rfl, h3⟩
        have HN3 := (show Hid _ from h3)
        clear hu h3
        go_wp2_with fail
        refine ⟨⟨k + 1, p3, m3, q3, rfl, HN3, by go_num⟩, ?_⟩
        simp [intOf]
        have := HQ.out
        first | omega | (simp at this; omega)
      · have hil : ¬ (k : Int) < (([cc]).length : Int) := by omega
        have hil' : ¬ (k : Int) < 1 := by simpa using hil
        obtain ⟨f1, f2⟩ := HE.out.last c0
        obtain ⟨pp, qq, hpq⟩ := row_len2 f1
        have HO : Hid (OwO W0 w cb (.slice p m q) (l ++ (foldOwn (ownersT n) (c + 1) [cc] (c + 1)).1) (foldOwn (ownersT n) (c + 1) [cc] (c + 1)).2 (.returned (.slice p' m' q')) wr) := ⟨pp, qq, by rw [hpq], by rw [← hpq]; exact f1, f2, HCW.out.trans HE.out.ch (fun _ _ r => r), fun b r => by rw [← hpq] at r; exact (HE.out.sub b r).imp id (fun r => Nat.le_trans HWL.out r)⟩
        clear hpq
        clear f1 f2 HE HST HK c0
        go_wp2_with fail
        go_ret
        exact HO.out

set_option maxRecDepth 100000 in
set_option maxHeartbeats 8000000 in
theorem own_else (W0 : World) (n : Nat) (ih : OwC W0 n) (w : World) (x : Nd) (h3 : x.kind ≠ 3) (h12 : x.kind ≠ 12) (h33 : x.kind ≠ 33) (ka : Option Addr) (kc : Nat) (kx : List (Tr n)) (hok : Sli.ok (encT n) 6 W0 ⟨ka, kc, kx⟩) (hks : ∀ y ∈ kx, okF n W0 y) (hsz : (kx.map (szT n)).sum ≤ 131072) (cb fn c : Nat) (p : Option Addr) (m q : Nat) (l : List Nat) (hbw : Below W0.heap.size W0 w) (hcb : W0.heap.size ≤ cb) (hcnt : w.heap[cb]? = some (.cells #[.int .i64 (c : Int)] 40 (0, 0))) (hrow : OwnR ioC 1 3 W0.heap.size w (.slice p m q) l) (hvc : ¬ (Value.slice p m q).ownBlock = some cb) (hl : l.length + (kx.map (szT n)).sum ≤ 300000) (hc : c + (kx.map (szT n)).sum ≤ 300000) :
    Calls Try.prog 6 #[.agg #[.int .i64 x.kind, .int .i64 x.pl, .string x.name, .int .u64 x.num, .string x.op, .slice ka kx.length kc], .int .i64 (fn : Int), .pointer (some ⟨cb, 0, none⟩), .slice p m q] w (OwO W0 w cb (.slice p m q) (l ++ (foldOwn (ownersT n) fn kx c).1) (foldOwn (ownersT n) fn kx c).2) := by
  obtain ⟨wb, hwb⟩ : ∃ wb, wb = w.alloc (.cells #[.int .i64 x.kind, .int .i64 x.pl, .string x.name, .int .u64 x.num, .string x.op, .slice ka kx.length kc] 25) := ⟨_, rfl⟩
  have hbl : Below w.heap.size w wb := by rw [hwb]; exact (Below.refl _ _).alloc (Nat.le_refl _) _
  have hX : NdB w.heap.size x (.slice ka kx.length kc) wb := by rw [hwb]; exact at_new _ _
  obtain ⟨a0, -, -, -, -, a5⟩ := hX.cs
  have hcl : cb < w.heap.size := (Array.getElem?_eq_some_iff.1 hcnt).1
  have hcntb : wb.heap[cb]? = some (.cells #[.int .i64 (c : Int)] 40 (0, 0)) := (hbl.block cb hcl).trans hcnt
  obtain ⟨w1, hw1⟩ : ∃ w1, w1 = wb := ⟨_, rfl⟩
  have hcnt1 : w1.heap[cb]? = some (.cells #[.int .i64 (c : Int)] 40 (0, 0)) := by rw [hw1]; exact hcntb
  have hrow1 : OwnR ioC 1 3 W0.heap.size w1 (.slice p m q) l := by rw [hw1]; exact hrow.below hbl
  have hbw1 : Below W0.heap.size W0 w1 := by rw [hw1]; exact hbw.trans (hbl.mono hbw.size)
  have hcw : Chg (fun b => b = cb ∨ (Value.slice p m q).ownBlock = some b) w w1 := by rw [hw1]; exact Chg.of_below hbl
  have HK : Hid (∀ W, Below W0.heap.size W0 W → Sli.ok (encT n) 6 W ⟨ka, kc, kx⟩) := fun W hW => hok.kept (Sc.cells_below hW)
  have HST : Hid (∀ k t lv wr wp, kx[k]? = some t → OwAt W0 n kx w1 cb fn c (.slice p m q) l k lv wr → Below wr.heap.size wr wp → Calls Try.prog 6 #[valT n t, .int .i64 (fn : Int), .pointer (some ⟨cb, 0, none⟩), lv] wp fun e w' => ∃ p' m' q', e = .returned (.slice p' m' q') ∧ OwAt W0 n kx w1 cb fn c (.slice p m q) l (k + 1) (.slice p' m' q') w') := fun k t lv wr wp ht h hp => (h.step ih ht (hks t (List.mem_of_getElem? ht)) hbw1 hcb (fun b r => (hrow.lt b r).1) (by rw [hw1]; exact Nat.lt_of_lt_of_le hcl hbl.size) hvc hp hsz hl hc).mono (fun e w' ⟨p', q', h1, h2⟩ => ⟨p', _, q', h1, h2⟩)
  have hk3 : (x.kind == (3 : Int)) = false := by simpa using h3
  have hk12 : (x.kind == (12 : Int)) = false := by simpa using h12
  have hk33 : (x.kind == (33 : Int)) = false := by simpa using h33
  have HS : Hid (OwAt W0 n kx w1 cb fn c (.slice p m q) l 0 (.slice p m q) w1) := OwAt.start hrow1 hcnt1
  have HBE : Hid (∀ wr, Chg (fun b => b = cb ∨ (Value.slice p m q).ownBlock = some b) w1 wr → Below W0.heap.size W0 wr) := fun wr h => h.below hbw1 hbw1.size (fun b r => by exact r.elim (fun e => by omega) (fun e => (hrow.lt b e).1))
  have HCW : Hid (Chg (fun b => b = cb ∨ (Value.slice p m q).ownBlock = some b) w w1) := hcw
  have HLN : Hid ((kx).length ≤ 131072) := by
    show _ ≤ _
    have := sum_len (szT n) (sz_pos n) kx
    omega
  have HWL : Hid (w.heap.size ≤ w1.heap.size) := hcw.size
  clear hX hbl hcl hcnt hcntb hrow hvc hbw hcb hl hc hcnt1 hrow1 hbw1 hcw ih hok hks hsz h3 h12 h33
  go_enter Try.func6, Try.ntmps6
  go_upto_region 1 with fail
  rw [← hwb]
  clear hwb
  subst hw1
  go_wp2_with fail
  go_loopw [3, 47] (fun lv i wr => ∃ (k : Nat) (p' : Option Addr) (m' q' : Nat), lv = .slice p' m' q' ∧ Hid (OwAt W0 n kx w1 cb fn c (.slice p m q) l k (.slice p' m' q') wr) ∧ i = .int .i64 (k : Int)) (fun lv i wr => (kx).length - (intOf i).toNat)
  case atStart => exact ⟨0, p, m, q, rfl, HS, rfl⟩
  case round =>
    clear HS
    obtain ⟨k, p', m', q', rfl, HE, rfl⟩ := hrel
    rcases Nat.lt_or_ge k (kx).length with c0 | c0
    · obtain ⟨y, b', off', k1', k2, x0, x1, x2, x3, x4, x5⟩ := kid_at (HK.out wr (HBE.out wr HE.out.ch)) (k := k) c0
      simp only at k1' k2
      subst k1'
      have hil : (k : Int) < ((kx).length : Int) := by omega
      have hil' : (k : Int) < (kx.length : Int) := by simpa using hil
      have hw2 : IntKind.i64.wrap ((k : Int) + 1) = ((k + 1 : Nat) : Int) := by have := HLN.out; rw [IntKind.wrap_i64]; omega
      obtain ⟨wp, hwp⟩ : ∃ wp, wp = wr.alloc (.cells #[.int .i64 (ndT n y).kind, .int .i64 (ndT n y).pl, .string (ndT n y).name, .int .u64 (ndT n y).num, .string (ndT n y).op, .slice (atT n y) (nkT n y) (capT n y)] 25) := ⟨_, rfl⟩
      have hbp : Below wr.heap.size wr wp := by rw [hwp]; exact below_new (Below.refl _ _) (Nat.le_refl _) _
      have hY : NdB wr.heap.size (ndT n y) (.slice (atT n y) (nkT n y) (capT n y)) wp := by rw [hwp]; exact at_new _ _
      have hu := HST.out k y _ wr wp k2 HE.out hbp
      unfold valT at hu
      obtain ⟨b0, b1, b2, b3, b4, b5⟩ := hY.cs
      have HQ : Hid (k < (kx).length) := c0
      clear hbp hY c0 k2 HE HST HK
      generalize (ndT n y).kind = r0 at *
      generalize (ndT n y).pl = r1 at *
      generalize (ndT n y).name = r2 at *
      generalize (ndT n y).num = r3 at *
      generalize (ndT n y).op = r4 at *
      generalize atT n y = r5 at *
      generalize nkT n y = r6 at *
      generalize capT n y = r7 at *
      go_upto_region 11 with fail
      rw [← hwp]
      clear hwp x0 x1 x2 x3 x4 x5
      go_wp2_with fail
      refine hu.mono ?_
      rintro e w3 ⟨p3, m3, q3, rfl, h3⟩
      have HN3 := (show Hid _ from h3)
      clear hu h3
      go_wp2_with fail
      refine ⟨⟨k + 1, p3, m3, q3, rfl, HN3, by go_num⟩, ?_⟩
      simp [intOf]
      have := HQ.out
      first | omega | (simp at this; omega)
    · have hil : ¬ (k : Int) < ((kx).length : Int) := by omega
      have hil' : ¬ (k : Int) < (kx.length : Int) := by simpa using hil
      obtain ⟨f1, f2⟩ := HE.out.last c0
      obtain ⟨pp, qq, hpq⟩ := row_len2 f1
      have HO : Hid (OwO W0 w cb (.slice p m q) (l ++ (foldOwn (ownersT n) fn kx c).1) (foldOwn (ownersT n) fn kx c).2 (.returned (.slice p' m' q')) wr) := ⟨pp, qq, by rw [hpq], by rw [← hpq]; exact f1, f2, HCW.out.trans HE.out.ch (fun _ _ r => r), fun b r => by rw [← hpq] at r; exact (HE.out.sub b r).imp id (fun r => Nat.le_trans HWL.out r)⟩
      clear hpq
      clear f1 f2 HE HST HK c0
      go_wp2_with fail
      go_ret
      exact HO.out

theorem own_any (W0 : World) : ∀ n, OwC W0 n
  | 0 => fun t => nomatch (t : Empty)
  | n + 1 => by
    intro t hok hsz w cb fn c v l hbw hcb hcnt hrow hvc hl hc
    obtain ⟨x, sl⟩ := t
    obtain ⟨ka, kc, kx⟩ := sl
    obtain ⟨p, q, rfl⟩ := row_len2 hrow
    have hsz2 : szT (n + 1) ((x, ⟨ka, kc, kx⟩) : Nd × Sli (Tr n)) = 1 + (kx.map (szT n)).sum := rfl
    rw [hsz2] at hsz hl hc
    have hks : ∀ y ∈ kx, okF n W0 y := fun y hy => ⟨hok.1.2.2 y hy, hok.2.2.2.2 y hy⟩
    by_cases h3 : x.kind = 3
    · have e : ownersT (n + 1) ((x, ⟨ka, kc, kx⟩) : Nd × Sli (Tr n)) fn c = ([fn], c) := by simp only [ownersT]; rw [if_pos h3]
      rw [e]
      exact own_name W0 w x h3 ka kx.length kc cb fn c p l.length q l hbw hcnt hrow hvc (by omega)
    by_cases h12 : x.kind = 12 ∨ x.kind = 33
    · have h1 : 1 ≤ kx.length := hok.2.1 (by rcases h12 with r | r <;> simp [r])
      obtain ⟨ks, cc, rfl⟩ : ∃ ks cc, kx = ks ++ [cc] := by
        rcases List.eq_nil_or_concat kx with e | ⟨a, b, e⟩
        · rw [e] at h1; simp at h1
        · exact ⟨a, b, by rw [e, List.concat_eq_append]⟩
      obtain ⟨b, off, hka, _⟩ := hok.1.2.1.cells (by simp)
      simp only at hka
      subst hka
      have e : ownersT (n + 1) ((x, ⟨some ⟨b, off, none⟩, kc, ks ++ [cc]⟩) : Nd × Sli (Tr n)) fn c = foldOwn (ownersT n) (c + 1) [cc] (c + 1) := by
        simp only [ownersT]
        rw [if_neg h3, if_pos h12]
        simp
      rw [e]
      have hs : ((ks ++ [cc]).map (szT n)).sum = (ks.map (szT n)).sum + szT n cc := by simp
      rw [hs] at hsz hl hc
      have q1 := own_fun W0 n (own_any W0 n) w x h12 b off kc ks cc hok.1.2.1 (hks cc (by simp)) (by omega) cb fn c p l.length q l hbw hcb hcnt hrow hvc (by omega) (by omega)
      have hln : (ks ++ [cc]).length = ks.length + 1 := by simp
      show Calls Try.prog 6 #[.agg #[.int .i64 x.kind, .int .i64 x.pl, .string x.name, .int .u64 x.num, .string x.op, .slice (some ⟨b, off, none⟩) (ks ++ [cc]).length kc], _, _, _] w _
      rw [hln]
      exact q1
    · have e : ownersT (n + 1) ((x, ⟨ka, kc, kx⟩) : Nd × Sli (Tr n)) fn c = foldOwn (ownersT n) fn kx c := by
        simp only [ownersT]
        rw [if_neg h3, if_neg h12]
      rw [e]
      exact own_else W0 n (own_any W0 n) w x h3 (fun r => h12 (Or.inl r)) (fun r => h12 (Or.inr r)) ka kc kx hok.1.2.1 hks (by omega) cb fn c p l.length q l hbw hcb hcnt hrow hvc (by omega) (by omega)
end Go.Proofs.Ytihmdcdifakepab.Rv
