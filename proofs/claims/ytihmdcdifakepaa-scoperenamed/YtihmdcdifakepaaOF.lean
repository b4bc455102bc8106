/- ScopeRenamed: a tree named anew. -/
import Derived.Test.YtihmdcdifakepaaB25
import Derived.Deep.CutBlock
namespace Go.Proofs.Ytihmdcdifakepaa.Rv
open Go.RowKit Go.Proofs.Ytihmdcdifakepaa.Sc Go.Proofs.Ytihmdcdifakepaa.Rz
set_option linter.unusedVariables false
set_option linter.unusedSimpArgs false

theorem rtNd (n : Nat) : RT (encT n) 23 25 6 80 := ⟨fun _ => rfl, Try.underlying23, rt_inf (z := .agg #[.int .i64 0, .int .i64 0, .string ⟨#[]⟩, .int .u64 0, .string ⟨#[]⟩, .slice none 0 0]) (by kernel_rfl) rfl, by decide, fun y u h => by simp [encT] at h; rcases h with rfl | rfl | rfl | rfl | rfl | rfl <;> rfl⟩

/-- renamed, of trees of n levels -/
def RnC (W0 : World) (more : ByteArray) (n : Nat) : Prop := ∀ (t : Tr n), okT n W0 t → shT 140737488351232 n t → szT n t ≤ 131072 → becB more n t = false → ∀ w, Below W0.heap.size W0 w → Calls Try.prog 17 #[valT n t, .string more] w fun e w' => ∃ u : Tr n, e = .returned (valT n u) ∧ okT n w' u ∧ RenT (rhoN more) (PN more) n t u ∧ (∀ b, fpT n u b → w.heap.size ≤ b ∧ b < w'.heap.size) ∧ Below w.heap.size w w'

/-- those up to k were named anew -/
structure RnAt (more : ByteArray) (n : Nat) (kx : List (Tr n)) (wn : World) (k : Nat) (v : Value) (wr : World) : Prop where
  le : k ≤ kx.length
  bel : Below wn.heap.size wn wr
  row : ∃ us, Rz.All2 (RenT (rhoN more) (PN more) n) (kx.take k) us ∧ OwnR (encT n) 6 25 wn.heap.size wr v us ∧ ∀ u ∈ us, okT n wr u ∧ ∀ b, fpT n u b → wn.heap.size ≤ b ∧ b < wr.heap.size ∧ ¬ v.ownBlock = some b

theorem all2_snoc {α β : Type} {R : α → β → Prop} : ∀ {l : List α} {m : List β} {a : α} {b : β}, Rz.All2 R l m → R a b → Rz.All2 R (l ++ [a]) (m ++ [b])
  | [], [], a, b, _, h => ⟨h, trivial⟩
  | x :: l, y :: m, a, b, h, h2 => ⟨h.1, all2_snoc h.2 h2⟩
  | [], y :: m, a, b, h, _ => h.elim
  | x :: l, [], a, b, h, _ => h.elim

theorem RnAt.start {more : ByteArray} {n : Nat} {kx : List (Tr n)} {wn : World} : RnAt more n kx wn 0 (.slice none 0 0) wn :=
  ⟨Nat.zero_le _, Below.refl _ _, [], by rw [List.take_zero]; trivial, OwnR.nil _ _, fun u hu => by cases hu⟩

/-- one more -/
theorem RnAt.step {more : ByteArray} {n : Nat} {kx : List (Tr n)} {wn : World} {k : Nat} {v : Value} {wr wp w3 w4 w5 : World} {v5 : Value} {t u : Tr n} (h : RnAt more n kx wn k v wr) (ht : kx[k]? = some t) (hp : Below wr.heap.size wr wp) (h3 : Below wp.heap.size wp w3) (ok : okT n w3 u) (hr : RenT (rhoN more) (PN more) n t u) (hf : ∀ b, fpT n u b → wp.heap.size ≤ b ∧ b < w3.heap.size) (h4 : Below w3.heap.size w3 w4) (us : List (Tr n)) (hus : Rz.All2 (RenT (rhoN more) (PN more) n) (kx.take k) us ∧ OwnR (encT n) 6 25 wn.heap.size wr v us ∧ ∀ u ∈ us, okT n wr u ∧ ∀ b, fpT n u b → wn.heap.size ≤ b ∧ b < wr.heap.size ∧ ¬ v.ownBlock = some b) (ho : OwnR (encT n) 6 25 wn.heap.size w5 v5 (us ++ [u])) (hg : w4.grownBy w5 v.ownBlock) (hb : v5.ownBlock = v.ownBlock ∨ v5.ownBlock = some w4.heap.size) : RnAt more n kx wn (k + 1) v5 w5 := by
  have hk : k < kx.length := (List.getElem?_eq_some_iff.1 ht).1
  obtain ⟨a1, a2, a3⟩ := hus
  have hlt : ∀ b, v.ownBlock = some b → wn.heap.size ≤ b ∧ b < wr.heap.size := fun b q => a2.lt b q
  have hc45 : Chg (fun b => v.ownBlock = some b) w4 w5 := Chg.of_grown hg (fun b q => q)
  have hr4 : Below wr.heap.size wr w4 := (hp.trans (h3.mono hp.size)).trans (h4.mono (Nat.le_trans hp.size h3.size))
  have h34 := h4.size
  have hp3 := h3.size
  have hwp := hp.size
  refine ⟨hk, ?_, us ++ [u], ?_, ho, fun u' hu' => ?_⟩
  · have hb4 : Below wn.heap.size wn w4 := h.bel.trans (hr4.mono h.bel.size)
    exact hc45.below hb4 hb4.size (fun b q => (hlt b q).1)
  · rw [List.take_add_one, ht]
    exact all2_snoc a1 hr
  · have hsz : w4.heap.size ≤ w5.heap.size := hc45.size
    rcases List.mem_append.1 hu' with q | q
    · obtain ⟨c1, c2⟩ := a3 u' q
      have e4 := okT_kept c1 (Sc.cells_below hr4)
      refine ⟨okT_chg hc45 n u' e4 (fun b q => (c2 b q).2.2), fun b q => ?_⟩
      obtain ⟨d1, d2, d3⟩ := c2 b q
      have := hr4.size
      refine ⟨d1, by omega, fun e => ?_⟩
      rcases hb with r | r
      · rw [r] at e; exact d3 e
      · rw [r] at e
        have e := Option.some.inj e
        omega
    · obtain rfl := List.mem_singleton.1 q
      have e4 := okT_kept ok (Sc.cells_below h4)
      have hn : ∀ b, fpT n u' b → ¬ v.ownBlock = some b := fun b q e => by
        have := (hf b q).1
        have := (hlt b e).2
        omega
      refine ⟨okT_chg hc45 n u' e4 hn, fun b q => ?_⟩
      obtain ⟨d1, d2⟩ := hf b q
      have hbs := h.bel.size
      refine ⟨by omega, by omega, fun e => ?_⟩
      rcases hb with r | r
      · rw [r] at e; exact hn b q e
      · rw [r] at e
        have e := Option.some.inj e
        omega

theorem NdB.fr {nb : Nat} {x : Nd} {kv : Value} {w : World} (h : NdB nb x kv w) (j : Nat) : w.frozen? ⟨nb, j, none⟩ = false := by unfold NdB at h; simp [World.frozen?, h, go_sem]

def ynN (more : ByteArray) (x : Nd) : ByteArray := if namedB x.kind then rhoN more x.name else x.name

/-- the node's variable behind the switch -/
def wnW (more : ByteArray) (x : Nd) (nb : Nat) (w1 : World) : World := if namedB x.kind = true ∧ isS x.name [] = false ∧ bi x.name = false then w1.setCell ⟨nb, 2, none⟩ (.string (x.name ++ more)) else w1

theorem wn_nd {more : ByteArray} {x : Nd} {nb : Nat} {w1 : World} {kv : Value} (h : NdB nb x kv w1) : NdB nb ⟨x.kind, x.pl, ynN more x, x.num, x.op⟩ kv (wnW more x nb w1) ∧ Chg (fun b => b = nb) w1 (wnW more x nb w1) := by
  unfold wnW ynN
  by_cases c : namedB x.kind = true ∧ isS x.name [] = false ∧ bi x.name = false
  · rw [if_pos c, if_pos c.1]
    refine ⟨?_, Chg.set (S := fun b => b = nb) _ _ _ rfl⟩
    have e : rhoN more x.name = x.name ++ more := by unfold rhoN; rw [c.2.1, c.2.2]; rfl
    unfold NdB at *
    rw [heap_setCell_same w1 nb 2 _ 25 _ h, e]
    rfl
  · rw [if_neg c]
    refine ⟨?_, Chg.refl _ _⟩
    by_cases d : namedB x.kind = true
    · rw [if_pos d]
      have e : rhoN more x.name = x.name := by
        unfold rhoN
        rw [if_pos]
        cases h1 : isS x.name [] with
        | true => rfl
        | false =>
          cases h2 : bi x.name with
          | true => rfl
          | false => exact absurd ⟨d, h1, h2⟩ c
      rw [e]
      exact h
    · rw [if_neg d]
      exact h

set_option maxRecDepth 100000 in
set_option maxHeartbeats 8000000 in
theorem ren_step (W0 : World) (more : ByteArray) (hm : more.size ≤ 140737488351232) (n : Nat) (ih : RnC W0 more n) : RnC W0 more (n + 1) := by
  intro t hok hsh hsz hbec w hbw
  obtain ⟨x, sl⟩ := t
  obtain ⟨ka, kc, kx⟩ := sl
  have hok1 : Sli.ok (encT n) 6 W0 ⟨ka, kc, kx⟩ := hok.2.1
  have hks : ∀ y ∈ kx, okT n W0 y := hok.2.2
  have hnm : x.name.size ≤ 140737488351232 := hsh.1
  have hkn : ∀ y ∈ kx, shT 140737488351232 n y := hsh.2
  have hsz2 : 1 + (kx.map (szT n)).sum ≤ 131072 := hsz
  have hln : kx.length ≤ 131072 := by have := sum_len (szT n) (sz_pos n) kx; omega
  have hkz : ∀ y ∈ kx, szT n y ≤ 131072 := fun y hy => by have := le_sum (List.mem_map.2 ⟨y, hy, rfl⟩ : szT n y ∈ kx.map (szT n)); omega
  have hbec' : (bi (x.name ++ more) || kx.any (becB more n)) = false := hbec
  have hP : PN more x.name := (Bool.or_eq_false_iff.1 hbec').1
  have hkb : ∀ y ∈ kx, becB more n y = false := fun y hy => by
    have := (Bool.or_eq_false_iff.1 hbec').2
    rw [List.any_eq_false] at this
    simpa using this y hy
  have hadd : ∀ w : World, (Op.stringOp .add x.name more).run Try.prog w = .ok (.string (x.name ++ more)) w := fun w => run_string_add_sum w x.name more (by omega)
  obtain ⟨wa, hwa⟩ : ∃ wa, wa = w.alloc (.cells #[.int .i64 x.kind, .int .i64 x.pl, .string x.name, .int .u64 x.num, .string x.op, .slice ka kx.length kc] 25) := ⟨_, rfl⟩
  obtain ⟨wb, hwb⟩ : ∃ wb, wb = wa.alloc (.cells #[.int .i64 0, .int .i64 0, .string ⟨#[]⟩, .int .u64 0, .string ⟨#[]⟩, .slice none 0 0] 25) := ⟨_, rfl⟩
  have hsa : wa.heap.size = w.heap.size + 1 := by rw [hwa]; exact size_new _ _
  have hsb : wb.heap.size = w.heap.size + 2 := by rw [hwb, size_new, hsa]
  have hba : Below w.heap.size w wa := by rw [hwa]; exact (Below.refl _ _).alloc (Nat.le_refl _) _
  have hbb : Below wa.heap.size wa wb := by rw [hwb]; exact (Below.refl _ _).alloc (Nat.le_refl _) _
  have hbl : Below w.heap.size w wb := hba.trans (hbb.mono hba.size)
  have hX : NdB w.heap.size x (.slice ka kx.length kc) wb := by
    have : NdB w.heap.size x (.slice ka kx.length kc) wa := by rw [hwa]; exact at_new _ _
    exact this.chg (O := fun _ => False) (Chg.of_below hbb) id
  have hZ : NdB (w.heap.size + 1) ⟨0, 0, ⟨#[]⟩, 0, ⟨#[]⟩⟩ (.slice none 0 0) wb := by
    rw [← hsa, hwb]
    exact at_new _ _
  have k14 := refBuiltin_any x.name wb
  have hbi : bi x.name = decide (0 ≤ idxI x.name) := rfl
  rw [← hbi] at k14
  have HB : Hid (Below w.heap.size w wb) := hbl
  have HS : Hid (wb.heap.size = w.heap.size + 2) := hsb
  -- behind the switch
  have HWN : Hid (∀ w1, Below wb.heap.size wb w1 → NdB w.heap.size ⟨x.kind, x.pl, ynN more x, x.num, x.op⟩ (.slice ka kx.length kc) (wnW more x w.heap.size w1) ∧ NdB (w.heap.size + 1) ⟨0, 0, ⟨#[]⟩, 0, ⟨#[]⟩⟩ (.slice none 0 0) (wnW more x w.heap.size w1) ∧ Below w.heap.size w (wnW more x w.heap.size w1) ∧ w.heap.size + 2 ≤ (wnW more x w.heap.size w1).heap.size) := fun w1 h1 => by
    obtain ⟨q1, q2⟩ := wn_nd (more := more) (hX.chg (O := fun _ => False) (Chg.of_below h1) id)
    have hz1 := hZ.chg (O := fun _ => False) (Chg.of_below h1) id
    have hw1 : Below w.heap.size w w1 := hbl.trans (h1.mono hbl.size)
    have := h1.size
    have := q2.size
    exact ⟨q1, hz1.chg q2 (by omega), q2.below hw1 hw1.size (fun b e => by omega), by omega⟩
  have HW0 : Hid (∀ W, Below w.heap.size w W → Below W0.heap.size W0 W) := fun W hW => hbw.trans (hW.mono hbw.size)
  have HK : Hid (∀ W, Below W0.heap.size W0 W → Sli.ok (encT n) 6 W ⟨ka, kc, kx⟩) := fun W hW => hok1.kept (Sc.cells_below hW)
  have HI : Hid (∀ y ∈ kx, ∀ W, Below W0.heap.size W0 W → Calls Try.prog 17 #[valT n y, .string more] W fun e w' => ∃ u : Tr n, e = .returned (valT n u) ∧ okT n w' u ∧ RenT (rhoN more) (PN more) n y u ∧ (∀ b, fpT n u b → W.heap.size ≤ b ∧ b < w'.heap.size) ∧ Below W.heap.size W w') := fun y hy W hW => ih y (hks y hy) (hkn y hy) (hkz y hy) (hkb y hy) W hW
  have HLN : Hid (kx.length ≤ 131072) := hln
  have hysz : (ynN more x).size ≤ maxLen := by
    have h1 : (x.name ++ more).size = x.name.size + more.size := ByteArray.size_append ..
    unfold ynN rhoN maxLen
    split
    · split <;> omega
    · omega
  have HFIN : Hid (∀ (ad : Option Addr) (cap : Nat) (us : List (Tr n)) (W : World), Sli.ok (encT n) 6 W ⟨ad, cap, us⟩ → (∀ u ∈ us, okT n W u) → okT (n + 1) W (((⟨x.kind, x.pl, ynN more x, x.num, x.op⟩, ⟨ad, cap, us⟩) : Nd × Sli (Tr n)))) := fun ad cap us W h1 h2 => ⟨⟨hok.1.pl, hysz, hok.1.op⟩, h1, h2⟩
  have HREN : Hid (∀ (ad : Option Addr) (cap : Nat) (us : List (Tr n)), Rz.All2 (RenT (rhoN more) (PN more) n) kx us → RenT (rhoN more) (PN more) (n + 1) ((x, ⟨ka, kc, kx⟩) : Nd × Sli (Tr n)) (((⟨x.kind, x.pl, ynN more x, x.num, x.op⟩, ⟨ad, cap, us⟩) : Nd × Sli (Tr n)))) := fun ad cap us h => ⟨⟨rfl, rfl, rfl, rfl, hP⟩, h⟩
  obtain ⟨a0, _, a2, _, _, _⟩ := hX.cs
  have HX : Hid (∀ W, Below wb.heap.size wb W → NdB w.heap.size x (.slice ka kx.length kc) W) := fun W hW => hX.chg (O := fun _ => False) (Chg.of_below hW) id
  show Calls Try.prog 17 #[.agg #[.int .i64 x.kind, .int .i64 x.pl, .string x.name, .int .u64 x.num, .string x.op, .slice ka kx.length kc], .string more] w _
  clear hok hsh ih hok1 hks hkn hX hZ hbl hbw hnm hm hbi hsz hsz2 hln hkz hbec hbec' hP hkb hysz hba hbb hsa hsb
  go_enter Try.func17, Try.ntmps17
  go_upto_region 1 with fail
  rw [← hwa, ← hwb]
  clear hwb hwa
  go_wp2_with fail
  refine k14.mono ?_
  rintro e w1 ⟨rfl, hb1⟩
  obtain ⟨a0, _, a2, _, _, _⟩ := (HX.out w1 hb1).cs
  obtain ⟨hN, hZ1, hW1, hs1⟩ := HWN.out w1 hb1
  obtain ⟨wn, hwn⟩ : ∃ wn, wn = wnW more x w.heap.size w1 := ⟨_, rfl⟩
  rw [← hwn] at hN hZ1 hW1 hs1
  have f2 : w1.frozen? ⟨w.heap.size, 2, none⟩ = false := by
    have := HX.out w1 hb1
    unfold NdB at this
    simp [World.frozen?, this, go_sem]
  have HN : Hid (NdB w.heap.size ⟨x.kind, x.pl, ynN more x, x.num, x.op⟩ (.slice ka kx.length kc) wn ∧ NdB (w.heap.size + 1) ⟨0, 0, ⟨#[]⟩, 0, ⟨#[]⟩⟩ (.slice none 0 0) wn ∧ Below w.heap.size w wn ∧ w.heap.size + 2 ≤ wn.heap.size) := ⟨hN, hZ1, hW1, hs1⟩
  clear k14 hb1 HWN HX hN hZ1 hW1 hs1
  obtain ⟨bz, hbz⟩ : ∃ bz, bz = bi x.name := ⟨_, rfl⟩
  rw [← hbz]
  have HBZ : Hid (bz = bi x.name) := hbz
  clear hbz
  go_upto_block 0 with fail
  go_cut [18] from 18 to 40 (fun c wx => wx = wn)
  case first =>
    have hkk : (x.kind = 3 ∨ x.kind = 31 ∨ x.kind = 32 ∨ x.kind = 33 ∨ x.kind = 12 ∨ x.kind = 38 ∨ x.kind = 43 ∨ x.kind = 41 ∨ x.kind = 39 ∨ x.kind = 40) ∨ namedB x.kind = false := by
      cases hb : namedB x.kind with
      | false => exact Or.inr rfl
      | true =>
        left
        unfold namedB at hb
        simp only [Bool.or_eq_true, beq_iff_eq] at hb
        omega
    clear HN HI HK HREN HFIN HW0 HB HS
    rcases hkk with hk | hk
    · have HNB : Hid (namedB x.kind = true) := by show _ = _; rcases hk with h | h | h | h | h | h | h | h | h | h <;> (rw [h]; rfl)
      cases he : (x.name.toList == []) with
      | true =>
        have e1 : wn = w1 := by rw [hwn]; unfold wnW; rw [if_neg]; rintro ⟨-, q, -⟩; unfold isS at q; rw [he] at q; cases q
        clear hwn
        rcases hk with h | h | h | h | h | h | h | h | h | h <;> (rw [h] at a0; go_wp2_with fail; go_meet; exact e1.symm)
      | false =>
        cases bz with
        | true =>
          have e1 : wn = w1 := by rw [hwn]; unfold wnW; rw [if_neg]; rintro ⟨-, -, q⟩; rw [← HBZ.out] at q; cases q
          clear hwn
          rcases hk with h | h | h | h | h | h | h | h | h | h <;> (rw [h] at a0; go_wp2_with fail; go_meet; exact e1.symm)
        | false =>
          have e1 : wn = w1.setCell ⟨w.heap.size, 2, none⟩ (.string (x.name ++ more)) := by rw [hwn]; unfold wnW; rw [if_pos ⟨HNB.out, he, HBZ.out.symm⟩]
          clear hwn
          rcases hk with h | h | h | h | h | h | h | h | h | h <;> (rw [h] at a0; go_wp2_with fail; go_meet; exact e1.symm)
    · have e1 : wn = w1 := by rw [hwn]; unfold wnW; rw [if_neg]; rintro ⟨q, -⟩; rw [hk] at q; cases q
      unfold namedB at hk
      simp only [Bool.or_eq_false_iff] at hk
      obtain ⟨⟨⟨⟨⟨⟨⟨⟨⟨j1, j2⟩, j3⟩, j4⟩, j5⟩, j6⟩, j7⟩, j8⟩, j9⟩, j10⟩ := hk
      clear hwn
      go_wp2_with fail
      go_meet
      exact e1.symm
  case rest =>
    obtain rfl := hcut
    obtain ⟨hN, hZ1, hW1, hs1⟩ := HN.out
    obtain ⟨-, -, -, -, -, d5⟩ := hN.cs
    have HST : Hid (RnAt more n kx wc 0 (.slice none 0 0) wc) := RnAt.start
    have HWC : Hid (∀ wr, Below wc.heap.size wc wr → Below w.heap.size w wr) := fun wr h => HN.out.2.2.1.trans (h.mono HN.out.2.2.1.size)
    clear hN hZ1 hW1 hs1 hwn a0 a2 f2 HBZ
    go_wp2_with fail
    go_loopw [7, 44] (fun v i wr => ∃ (k : Nat) (p : Option Addr) (m q : Nat), v = .slice p m q ∧ Hid (RnAt more n kx wc k (.slice p m q) wr) ∧ i = .int .i64 (k : Int)) (fun v i wr => kx.length - (intOf i).toNat)
    case atStart => exact ⟨0, none, 0, 0, rfl, HST, rfl⟩
    case round =>
      clear HST d5
      obtain ⟨k, p, m, q, rfl, HE, rfl⟩ := hrel
      rcases Nat.lt_or_ge k kx.length with c | c
      · obtain ⟨y, b, off, k1, k2, x0, x1, x2, x3, x4, x5⟩ := kid_at (HK.out wr (HW0.out wr (HWC.out wr HE.out.bel))) (k := k) c
        simp only at k1 k2
        subst k1
        obtain ⟨us, hus⟩ := HE.out.row
        have HUS : Hid (Rz.All2 (RenT (rhoN more) (PN more) n) (kx.take k) us ∧ OwnR (encT n) 6 25 wc.heap.size wr (.slice p m q) us ∧ ∀ u ∈ us, okT n wr u ∧ ∀ b, fpT n u b → wc.heap.size ≤ b ∧ b < wr.heap.size ∧ ¬ (Value.slice p m q).ownBlock = some b) := hus
        have HUL : Hid (us.length ≤ 131072) := by
          show _ ≤ _
          have h1 := all2_len hus.1
          have h2 := HLN.out
          rw [List.length_take] at h1
          omega
        have hil : (k : Int) < kx.length := by omega
        have hw2 : IntKind.i64.wrap ((k : Int) + 1) = ((k + 1 : Nat) : Int) := by have := HLN.out; rw [IntKind.wrap_i64]; omega
        obtain ⟨wp, hwp⟩ : ∃ wp, wp = wr.alloc (.cells #[.int .i64 (ndT n y).kind, .int .i64 (ndT n y).pl, .string (ndT n y).name, .int .u64 (ndT n y).num, .string (ndT n y).op, .slice (atT n y) (nkT n y) (capT n y)] 25) := ⟨_, rfl⟩
        have hbp : Below wr.heap.size wr wp := by rw [hwp]; exact below_new (Below.refl _ _) (Nat.le_refl _) _
        have hY : NdB wr.heap.size (ndT n y) (.slice (atT n y) (nkT n y) (capT n y)) wp := by rw [hwp]; exact at_new _ _
        have HBP : Hid (Below wr.heap.size wr wp) := hbp
        have HBW : Hid (Below wc.heap.size wc wp) := HE.out.bel.trans (hbp.mono HE.out.bel.size)
        have hu := HI.out y (List.mem_of_getElem? k2) wp (HW0.out wp (HWC.out wp HBW.out))
        unfold valT at hu
        obtain ⟨b0', b1, b2, b3, b4, b5⟩ := hY.cs
        have HQ : Hid (k < kx.length) := c
        have HK2 : Hid (kx[k]? = some y) := k2
        clear hbp hY c k2 HI HK hus
        generalize (ndT n y).kind = q0 at *
        generalize (ndT n y).pl = q1 at *
        generalize (ndT n y).name = q2 at *
        generalize (ndT n y).num = q3 at *
        generalize (ndT n y).op = q4 at *
        generalize atT n y = q5 at *
        generalize nkT n y = q6 at *
        generalize capT n y = q7 at *
        go_upto_region 19 with fail
        rw [← hwp]
        clear hwp x0 x1 x2 x3 x4 x5
        go_wp2_with fail
        refine hu.mono ?_
        rintro e w3 ⟨u, rfl, ok3, rn3, fp3, hb3⟩
        clear hu
        obtain ⟨w4, hw4⟩ : ∃ w4, w4 = w3.alloc (.cells #[.int .i64 (ndT n u).kind, .int .i64 (ndT n u).pl, .string (ndT n u).name, .int .u64 (ndT n u).num, .string (ndT n u).op, .slice (atT n u) (nkT n u) (capT n u)] 25) := ⟨_, rfl⟩
        have hb4 : Below w3.heap.size w3 w4 := by rw [hw4]; exact below_new (Below.refl _ _) (Nat.le_refl _) _
        have hb04 : Below wr.heap.size wr w4 := (HBP.out.trans (hb3.mono HBP.out.size)).trans (hb4.mono (Nat.le_trans HBP.out.size hb3.size))
        have HOW : Hid (OwnR (encT n) 6 25 wc.heap.size w4 (.slice p m q) us) := HUS.out.2.1.below hb04
        have HON : Hid (Sli.ok (encT n) 6 w4 ⟨some ⟨w3.heap.size, 0, none⟩, 1, [u]⟩) := one_sli (rtNd n) (cs := #[.int .i64 (ndT n u).kind, .int .i64 (ndT n u).pl, .string (ndT n u).name, .int .u64 (ndT n u).num, .string (ndT n u).op, .slice (atT n u) (nkT n u) (capT n u)]) (t' := 25) (by rw [hw4]; exact at_new _ _) rfl
        have HBX : Hid (((us.length + 1) + (us.length + 1) / 4 + 192) * 80 ≤ 281474976710656 ∧ us.length + 1 ≤ maxLen) := by have := HUL.out; exact ⟨by omega, by unfold maxLen; omega⟩
        have HSZ : Hid (wc.heap.size ≤ w4.heap.size) := Nat.le_trans HE.out.bel.size hb04.size
        have HSTEP : Hid (∀ v5 w5, OwnR (encT n) 6 25 wc.heap.size w5 v5 (us ++ [u]) → w4.grownBy w5 (Value.slice p m q).ownBlock → (v5.ownBlock = (Value.slice p m q).ownBlock ∨ v5.ownBlock = some w4.heap.size) → RnAt more n kx wc (k + 1) v5 w5) := fun v5 w5 q1 q2 q3 => HE.out.step HK2.out HBP.out hb3 ok3 rn3 fp3 hb4 us HUS.out q1 q2 q3
        rw [hw4] at HOW HON HSZ HSTEP
        clear hb3 hb4 hb04 ok3 rn3 fp3 HUS HE HUL hw4 b0' b1 b2 b3 b4 b5
        go_wp2_with (at_builtin; refine app_row (rtNd n) rfl _ _ rfl wc.heap.size (.slice p m q) us ?h1 HOW.out ⟨some ⟨w3.heap.size, 0, none⟩, 1, [u]⟩ ?h3 HON.out HBX.out.2 HBX.out.1 HSZ.out ?_)
        case h1 => rfl
        case h3 => rfl
        intro v5 w5 ho5 hg5 hl5
        obtain ⟨p5, q5', rfl⟩ := row_len ho5
        have HN5 : Hid (RnAt more n kx wc (k + 1) (.slice p5 (us ++ [u]).length q5') w5) := HSTEP.out _ w5 ho5 hg5 (by rw [size_new]; exact hl5)
        clear ho5 hg5 hl5 HOW HON HBX HSZ HSTEP
        go_wp2_with fail
        refine ⟨⟨k + 1, p5, _, q5', rfl, HN5, by go_num⟩, ?_⟩
        simp [intOf]
        have := HQ.out
        omega
      · have hil : ¬ (k : Int) < kx.length := by omega
        obtain ⟨us, h1, h2, h3⟩ := HE.out.row
        rw [List.take_of_length_le c] at h1
        obtain ⟨sl, e1, e2, e3, e4⟩ := h2.sl (fun y => (rfl : (encT n y).length = 6))
        obtain ⟨sa, sc', sx⟩ := sl
        simp only at e2
        subst e2
        unfold Sli.val at e1
        injection e1 with ep em eq'
        subst ep em eq'
        have HSL : Hid (Sli.ok (encT n) 6 wr ⟨p, q, sx⟩) := e3
        have HUS : Hid (Rz.All2 (RenT (rhoN more) (PN more) n) kx sx ∧ (∀ u ∈ sx, okT n wr u ∧ ∀ b, fpT n u b → wc.heap.size ≤ b ∧ b < wr.heap.size ∧ ¬ (Value.slice p sx.length q).ownBlock = some b) ∧ ∀ a, p = some a → wc.heap.size ≤ a.block ∧ a.block < wr.heap.size) := ⟨h1, h3, fun a ha => by
          rcases h2.2 with ⟨q1, _⟩ | ⟨g, cap, cur, q1, hbg, hg, _⟩
          · injection q1 with q1; rw [q1] at ha; cases ha
          · injection q1 with q1
            rw [q1] at ha
            cases ha
            exact ⟨hbg, (Array.getElem?_eq_some_iff.1 hg).1⟩⟩
        have HBL : Hid (Below wc.heap.size wc wr) := HE.out.bel
        have hn := HN.out.1.chg (O := fun _ => False) (Chg.of_below HE.out.bel) id
        have hz := HN.out.2.1.chg (O := fun _ => False) (Chg.of_below HE.out.bel) id
        obtain ⟨n0, n1, n2, n3, n4, n5⟩ := hn.cs
        obtain ⟨z0, z1, z2, z3, z4, z5⟩ := hz.cs
        have nf := hn.fr 5
        have zf0 := hz.fr 0
        have zf1 := hz.fr 1
        have zf2 := hz.fr 2
        have zf3 := hz.fr 3
        have zf4 := hz.fr 4
        have zf5 := hz.fr 5
        simp only at n0 n1 n2 n3 n4 n5 z0 z1 z2 z3 z4 z5
        clear h1 h2 h3 e3 e4 hn hz HE c HI HK
        go_wp2_with fail
        obtain ⟨w9, hw9⟩ : ∃ w9, w9 = ((((((wr.setCell ⟨w.heap.size, 5, none⟩ (.slice p sx.length q)).setCell ⟨w.heap.size + 1, 0, none⟩ (.int .i64 x.kind)).setCell ⟨w.heap.size + 1, 1, none⟩ (.int .i64 x.pl)).setCell ⟨w.heap.size + 1, 2, none⟩ (.string (ynN more x))).setCell ⟨w.heap.size + 1, 3, none⟩ (.int .u64 x.num)).setCell ⟨w.heap.size + 1, 4, none⟩ (.string x.op)).setCell ⟨w.heap.size + 1, 5, none⟩ (.slice p sx.length q) := ⟨_, rfl⟩
        rw [← hw9]
        have k0 : w9.cell? ⟨w.heap.size + 1, 0, none⟩ = some (.int .i64 x.kind) := by rw [hw9]; simp [go_sem, z0, z1, z2, z3, z4, z5, n5]
        have k1 : w9.cell? ⟨w.heap.size + 1, 1, none⟩ = some (.int .i64 x.pl) := by rw [hw9]; simp [go_sem, z0, z1, z2, z3, z4, z5, n5]
        have k2 : w9.cell? ⟨w.heap.size + 1, 2, none⟩ = some (.string (ynN more x)) := by rw [hw9]; simp [go_sem, z0, z1, z2, z3, z4, z5, n5]
        have k3 : w9.cell? ⟨w.heap.size + 1, 3, none⟩ = some (.int .u64 x.num) := by rw [hw9]; simp [go_sem, z0, z1, z2, z3, z4, z5, n5]
        have k4 : w9.cell? ⟨w.heap.size + 1, 4, none⟩ = some (.string x.op) := by rw [hw9]; simp [go_sem, z0, z1, z2, z3, z4, z5, n5]
        have k5 : w9.cell? ⟨w.heap.size + 1, 5, none⟩ = some (.slice p sx.length q) := by rw [hw9]; simp [go_sem, z0, z1, z2, z3, z4, z5, n5]
        have hc9 : Chg (fun b => b = w.heap.size ∨ b = w.heap.size + 1) wr w9 := by
          have hS : ∀ (W : World) (p : Addr) (v : Value), (p.block = w.heap.size ∨ p.block = w.heap.size + 1) → Chg (fun b => b = w.heap.size ∨ b = w.heap.size + 1) W (W.setCell p v) := fun W p v h => Chg.set W p v h
          rw [hw9]
          exact ((((((hS _ ⟨w.heap.size, 5, none⟩ _ (Or.inl rfl)).trans (hS _ ⟨w.heap.size + 1, 0, none⟩ _ (Or.inr rfl)) (fun _ _ q => q)).trans (hS _ ⟨w.heap.size + 1, 1, none⟩ _ (Or.inr rfl)) (fun _ _ q => q)).trans (hS _ ⟨w.heap.size + 1, 2, none⟩ _ (Or.inr rfl)) (fun _ _ q => q)).trans (hS _ ⟨w.heap.size + 1, 3, none⟩ _ (Or.inr rfl)) (fun _ _ q => q)).trans (hS _ ⟨w.heap.size + 1, 4, none⟩ _ (Or.inr rfl)) (fun _ _ q => q)).trans (hS _ ⟨w.heap.size + 1, 5, none⟩ _ (Or.inr rfl)) (fun _ _ q => q)
        have hs2 : w.heap.size + 2 ≤ wc.heap.size := HN.out.2.2.2
        have hs9 : wr.heap.size ≤ w9.heap.size := hc9.size
        have hwr := HWC.out wr HBL.out
        obtain ⟨g1, g2, g3⟩ := HUS.out
        have hfin := HFIN.out p q sx w9 ⟨HSL.out.len, HSL.out.cap, fun h0 => by
          obtain ⟨b, off, q1, q2⟩ := HSL.out.cells h0
          refine ⟨b, off, q1, fun i y hi j u hj => hc9.cell (q2 i y hi j u hj) ?_⟩
          have := (g3 _ q1).1
          show ¬ (b = w.heap.size ∨ b = w.heap.size + 1)
          simp only at this
          omega⟩ (fun u hu => okT_chg hc9 n u (g2 u hu).1 (fun b q => by have := ((g2 u hu).2 b q).1; omega))
        have hfp : ∀ b, fpT (n + 1) (((⟨x.kind, x.pl, ynN more x, x.num, x.op⟩, ⟨p, q, sx⟩) : Nd × Sli (Tr n))) b → w.heap.size ≤ b ∧ b < w9.heap.size := fun b hb => by
          rcases hb with ⟨a, ha, rfl⟩ | ⟨k', hk', hb⟩
          · have := g3 a ha; omega
          · have := (g2 k' hk').2 b hb; omega
        have hbel : Below w.heap.size w w9 := hc9.below hwr hwr.size (fun b q => by omega)
        have hren := HREN.out p q sx g1
        clear HN HSL HUS HBL HFIN HREN n0 n1 n2 n3 n4 n5 z0 z1 z2 z3 z4 z5 hw9
        simp [bodyPost, results, Try.f17, go_sem, k0, k1, k2, k3, k4, k5]
        exact ⟨_, rfl, hfin, hren, hfp, hbel⟩

theorem ren_any (W0 : World) (more : ByteArray) (hm : more.size ≤ 140737488351232) : ∀ n, RnC W0 more n
  | 0 => fun t => nomatch (t : Empty)
  | n + 1 => ren_step W0 more hm n (ren_any W0 more hm n)
end Go.Proofs.Ytihmdcdifakepaa.Rv
