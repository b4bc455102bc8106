/- Break: the walk. -/
import Derived.Test.YtahhionlbfhinaaGreatDoorB7
namespace Go.Proofs.YtahhionlbfhinaaGreatDoor.Ce
open Go.RowKit Go.Proofs.YtahhionlbfhinaaGreatDoor.Hp
set_option linter.unusedVariables false

theorem liftE_len (E : List En) (j : Nat) (e : En) : (liftE E j e).length = E.length := by
  unfold liftE
  split
  · rfl
  · rw [List.length_set]

/-- what is read and written of an entry -/
theorem CsAt.ent {w : World} {B cb ga L capa : Nat} {O : Nat → Prop} {E : List En} (h : CsAt w B cb O E (.slice (some ⟨ga, 0, none⟩) L capa)) (hL : E.length = L) {k : Nat} {x : En} (hk : E[k]? = some x) :
    w.cell? ⟨cb, 0, none⟩ = some (.slice (some ⟨ga, 0, none⟩) L capa) ∧ w.cell? ⟨ga, k * 3, none⟩ = some (.bool x.ok) ∧ w.frozen? ⟨ga, k * 3, none⟩ = false ∧ k < L ∧ (L : Int) ≤ 9223372036854775807 ∧
    CsAt (w.setCell ⟨ga, k * 3, none⟩ (.bool false)) B cb O (E.set k ⟨false, x.top, x.bes⟩) (.slice (some ⟨ga, 0, none⟩) L capa) ∧ Chg O w (w.setCell ⟨ga, k * 3, none⟩ (.bool false)) := by
  subst hL
  have hkl := (List.getElem?_eq_some_iff.1 hk).1
  obtain ⟨g', cap', e1, hr⟩ := h.row hkl
  cases e1
  have h2 := hr.max
  have h1 := hr.len
  refine ⟨hr.c0, (hr.at' k x hk).1, hr.fr (k * 3) (by omega), hkl, by unfold maxLen at h2; omega, ?_, Chg.set w ⟨ga, k * 3, none⟩ _ ((h.os ga).2 (Or.inr rfl))⟩
  have := h.put (j := 0) (e' := ⟨false, x.top, x.bes⟩) (u := .bool false) hk (by omega) rfl
  rw [Nat.add_zero] at this
  exact this

theorem lt_of_os {w : World} {B cb : Nat} {O : Nat → Prop} {E : List En} {v : Value} (h : CsAt w B cb O E v) : ∀ b, O b → b < w.heap.size := fun b q => (h.lt b q).2

set_option maxRecDepth 100000 in
set_option maxHeartbeats 8000000 in
theorem break_in (w : World) (B cb : Nat) (O : Nat → Prop) (l : List Cel) (E0 : List En) (v : Value) (h : CsAt w B cb O E0 v) (hr : Rl E0 l) (hi : Inv l) (ht : l.length ≤ top) (n : Nat) (hn : okAt l n = true) :
    Calls Tryz.prog 94 #[.pointer (some ⟨cb, 0, none⟩), .int .i64 (n : Int)] w fun ex w' => ex = .returned (.int .i64 ((breakD l n).2 : Int)) ∧ Went w B cb O (breakD l n).1 w' := by
  have kv := valid_at w B cb O E0 v h (n : Int)
  have hvt : vB E0 (n : Int) = true := by
    unfold vB
    rw [hr.at', Int.toNat_natCast, hn]
    simp
  rw [hvt] at kv
  have hlen := hr.len
  have hnl : n < E0.length := by rw [hlen]; exact ok_lt hn
  have hex : ∃ e, E0[n]? = some e := ⟨_, List.getElem?_eq_getElem hnl⟩
  obtain ⟨e0, he0⟩ := hex
  obtain ⟨ga, capa, rfl, hrow⟩ := h.row hnl
  rw [hlen] at h
  have HO : Hid (∀ b, O b → b < w.heap.size) := lt_of_os h
  have HT : Hid (l.length ≤ top ∧ Inv l ∧ okAt l n = true) := ⟨ht, hi, hn⟩
  obtain ⟨c0, c1, f1, hnL, hlim, hcs1, hch1⟩ := h.ent hlen he0
  obtain ⟨hp0, hp1⟩ := pile_start hr hn e0 he0
  have hnLi : (n : Int) < l.length := by omega
  -- behind the first mark and the first stack
  have HS : Hid (∀ w5 s6, Below (w.setCell ⟨ga, n * 3, none⟩ (.bool false)).heap.size (w.setCell ⟨ga, n * 3, none⟩ (.bool false)) w5 → OwnR natC 1 3 w.heap.size w5 s6 [n] → BrAt w B cb O l n (.slice (some ⟨ga, 0, none⟩) l.length capa) w5 (E0.set n ⟨false, e0.top, e0.bes⟩) (put (fun _ => false) n) [n] s6) := fun w5 s6 hb5 ho5 => ⟨hp0, hcs1.below hb5, hch1.trans (Chg.of_below hb5) (fun _ _ q => q), ho5⟩
  have HP1 : Hid (cntD (put (fun _ => false) n) l.length = 1) := hp1
  have HSZ : Hid ((w.setCell ⟨ga, n * 3, none⟩ (.bool false)).heap.size = w.heap.size) := by show _ = _; simp
  generalize hL : l.length = L at *
  clear h hr hi ht hrow hlen hn hvt hcs1 hch1 hp0 hp1 hnl
  obtain ⟨eo, et, eb⟩ := e0
  simp only at *
  have HLL : Hid (l.length = L) := hL
  clear hL
  go_enter Tryz.func94, Tryz.ntmps94
  go_wp2_with fail
  go_step3
  go_wp2_with fail
  refine kv.mono ?_
  rintro e w2 ⟨rfl, rfl⟩
  clear kv
  go_wp2_with fail
  go_step3
  go_wp2_with fail
  have hst : BrAt w2 B cb O l n (.slice (some ⟨ga, 0, none⟩) L capa) ((w2.setCell ⟨ga, n * 3, none⟩ (.bool false)).alloc (.cells #[.int .i64 (n : Int)] 3)) (E0.set n ⟨false, et, eb⟩) (put (fun _ => false) n) [n] (.slice (some ⟨w2.heap.size, 0, none⟩) 1 1) := by
    refine HS.out _ _ (below_new (Below.refl _ _) (Nat.le_refl _) _) ?_
    refine ⟨rfl, Or.inr ⟨w2.heap.size, 1, #[.int .i64 (n : Int)], rfl, Nat.le_refl _, ?_, Nat.le_refl _, by unfold maxLen; omega, rfl, rfl⟩⟩
    have := at_new (w2.setCell ⟨ga, n * 3, none⟩ (.bool false)) (.cells #[.int .i64 (n : Int)] 3)
    rw [HSZ.out] at this
    exact this
  have HST := (show Hid _ from hst)
  clear hst HS HSZ c0 c1 f1 he0 hnL hnLi
  go_loopg [5, 6] (2 * (L - 1) + 1) (fun g s5 s6 wx => ∃ (E : List En) (D : Nat → Bool) (S : List Nat), BrAt w2 B cb O l n (.slice (some ⟨ga, 0, none⟩) L capa) wx E D S s6 ∧ s5 = .int .i64 (cntD D L : Int) ∧ g = 2 * (L - cntD D L) + S.length)
  case atStart => exact ⟨_, _, _, HST.out, by rw [HP1.out]; rfl, by rw [HP1.out]; rfl⟩
  case round =>
    clear HST HP1
    obtain ⟨E, D, S, hb, rfl, hg⟩ := hrel
    have HB := (show Hid _ from hb)
    have HG := (show Hid _ from hg)
    have hbd := hb.bound (by rw [HLL.out]; exact HT.out.1)
    rw [HLL.out] at hbd
    clear hb hg
    rcases List.eq_nil_or_concat S with rfl | ⟨S', j, rfl⟩
    · have hfin := HB.out.pile.last HT.out.2.1 HT.out.2.2
      rw [HLL.out] at hfin
      have HF : Hid (((cntD D L : Nat) : Int) = ((breakD l n).2 : Int) ∧ Went w2 B cb O (breakD l n).1 wr) := ⟨by rw [hfin.1], O, ⟨E, _, HB.out.cs, hfin.2, inv_break HT.out.2.1 _, by
        have h5 : (breakD l n).1.length = l.length := by rw [← hfin.2.len, HB.out.pile.bk.len]
        rw [h5, HLL.out]; exact HT.out.1⟩, HB.out.chg, fun b q => Or.inl q⟩
      obtain ⟨⟨ad, cap, xs⟩, e1, e2, _⟩ := HB.out.stk.sl rtNat.len
      simp only at e2
      subst e2
      unfold Sli.val at e1
      simp only [List.length_nil] at e1
      subst e1
      clear hfin HB HG hbd
      generalize (cntD D L : Int) = z at *
      go_wp2_with fail
      go_ret
      exact ⟨by rw [← HF.out.1]; rfl, HF.out.2⟩
    · rw [List.concat_eq_append] at *
      obtain ⟨gs, cs, rfl, hgs, hgl, hlast, hc1, hc2⟩ := HB.out.stk.last
      obtain ⟨e, he⟩ := HB.out.entry
      have kl := HB.out.lift HO.out e he
      have hm : ((S'.length + 1 : Nat) : Int) ≤ 9223372036854775807 := by unfold maxLen at hc2; omega
      have hcs1 : (S'.length : Int) ≤ cs := by omega
      have hcs2 : (cs : Int) ≤ 9223372036854775807 := by unfold maxLen at hc2; omega
      have HBD := (show Hid _ from hbd)
      clear hgs hgl hc1 hc2 he hbd
      go_wp2_with fail
      refine kl.mono ?_
      rintro ex w3 ⟨rfl, hbi⟩
      have HBI := (show Hid _ from hbi)
      clear kl hbi HB hlast
      go_wp2_with fail
      go_loopg [5, 6, 8] (e.top.toNat) (fun g2 s5 s6 s8 wy => s5 = .int .i64 (cntD D L : Int) ∧ s6 = .slice (some ⟨gs, 0, none⟩) (S'.length + 1) cs ∧ ∃ (E1 : List En) (e1 : En), BiAt w2 B cb O l n (.slice (some ⟨ga, 0, none⟩) L capa) wy E1 D S' j e1 (.slice (some ⟨gs, 0, none⟩) (S'.length + 1) cs) ∧ s8 = .int .i64 e1.top ∧ g2 = e1.top.toNat)
      case atStart => exact ⟨rfl, rfl, E, e, HBI.out, rfl, rfl⟩
      case round =>
        clear HBI
        rename_i wr0 _ _ gk0 _ _ _
        obtain ⟨rfl, rfl, E1, e1, hbi, rfl, hg2⟩ := hrel
        have HBI := (show Hid _ from hbi)
        have HG2 := (show Hid _ from hg2)
        clear hbi hg2
        by_cases h0 : e1.top = 0
        · have hpop := HBI.out.pop h0
          have HPOP := (show Hid _ from hpop)
          rw [h0]
          clear hpop HBI HG2
          go_wp2_with fail
          go_roundg (2 * (L - cntD D L) + S'.length)
          case measure => have h5 := HG.out; rw [List.length_append, List.length_singleton] at h5; omega
          case rel => exact ⟨E1, D, S', HPOP.out, rfl, rfl⟩
        · obtain ⟨k, x, k1, k2, k3, k4, k5, k6, k7, k8⟩ := HBI.out.took h0
          rw [HLL.out] at k6
          obtain ⟨c0, c1, f1, hkL, _, hcs', hch'⟩ := HBI.out.cs.ent (by rw [liftE_len, HBI.out.pile.bk.len, HLL.out]) k5
          have hkLi : (k : Int) < L := by omega
          have hk0 : ((k : Int) != 0) = true := by simp; omega
          rw [k1]
          cases hx : x.ok with
          | false =>
            obtain ⟨b1, b2⟩ := k7 hx
            rw [hx] at c1
            have kl := b1.lift HO.out _ b2
            simp only at kl
            have HK : Hid (x.bes.toNat < k ∧ gk = k) := ⟨by omega, by have := HG2.out; rw [k1, Int.toNat_natCast] at this; exact this⟩
            obtain ⟨gs', cs', es, _, _, hlast, _, _⟩ := b1.stk.last
            cases es
            clear b1 b2 k7 k8 k1 k2 k3 k4 k5 k6 hcs' hch' f1 HBI HG2 h0 hx hkL
            go_wp2_with fail
            refine kl.mono ?_
            rintro ex w4 ⟨rfl, hbi⟩
            have HBI := (show Hid _ from hbi)
            clear kl hbi hlast c0 c1
            go_wp2_with fail
            go_roundg (x.bes.toNat)
            case measure => have h5 := HK.out; omega
            case rel => exact ⟨rfl, rfl, _, _, HBI.out, rfl, rfl⟩
          | true =>
            obtain ⟨b1, b2, b3, b4⟩ := k8 hx
            rw [HLL.out] at b4
            rw [hx] at c1
            have HSTK : Hid (OwnR natC 1 3 w2.heap.size (wr.setCell ⟨ga, k * 3, none⟩ (.bool false)) (.slice (some ⟨gs, 0, none⟩) (S'.length + 1) cs) (S' ++ [j])) := stk_kept HO.out HBI.out.stk hch'
            have HCS : Hid (CsAt (wr.setCell ⟨ga, k * 3, none⟩ (.bool false)) B cb O ((liftE E1 j e1).set k ⟨false, x.top, x.bes⟩) (.slice (some ⟨ga, 0, none⟩) L capa) ∧ Chg O w2 (wr.setCell ⟨ga, k * 3, none⟩ (.bool false)) ∧ Pile ((liftE E1 j e1).set k ⟨false, x.top, x.bes⟩) l n (put D k) (S' ++ [j] ++ [k])) := ⟨hcs', HBI.out.chg.trans hch' (fun _ _ q => q), b3⟩
            have HB4 : Hid (cntD (put D k) L = cntD D L + 1) := b4
            have hz0 : (cntD D L : Int) ≤ 9223372036854775806 := by have := HBD.out.1; omega
            have hz1 : (0 : Int) ≤ (cntD D L : Int) := by omega
            have HZ : Hid (((cntD (put D k) L : Nat) : Int) = (cntD D L : Int) + 1) := by show _ = _; rw [HB4.out]; omega
            have HBX : Hid ((((S' ++ [j]).length + 1) + ((S' ++ [j]).length + 1) / 4 + 192) * 8 ≤ 281474976710656 ∧ (S' ++ [j]).length + 1 ≤ maxLen) := by
              have h5 := HBD.out
              refine ⟨by omega, by unfold maxLen; omega⟩
            clear b1 b2 b3 b4 k7 k8 k1 k2 k3 k4 k5 k6 hcs' hch' HBI HG2 h0 hx hkL
            generalize hzz : (cntD D L : Int) = z at *
            have HZZ := (show Hid _ from hzz)
            clear hzz
            go_upto_region 13 with fail
            generalize hwm : wr.setCell ⟨ga, k * 3, none⟩ (.bool false) = wm at *
            have HWM : Hid (wm.heap.size = wr.heap.size) := by show _ = _; rw [← hwm]; simp
            clear hwm c0 c1 f1
            have HA : Hid (∀ o, Below wm.heap.size wm (wm.alloc o)) := fun o => (Below.refl _ _).alloc (Nat.le_refl _) _
            go_upto_region 14 with fail
            have HSTK2 : Hid (OwnR natC 1 3 w2.heap.size (wm.alloc (.cells #[.int .i64 (k : Int)] 3)) (.slice (some ⟨gs, 0, none⟩) (S'.length + 1) cs) (S' ++ [j])) := HSTK.out.below (HA.out _)
            have HONE : Hid (Sli.ok natC 1 (wm.alloc (.cells #[.int .i64 (k : Int)] 3)) ⟨some ⟨wm.heap.size, 0, none⟩, 1, [k]⟩) := one_sli rtNat (at_new _ _) rfl
            have HSZ : Hid (w2.heap.size ≤ (wm.alloc (.cells #[.int .i64 (k : Int)] 3)).heap.size) := Nat.le_trans HCS.out.2.1.size (HA.out _).size
            go_wp2_with (at_builtin; refine app_row rtNat rfl _ _ rfl w2.heap.size (.slice (some ⟨gs, 0, none⟩) (S'.length + 1) cs) (S' ++ [j]) ?h1 HSTK2.out ⟨some ⟨wm.heap.size, 0, none⟩, 1, [k]⟩ ?h3 HONE.out HBX.out.2 HBX.out.1 HSZ.out ?_)
            case h1 => rfl
            case h3 => rfl
            intro v6 w6 ho6 hg6 hl6
            have hne6 : ∀ b, v6.ownBlock = some b → w2.heap.size ≤ b := fun b hb => (ho6.lt b hb).1
            have hch6 : Chg (fun b => b = gs) wm w6 := (Chg.of_below (HA.out _)).trans (Chg.of_grown (S := fun b => b = gs) hg6 (fun b q => by simp [Value.ownBlock] at q; exact q.symm)) (fun _ _ q => q)
            have hgs2 : ∀ b, O b → ¬ b = gs := fun b q r => by
              have h5 := HO.out b q
              have h6 := (HSTK.out.lt gs rfl).1
              omega
            have HNEW : Hid (BrAt w2 B cb O l n (.slice (some ⟨ga, 0, none⟩) L capa) w6 ((liftE E1 j e1).set k ⟨false, x.top, x.bes⟩) (put D k) (S' ++ [j] ++ [k]) v6) := ⟨HCS.out.2.2, HCS.out.1.kept hch6 hgs2, HCS.out.2.1.trans hch6 (fun i hi q => by
              have h6 := (HSTK.out.lt gs rfl).1
              omega), by rw [List.append_assoc]; exact ho6⟩
            have HCN : Hid (2 * (L - cntD (put D k) L) + (S' ++ [j] ++ [k]).length < 2 * (L - cntD D L) + (S' ++ [j]).length) := by
              show _ < _
              have h5 := HB4.out
              have h6 := cntD_le (put D k) L
              simp only [List.length_append, List.length_singleton]
              omega
            clear ho6 hg6 hl6 hne6 hch6 hgs2 HSTK HSTK2 HCS HONE HSZ HBX HB4 HWM HA
            go_wp2_with fail
            go_roundg (2 * (L - cntD (put D k) L) + (S' ++ [j] ++ [k]).length)
            case measure => have h5 := HG.out; have h6 := HCN.out; omega
            case rel => exact ⟨_, put D k, _, HNEW.out, by rw [HZ.out], rfl⟩

set_option maxRecDepth 100000 in
theorem break_out (w : World) (B cb : Nat) (O : Nat → Prop) (l : List Cel) (E : List En) (v : Value) (h : CsAt w B cb O E v) (n : Int) (hv : vB E n = false) :
    Calls Tryz.prog 94 #[.pointer (some ⟨cb, 0, none⟩), .int .i64 n] w fun ex w' => ex = .returned (.int .i64 0) ∧ w' = w := by
  have kv := valid_at w B cb O E v h n
  rw [hv] at kv
  clear h hv
  go_enter Tryz.func94, Tryz.ntmps94
  go_wp2_with fail
  go_step3
  go_wp2_with fail
  refine kv.mono ?_
  rintro e w2 ⟨rfl, rfl⟩
  clear kv
  go_wp2_with fail
  try rw [Exit.noGoto_ret]
  go_ret
  exact ⟨rfl, rfl⟩

/-- Break -/
theorem break_any (w : World) (B cb : Nat) (O : Nat → Prop) (l : List Cel) (h : Cs w B cb O l) (n : Int) :
    Calls Tryz.prog 94 #[.pointer (some ⟨cb, 0, none⟩), .int .i64 n] w fun ex w' => ex = .returned (.int .i64 ((breakD l n).2 : Int)) ∧ Went w B cb O (breakD l n).1 w' := by
  have h0 := h
  obtain ⟨E, v, h1, h2, h3, h4⟩ := h
  by_cases c : 0 ≤ n ∧ okAt l n.toNat = true
  · obtain ⟨m, rfl⟩ : ∃ m : Nat, n = m := ⟨n.toNat, by omega⟩
    rw [Int.toNat_natCast] at c
    exact break_in w B cb O l E v h1 h2 h3 h4 m c.2
  · rw [break_none c]
    refine (break_out w B cb O l E v h1 n ?_).mono ?_
    · unfold vB
      rw [h2.at']
      by_cases q : 0 ≤ n
      · rw [decide_eq_true q, Bool.true_and]
        cases hh : okAt l n.toNat with
        | false => rfl
        | true => exact absurd ⟨q, hh⟩ c
      · rw [decide_eq_false q, Bool.false_and]
    · rintro ex w' ⟨rfl, rfl⟩
      exact ⟨rfl, Went.same h0 (Below.refl _ _)⟩

/-- Valid, Count -/
def validD (l : List Cel) (n : Int) : Bool := decide (0 ≤ n) && okAt l n.toNat

theorem valid_any (w : World) (B cb : Nat) (O : Nat → Prop) (l : List Cel) (h : Cs w B cb O l) (n : Int) :
    Calls Tryz.prog 118 #[.pointer (some ⟨cb, 0, none⟩), .int .i64 n] w fun e w' => e = .returned (.bool (validD l n)) ∧ w' = w := by
  obtain ⟨E, v, h1, h2, h3, h4⟩ := h
  have := valid_at w B cb O E v h1 n
  unfold vB at this
  rw [h2.at'] at this
  exact this

theorem count_any (w : World) (B cb : Nat) (O : Nat → Prop) (l : List Cel) (h : Cs w B cb O l) :
    Calls Tryz.prog 130 #[.pointer (some ⟨cb, 0, none⟩)] w fun e w' => e = .returned (.int .i64 (l.length : Int)) ∧ w' = w := by
  obtain ⟨E, v, h1, h2, h3, h4⟩ := h
  have := count_at w B cb O E v h1
  rw [h2.len] at this
  exact this

set_option maxRecDepth 100000 in
theorem new_any (w : World) : Calls Tryz.prog 30 #[] w fun e w' => e = .returned (.pointer (some ⟨w.heap.size, 0, none⟩)) ∧ Cs w' w.heap.size w.heap.size (fun b => b = w.heap.size) [] ∧ Below w.heap.size w w' := by
  have HC : Hid (Cs (w.alloc (.cells #[.slice none 0 0] 132)) w.heap.size w.heap.size (fun b => b = w.heap.size) [] ∧ Below w.heap.size w (w.alloc (.cells #[.slice none 0 0] 132))) := ⟨⟨[], .slice none 0 0, ⟨at_new _ _, OwnR.nil _ _, Nat.le_refl _, by simp [Value.ownBlock], fun b => by simp [Value.ownBlock]⟩, rl_nil, inv_nil, Nat.zero_le _⟩, below_new (Below.refl _ _) (Nat.le_refl _) _⟩
  go_enter Tryz.func30, Tryz.ntmps30
  go_wp2_with fail
  go_ret
  exact ⟨rfl, HC.out⟩

end Go.Proofs.YtahhionlbfhinaaGreatDoor.Ce
