/- The document's Break. -/
import Derived.Test.YtjahkjkkjccmgaaCO
namespace Go.Proofs.Ytjahkjkkjccmgaa.Ce
open Go.RowKit
set_option linter.unusedVariables false

theorem round_yes {i : Nat} {r : List Cel × Nat} {c d : Cel} (hc : r.1[i]? = some c) (h1 : c.ok = true) (h2 : 0 ≤ c.on) (h3 : c.on < (i : Int)) (hd : r.1[c.on.toNat]? = some d) (h4 : d.ok = false) : roundD i r = (r.1.set i ⟨false, c.on⟩, r.2 + 1) := by
  unfold roundD
  rw [hc]
  simp only
  rw [if_pos ⟨h1, h2, h3, by rw [hd]; exact h4⟩]

theorem round_no {i : Nat} {r : List Cel × Nat} {c : Cel} (hc : r.1[i]? = some c) (h : ¬ (c.ok = true ∧ 0 ≤ c.on ∧ c.on < (i : Int) ∧ ((r.1[c.on.toNat]?).map Cel.ok).getD true = false)) : roundD i r = r := by
  unfold roundD
  rw [hc]
  simp only
  rw [if_neg h]

theorem round_len (i : Nat) (r : List Cel × Nat) : (roundD i r).1.length = r.1.length ∧ (roundD i r).2 ≤ r.2 + 1 := by
  unfold roundD
  split
  · exact ⟨rfl, by omega⟩
  · split
    · exact ⟨by simp, Nat.le_refl _⟩
    · exact ⟨rfl, by omega⟩

/-- on the way: i is next -/
structure RbAt (w : World) (l : List Cel) (n : Nat) (wr : World) (v : Value) (i : Nat) (r : List Cel × Nat) : Prop where
  len : r.1.length = l.length
  lo : n < i
  hi : i ≤ l.length
  cnt : r.2 ≤ i
  fin : roundsD i (l.length - i) r = breakD l n
  own : OwnR celC 2 34 w.heap.size wr v r.1
  bel : Below w.heap.size w wr

theorem RbAt.next {w : World} {l : List Cel} {n : Nat} {wr w' : World} {v : Value} {i : Nat} {r : List Cel × Nat} (h : RbAt w l n wr v i r) (hi : i < l.length) (ho : OwnR celC 2 34 w.heap.size w' v (roundD i r).1) (hb : Below w.heap.size w w') : RbAt w l n w' v (i + 1) (roundD i r) := by
  have h1 := round_len i r
  refine ⟨h1.1.trans h.len, by have := h.lo; omega, hi, by have := h.cnt; omega, ?_, ho, hb⟩
  have h2 := h.fin
  rw [show l.length - i = (l.length - (i + 1)) + 1 by omega, roundsD] at h2
  exact h2

set_option maxRecDepth 100000 in
set_option maxHeartbeats 8000000 in
theorem rbreak_in (B : Nat) (w : World) (v : Value) (l : List Cel) (h : OwnR celC 2 34 B w v l) (ht : l.length ≤ top) (n : Nat) (hn : okAt l n = true) :
    Calls Try.prog 11 #[v, .int .i64 (n : Int)] w fun e w' => ∃ v', e = .returned (.tuple #[v', .int .i64 ((breakD l n).2 : Int)]) ∧ OwnR celC 2 34 w.heap.size w' v' (breakD l n).1 ∧ Below w.heap.size w w' := by
  obtain ⟨⟨sa, sc, sx⟩, rfl, hx, hok, _⟩ := h.sl rtCel.len
  simp only at hx
  subst hx
  unfold Sli.val
  simp only
  have hl1 := hok.len
  have hl2 := hok.cap
  simp only at hl1 hl2
  have hnl := ok_lt hn
  obtain ⟨b, off, e1, hc⟩ := hok.cells (by intro e; simp only at e; rw [e] at hnl; simp at hnl)
  simp only at e1
  subst e1
  have hex : ∃ c, sx[n]? = some c := ⟨_, List.getElem?_eq_getElem hnl⟩
  obtain ⟨c, hcx⟩ := hex
  have c0 := hc n c hcx 0 _ rfl
  rw [Nat.add_zero] at c0
  have hco : c.ok = true := by unfold okAt at hn; rw [hcx] at hn; exact hn
  rw [hco] at c0
  have hlim : (sx.length : Int) ≤ 8796093022208 := by unfold top at ht; omega
  have hlim2 : (sx.length : Int) ≤ 9223372036854775806 := by omega
  have hnL : (n : Int) < sx.length := by omega
  have HBX : Hid (sx.length ≤ 8796093022208) := ht
  have HA0 : Hid (Below w.heap.size w (w.alloc (.cells #[] 34))) := (Below.refl _ _).alloc (Nat.le_refl _) _
  have HOK0 : Hid (Sli.ok celC 2 (w.alloc (.cells #[] 34)) ⟨some ⟨b, off, none⟩, sc, sx⟩) := hok.kept (cells_below HA0.out)
  have HC : Hid (sx[n]? = some c ∧ n < sx.length) := ⟨hcx, hnl⟩
  have HE : Hid (breakD sx n = roundsD (n + 1) (sx.length - (n + 1)) (sx.set n ⟨false, c.on⟩, 1)) := by
    show _ = _
    unfold breakD
    rw [if_pos ⟨by omega, by rw [Int.toNat_natCast]; exact hn⟩, Int.toNat_natCast, hcx]
  clear h hok hl1 hl2 ht hc hcx hn hnl hlim hco
  go_enter Try.func11, Try.ntmps11
  go_wp2_with (at_builtin; refine app_row rtCel rfl _ _ rfl w.heap.size (.slice (some ⟨w.heap.size, 0, none⟩) 0 0) [] rfl (empty_own (at_new _ _) (Nat.le_refl _)) ⟨some ⟨b, off, none⟩, sc, sx⟩ rfl HOK0.out ?o3 ?o4 ?o5 ?_)
  case o3 => have := HBX.out; unfold maxLen; (try simp only [List.length_nil]); omega
  case o4 => have := HBX.out; (try simp only [List.length_nil]); omega
  intro v1 w1 ho1 hg1 hl1
  have hb1 : Below w.heap.size w w1 := Chg.below (Chg.of_grown (S := fun b => b = w.heap.size) hg1 (fun k q => by simp [Value.ownBlock] at q; exact q.symm)) HA0.out HA0.out.size (fun k q => by omega)
  have ho1' : OwnR celC 2 34 w.heap.size w1 v1 sx := ho1
  obtain ⟨g, cap, rfl, hbg, _⟩ := World.ownsRow.form ho1' (by have := HC.out.2; omega)
  obtain ⟨_, _, hgl, hlc, hcm, hcell, hfz⟩ := ho1'.read rtCel.len
  have d0 := hcell n c HC.out.1 0 _ rfl
  rw [Nat.add_zero] at d0
  have f0 := hfz (n * 2)
  have hst : RbAt w sx n (w1.setCell ⟨g, n * 2, none⟩ (.bool false)) (.slice (some ⟨g, 0, none⟩) sx.length cap) (n + 1) (sx.set n ⟨false, c.on⟩, 1) := by
    refine ⟨by simp, by omega, HC.out.2, by simp, by rw [HE.out], ?_, hb1.setCell (p := ⟨g, n * 2, none⟩) hbg _⟩
    have := ho1'.put (j := 0) (y' := ⟨false, c.on⟩) (u := .bool false) rtCel.len HC.out.1 (by omega) rfl
    rw [Nat.add_zero] at this
    exact this
  have HST := (show Hid _ from hst)
  clear ho1 hg1 hl1 ho1' hst hb1 hcell hfz HOK0 HA0 HE hlc hcm c0 hbg
  go_wp2_with fail
  go_loopw [7, 8] (fun s7 s8 wr => ∃ (i : Nat) (r : List Cel × Nat), RbAt w sx n wr (.slice (some ⟨g, 0, none⟩) sx.length cap) i r ∧ s7 = .int .i64 (r.2 : Int) ∧ s8 = .int .i64 (i : Int)) (fun s7 s8 wr => sx.length - (intOf s8).toNat)
  case atStart => exact ⟨n + 1, _, HST.out, rfl, rfl⟩
  case round =>
    clear HST d0 f0
    obtain ⟨i, r, hrb, rfl, rfl⟩ := hrel
    have HR := (show Hid _ from hrb)
    have hi1 := hrb.hi
    have hi0 := hrb.lo
    have hr2 := hrb.cnt
    clear hrb
    rcases Nat.lt_or_ge i sx.length with q | q
    · have hex : ∃ c, r.1[i]? = some c := ⟨_, List.getElem?_eq_getElem (by rw [HR.out.len]; exact q)⟩
      obtain ⟨c, hci⟩ := hex
      obtain ⟨_, hbg, hgl2, hlc, hcm, hcell, hfz⟩ := HR.out.own.read rtCel.len
      have x0 := hcell i c hci 0 _ rfl
      have x1 := hcell i c hci 1 _ rfl
      rw [Nat.add_zero] at x0
      have f0 := hfz (i * 2)
      have hil : (i : Int) < sx.length := by omega
      have hrl : (r.2 : Int) ≤ 9223372036854775806 := by omega
      have HNO : Hid (¬ (c.ok = true ∧ 0 ≤ c.on ∧ c.on < (i : Int) ∧ ((r.1[c.on.toNat]?).map Cel.ok).getD true = false) → RbAt w sx n wr (.slice (some ⟨g, 0, none⟩) sx.length cap) (i + 1) r) := fun hno => by
        have := HR.out.next q (w' := wr) (by rw [round_no hci hno]; exact HR.out.own) HR.out.bel
        rw [round_no hci hno] at this
        exact this
      have hdd : 0 ≤ c.on → c.on < (i : Int) → ∃ d, r.1[c.on.toNat]? = some d ∧ wr.cell? ⟨g, c.on.toNat * 2, none⟩ = some (.bool d.ok) := fun q1 q2 => by
        have hl : c.on.toNat < r.1.length := by rw [HR.out.len]; omega
        exact ⟨_, List.getElem?_eq_getElem hl, hcell _ _ (List.getElem?_eq_getElem hl) 0 _ rfl⟩
      have HDD := (show Hid _ from hdd)
      have HYES : Hid (∀ d, r.1[c.on.toNat]? = some d → c.ok = true → 0 ≤ c.on → c.on < (i : Int) → d.ok = false → RbAt w sx n (wr.setCell ⟨g, i * 2, none⟩ (.bool false)) (.slice (some ⟨g, 0, none⟩) sx.length cap) (i + 1) (r.1.set i ⟨false, c.on⟩, r.2 + 1)) := fun d hd a1 a2 a3 a4 => by
        have e5 := round_yes hci a1 a2 a3 hd a4
        have o5 := HR.out.own.put (j := 0) (y' := ⟨false, c.on⟩) (u := .bool false) rtCel.len hci (by omega) rfl
        rw [Nat.add_zero] at o5
        have := HR.out.next q (w' := wr.setCell ⟨g, i * 2, none⟩ (.bool false)) (by rw [e5]; exact o5) (HR.out.bel.setCell (p := ⟨g, i * 2, none⟩) hbg _)
        rw [e5] at this
        exact this
      obtain ⟨r1, r2⟩ := r
      obtain ⟨co, cn⟩ := c
      simp only at *
      clear hcell hfz hdd hci hlc hcm hgl2 hbg HR
      have fin : True := trivial
      cases co with
      | false =>
        have HN := HNO.out (by simp)
        have HN2 := (show Hid _ from HN)
        clear HN HNO HYES HDD
        go_wp2_with fail
        refine ⟨⟨i + 1, _, HN2.out, rfl, by go_num⟩, ?_⟩
        simp [intOf]
        omega
      | true =>
        by_cases a1 : 0 ≤ cn
        · by_cases a2 : cn < (i : Int)
          · obtain ⟨m, rfl⟩ : ∃ m : Nat, cn = m := ⟨cn.toNat, by omega⟩
            obtain ⟨d, d1, d2⟩ := HDD.out a1 a2
            rw [Int.toNat_natCast] at d1 d2 HYES HNO
            have hml : (m : Int) < sx.length := by omega
            cases hdo : d.ok with
            | false =>
              have HY := HYES.out d d1 rfl a1 a2 hdo
              have HY2 := (show Hid _ from HY)
              rw [hdo] at d2
              clear HY HNO HYES HDD d1 hdo
              go_wp2_with fail
              refine ⟨⟨i + 1, _, HY2.out, by go_num, by go_num⟩, ?_⟩
              simp [intOf]
              omega
            | true =>
              have HN := HNO.out (by rw [d1]; simp [hdo])
              have HN2 := (show Hid _ from HN)
              rw [hdo] at d2
              clear HN HNO HYES HDD d1 hdo
              go_wp2_with fail
              refine ⟨⟨i + 1, _, HN2.out, rfl, by go_num⟩, ?_⟩
              simp [intOf]
              omega
          · have HN := HNO.out (by omega)
            have HN2 := (show Hid _ from HN)
            clear HN HNO HYES HDD
            go_wp2_with fail
            refine ⟨⟨i + 1, _, HN2.out, rfl, by go_num⟩, ?_⟩
            simp [intOf]
            omega
        · have HN := HNO.out (by omega)
          have HN2 := (show Hid _ from HN)
          clear HN HNO HYES HDD
          go_wp2_with fail
          refine ⟨⟨i + 1, _, HN2.out, rfl, by go_num⟩, ?_⟩
          simp [intOf]
          omega
    · have hil : ¬ (i : Int) < sx.length := by omega
      have hf := HR.out.fin
      rw [show sx.length - i = 0 by omega, roundsD] at hf
      have HF : Hid (r = breakD sx n) := hf
      clear hf
      go_wp2_with fail
      go_ret2
      rw [← HF.out]
      exact ⟨_, rfl, HR.out.own, HR.out.bel⟩

set_option maxRecDepth 100000 in
theorem rbreak_out (B : Nat) (w : World) (v : Value) (l : List Cel) (h : OwnR celC 2 34 B w v l) (n : Int) (hn : ¬ (0 ≤ n ∧ okAt l n.toNat = true)) :
    Calls Try.prog 11 #[v, .int .i64 n] w fun e w' => e = .returned (.tuple #[v, .int .i64 0]) ∧ w' = w := by
  obtain ⟨⟨sa, sc, sx⟩, rfl, hx, hok, _⟩ := h.sl rtCel.len
  simp only at hx
  subst hx
  unfold Sli.val
  simp only
  have hl1 := hok.len
  have hl2 := hok.cap
  simp only at hl1 hl2
  have hlim : (sx.length : Int) ≤ 9223372036854775807 := by unfold maxLen at hl2; omega
  by_cases c0 : n < 0
  · clear h hok hl1 hl2 hn
    go_enter Try.func11, Try.ntmps11
    go_wp2_with fail
    go_ret2
    exact ⟨rfl, rfl⟩
  · by_cases c1 : (sx.length : Int) ≤ n
    · clear h hok hl1 hl2 hn
      go_enter Try.func11, Try.ntmps11
      go_wp2_with fail
      go_ret2
      exact ⟨rfl, rfl⟩
    · obtain ⟨m, rfl⟩ : ∃ m : Nat, n = m := ⟨n.toNat, by omega⟩
      have hml : m < sx.length := by omega
      obtain ⟨b, off, e1, hc⟩ := hok.cells (by intro e; simp only at e; rw [e] at hml; simp at hml)
      simp only at e1
      subst e1
      have d0 := hc m _ (List.getElem?_eq_getElem hml) 0 _ rfl
      have hf : (sx[m]).ok = false := by
        cases q : (sx[m]).ok with
        | false => rfl
        | true =>
          refine absurd ⟨by omega, ?_⟩ hn
          unfold okAt
          rw [Int.toNat_natCast, List.getElem?_eq_getElem hml]
          exact q
      rw [hf, Nat.add_zero] at d0
      have hmL : (m : Int) < sx.length := by omega
      clear h hok hl1 hl2 hn hc hf
      go_enter Try.func11, Try.ntmps11
      go_wp2_with fail
      go_ret2
      exact ⟨rfl, rfl⟩

/-- the document's Break -/
theorem rbreak_any (B : Nat) (w : World) (v : Value) (l : List Cel) (h : OwnR celC 2 34 B w v l) (hB : B ≤ w.heap.size) (ht : l.length ≤ top) (n : Int) :
    Calls Try.prog 11 #[v, .int .i64 n] w fun e w' => ∃ v', e = .returned (.tuple #[v', .int .i64 ((breakD l n).2 : Int)]) ∧ OwnR celC 2 34 B w' v' (breakD l n).1 ∧ Below w.heap.size w w' ∧ ∀ b, v'.ownBlock = some b → v.ownBlock = some b ∨ w.heap.size ≤ b := by
  by_cases c : 0 ≤ n ∧ okAt l n.toNat = true
  · obtain ⟨m, rfl⟩ : ∃ m : Nat, n = m := ⟨n.toNat, by omega⟩
    rw [Int.toNat_natCast] at c
    refine (rbreak_in B w v l h ht m c.2).mono ?_
    rintro e w' ⟨v', rfl, g1, g2⟩
    exact ⟨v', rfl, g1.low hB, g2, fun b hb => Or.inr (g1.lt b hb).1⟩
  · rw [break_none c]
    refine (rbreak_out B w v l h n c).mono ?_
    rintro e w' ⟨rfl, rfl⟩
    exact ⟨v, rfl, h, Below.refl _ _, fun b hb => Or.inl hb⟩

end Go.Proofs.Ytjahkjkkjccmgaa.Ce
