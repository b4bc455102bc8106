/- PJ, PM, PN -/
import Derived.Test.YtkpdpdllbnihgaaGreatB29
set_option linter.unusedVariables false
set_option linter.unusedSimpArgs false
set_option maxRecDepth 100000
set_option maxHeartbeats 40000000
/- properties: the walk. -/
namespace Go.Proofs.YtkpdpdllbnihgaaGreat.Sp
open Go.RowKit Go.Proofs.YtkpdpdllbnihgaaGreat.Hp
theorem info156 : (Tryz.prog.info? 156).map (fun i => (i.zero, i.size, i.bytes)) = some (some (.agg #[.string ⟨#[]⟩, .int .i64 0, .bool false]), 3, 32) := by kernel_rfl
structure PpAt (w wr : World) (L : List Sh) (S : Sh) (g i : Nat) : Prop where
  at' : ∃ y ps, L[i]? = some y ∧ PrInv ps y S ∧ PrAt wr g ps
  bel : Below w.heap.size w wr
set_option maxRecDepth 100000 in
set_option maxHeartbeats 4000000 in
theorem props_any (w : World) (B tb : Nat) (O : Nat → Prop) (most : Int) (L : List Sh) (h : Tree w B tb O most L) (j : Nat) (S : Sh) (hS : L[j]? = some S) :
    Calls Tryz.prog 102 #[.pointer (some ⟨tb, 0, none⟩), .int .i64 (j : Int)] w fun e w' => ∃ g, e = .returned (.slice (some ⟨g, 0, none⟩) S.ks.length S.ks.length) ∧ PrAt w' g (propsOf S) ∧ w.heap.size ≤ g ∧ Below w.heap.size w w' := by
  obtain ⟨T, v, mb, h⟩ := h
  have hcap := h.cap
  obtain ⟨b, off, cap, l, c1, hc0, hw0, hpr, hsz, hj, hlim, hlen⟩ := h.lay hS
  have d6 := hc0 6 _ rfl
  rw [hsz] at d6
  obtain ⟨⟨ad, cap', xs⟩, rfl, h2, h3, _, c1', _⟩ := h.open
  simp only at h2
  subst h2
  obtain ⟨b', off', e1, hc⟩ := h3.cells (by intro e; simp only at e; rw [e] at hj; simp at hj)
  simp only at e1 c1'
  subst e1
  rw [c1] at c1'
  simp only [Option.some.injEq, Value.slice.injEq, Addr.mk.injEq, and_true, true_and] at c1'
  obtain ⟨⟨rfl, rfl⟩, rfl⟩ := c1'
  have hfin := h.rel.fin hS
  have hkl := hfin.kl
  have hks : (S.ks.length : Int) ≤ 1700000000000 := by unfold top at hcap; omega
  have HKS : Hid (S.ks.length ≤ 1700000000000) := by show _ ≤ _; omega
  have hjj : (j : Int) < xs.length := by omega
  have HR : Hid (Rel xs L ∧ (∀ x ∈ xs, x.wf)) := ⟨h.rel, h.wf⟩
  have HC : Hid (∀ (i : Nat) (y : Ly), xs[i]? = some y → ∀ (j : Nat) (u : Value), (lyC y)[j]? = some u → w.cell? ⟨b, off + i * 7 + j, none⟩ = some u) := hc
  have HT : Hid (w.cell? ⟨tb, 1, none⟩ = some (.slice (some ⟨b, off, none⟩) xs.length cap)) := c1
  have HF : Hid (S.fs.length = S.ks.length) := hfin.fl
  have HI : Hid (∀ w1, PrAt w1 w.heap.size (List.replicate S.ks.length ⟨⟨#[]⟩, 0, false⟩) → Below w.heap.size w w1 → PpAt w w1 L S w.heap.size j) := fun w1 h1 h2 => ⟨⟨S, _, hS, PrInv.start S, h1⟩, h2⟩
  obtain ⟨i0, hi, hz0, hz1, hz2⟩ := info_parts info156
  have HBLT : Hid (b < w.heap.size ∧ tb < w.heap.size) := ⟨World.block_lt_of_cell? w _ (hc0 0 _ rfl), World.block_lt_of_cell? w _ c1⟩
  clear h h3 hc hc0 hw0 hpr hsz hfin hcap hkl hS
  generalize hN : S.ks.length = N at *
  go_enter Tryz.func102, Tryz.ntmps102
  go_wp2_with (at_make; refine wpList_make_full _ rfl _ _ 153 rfl w.heap.size 156 i0 (.agg #[.string ⟨#[]⟩, .int .i64 0, .bool false]) 3 Tryz.underlying153 hi hz0 hz1 _ _ _ _ N rfl rfl (by omega) (by omega) ?m1 ?m2 (Nat.le_refl _) ?_)
  case m1 => rw [hz2]; omega
  case m2 => unfold maxLen; omega
  intro w1 hmade hg1
  have hst := HI.out w1 (prAt_made hmade) (below_grown hg1)
  have c1b := cells_below (below_grown hg1) _ _ HT.out
  have HST := (show Hid _ from hst)
  clear hmade hg1 HI hi hz0 hz1 hz2 c1 d6 hst
  go_wp2_with fail
  go_loopw [6] (fun p wr => ∃ i : Nat, PpAt w wr L S w.heap.size i ∧ p = .pointer (some ⟨b, off + i * 7, none⟩)) (fun p wr => offOf p)
  case atStart => exact ⟨j, HST.out, rfl⟩
  case round =>
    clear HST c1b hjj hj
    obtain ⟨i, hr, rfl⟩ := hrel
    have HB : Hid (Below w.heap.size w wr) := hr.bel
    obtain ⟨y, ps, hy, hq, hps⟩ := hr.at'
    have hix : i < xs.length := by rw [HR.out.1.len]; exact (List.getElem?_eq_some_iff.1 hy).1
    have hex : ∃ x, xs[i]? = some x := ⟨_, List.getElem?_eq_getElem hix⟩
    obtain ⟨x, hx⟩ := hex
    have hcc := HC.out i x hx
    have d0 := cells_below HB.out _ _ (hcc 0 _ rfl)
    have d2 := cells_below HB.out _ _ (hcc 2 _ rfl)
    have d3 := cells_below HB.out _ _ (hcc 3 _ rfl)
    have d4 := cells_below HB.out _ _ (hcc 4 _ rfl)
    have d5 := cells_below HB.out _ _ (hcc 5 _ rfl)
    have c1 := cells_below HB.out _ _ HT.out
    rw [Nat.add_zero] at d0
    have hw := HR.out.2 x (List.mem_of_getElem? hx)
    have hfq := hq.step HR.out.1 hx hy
    have hf := hw.fr
    have hsl := hw.sl
    have HPS : Hid (PrAt wr w.heap.size ps ∧ ps.length = N) := ⟨hps, by rw [hq.len, hN]⟩
    have HDN : Hid (y.ks = [] → ps = propsOf S) := fun e => hq.done (by rw [hN]; exact HF.out) e
    clear hr hcc hq hw hps
    obtain ⟨xk, xp, xf, xe, xl, xs', xz⟩ := x
    simp only at *
    rcases hfq with ⟨h1, h2⟩ | ⟨h1, h2, p, q, h3, h4, h5, h6⟩
    · subst h1
      have HE : Hid (ps = propsOf S) := HDN.out h2
      clear HR HC HT HDN hy h2 hx
      go_wp2_with fail
      go_ret
      refine ⟨_, rfl, ?_, Nat.le_refl _, HB.out⟩
      rw [← HE.out]
      exact HPS.out.1
    · have hk0 : ((xk : Int) == 0) = false := by simp; omega
      have hk1 : ¬ (xk : Int) = 0 := by omega
      have hfx : (xf : Int) < xs.length := by have := HR.out.1.len; omega
      have hsx : (xs' : Int) < N := by have := HPS.out.2; omega
      obtain ⟨p2, f2⟩ := HPS.out.1.cell xs' p h3 2 _ rfl
      obtain ⟨p0, f0⟩ := HPS.out.1.cell xs' p h3 0 _ rfl
      obtain ⟨p1, f1⟩ := HPS.out.1.cell xs' p h3 1 _ rfl
      rw [Nat.add_zero] at p0 f0
      have HLT : Hid (xs' < ps.length ∧ L[xf]? = some q) := ⟨h2, h5⟩
      have hnb : ¬ b = w.heap.size := by have := HBLT.out.1; omega
      have hnt : ¬ tb = w.heap.size := by have := HBLT.out.2; omega
      rcases h6 with ⟨h6, h7⟩ | ⟨h6, h7⟩
      · rw [h6] at p2
        have HN : Hid (∀ w5, PrAt w5 w.heap.size ps → Below w.heap.size w w5 → PpAt w w5 L S w.heap.size xf) := fun w5 h1 h2 => ⟨⟨q, ps, HLT.out.2, h7, h1⟩, h2⟩
        clear HR HC HT HDN hy h7 h5 h3 hx
        go_wp2_with fail
        go_region
        all_goals
          go_wp2_with fail
          refine ⟨⟨xf, HN.out _ (HPS.out.1.kept (S := fun _ => False) (Chg.of_below (Below.refl _ _).drew) id) HB.out.drew, rfl⟩, ?_⟩
          simp [offOf]
          omega
      · rw [h6] at p2
        have HN : Hid (∀ w5, PrAt w5 w.heap.size (ps.set xs' ⟨xe, xl, true⟩) → Below w.heap.size w w5 → PpAt w w5 L S w.heap.size xf) := fun w5 h1 h2 => ⟨⟨q, _, HLT.out.2, h7, h1⟩, h2⟩
        have HX : Hid (xs[i]? = some ⟨xk, xp, xf, xe, xl, xs', xz⟩) := hx
        clear HR HDN hy h7 h5 h3 hx
        go_wp2_with fail
        go_region
        go_upto_region 4 with fail
        obtain ⟨w6, hw6⟩ : ∃ w6, w6 = (((wr.setCell ⟨w.heap.size, xs' * 3, none⟩ (.string xe)).setCell ⟨w.heap.size, xs' * 3 + 1, none⟩ (.int .i64 xl)).setCell ⟨w.heap.size, xs' * 3 + 2, none⟩ (.bool true)).drew := ⟨_, rfl⟩
        have hb6 : Below w.heap.size w w6 := by
          rw [hw6]
          exact (((HB.out.setCell (p := ⟨w.heap.size, xs' * 3, none⟩) (Nat.le_refl _) _).setCell (p := ⟨w.heap.size, xs' * 3 + 1, none⟩) (Nat.le_refl _) _).setCell (p := ⟨w.heap.size, xs' * 3 + 2, none⟩) (Nat.le_refl _) _).drew
        have hp6 : PrAt w6 w.heap.size (ps.set xs' ⟨xe, xl, true⟩) := by
          rw [hw6]
          exact HPS.out.1.put xs' ⟨xe, xl, true⟩ HLT.out.1
        have HN6 : Hid (PpAt w w6.drew L S w.heap.size xf) := HN.out _ (hp6.kept (S := fun _ => False) (Chg.of_below (Below.refl _ _).drew) id) hb6.drew
        have hcc := HC.out i _ HX.out
        have d0 := cells_below hb6 _ _ (hcc 0 _ rfl)
        have d2 := cells_below hb6 _ _ (hcc 2 _ rfl)
        have c1 := cells_below hb6 _ _ HT.out
        rw [Nat.add_zero] at d0
        simp only at d0 d2
        rw [← hw6]
        clear hw6 hb6 hp6 HN hcc HPS HB HC HT HLT HX p0 p1 p2 f0 f1 f2 d3 d4 d5
        go_wp2_with fail
        go_region
        all_goals
          go_wp2_with fail
          refine ⟨⟨xf, HN6.out, rfl⟩, ?_⟩
          simp [offOf]
          omega
end Go.Proofs.YtkpdpdllbnihgaaGreat.Sp
/- Move, New. -/
namespace Go.Proofs.YtkpdpdllbnihgaaGreat.Sp
open Go.RowKit Go.Proofs.YtkpdpdllbnihgaaGreat.Hp
theorem props_at {S : Sh} (hf : S.fs.length = S.ks.length) (i : Nat) (hi : i < S.ks.length) : ∃ k f, S.ks[i]? = some k ∧ S.fs[i]? = some f ∧ (propsOf S)[i]? = some ⟨k, f, true⟩ := by
  have h1 := List.getElem?_eq_getElem hi
  have h2 := List.getElem?_eq_getElem (show i < S.fs.length by omega)
  refine ⟨_, _, h1, h2, ?_⟩
  unfold propsOf
  rw [List.getElem?_map, show (S.ks.zip S.fs)[i]? = some (S.ks[i], S.fs[i]'(by omega)) from List.getElem?_zip_eq_some.2 ⟨h1, h2⟩]
  rfl
theorem lay_false (most : Int) (L : List Sh) (s : Sh) (h : (layD most L s).2.2 = false) : (layD most L s).2.1 = 0 := by
  unfold layD at *
  cases e : hit L s with
  | some i => rw [e] at h; simp at h
  | none =>
    rw [e] at h
    simp only at *
    split
    · rfl
    · rename_i c
      rw [if_neg c] at h
      simp at h
theorem lay_len (most : Int) (L : List Sh) (s : Sh) : (layD most L s).1.length ≤ L.length + 1 ∧ L.length ≤ (layD most L s).1.length := by
  unfold layD
  cases hit L s with
  | some i => simp
  | none =>
    simp only
    split <;> simp
theorem lay_at {T : List Ly} {L : List Sh} (h : Rel T L) {l : Ly} {s : Sh} (hp : Pair L L.length l s) (most : Int) (ho : (layD most L s).2.2 = true) : ∃ m : Nat, (layD most L s).2.1 = (m : Int) ∧ (layD most L s).1[m]? = some s := by
  unfold layD at *
  cases e : hit L s with
  | some i =>
    obtain ⟨y, g1, g2, g3, _⟩ := hit_some e
    obtain ⟨x, k1, _⟩ := h.at' g1
    have hs := (step_iff h (Nat.le_refl _) hp k1 g1)
    have := hs.2 (hs.1.2 ⟨g2, g3⟩)
    exact ⟨i, rfl, by simp only; rw [g1, this]⟩
  | none =>
    rw [e] at ho
    simp only at *
    by_cases c : most ≤ (L.length : Int)
    · rw [if_pos c] at ho
      simp at ho
    · rw [if_neg c]
      exact ⟨L.length, rfl, by simp⟩
theorem mov_stop (most : Int) (l : List (ByteArray × Int)) (r : List Sh × Int × Bool) (h : r.2.2 = false) : movD most l r = r := by
  cases l with
  | nil => rfl
  | cons x l => rw [movD, h]; rfl
theorem add_lay {L : List Sh} {m : Nat} {q : Sh} (hq : L[m]? = some q) {k : ByteArray} (hn : idx q.ks k = none) (most : Int) (f : Int) : addD most L m k f = layD most L (grow q k f) := by
  have hs : shOf L (m : Int) = some q := by unfold shOf; rw [if_pos (by omega), Int.toNat_natCast]; exact hq
  unfold addD
  rw [hs]
  simp only
  rw [hn]
/-- on the way, at key i: r, and the shape that it comes to -/
structure MvP (most : Int) (L : List Sh) (S : Sh) (R : List Sh × Int × Bool) (i : Nat) (r : List Sh × Int × Bool) : Prop where
  le : i ≤ S.ks.length
  val : R = movD most ((S.ks.zip S.fs).drop i) r
  len : r.1.length ≤ L.length + 1 + i
  no : r.2.2 = false → r.2.1 = 0
  yes : r.2.2 = true → ∃ (m : Nat) (q : Sh), r.2.1 = (m : Int) ∧ r.1[m]? = some q ∧ q.ks = S.ks.take i
theorem zip_drop {S : Sh} {i : Nat} {k : ByteArray} {f : Int} (h1 : S.ks[i]? = some k) (h2 : S.fs[i]? = some f) : (S.ks.zip S.fs).drop i = (k, f) :: (S.ks.zip S.fs).drop (i + 1) := by
  have h3 : (S.ks.zip S.fs)[i]? = some (k, f) := List.getElem?_zip_eq_some.2 ⟨h1, h2⟩
  obtain ⟨h4, h5⟩ := List.getElem?_eq_some_iff.1 h3
  rw [List.drop_eq_getElem_cons h4, h5]
/-- a key that stands behind others is none of them -/
theorem key_new {S : Sh} {n : Nat} (hf : Fine S n) {i : Nat} {k : ByteArray} (h : S.ks[i]? = some k) : idx (S.ks.take i) k = none := by
  refine idx_no (fun j hj => ?_)
  rw [List.getElem?_take] at hj
  split at hj
  · rename_i c
    have := (idx_some (hf.own i k h)).2 j c
    exact this hj
  · cases hj
theorem MvP.next {T : List Ly} {most : Int} {L : List Sh} {S : Sh} {R r : List Sh × Int × Bool} {i n : Nat} (h : MvP most L S R i r) (hf : Fine S n) (hr : Rel T r.1) {m : Nat} {q : Sh} {k : ByteArray} {f : Int} (ho : r.2.2 = true) (hm : r.2.1 = (m : Int)) (hq : r.1[m]? = some q) (hqk : q.ks = S.ks.take i) (h1 : S.ks[i]? = some k) (h2 : S.fs[i]? = some f) :
    idx q.ks k = none ∧ MvP most L S R (i + 1) (layD most r.1 (grow q k f)) := by
  have hn : idx q.ks k = none := by rw [hqk]; exact key_new hf h1
  have hl : m < r.1.length := (List.getElem?_eq_some_iff.1 hq).1
  have hp : Pair r.1 r.1.length ⟨1, q.pr, m, k, f, q.ks.length, q.ks.length + 1⟩ (grow q k f) := Or.inr (Or.inl ⟨q, hl, hq, rfl, rfl, rfl, rfl, hn, rfl⟩)
  refine ⟨hn, ⟨(List.getElem?_eq_some_iff.1 h1).1, ?_, ?_, lay_false _ _ _, ?_⟩⟩
  · rw [h.val, zip_drop h1 h2, movD, if_pos ho, hm, add_lay hq hn]
  · have := (lay_len most r.1 (grow q k f)).1
    have := h.len
    omega
  · intro ho2
    obtain ⟨m', g1, g2⟩ := lay_at hr hp most ho2
    refine ⟨m', _, g1, g2, ?_⟩
    show q.ks ++ [k] = _
    rw [hqk, take_at _ _ _ h1]
theorem MvP.start {T : List Ly} {most : Int} {L : List Sh} (S : Sh) (p : Int) (hr : Rel T L) : MvP most L S (movD most (S.ks.zip S.fs) (rootD most L p)) 0 (rootD most L p) := by
  refine ⟨Nat.zero_le _, by rw [List.drop_zero], ?_, lay_false _ _ _, ?_⟩
  · have := (lay_len most L ⟨p, [], [], []⟩).1
    unfold rootD
    omega
  · intro ho
    obtain ⟨m, g1, g2⟩ := lay_at (l := ⟨0, p, 0, ByteArray.empty, 0, 0, 0⟩) hr (Or.inl ⟨rfl, rfl⟩) most ho
    exact ⟨m, _, g1, g2, by simp⟩
structure MvAt (w wr : World) (B tb : Nat) (O : Nat → Prop) (most : Int) (L : List Sh) (S : Sh) (R : List Sh × Int × Bool) (g i : Nat) (n : Int) (ok : Bool) : Prop where
  at' : ∃ r O', r.2.1 = n ∧ r.2.2 = ok ∧ MvP most L S R i r ∧ Tree wr B tb O' most r.1 ∧ ¬ O' g ∧ (∀ b, O' b → O b ∨ w.heap.size ≤ b)
  pr : PrAt wr g (propsOf S)
  chg : Chg O w wr
/-- the world and the tree behind a call, seen from the beginning -/
theorem MvAt.went {w wr : World} {B tb : Nat} {O : Nat → Prop} {most : Int} {L : List Sh} {S : Sh} {R : List Sh × Int × Bool} {g i : Nat} {n : Int} {ok : Bool} (h : MvAt w wr B tb O most L S R g i n ok) (he : ok = false ∨ i = S.ks.length) (hf : S.fs.length = S.ks.length) : R.2.1 = n ∧ R.2.2 = ok ∧ Went w B tb O most R.1 wr := by
  obtain ⟨r, O', h1, h2, h3, h4, h5, h6⟩ := h.at'
  have e : R = r := by
    rw [h3.val]
    rcases he with q | q
    · exact mov_stop _ _ _ (by rw [h2, q])
    · rw [List.drop_eq_nil_of_le (by rw [List.length_zip]; omega)]
      rfl
  rw [e]
  exact ⟨h1, h2, O', h4, h.chg, h6⟩
theorem MvAt.zero {w wr : World} {B tb : Nat} {O : Nat → Prop} {most : Int} {L : List Sh} {S : Sh} {R : List Sh × Int × Bool} {g i : Nat} {n : Int} (h : MvAt w wr B tb O most L S R g i n false) : n = 0 := by
  obtain ⟨r, O', h1, h2, h3, h4, h5, h6⟩ := h.at'
  rw [← h1]
  exact h3.no h2
end Go.Proofs.YtkpdpdllbnihgaaGreat.Sp
/- Move: the walk; New. -/
namespace Go.Proofs.YtkpdpdllbnihgaaGreat.Sp
open Go.RowKit Go.Proofs.YtkpdpdllbnihgaaGreat.Hp
theorem keys_ok {T : List Ly} {L : List Sh} (h : Rel T L) (hw : ∀ x ∈ T, x.wf) : ∀ (n j : Nat) (s : Sh), j < n → L[j]? = some s → (∀ k ∈ s.ks, k.size ≤ maxLen) ∧ (∀ f ∈ s.fs, -9223372036854775808 ≤ f ∧ f ≤ 9223372036854775807) ∧ 0 ≤ s.pr ∧ s.pr ≤ 18446744073709551615
  | 0, j, s, hj, _ => by omega
  | n + 1, j, s, hj, hs => by
    obtain ⟨l, g1, g2, g3, g4⟩ := h.at' hs
    have hl := hw l (List.mem_of_getElem? g1)
    have hpr := pair_pr g2
    refine ⟨?_, ?_, by rw [← hpr]; exact hl.pr1, by rw [← hpr]; exact hl.pr2⟩
    · rcases g2 with ⟨_, e⟩ | ⟨q, a1, a2, _, _, _, _, _, rfl⟩ | ⟨q, a1, a2, _, _, _, _, rfl⟩
      · rw [e]; intro k hk; simp at hk
      · intro k hk
        simp only [grow, List.mem_append, List.mem_singleton] at hk
        rcases hk with hk | hk
        · exact (keys_ok h hw n _ q (by omega) a2).1 k hk
        · rw [hk]; exact hl.ke
      · exact (keys_ok h hw n _ q (by omega) a2).1
    · rcases g2 with ⟨_, e⟩ | ⟨q, a1, a2, _, _, _, _, _, rfl⟩ | ⟨q, a1, a2, _, _, _, _, rfl⟩
      · rw [e]; intro k hk; simp at hk
      · intro k hk
        simp only [grow, List.mem_append, List.mem_singleton] at hk
        rcases hk with hk | hk
        · exact (keys_ok h hw n _ q (by omega) a2).2.1 k hk
        · rw [hk]; exact ⟨hl.fl1, hl.fl2⟩
      · intro k hk
        simp only [chg] at hk
        rcases List.mem_or_eq_of_mem_set hk with hk | hk
        · exact (keys_ok h hw n _ q (by omega) a2).2.1 k hk
        · rw [hk]; exact ⟨hl.fl1, hl.fl2⟩
theorem TreeAt.keyOk {w : World} {B tb : Nat} {O : Nat → Prop} {most : Int} {L : List Sh} {T : List Ly} {v : Value} {mb : Nat} (h : TreeAt w B tb O most L T v mb) {j i : Nat} {s : Sh} {k : ByteArray} {f : Int} (hs : L[j]? = some s) (h1 : s.ks[i]? = some k) (h2 : s.fs[i]? = some f) : KeyOk k f := by
  obtain ⟨a, b, _⟩ := keys_ok h.rel h.wf (j + 1) j s (by omega) hs
  have := b f (List.mem_of_getElem? h2)
  exact ⟨a k (List.mem_of_getElem? h1), this.1, this.2⟩
set_option maxRecDepth 100000 in
set_option maxHeartbeats 4000000 in
theorem move_any (w : World) (B tb : Nat) (O : Nat → Prop) (most : Int) (L : List Sh) (h : Tree w B tb O most L) (n : Int) (p : Int) (hp1 : 0 ≤ p) (hp2 : p ≤ 18446744073709551615) (hroom : most ≤ top ∨ ∀ s ∈ L, L.length + s.ks.length + 1 ≤ top) :
    Calls Tryz.prog 77 #[.pointer (some ⟨tb, 0, none⟩), .int .i64 n, .int .u64 p] w fun e w' => e = .returned (.tuple #[.int .i64 (moveD most L n p).2.1, .bool (moveD most L n p).2.2]) ∧ Went w B tb O most (moveD most L n p).1 w' := by
  have kc := there_any w B tb O most L h n
  have HT : Hid (Tree w B tb O most L) := h
  cases ht : thereB L n with
  | false =>
    rw [ht] at kc
    have e0 : moveD most L n p = (L, 0, false) := by unfold moveD; rw [there_not ht]
    rw [e0]
    clear h hroom e0
    go_enter Tryz.func77, Tryz.ntmps77
    go_wp2_with fail
    refine kc.mono ?_
    rintro e w2 ⟨rfl, rfl⟩
    clear kc
    go_wp2_with fail
    go_ret2
    exact ⟨rfl, Went.same HT.out (Below.refl _ _)⟩
  | true =>
    rw [ht] at kc
    obtain ⟨j, S, rfl, hs, hs2, hj⟩ := there_of ht
    have e0 : moveD most L j p = movD most (S.ks.zip S.fs) (rootD most L p) := by unfold moveD; rw [hs2]
    rw [e0]
    have hroom2 : most ≤ top ∨ L.length + S.ks.length + 1 ≤ top := hroom.imp id (fun q => q S (List.mem_of_getElem? hs))
    have kr := root_any w B tb O most L h p hp1 hp2 (hroom2.imp id (fun q => by omega))
    obtain ⟨T, v, mb, h⟩ := h
    have hcap := h.cap
    have hfin := h.rel.fin hs
    have hkl := hfin.kl
    have hks : (S.ks.length : Int) ≤ 1700000000000 := by unfold top at hcap; omega
    have HF : Hid (Fine S j) := hfin
    have HKO : Hid (∀ (i : Nat) (k : ByteArray) (f : Int), S.ks[i]? = some k → S.fs[i]? = some f → KeyOk k f) := fun i k f h1 h2 => h.keyOk hs h1 h2
    have HM : Hid (MvP most L S (movD most (S.ks.zip S.fs) (rootD most L p)) 0 (rootD most L p)) := MvP.start S p h.rel
    have HRO : Hid (most ≤ top ∨ L.length + S.ks.length + 1 ≤ top) := hroom2
    have HPR : Hid (∀ w1, Went w B tb O most (rootD most L p).1 w1 → Calls Tryz.prog 102 #[.pointer (some ⟨tb, 0, none⟩), .int .i64 (j : Int)] w1 fun e w' => ∃ g, e = .returned (.slice (some ⟨g, 0, none⟩) S.ks.length S.ks.length) ∧ MvAt w w' B tb O most L S (movD most (S.ks.zip S.fs) (rootD most L p)) g 0 (rootD most L p).2.1 (rootD most L p).2.2) := fun w1 ⟨O1, g1, g2, g3⟩ => by
      have hs1 : (rootD most L p).1[j]? = some S := by
        unfold rootD layD
        cases hit L ⟨p, [], [], []⟩ with
        | some i => exact hs
        | none =>
          simp only
          split
          · exact hs
          · simp only; rw [List.getElem?_append_left hj]; exact hs
      refine (props_any w1 B tb O1 most _ g1 j S hs1).mono ?_
      rintro e w2 ⟨g, rfl, k1, k2, k3⟩
      refine ⟨g, rfl, ⟨⟨_, O1, rfl, rfl, HM.out, g1.below k3, fun q => ?_, g3⟩, k1, g2.trans (Chg.of_below (S := fun _ => False) k3) (fun _ _ q => q.elim)⟩⟩
      have := (g1.lt g q).2
      omega
    generalize movD most (S.ks.zip S.fs) (rootD most L p) = R at *
    generalize rootD most L p = r0 at *
    obtain ⟨L0, n0, ok0⟩ := r0
    simp only at kr HPR
    clear h hs hs2 e0 hcap hfin hkl ht hroom hroom2 HM HT
    go_enter Tryz.func77, Tryz.ntmps77
    go_wp2_with fail
    refine kc.mono ?_
    rintro e w2 ⟨rfl, rfl⟩
    clear kc
    go_wp2_with fail
    refine kr.mono ?_
    rintro e w3 ⟨rfl, hw3⟩
    have kp := HPR.out w3 hw3
    clear kr HPR hw3
    go_wp2_with fail
    refine kp.mono ?_
    rintro e w4 ⟨g, rfl, hmv⟩
    have HI := (show Hid _ from hmv)
    clear kp hmv
    go_wp2_with fail
    go_loopw [8, 9, 26] (fun n ok i wr => ∃ (m : Nat) (nn : Int) (bb : Bool), MvAt w2 wr B tb O most L S R g m nn bb ∧ n = .int .i64 nn ∧ ok = .bool bb ∧ i = .int .i64 m) (fun n ok i wr => S.ks.length - (intOf i).toNat)
    case atStart => exact ⟨0, n0, ok0, HI.out, rfl, rfl, rfl⟩
    case round =>
      clear HI
      obtain ⟨m, nn, bb, hr, rfl, rfl, rfl⟩ := hrel
      have HR := (show Hid _ from hr)
      have ple : m ≤ S.ks.length := by obtain ⟨r, O', _, _, h3, _⟩ := hr.at'; exact h3.le
      clear hr
      rcases Nat.lt_or_ge m S.ks.length with c | c
      · obtain ⟨ky, fl, k1, k2, k3⟩ := props_at HF.out.fl m c
        obtain ⟨p0, _⟩ := HR.out.pr.cell m _ k3 0 _ rfl
        obtain ⟨p1, _⟩ := HR.out.pr.cell m _ k3 1 _ rfl
        obtain ⟨p2, _⟩ := HR.out.pr.cell m _ k3 2 _ rfl
        rw [Nat.add_zero] at p0
        simp only at p0 p1 p2
        have HA : Hid (∀ o, Below wr.heap.size wr (wr.alloc o)) := fun o => (Below.refl _ _).alloc (Nat.le_refl _) _
        cases bb with
        | false =>
          obtain ⟨q1, q2, q3⟩ := HR.out.went (Or.inl rfl) HF.out.fl
          have hz := HR.out.zero
          have HE : Hid (Went w2 B tb O most R.1 (wr.alloc (.cells #[.string ky, .int .i64 fl, .bool true] 156))) := q3.trans (fun O' hO' => Went.same hO' (HA.out _))
          have HQ : Hid (R.2.1 = 0 ∧ R.2.2 = false) := ⟨by rw [q1, hz], q2⟩
          clear q1 q2 q3 hz HR k1 k2 k3
          go_wp2_with fail
          go_ret2
          refine ⟨?_, HE.out⟩
          rw [HQ.out.1, HQ.out.2]
          rfl
        | true =>
          obtain ⟨r, O', h1, h2, h3, h4, h5, h6⟩ := HR.out.at'
          obtain ⟨mm, q, y1, y2, y3⟩ := h3.yes h2
          obtain ⟨T', v', mb', h4'⟩ := h4
          have hnx := h3.next HF.out h4'.rel h2 y1 y2 y3 k1 k2
          have hlen := h3.len
          rw [y1] at h1
          subst h1
          have kl := lay_any (wr.alloc (.cells #[.string ky, .int .i64 fl, .bool true] 156)) B tb O' most r.1 ((show Tree wr B tb O' most r.1 from ⟨T', v', mb', h4'⟩).below (HA.out _)) mm q y2 ky fl (HKO.out m ky fl k1 k2) hnx.1 (HRO.out.imp id (fun q => by omega))
          have hgl := HR.out.pr.lt
          have HN : Hid (∀ w5, Went (wr.alloc (.cells #[.string ky, .int .i64 fl, .bool true] 156)) B tb O' most (layD most r.1 (grow q ky fl)).1 w5 → MvAt w2 w5 B tb O most L S R g (m + 1) (layD most r.1 (grow q ky fl)).2.1 (layD most r.1 (grow q ky fl)).2.2) := fun w5 ⟨O5, z1, z2, z3⟩ => by
            have hc5 : Chg O' wr w5 := (Chg.of_below (HA.out _)).trans z2 (fun _ _ q => q)
            refine ⟨⟨_, O5, rfl, rfl, hnx.2, z1, fun q => ?_, fun b q => ?_⟩, HR.out.pr.kept hc5 h5, HR.out.chg.trans hc5 (fun i hi q => ?_)⟩
            · rcases z3 g q with q | q
              · exact h5 q
              · have := (HA.out (.cells #[.string ky, .int .i64 fl, .bool true] 156)).size
                omega
            · rcases z3 b q with q | q
              · exact h6 b q
              · have := (HA.out (.cells #[.string ky, .int .i64 fl, .bool true] 156)).size
                have := HR.out.chg.size
                exact Or.inr (by omega)
            · rcases h6 i q with q | q
              · exact q
              · omega
          generalize layD most r.1 (grow q ky fl) = r5 at *
          obtain ⟨L5, n5, ok5⟩ := r5
          simp only at kl HN
          clear HR k1 k2 k3 h2 h3 h4' h5 h6 y1 y2 y3 hnx hlen hgl HA
          go_wp2_with fail
          refine kl.mono ?_
          rintro e w5 ⟨rfl, hw5⟩
          have HX := (show Hid _ from HN.out w5 hw5)
          clear kl HN hw5
          go_wp2_with fail
          refine ⟨⟨m + 1, n5, ok5, HX.out, rfl, rfl, by go_num⟩, ?_⟩
          simp [intOf]
          omega
      · have hm : m = S.ks.length := by omega
        obtain ⟨q1, q2, q3⟩ := HR.out.went (Or.inr hm) HF.out.fl
        have HE := (show Hid _ from q3)
        have HQ : Hid (R.2.1 = nn ∧ R.2.2 = bb) := ⟨q1, q2⟩
        clear q1 q2 q3 HR
        go_wp2_with fail
        go_ret2
        refine ⟨?_, HE.out⟩
        rw [HQ.out.1, HQ.out.2]
        rfl
end Go.Proofs.YtkpdpdllbnihgaaGreat.Sp
