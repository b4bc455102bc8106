/- The document's At. -/
import Derived.Test.YtiliffnflamkjaaQA
namespace Go.Proofs.Ytiliffnflamkjaa.Sp
open Go.RowKit
set_option linter.unusedVariables false

def atI (L : List Sh) (n : Int) (k : ByteArray) : Int := match (shOf L n).bind (fun s => idx s.ks k) with
  | some i => (i : Int)
  | none => -1

def idxI (ks : List ByteArray) (k : ByteArray) : Int := match idx ks k with
  | some i => (i : Int)
  | none => -1

theorem at_there {L : List Sh} {j : Nat} {q : Sh} (hq : L[j]? = some q) (k : ByteArray) : atI L j k = idxI q.ks k := by
  have hs : shOf L (j : Int) = some q := by unfold shOf; rw [if_pos (by omega), Int.toNat_natCast]; exact hq
  unfold atI idxI
  rw [hs]
  rfl

structure AtAt (w wr : World) (ks : List ByteArray) (k : ByteArray) (i : Nat) : Prop where
  le : i ≤ ks.length
  no : ∀ j, j < i → ks[j]? ≠ some k
  bel : Below w.heap.size w wr

/-- the document's row of shapes, at one of them -/
theorem RTree.open {N : Nat → Prop} {w : World} {s : Sli RS} {L : List Sh} (h : RTree N w s L) {j : Nat} {q : Sh} (hq : L[j]? = some q) :
    ∃ (b off : Nat) (r : RS), s.at' = some ⟨b, off, none⟩ ∧ r.sh = q ∧ r.okn N w ∧ (∀ (i : Nat) (u : Value), (rsC r)[i]? = some u → w.cell? ⟨b, off + j * 4 + i, none⟩ = some u) ∧ j < s.xs.length ∧ (s.xs.length : Int) ≤ 9223372036854775807 ∧ s.xs.length = L.length := by
  obtain ⟨r, h1, h2, h3⟩ := h.at' hq
  have hl := (List.getElem?_eq_some_iff.1 h1).1
  obtain ⟨b, off, e1, hc⟩ := h.row.ok.cells (by intro e; rw [e] at hl; simp at hl)
  refine ⟨b, off, r, e1, h2, h3, fun i u hu => hc j r h1 i u hu, hl, ?_, h.len⟩
  have h4 := h.row.ok.len
  have h5 := h.row.ok.cap
  unfold maxLen at h5
  omega

theorem RTree.lim {N : Nat → Prop} {w : World} {s : Sli RS} {L : List Sh} (h : RTree N w s L) : (s.xs.length : Int) ≤ 9223372036854775807 ∧ s.xs.length = L.length := by
  have h4 := h.row.ok.len
  have h5 := h.row.ok.cap
  unfold maxLen at h5
  exact ⟨by omega, h.len⟩

set_option maxRecDepth 100000 in
set_option maxHeartbeats 2000000 in
theorem at_any (N : Nat → Prop) (w : World) (m : Int) (s : Sli RS) (L : List Sh) (h : RTree N w s L) (n : Int) (k : ByteArray) :
    Calls Try.prog 29 #[.agg #[.int .i64 m, .slice s.at' s.xs.length s.cap], .int .i64 n, .string k] w fun e w' => e = .returned (.int .i64 (atI L n k)) ∧ Below w.heap.size w w' := by
  obtain ⟨hlim, hlen⟩ := h.lim
  have HLEN : Hid (s.xs.length = L.length) := hlen
  clear hlen
  have hB : Below w.heap.size w (w.alloc (.cells #[.int .i64 m, .slice s.at' s.xs.length s.cap] 27)) := (Below.refl _ _).alloc (Nat.le_refl _) _
  have b1 : (w.alloc (.cells #[.int .i64 m, .slice s.at' s.xs.length s.cap] 27)).cell? ⟨w.heap.size, 1, none⟩ = some (.slice s.at' s.xs.length s.cap) := box_new w #[.int .i64 m, .slice s.at' s.xs.length s.cap] 27 1 _ rfl
  obtain ⟨wb, hwb⟩ : ∃ wb, wb = w.alloc (.cells #[.int .i64 m, .slice s.at' s.xs.length s.cap] 27) := ⟨_, rfl⟩
  rw [← hwb] at hB b1
  have hr := h.below hB
  have HB : Hid (Below w.heap.size w wb) := hB
  clear hB h
  cases ht : thereB L n with
  | false =>
    have e0 : atI L n k = -1 := by unfold atI; rw [there_not ht]; rfl
    rw [e0]
    clear hr e0
    have ht2 : n < 0 ∨ (s.xs.length : Int) ≤ n := by
      unfold thereB at ht
      by_cases c : 0 ≤ n
      · rw [decide_eq_true c, Bool.true_and] at ht
        have := of_decide_eq_false ht
        have := HLEN.out
        omega
      · omega
    clear ht
    go_enter Try.func29, Try.ntmps29
    go_upto_region 1 with fail
    rw [← hwb]
    clear hwb
    rcases ht2 with c | c
    · go_wp2_with fail
      go_ret
      exact ⟨rfl, HB.out⟩
    · by_cases c2 : n < 0
      · go_wp2_with fail
        go_ret
        exact ⟨rfl, HB.out⟩
      · have c3 : 0 ≤ n := by omega
        go_wp2_with fail
        go_ret
        exact ⟨rfl, HB.out⟩
  | true =>
    obtain ⟨j, q, rfl, hs, hs2, hj⟩ := there_of ht
    rw [at_there hs]
    obtain ⟨b, off, r, e1, e2, hok, hc, hjl, hx1, hx2⟩ := hr.open hs
    clear hx1 hx2
    have d1 := hc 1 _ rfl
    rw [e1] at b1
    have hkl : (r.ks.xs.length : Int) ≤ 9223372036854775807 := by have h1 := hok.ks.ok.len; have h2 := hok.ks.ok.cap; unfold maxLen at h2; omega
    have HKS : Hid (r.ks.ok strC 1 wb) := hok.ks.ok
    have hq : q.ks = r.ks.xs := by rw [← e2]; rfl
    rw [hq]
    have HI : Hid (AtAt wb wb r.ks.xs k 0) := ⟨Nat.zero_le _, fun j hj => by omega, Below.refl _ _⟩
    have hjj : (j : Int) < s.xs.length := by omega
    have hj0 : ¬ (j : Int) < 0 := by omega
    have hj1 : ¬ (s.xs.length : Int) ≤ j := by omega
    have HD : Hid (wb.cell? ⟨w.heap.size, 1, none⟩ = some (.slice (some ⟨b, off, none⟩) s.xs.length s.cap) ∧ wb.cell? ⟨b, off + j * 4 + 1, none⟩ = some (.slice r.ks.at' r.ks.xs.length r.ks.cap)) := ⟨b1, d1⟩
    clear ht hs hs2 hr hc hok e2 hq d1
    generalize r.ks = K at *
    obtain ⟨ka, kc, kx⟩ := K
    simp only at *
    rw [e1] at hwb ⊢
    go_enter Try.func29, Try.ntmps29
    go_upto_region 1 with fail
    rw [← hwb]
    clear hwb e1
    go_wp2_with fail
    go_loopw [7] (fun i wr => ∃ m : Nat, AtAt wb wr kx k m ∧ i = .int .i64 m) (fun i wr => kx.length - (intOf i).toNat)
    case atStart => exact ⟨0, HI.out, rfl⟩
    case round =>
      clear HI b1
      obtain ⟨m, hr, rfl⟩ := hrel
      have HR := (show Hid _ from hr)
      have ple := hr.le
      clear hr
      have b1 := cells_below HR.out.bel _ _ HD.out.1
      have d1 := cells_below HR.out.bel _ _ HD.out.2
      have HBB : Hid (Below w.heap.size w wr) := HB.out.trans (HR.out.bel.mono HB.out.size)
      rcases Nat.lt_or_ge m kx.length with c | c
      · have hex : ∃ y, kx[m]? = some y := ⟨_, List.getElem?_eq_getElem c⟩
        obtain ⟨y, hy⟩ := hex
        obtain ⟨b2, o2, g1, g2⟩ := HKS.out.cells (by intro e; simp only at e; rw [e] at c; simp at c)
        simp only at g1
        subst g1
        have y0 := cells_below HR.out.bel _ _ (g2 m y hy 0 _ rfl)
        rw [Nat.add_zero, Nat.mul_one] at y0
        by_cases t : y = k
        · subst t
          have t1 := bytes_yes y
          have HE : Hid (idxI kx y = (m : Int)) := by
            show _ = _
            unfold idxI
            rw [idx_of hy HR.out.no]
          clear HR HKS HD HB g2 hy
          go_wp2_with fail
          go_ret
          rw [HE.out]
          exact ⟨rfl, HBB.out⟩
        · have t1 := bytes_no t
          have HN : Hid (AtAt wb wr kx k (m + 1)) := ⟨c, fun i hi e => by
            rcases Nat.lt_or_ge i m with q | q
            · exact HR.out.no i q e
            · have : i = m := by omega
              subst this
              rw [hy] at e
              exact t (Option.some.inj e), HR.out.bel⟩
          clear HR HKS HD HB g2 hy
          go_wp2_with fail
          refine ⟨⟨m + 1, HN.out, by go_num⟩, ?_⟩
          simp [intOf]
          omega
      · have HE : Hid (idxI kx k = -1) := by
          show _ = _
          unfold idxI
          rw [idx_no (fun i e => HR.out.no i (by have := (List.getElem?_eq_some_iff.1 e).1; omega) e)]
        clear HR HKS HD HB
        go_wp2_with fail
        go_ret
        rw [HE.out]
        exact ⟨rfl, HBB.out⟩

end Go.Proofs.Ytiliffnflamkjaa.Sp
