/- The document's tree in memory; same. -/
import Derived.Test.YtiliffnflamkjaaPN
namespace Go.Proofs.Ytiliffnflamkjaa.Sp
open Go.RowKit
set_option linter.unusedVariables false

/-- it lies in memory, in blocks of which N is true -/
structure Sli.okn {β : Type} (N : Nat → Prop) (enc : β → List Value) (k : Nat) (w : World) (s : Sli β) : Prop where
  ok : s.ok enc k w
  at' : s.xs ≠ [] → ∀ b off, s.at' = some ⟨b, off, none⟩ → N b ∧ b < w.heap.size

theorem Sli.okn.kept {β : Type} {N S : Nat → Prop} {enc : β → List Value} {k : Nat} {w w' : World} {s : Sli β} (h : s.okn N enc k w) (hc : Chg S w w') (hs : ∀ b, N b → b < w.heap.size → ¬ S b) : s.okn N enc k w' := by
  refine ⟨⟨h.ok.len, h.ok.cap, fun h0 => ?_⟩, fun h0 b off e => ⟨(h.at' h0 b off e).1, Nat.lt_of_lt_of_le (h.at' h0 b off e).2 hc.size⟩⟩
  obtain ⟨b, off, h1, h2⟩ := h.ok.cells h0
  have := h.at' h0 b off h1
  exact ⟨b, off, h1, fun i y hi j u hj => hc.cell (h2 i y hi j u hj) (hs b this.1 this.2)⟩

theorem Sli.okn.mono {β : Type} {N N' : Nat → Prop} {enc : β → List Value} {k : Nat} {w : World} {s : Sli β} (h : s.okn N enc k w) (hn : ∀ b, N b → b < w.heap.size → N' b) : s.okn N' enc k w :=
  ⟨h.ok, fun h0 b off e => ⟨hn b (h.at' h0 b off e).1 (h.at' h0 b off e).2, (h.at' h0 b off e).2⟩⟩

theorem Sli.okn.below {β : Type} {N : Nat → Prop} {enc : β → List Value} {k : Nat} {w w' : World} {s : Sli β} (h : s.okn N enc k w) (hc : Below w.heap.size w w') : s.okn N enc k w' := h.kept (S := fun _ => False) (Chg.of_below hc) (fun _ _ _ q => q)

/-- an own row as a slice -/
theorem OwnR.okn {β : Type} {enc : β → List Value} {k : Nat} {e : TypeId} {B : Nat} {w : World} {v : Value} {xs : List β} {N : Nat → Prop} (hk : ∀ y, (enc y).length = k) (h : OwnR enc k e B w v xs) (hN : ∀ b, B ≤ b → N b) : ∃ s : Sli β, v = s.val ∧ s.xs = xs ∧ s.okn N enc k w := by
  have hl := h.lt
  obtain ⟨s, h1, h2, h3, h4⟩ := h.sl hk
  refine ⟨s, h1, h2, h3, fun _ b off e => ?_⟩
  have := hl b (h4 b off e)
  exact ⟨hN b this.1, this.2⟩

/-- a shape of the document in memory -/
structure RS where
  pr : Int
  ks : Sli ByteArray
  fs : Sli Int
  st : Sli (Bool × ByteArray × Int)

def RS.sh (r : RS) : Sh := ⟨r.pr, r.ks.xs, r.fs.xs, r.st.xs⟩
def rsC (r : RS) : List Value := [.int .u64 r.pr, .slice r.ks.at' r.ks.xs.length r.ks.cap, .slice r.fs.at' r.fs.xs.length r.fs.cap, .slice r.st.at' r.st.xs.length r.st.cap]
def rsV (r : RS) : Value := .agg #[.int .u64 r.pr, .slice r.ks.at' r.ks.xs.length r.ks.cap, .slice r.fs.at' r.fs.xs.length r.fs.cap, .slice r.st.at' r.st.xs.length r.st.cap]

structure RS.okn (N : Nat → Prop) (w : World) (r : RS) : Prop where
  ks : r.ks.okn N strC 1 w
  fs : r.fs.okn N intC 1 w
  st : r.st.okn N stpC 3 w

theorem RS.okn.kept {N S : Nat → Prop} {w w' : World} {r : RS} (h : r.okn N w) (hc : Chg S w w') (hs : ∀ b, N b → b < w.heap.size → ¬ S b) : r.okn N w' := ⟨h.ks.kept hc hs, h.fs.kept hc hs, h.st.kept hc hs⟩
theorem RS.okn.below {N : Nat → Prop} {w w' : World} {r : RS} (h : r.okn N w) (hc : Below w.heap.size w w') : r.okn N w' := ⟨h.ks.below hc, h.fs.below hc, h.st.below hc⟩
theorem RS.okn.mono {N N' : Nat → Prop} {w : World} {r : RS} (h : r.okn N w) (hn : ∀ b, N b → b < w.heap.size → N' b) : r.okn N' w := ⟨h.ks.mono hn, h.fs.mono hn, h.st.mono hn⟩

/-- the document's tree in memory -/
structure RTree (N : Nat → Prop) (w : World) (s : Sli RS) (L : List Sh) : Prop where
  row : s.okn N rsC 4 w
  each : ∀ r ∈ s.xs, r.okn N w
  is : s.xs.map RS.sh = L

theorem RTree.kept {N S : Nat → Prop} {w w' : World} {s : Sli RS} {L : List Sh} (h : RTree N w s L) (hc : Chg S w w') (hs : ∀ b, N b → b < w.heap.size → ¬ S b) : RTree N w' s L := ⟨h.row.kept hc hs, fun r hr => (h.each r hr).kept hc hs, h.is⟩
theorem RTree.below {N : Nat → Prop} {w w' : World} {s : Sli RS} {L : List Sh} (h : RTree N w s L) (hc : Below w.heap.size w w') : RTree N w' s L := ⟨h.row.below hc, fun r hr => (h.each r hr).below hc, h.is⟩
theorem RTree.mono {N N' : Nat → Prop} {w : World} {s : Sli RS} {L : List Sh} (h : RTree N w s L) (hn : ∀ b, N b → b < w.heap.size → N' b) : RTree N' w s L := ⟨h.row.mono hn, fun r hr => (h.each r hr).mono hn, h.is⟩
theorem RTree.len {N : Nat → Prop} {w : World} {s : Sli RS} {L : List Sh} (h : RTree N w s L) : s.xs.length = L.length := by rw [← h.is, List.length_map]
theorem RTree.at' {N : Nat → Prop} {w : World} {s : Sli RS} {L : List Sh} (h : RTree N w s L) {j : Nat} {q : Sh} (hq : L[j]? = some q) : ∃ r, s.xs[j]? = some r ∧ r.sh = q ∧ r.okn N w := by
  rw [← h.is, List.getElem?_map] at hq
  obtain ⟨r, h1, h2⟩ := Option.map_eq_some_iff.1 hq
  exact ⟨r, h1, h2, h.each r (List.mem_of_getElem? h1)⟩

structure SmAt (w wr : World) (a b : List (Bool × ByteArray × Int)) (i : Nat) : Prop where
  le : i ≤ a.length
  eq : a.take i = b.take i
  bel : Below w.heap.size w wr

set_option maxRecDepth 100000 in
set_option maxHeartbeats 2000000 in
theorem same_any (w : World) (a b : Sli (Bool × ByteArray × Int)) (ha : a.ok stpC 3 w) (hb : b.ok stpC 3 w) :
    Calls Try.prog 30 #[.slice a.at' a.xs.length a.cap, .slice b.at' b.xs.length b.cap] w fun e w' => e = .returned (.bool (decide (a.xs = b.xs))) ∧ Below w.heap.size w w' := by
  obtain ⟨ad, ac, ax⟩ := a
  obtain ⟨bd, bc, bx⟩ := b
  simp only
  have hla : (ax.length : Int) ≤ 9223372036854775807 := by have h1 := ha.len; have h2 := ha.cap; simp only at h1 h2; unfold maxLen at h2; omega
  have hlb : (bx.length : Int) ≤ 9223372036854775807 := by have h1 := hb.len; have h2 := hb.cap; simp only at h1 h2; unfold maxLen at h2; omega
  have HA : Hid (Sli.ok stpC 3 w ⟨ad, ac, ax⟩ ∧ Sli.ok stpC 3 w ⟨bd, bc, bx⟩) := ⟨ha, hb⟩
  have HD : Hid (∀ c : Bool, (ax = bx ↔ c = true) → decide (ax = bx) = c) := fun c h => by
    cases c with
    | true => exact decide_eq_true (h.2 rfl)
    | false => exact decide_eq_false (fun e => by cases h.1 e)
  generalize decide (ax = bx) = D at *
  clear ha hb
  by_cases hl : ax.length = bx.length
  · have hneq : ((ax.length : Int) != bx.length) = false := by simp [hl]
    have heq : ((ax.length : Int) == bx.length) = true := by simp [hl]
    have HI : Hid (SmAt w w ax bx 0) := ⟨Nat.zero_le _, by simp, Below.refl _ _⟩
    go_enter Try.func30, Try.ntmps30
    go_wp2_with fail
    go_loopw [5] (fun i wr => ∃ k : Nat, SmAt w wr ax bx k ∧ i = .int .i64 k) (fun i wr => ax.length - (intOf i).toNat)
    case atStart => exact ⟨0, HI.out, rfl⟩
    case round =>
      clear HI
      obtain ⟨k, hr, rfl⟩ := hrel
      have HR := (show Hid _ from hr)
      have ple := hr.le
      clear hr
      rcases Nat.lt_or_ge k ax.length with c | c
      · have hex : ∃ y z, ax[k]? = some y ∧ bx[k]? = some z := ⟨_, _, List.getElem?_eq_getElem c, List.getElem?_eq_getElem (by omega)⟩
        obtain ⟨y, z, hy, hz⟩ := hex
        obtain ⟨b1, o1, e1, hc1⟩ := HA.out.1.cells (by intro e; simp only at e; rw [e] at c; simp at c)
        obtain ⟨b2, o2, e2, hc2⟩ := HA.out.2.cells (by intro e; simp only at e; rw [e] at hl; simp at hl; rw [hl] at c; simp at c)
        simp only at e1 e2
        subst e1 e2
        have y0 := cells_below HR.out.bel _ _ (hc1 k y hy 0 _ rfl)
        have y1 := cells_below HR.out.bel _ _ (hc1 k y hy 1 _ rfl)
        have y2 := cells_below HR.out.bel _ _ (hc1 k y hy 2 _ rfl)
        have z0 := cells_below HR.out.bel _ _ (hc2 k z hz 0 _ rfl)
        have z1 := cells_below HR.out.bel _ _ (hc2 k z hz 1 _ rfl)
        have z2 := cells_below HR.out.bel _ _ (hc2 k z hz 2 _ rfl)
        rw [Nat.add_zero] at y0 z0
        have cb : (k : Int) < bx.length := by omega
        have HYZ : Hid (ax[k]? = some y ∧ bx[k]? = some z) := ⟨hy, hz⟩
        clear hc1 hc2 hy hz
        obtain ⟨ya, yb, yc⟩ := y
        obtain ⟨za, zb, zc⟩ := z
        simp only at *
        have HB : Hid (Below w.heap.size w wr) := HR.out.bel
        by_cases t : (ya, yb, yc) = (za, zb, zc)
        · cases t
          have t1 : (ya == ya) = true := by simp
          have t2 := bytes_yes yb
          have t3 : (yc == yc) = true := by simp
          have HP : Hid (SmAt w wr.drew ax bx (k + 1)) := ⟨c, by rw [take_at _ _ _ HYZ.out.1, take_at _ _ _ HYZ.out.2, HR.out.eq], HB.out.drew⟩
          clear HYZ HA HD HR
          go_wp2_with fail
          go_region
          all_goals
            go_wp2_with fail
            refine ⟨⟨k + 1, HP.out, by go_num⟩, ?_⟩
            simp [intOf]
            omega
        · have HNO : Hid (D = false) := HD.out false ⟨fun e => by
            have h1 := HYZ.out.1
            rw [e, HYZ.out.2] at h1
            exact absurd (Option.some.inj h1).symm t, fun e => by cases e⟩
          clear HYZ HA HD HR
          by_cases u1 : ya = za
          · subst u1
            have t1 : (ya == ya) = true := by simp
            by_cases u2 : yb = zb
            · subst u2
              have t2 := bytes_yes yb
              have t3 : (yc == zc) = false := by
                simp
                intro e
                exact t (by rw [e])
              go_wp2_with fail
              go_region
              all_goals
                go_wp2_with fail
                go_ret
                rw [HNO.out]
                exact ⟨rfl, HB.out.drew⟩
            · have t2 := bytes_no u2
              go_wp2_with fail
              go_region
              all_goals
                go_wp2_with fail
                go_ret
                rw [HNO.out]
                exact ⟨rfl, HB.out.drew⟩
          · have t1 : (ya == za) = false := by simpa using u1
            go_wp2_with fail
            go_region
            all_goals
              go_wp2_with fail
              go_ret
              rw [HNO.out]
              exact ⟨rfl, HB.out.drew⟩
      · have HE : Hid (D = true) := HD.out true ⟨fun _ => rfl, fun _ => by
          have := HR.out.eq
          rw [List.take_of_length_le c, List.take_of_length_le (by omega)] at this
          exact this⟩
        have HB : Hid (Below w.heap.size w wr) := HR.out.bel
        clear HR HD HA
        go_wp2_with fail
        go_ret
        rw [HE.out]
        exact ⟨rfl, HB.out⟩
  · have hneq : ((ax.length : Int) != bx.length) = true := by simp; omega
    have heq : ((ax.length : Int) == bx.length) = false := by simp; omega
    have HE : Hid (D = false) := HD.out false ⟨fun e => absurd (congrArg List.length e) hl, fun e => by cases e⟩
    clear HD HA
    go_enter Try.func30, Try.ntmps30
    go_wp2_with fail
    go_ret
    rw [HE.out]
    exact ⟨rfl, Below.refl _ _⟩

end Go.Proofs.Ytiliffnflamkjaa.Sp
