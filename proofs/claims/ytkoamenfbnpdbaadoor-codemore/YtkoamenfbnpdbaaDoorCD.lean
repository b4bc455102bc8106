/- Package code: wants. -/
import Derived.Test.YtkoamenfbnpdbaaDoorCC
import Derived.OwnWalk
namespace Go.Proofs.YtkoamenfbnpdbaaDoor.Cd
open Go.RowKit
set_option linter.unusedVariables false

/-- functions in memory -/
structure FnsOk (w : World) (s : Sli Fn) : Prop where
  all : s.ok fnC 8 w
  each : ∀ f ∈ s.xs, f.ok w

theorem FnsOk.kept {w w' : World} {s : Sli Fn} (h : FnsOk w s) (hc : ∀ a u, w.cell? a = some u → w'.cell? a = some u) : FnsOk w' s :=
  ⟨h.all.kept hc, fun f hf => (h.each f hf).kept hc⟩

def wantOf (f : Fn) : Int × Int := wantF (-1) (-1) f.caps.xs

/-- what the first so many functions ask, in a row of the call's own -/
structure TakAt (fs : List Fn) (k : Nat) (w : World) (g : Nat) : Prop where
  row : ∃ cur, w.heap[g]? = some (.cells cur 66 (0, 0)) ∧ cur.size = fs.length * 2 ∧ (∀ j, j < fs.length * 2 → ∃ z, cur[j]? = some (.int .i64 z)) ∧ ∀ j f, j < k → fs[j]? = some f → cur[j * 2]? = some (.int .i64 (wantOf f).1) ∧ cur[j * 2 + 1]? = some (.int .i64 (wantOf f).2)

theorem TakAt.lt {fs : List Fn} {k : Nat} {w : World} {g : Nat} (h : TakAt fs k w g) : g < w.heap.size := by
  obtain ⟨cur, h1, _⟩ := h.row
  exact (Array.getElem?_eq_some_iff.1 h1).1

theorem TakAt.keep {fs : List Fn} {k : Nat} {w w' : World} {g : Nat} (h : TakAt fs k w g) (hb : Below w.heap.size w w') : TakAt fs k w' g := by
  have hl := h.lt
  obtain ⟨cur, h1, h2⟩ := h.row
  exact ⟨cur, (hb.block g hl).trans h1, h2⟩

theorem TakAt.cell {fs : List Fn} {k : Nat} {w : World} {g : Nat} (h : TakAt fs k w g) (j : Nat) (hj : j < fs.length * 2) : ∃ z, w.cell? ⟨g, j, none⟩ = some (.int .i64 z) := by
  obtain ⟨cur, h1, _, h3, _⟩ := h.row
  obtain ⟨z, hz⟩ := h3 j hj
  exact ⟨z, by rw [cell_of_row w g j cur 66 (0, 0) h1]; exact hz⟩

theorem TakAt.frozen {fs : List Fn} {k : Nat} {w : World} {g : Nat} (h : TakAt fs k w g) (j : Nat) : w.frozen? ⟨g, j, none⟩ = false := by
  obtain ⟨cur, h1, _⟩ := h.row
  exact frozen_of_row w g j cur 66 h1

theorem TakAt.at' {fs : List Fn} {k : Nat} {w : World} {g : Nat} (h : TakAt fs k w g) (j : Nat) (f : Fn) (hj : j < k) (hf : fs[j]? = some f) : w.cell? ⟨g, j * 2, none⟩ = some (.int .i64 (wantOf f).1) ∧ w.cell? ⟨g, j * 2 + 1, none⟩ = some (.int .i64 (wantOf f).2) := by
  obtain ⟨cur, h1, _, _, h4⟩ := h.row
  rw [cell_of_row w g _ cur 66 (0, 0) h1, cell_of_row w g _ cur 66 (0, 0) h1]
  exact h4 j f hj hf

theorem TakAt.put {fs : List Fn} {k : Nat} {w : World} {g : Nat} (h : TakAt fs k w g) (f : Fn) (hf : fs[k]? = some f) :
    TakAt fs (k + 1) ((w.setCell ⟨g, k * 2, none⟩ (.int .i64 (wantOf f).1)).setCell ⟨g, k * 2 + 1, none⟩ (.int .i64 (wantOf f).2)) g := by
  obtain ⟨cur, h1, h2, h3, h4⟩ := h.row
  have kl : k < fs.length := by
    rcases Nat.lt_or_ge k fs.length with c | c
    · exact c
    · rw [List.getElem?_eq_none c] at hf; cases hf
  refine ⟨_, heap_setCell_same _ _ _ _ _ _ (heap_setCell_same _ _ _ _ _ _ h1), by simp [h2], ?_, ?_⟩
  · intro j hj
    by_cases e1 : j = k * 2 + 1
    · subst e1
      exact ⟨(wantOf f).2, by rw [Array.getElem?_setIfInBounds, if_pos rfl, if_pos (by simp [h2]; omega)]⟩
    · by_cases e2 : j = k * 2
      · subst e2
        exact ⟨(wantOf f).1, by rw [Array.getElem?_setIfInBounds, if_neg (by omega), Array.getElem?_setIfInBounds, if_pos rfl, if_pos (by omega)]⟩
      · obtain ⟨z, hz⟩ := h3 j hj
        exact ⟨z, by rw [Array.getElem?_setIfInBounds, if_neg (by omega), Array.getElem?_setIfInBounds, if_neg (by omega)]; exact hz⟩
  · intro j f' hj hf'
    by_cases e : j = k
    · subst e
      rw [hf] at hf'
      cases hf'
      constructor
      · rw [Array.getElem?_setIfInBounds, if_neg (by omega), Array.getElem?_setIfInBounds, if_pos rfl, if_pos (by omega)]
      · rw [Array.getElem?_setIfInBounds, if_pos rfl, if_pos (by simp [h2]; omega)]
    · obtain ⟨a1, a2⟩ := h4 j f' (by omega) hf'
      constructor
      · rw [Array.getElem?_setIfInBounds, if_neg (by omega), Array.getElem?_setIfInBounds, if_neg (by omega)]
        exact a1
      · rw [Array.getElem?_setIfInBounds, if_neg (by omega), Array.getElem?_setIfInBounds, if_neg (by omega)]
        exact a2

theorem info66 : (Tryd.prog.info? 66).map (fun i => (i.zero, i.size, i.bytes)) = some (some (.agg #[.int .i64 0, .int .i64 0]), 2, 16) := by kernel_rfl

theorem made_two (n : Nat) (fs : List Fn) (hn : fs.length = n) (w : World) (B g : Nat) (h : w.ownsRow B 66 2 (.slice (some ⟨g, 0, none⟩) n n) n (madeCells (Value.agg #[.int .i64 0, .int .i64 0]).cells (n * 2)).toList) : TakAt fs 0 w g := by
  rcases h.2 with ⟨h0, _⟩ | ⟨g', cap, cur, h1, hb, hg, hnc, hcm, hcs, ht⟩
  · cases h0
  cases h1
  have e : cur = madeCells (Value.agg #[.int .i64 0, .int .i64 0]).cells (n * 2) := by
    rw [List.take_of_length_le (by simp [hcs])] at ht
    exact Array.toList_inj.1 ht
  refine ⟨cur, hg, by rw [hcs, hn], ?_, fun j f hj => by omega⟩
  intro j hj
  refine ⟨0, ?_⟩
  rw [e]
  unfold madeCells
  have hj' : j < n * 2 := by rw [← hn]; exact hj
  have hm : j % 2 = 0 ∨ j % 2 = 1 := by omega
  rcases hm with hm | hm <;> simp [hj', Value.cells, hm]

theorem tak_below {B : Nat} {w0 w : World} {g : Nat} (h : Below B w0 w) (hg : B ≤ g) (i j : Nat) (u v : Value) : Below B w0 ((w.setCell ⟨g, i, none⟩ u).setCell ⟨g, j, none⟩ v) :=
  (h.setCell (p := ⟨g, i, none⟩) hg u).setCell (p := ⟨g, j, none⟩) hg v

set_option maxRecDepth 100000 in
set_option maxHeartbeats 4000000 in
theorem wants_any (s : Sli Fn) (w : World) (hs : FnsOk w s) (hn : s.xs.length ≤ 200) :
    Calls Tryd.prog 21 #[s.val] w fun e w' => e = .returned (.slice (some ⟨w.heap.size, 0, none⟩) s.xs.length s.xs.length) ∧ TakAt s.xs s.xs.length w' w.heap.size ∧ Below w.heap.size w w' := by
  obtain ⟨ad, cap, fs⟩ := s
  simp only at hn ⊢
  have HS : Hid (FnsOk w ⟨ad, cap, fs⟩) := hs
  clear hs
  obtain ⟨i0, hi, hz0, hz1, hz2⟩ := info_parts info66
  unfold Sli.val
  simp only
  go_enter Tryd.func21, Tryd.ntmps21
  go_wp2_with (refine wpList_make_full _ rfl _ _ 51 rfl w.heap.size 66 i0 (.agg #[.int .i64 0, .int .i64 0]) 2 Tryd.underlying51 hi hz0 hz1 .i64 .i64 _ _ fs.length rfl rfl rfl rfl (by rw [hz2]; omega) (by unfold maxLen; omega) (Nat.le_refl _) ?_)
  intro w1 ho hg
  have HI : Hid (TakAt fs 0 w1 w.heap.size ∧ Below w.heap.size w w1) := ⟨made_two _ fs rfl w1 _ _ ho, (Below.refl _ _).grown hg (Nat.le_refl _) (fun k hk => by cases hk)⟩
  clear ho hg
  go_wp2_with fail
  go_loopw [11] (fun i wr => ∃ k : Nat, (k ≤ fs.length ∧ TakAt fs k wr w.heap.size ∧ Below w.heap.size w wr) ∧ i = .int .i64 k) (fun i wr => fs.length - (intOf i).toNat)
  case atStart => exact ⟨0, ⟨Nat.zero_le _, HI.out.1, HI.out.2⟩, rfl⟩
  case round =>
    obtain ⟨k, ⟨kle, hT, hB⟩, rfl⟩ := hrel
    have HR : Hid (TakAt fs k wr w.heap.size ∧ Below w.heap.size w wr) := ⟨hT, hB⟩
    clear hT hB
    rcases Nat.lt_or_ge k fs.length with c | c
    · have hex : ∃ y, fs[k]? = some y := ⟨_, List.getElem?_eq_getElem c⟩
      obtain ⟨y, hy⟩ := hex
      have hS1 := HS.out.kept (cells_below HR.out.2)
      obtain ⟨b, off, rfl, hcc⟩ := hS1.all.cells (by intro e; simp at e; subst e; simp at c)
      have q0 := hcc k y hy 0 _ rfl
      have q1 := hcc k y hy 1 _ rfl
      have q2 := hcc k y hy 2 _ rfl
      have q3 := hcc k y hy 3 _ rfl
      have q4 := hcc k y hy 4 _ rfl
      have q5 := hcc k y hy 5 _ rfl
      have q6 := hcc k y hy 6 _ rfl
      have q7 := hcc k y hy 7 _ rfl
      rw [Nat.add_zero] at q0
      have hyo := hS1.each y (List.mem_of_getElem? hy)
      clear hcc hS1
      have B1 := below_new (Below.refl wr.heap.size wr) (Nat.le_refl _) (fnB y)
      have cw := wanted_any y.caps (wr.alloc (fnB y)) (hyo.kept (cells_below B1)).caps
      have HT1 : Hid (TakAt fs k (wr.alloc (fnB y)) w.heap.size ∧ Below w.heap.size w (wr.alloc (fnB y))) := ⟨HR.out.1.keep B1, below_new HR.out.2 HR.out.2.size _⟩
      have HP : Hid (∀ w3, TakAt fs k w3 w.heap.size → TakAt fs (k + 1) ((w3.setCell ⟨w.heap.size, k * 2, none⟩ (.int .i64 (wantOf y).1)).setCell ⟨w.heap.size, k * 2 + 1, none⟩ (.int .i64 (wantOf y).2)) w.heap.size) := fun w3 h => h.put y hy
      have hwo : wantF (-1) (-1) y.caps.xs = wantOf y := rfl
      rw [hwo] at cw
      clear hwo hyo B1 hy
      generalize wantOf y = W at *
      obtain ⟨wr1, wr2⟩ := W
      obtain ⟨nm, pa, re, ge, ⟨ca, c1, cx⟩, ⟨ka, kc, kx⟩, ⟨pa', pc, px⟩, ⟨ha, hc, hx⟩⟩ := y
      unfold fnB at *
      unfold Sli.val at *
      simp only at *
      go_wp2_with fail
      refine cw.mono ?_
      rintro e w3 ⟨rfl, hb3⟩
      have HT3 : Hid (TakAt fs k w3 w.heap.size ∧ Below w.heap.size w w3) := ⟨HT1.out.1.keep hb3, HT1.out.2.trans (hb3.mono HT1.out.2.size)⟩
      clear cw hb3 q0 q1 q2 q3 q4 q5 q6 q7
      obtain ⟨z0, k0⟩ := HT3.out.1.cell (k * 2) (by omega)
      obtain ⟨z1, k1⟩ := HT3.out.1.cell (k * 2 + 1) (by omega)
      have f0 := HT3.out.1.frozen (k * 2)
      have f1 := HT3.out.1.frozen (k * 2 + 1)
      have HN : Hid (TakAt fs (k + 1) ((w3.setCell ⟨w.heap.size, k * 2, none⟩ (.int .i64 wr1)).setCell ⟨w.heap.size, k * 2 + 1, none⟩ (.int .i64 wr2)) w.heap.size ∧ Below w.heap.size w ((w3.setCell ⟨w.heap.size, k * 2, none⟩ (.int .i64 wr1)).setCell ⟨w.heap.size, k * 2 + 1, none⟩ (.int .i64 wr2))) :=
        ⟨HP.out w3 HT3.out.1, tak_below HT3.out.2 (Nat.le_refl _) _ _ _ _⟩
      go_wp2_with fail
      refine ⟨⟨k + 1, ⟨c, HN.out.1, HN.out.2⟩, by go_num⟩, ?_⟩
      simp [intOf]
      omega
    · have hk : k = fs.length := by omega
      subst hk
      go_wp2_with fail
      go_ret
      exact ⟨rfl, HR.out.1, HR.out.2⟩

end Go.Proofs.YtkoamenfbnpdbaaDoor.Cd
