/- Package code: wanted. -/
import Derived.Test.YtkoamenfbnpdbaaDoorCB
namespace Go.Proofs.YtkoamenfbnpdbaaDoor.Cd
open Go.RowKit
set_option linter.unusedVariables false

/-- a block of two cells -/
structure Row2 (w : World) (g : Nat) (t : TypeId) (o0 o1 : Value) : Prop where
  row : w.heap[g]? = some (.cells #[o0, o1] t (0, 0))

theorem Row2.c0 {w : World} {g : Nat} {t : TypeId} {o0 o1 : Value} (h : Row2 w g t o0 o1) : w.cell? ⟨g, 0, none⟩ = some o0 := by rw [cell_of_row w g 0 _ t (0, 0) h.row]; rfl
theorem Row2.c1 {w : World} {g : Nat} {t : TypeId} {o0 o1 : Value} (h : Row2 w g t o0 o1) : w.cell? ⟨g, 1, none⟩ = some o1 := by rw [cell_of_row w g 1 _ t (0, 0) h.row]; rfl
theorem Row2.f {w : World} {g : Nat} {t : TypeId} {o0 o1 : Value} (h : Row2 w g t o0 o1) (j : Nat) : w.frozen? ⟨g, j, none⟩ = false := frozen_of_row w g j _ t h.row
theorem Row2.new (w : World) (t : TypeId) (o0 o1 : Value) : Row2 (w.alloc (.cells #[o0, o1] t)) w.heap.size t o0 o1 := ⟨heap_alloc_new w _⟩
theorem Row2.lt {w : World} {g : Nat} {t : TypeId} {o0 o1 : Value} (h : Row2 w g t o0 o1) : g < w.heap.size := (Array.getElem?_eq_some_iff.1 h.row).1
theorem Row2.keep {w w2 : World} {g : Nat} {t : TypeId} {o0 o1 : Value} (h : Row2 w g t o0 o1) (hb : Below w.heap.size w w2) : Row2 w2 g t o0 o1 := ⟨(hb.block g h.lt).trans h.row⟩
theorem Row2.set0 {w : World} {g : Nat} {t : TypeId} {o0 o1 : Value} (h : Row2 w g t o0 o1) (v : Value) : Row2 (w.setCell ⟨g, 0, none⟩ v) g t v o1 := ⟨heap_setCell_same _ _ 0 _ _ _ h.row⟩
theorem Row2.set1 {w : World} {g : Nat} {t : TypeId} {o0 o1 : Value} (h : Row2 w g t o0 o1) (v : Value) : Row2 (w.setCell ⟨g, 1, none⟩ v) g t o0 v := ⟨heap_setCell_same _ _ 1 _ _ _ h.row⟩
theorem Row2.other {w : World} {g g' : Nat} {t : TypeId} {o0 o1 : Value} (h : Row2 w g t o0 o1) (j : Nat) (v : Value) (hg : g ≠ g') : Row2 (w.setCell ⟨g', j, none⟩ v) g t o0 o1 :=
  ⟨by rw [heap_setCell_other w _ _ _ hg]; exact h.row⟩

/-- what a function asks of its makers: the last register and the last of their captures -/
def wantF (r fr : Int) : List Cap → Int × Int
  | [] => (r, fr)
  | c :: l => if c.idx < 0 then (9223372036854775807, 9223372036854775807) else if c.free then wantF r (max fr c.idx) l else wantF (max r c.idx) fr l

structure WaAt (px : List Cap) (w wr : World) (k : Nat) (r fr : Int) : Prop where
  le : k ≤ px.length
  val : wantF (-1) (-1) px = wantF r fr (px.drop k)
  bel : Below w.heap.size w wr
  big : w.heap.size + 2 ≤ wr.heap.size
  r0 : Row2 wr w.heap.size 66 (.int .i64 0) (.int .i64 0)
  r1 : Row2 wr (w.heap.size + 1) 66 (.int .i64 r) (.int .i64 fr)

set_option maxRecDepth 100000 in
set_option maxHeartbeats 4000000 in
theorem wanted_any (s : Sli Cap) (w : World) (hs : s.ok capC 2 w) :
    Calls Tryd.prog 32 #[s.val] w fun e w' => e = .returned (.agg #[.int .i64 (wantF (-1) (-1) s.xs).1, .int .i64 (wantF (-1) (-1) s.xs).2]) ∧ Below w.heap.size w w' := by
  obtain ⟨ad, cap, xs⟩ := s
  have h1 := hs.len
  have h2 := hs.cap
  simp only at h1 h2
  have hlen : xs.length ≤ maxLen := by omega
  clear h1 h2
  have HS : Hid (Sli.ok capC 2 w ⟨ad, cap, xs⟩) := hs
  clear hs
  unfold Sli.val
  simp only
  unfold maxLen at hlen
  have HI : Hid (WaAt xs w ((w.alloc (.cells #[.int .i64 0, .int .i64 0] 66)).alloc (.cells #[.int .i64 (-1), .int .i64 (-1)] 66)) 0 (-1) (-1)) := by
    have b1 := below_new (Below.refl w.heap.size w) (Nat.le_refl _) (.cells #[.int .i64 0, .int .i64 0] 66)
    have rn := Row2.new (w.alloc (.cells #[.int .i64 0, .int .i64 0] 66)) 66 (.int .i64 (-1)) (.int .i64 (-1))
    rw [size_new] at rn
    refine ⟨Nat.zero_le _, by simp, below_new b1 b1.size _, by rw [size_new, size_new]; omega, (Row2.new w 66 _ _).keep (below_new (Below.refl _ _) (Nat.le_refl _) _), rn⟩
  go_enter Tryd.func32, Tryd.ntmps32
  go_wp2_with fail
  go_loopw [9] (fun i wr => ∃ (k : Nat) (r fr : Int), WaAt xs w wr k r fr ∧ i = .int .i64 k) (fun i wr => xs.length - (intOf i).toNat)
  case atStart => exact ⟨0, -1, -1, HI.out, rfl⟩
  case round =>
    obtain ⟨k, r, fr, hr, rfl⟩ := hrel
    have HR : Hid (WaAt xs w wr k r fr) := hr
    have kle := hr.le
    have p0 := hr.r0
    have p1 := hr.r1
    clear hr
    rcases Nat.lt_or_ge k xs.length with c | c
    · have hex : ∃ y, xs[k]? = some y := ⟨_, List.getElem?_eq_getElem c⟩
      obtain ⟨y, hy⟩ := hex
      have hd : xs.drop k = y :: xs.drop (k + 1) := by
        rw [List.drop_eq_getElem_cons c]
        rw [List.getElem?_eq_getElem c] at hy
        rw [Option.some.inj hy]
      obtain ⟨b, off, rfl, hcc⟩ := (HS.out.kept (cells_below HR.out.bel)).cells (by intro e; simp at e; subst e; simp at c)
      have q0 := hcc k y hy 0 _ rfl
      have q1 := hcc k y hy 1 _ rfl
      rw [Nat.add_zero] at q0
      clear hcc hy
      obtain ⟨free, idx⟩ := y
      simp only at q0 q1
      have HN := below_new HR.out.bel HR.out.bel.size (.cells #[.bool free, .int .i64 idx] 56)
      have n0 := p0.keep (below_new (Below.refl _ _) (Nat.le_refl _) (.cells #[.bool free, .int .i64 idx] 56))
      have n1 := p1.keep (below_new (Below.refl _ _) (Nat.le_refl _) (.cells #[.bool free, .int .i64 idx] 56))
      have HV := HR.out.val
      rw [hd, wantF] at HV
      have HG : Hid (w.heap.size + 2 ≤ wr.heap.size) := HR.out.big
      have HGs : Hid ((wr.alloc (.cells #[.bool free, .int .i64 idx] 56)).heap.size = wr.heap.size + 1) := size_new _ _
      have e0 : wr.cell? ⟨w.heap.size, 0, none⟩ = some (.int .i64 0) := p0.c0
      have HN' : Hid (Below w.heap.size w (wr.alloc (.cells #[.bool free, .int .i64 idx] 56))) := HN
      clear p0 p1 e0 HN
      by_cases t1 : idx < 0
      · rw [if_pos t1] at HV
        have HV2 : Hid (wantF (-1) (-1) xs = (9223372036854775807, 9223372036854775807)) := HV
        have HP := (n0.set0 (.int .i64 9223372036854775807)).set1 (.int .i64 9223372036854775807)
        have HB := (HN'.out.setCell (p := ⟨w.heap.size, 0, none⟩) (Nat.le_refl _) (.int .i64 9223372036854775807)).setCell (p := ⟨w.heap.size, 1, none⟩) (Nat.le_refl _) (.int .i64 9223372036854775807)
        have k0 := n0.c0
        have k1 := n0.c1
        have f0 := n0.f 0
        have f1 := n0.f 1
        have HX : Hid (Below w.heap.size w (((wr.alloc (.cells #[.bool free, .int .i64 idx] 56)).setCell ⟨w.heap.size, 0, none⟩ (.int .i64 9223372036854775807)).setCell ⟨w.heap.size, 1, none⟩ (.int .i64 9223372036854775807)) ∧ Row2 (((wr.alloc (.cells #[.bool free, .int .i64 idx] 56)).setCell ⟨w.heap.size, 0, none⟩ (.int .i64 9223372036854775807)).setCell ⟨w.heap.size, 1, none⟩ (.int .i64 9223372036854775807)) w.heap.size 66 (.int .i64 9223372036854775807) (.int .i64 9223372036854775807)) := ⟨HB, HP⟩
        clear n0 n1 HV HB HP
        go_wp2_with fail
        refine bodyPost_ret (results_cell_row rfl _ _ w.heap.size 66 _ (0, 0) _ rfl HX.out.2.row Tryd.underlying66 rfl (by kernel_rfl)) rfl ?_
        rw [HV2.out]
        exact ⟨rfl, HX.out.1⟩
      · rw [if_neg t1] at HV
        cases free with
        | true =>
          rw [if_pos rfl] at HV
          have HP : Hid (WaAt xs w ((wr.alloc (.cells #[.bool true, .int .i64 idx] 56)).setCell ⟨w.heap.size + 1, 1, none⟩ (.int .i64 (max fr idx))) (k + 1) r (max fr idx)) :=
            ⟨c, HV, HN'.out.setCell (p := ⟨w.heap.size + 1, 1, none⟩) (by show _ ≤ w.heap.size + 1; omega) _, by rw [World.size_setCell, HGs.out]; have := HG.out; omega, n0.other 1 _ (by omega), n1.set1 _⟩
          have k0 := n1.c0
          have k1 := n1.c1
          have f1 := n1.f 1
          clear HV n0 n1 hd
          go_wp2_with fail
          refine ⟨⟨k + 1, r, max fr idx, HP.out, by go_num⟩, ?_⟩
          simp [intOf]
          omega
        | false =>
          rw [if_neg (by simp)] at HV
          have HP : Hid (WaAt xs w ((wr.alloc (.cells #[.bool false, .int .i64 idx] 56)).setCell ⟨w.heap.size + 1, 0, none⟩ (.int .i64 (max r idx))) (k + 1) (max r idx) fr) :=
            ⟨c, HV, HN'.out.setCell (p := ⟨w.heap.size + 1, 0, none⟩) (by show _ ≤ w.heap.size + 1; omega) _, by rw [World.size_setCell, HGs.out]; have := HG.out; omega, n0.other 0 _ (by omega), n1.set0 _⟩
          have k0 := n1.c0
          have k1 := n1.c1
          have f1 := n1.f 0
          clear HV n0 n1 hd
          go_wp2_with fail
          refine ⟨⟨k + 1, max r idx, fr, HP.out, by go_num⟩, ?_⟩
          simp [intOf]
          omega
    · have HV : Hid (wantF (-1) (-1) xs = (r, fr)) := by
        show _ = _
        rw [HR.out.val, List.drop_of_length_le c]
        rfl
      have HP := (p0.set0 (.int .i64 r)).set1 (.int .i64 fr)
      have k0 := p0.c0
      have k1 := p0.c1
      have l0 := p1.c0
      have l1 := p1.c1
      have f0 := p0.f 0
      have f1 := p0.f 1
      have HB := (HR.out.bel.setCell (p := ⟨w.heap.size, 0, none⟩) (Nat.le_refl _) (.int .i64 r)).setCell (p := ⟨w.heap.size, 1, none⟩) (Nat.le_refl _) (.int .i64 fr)
      have HX : Hid (Below w.heap.size w ((wr.setCell ⟨w.heap.size, 0, none⟩ (.int .i64 r)).setCell ⟨w.heap.size, 1, none⟩ (.int .i64 fr)) ∧ Row2 ((wr.setCell ⟨w.heap.size, 0, none⟩ (.int .i64 r)).setCell ⟨w.heap.size, 1, none⟩ (.int .i64 fr)) w.heap.size 66 (.int .i64 r) (.int .i64 fr)) := ⟨HB, HP⟩
      clear p0 p1 HB HP
      go_wp2_with fail
      refine bodyPost_ret (results_cell_row rfl _ _ w.heap.size 66 _ (0, 0) _ rfl HX.out.2.row Tryd.underlying66 rfl (by kernel_rfl)) rfl ?_
      rw [HV.out]
      exact ⟨rfl, HX.out.1⟩

end Go.Proofs.YtkoamenfbnpdbaaDoor.Cd
