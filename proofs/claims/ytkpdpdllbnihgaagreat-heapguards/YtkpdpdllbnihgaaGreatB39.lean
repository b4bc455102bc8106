/- UZ, UO -/
import Derived.Test.YtkpdpdllbnihgaaGreatB1
import Derived.Test.YtkpdpdllbnihgaaGreatUN
import Derived.Test.YtkpdpdllbnihgaaGreatB21
set_option linter.unusedVariables false
set_option linter.unusedSimpArgs false
set_option maxRecDepth 100000
set_option maxHeartbeats 40000000
/- Heap's scripts, as they lie in memory. -/
namespace Go.Proofs.YtkpdpdllbnihgaaGreat.Hp
open Go.RowKit Go.ChangeShapes Go.WideShapes
def opC (o : OpL) : List Value := [.int .i64 o.kd, .int .u64 o.o, .int .u64 o.p, .string o.k, .int .u64 o.d.va, .int .u64 o.d.se, .int .i64 o.d.fl, .int .i64 o.n, o.w.val]
theorem some_bulk {H : Type} (d : DataW H) : 1 ≤ Rows.uptoBulk d := by
  cases d with
  | lit l => cases l <;> simp [Rows.uptoBulk]
  | _ => simp [Rows.uptoBulk]
theorem list_bulk {H : Type} : ∀ l : List (DataW H), l.length ≤ Rows.uptoBulkAll l
  | [] => Nat.zero_le _
  | d :: l => by
    have h1 := some_bulk d
    have h2 := list_bulk l
    simp only [Rows.uptoBulkAll, List.length_cons]
    omega
theorem slice_bulk {H : Type} (els sp : List (DataW H)) : els.length + 1 ≤ Rows.uptoBulk (.slice els sp) := by
  have := list_bulk els
  simp only [Rows.uptoBulk]
  omega
theorem mem_bulk {H : Type} {d : DataW H} : ∀ {l : List (DataW H)}, d ∈ l → Rows.uptoBulk d ≤ Rows.uptoBulkAll l
  | x :: l, h => by
    simp only [Rows.uptoBulkAll]
    rcases List.mem_cons.1 h with rfl | h
    · omega
    · have := mem_bulk h
      omega
theorem all_bulk {H : Type} (c : Nat) : ∀ l : List (DataW H), (∀ d ∈ l, c ≤ Rows.uptoBulk d) → c * l.length ≤ Rows.uptoBulkAll l
  | [], _ => by simp
  | x :: l, h => by
    have h1 := h x (by simp)
    have h2 := all_bulk c l (fun d hd => h d (by simp [hd]))
    simp only [Rows.uptoBulkAll, List.length_cons, Nat.mul_add, Nat.mul_one]
    omega
section
variable {H : Type} {enc : TypeId × Value → H} {w : World} {base : Nat} {spare : Nat → Bool} {held : Bool}
/-- a slice, and what its elements are told as -/
theorem open_slx {α : Type} {t e : TypeId} {k c fuel : Nat} {cs : List Value} {x : DataW H × List MemPlace} (enc' : α → List Value) (good : α → DataW H → Prop)
    (ht : Tryz.prog.underlying t = some (.slice e)) (hk : Tryz.prog.cellsOf e = k) (hk0 : 0 < k) (hlen : ∀ y, (enc' y).length = k)
    (elem : ∀ n cs' x', DataW.trod enc Tryz.prog w base spare held n e cs' = some x' → ∃ y, cs' = enc' y ∧ good y x'.1) (hc : ∀ y d, good y d → c ≤ Rows.uptoBulk d)
    (h : DataW.trod enc Tryz.prog w base spare held fuel t cs = some x) :
    ∃ s : Sli α, cs = [s.val] ∧ s.ok enc' k w ∧ (∀ y ∈ s.xs, ∃ d, good y d ∧ Rows.uptoBulk d ≤ Rows.uptoBulk x.1) ∧ c * s.xs.length ≤ Rows.uptoBulk x.1 := by
  rcases Go.Deep.open_slice ht h with ⟨rfl, rfl⟩ | ⟨a, len, cap, m, n, D, Pl, rfl, hb, hl, hm, hmm, rfl, hx⟩
  · exact ⟨⟨none, 0, []⟩, rfl, ⟨Nat.le_refl _, Nat.zero_le _, fun h => absurd rfl h⟩, (fun y hy => by cases hy), by simp⟩
  · have hlm : len ≤ m := by rw [hmm]; split <;> omega
    have hall : ∀ i : Fin len, ∃ y, good y (D i.val) ∧ ∀ j, j < k → w.cell? ((a.add (i.val * k)).add j) = (enc' y)[j]? := by
      intro i
      obtain ⟨cs', h1, h2⟩ := hx i.val (by omega)
      obtain ⟨y, rfl, hg⟩ := elem n cs' _ h2
      rw [hk] at h1
      obtain ⟨_, _, hcell⟩ := World.cells?_some h1
      exact ⟨y, hg, hcell⟩
    let f : Fin len → α := fun i => Classical.choose (hall i)
    have hf : ∀ i, good (f i) (D i.val) ∧ ∀ j, j < k → w.cell? ((a.add (i.val * k)).add j) = (enc' (f i))[j]? := fun i => Classical.choose_spec (hall i)
    have hbk : Rows.uptoBulk (DataW.slice ((List.range len).map D) ((List.range (m - len)).map fun j => D (len + j))) = Rows.uptoBulkAll ((List.range len).map D) + Rows.uptoBulkAll ((List.range (m - len)).map fun j => D (len + j)) + 1 := by simp only [Rows.uptoBulk]
    refine ⟨⟨some a, cap, List.ofFn f⟩, by simp [Sli.val], ⟨by simpa using hl, hm, fun h0 => ?_⟩, ?_, ?_⟩
    · have lpos : 0 < len := by
        rcases Nat.eq_zero_or_pos len with c | c
        · subst c
          exact absurd (by simp) h0
        · exact c
      have h1 := (hf ⟨0, lpos⟩).2 0 hk0
      have hsp : a.spot = none := by
        have h2 : (enc' (f ⟨0, lpos⟩))[0]? = some ((enc' (f ⟨0, lpos⟩))[0]'(by rw [hlen]; exact hk0)) := List.getElem?_eq_getElem _
        rw [h2] at h1
        have e1 : (a.add (0 * k)).add 0 = a := by simp [Addr.add]
        rw [show ((⟨0, lpos⟩ : Fin len).val * k) = 0 * k from rfl, e1] at h1
        exact World.cell?_spot h1
      obtain ⟨b, off, sp⟩ := a
      simp only at hsp
      subst hsp
      refine ⟨b, off, rfl, ?_⟩
      intro i y hi j u hj
      simp only [List.getElem?_ofFn] at hi
      split at hi
      · rename_i c
        obtain rfl := Option.some.inj hi
        have jl : j < k := by
          rcases Nat.lt_or_ge j k with d | d
          · exact d
          · rw [List.getElem?_eq_none (by rw [hlen]; exact d)] at hj; cases hj
        have h3 := (hf ⟨i, c⟩).2 j jl
        rw [hj] at h3
        rw [← h3]
        refine congrArg w.cell? ?_
        have ea : ∀ (p n : Nat), (⟨b, p, none⟩ : Addr).add n = ⟨b, p + n, none⟩ := by
          intro p n
          unfold Addr.add
          by_cases hn : n = 0
          · subst hn; simp
          · simp [hn]
        rw [ea, ea]
      · cases hi
    · intro y hy
      simp only [List.mem_ofFn] at hy
      obtain ⟨i, rfl⟩ := hy
      refine ⟨D i.val, (hf i).1, ?_⟩
      have := mem_bulk (d := D i.val) (l := (List.range len).map D) (List.mem_map.2 ⟨i.val, List.mem_range.2 i.2, rfl⟩)
      show _ ≤ Rows.uptoBulk (DataW.slice _ _)
      rw [hbk]
      omega
    · have := all_bulk c ((List.range len).map D) (fun d hd => by
        obtain ⟨i, hi, rfl⟩ := List.mem_map.1 hd
        exact hc _ _ (hf ⟨i, List.mem_range.1 hi⟩).1)
      show _ ≤ Rows.uptoBulk (DataW.slice _ _)
      rw [hbk]
      simp only [List.length_map, List.length_range] at this
      simp only [List.length_ofFn]
      omega
set_option maxRecDepth 100000 in
theorem open_desc {n : Nat} {cs : List Value} {x : DataW H × List MemPlace} (h : DataW.trod enc Tryz.prog w base spare held n 35 cs = some x) : ∃ d : De, cs = [.int .u64 d.va, .int .u64 d.se, .int .i64 d.fl] ∧ 4 ≤ Rows.uptoBulk x.1 := by
  obtain ⟨xs, k, hk, hxy, hlen, hxl, hf⟩ := DataW.trod_struct Tryz.underlying35 h
  rw [show Tryz.prog.cellsOf 35 = 3 by kernel_rfl] at hlen
  have hxl : xs.length = 3 := hxl
  match cs, hlen, xs, hxl with
  | [v0, v1, v2], _, [y0, y1, y2], _ =>
    have g0 : DataW.trod enc Tryz.prog w base spare held k 33 [v0] = some y0 := hf 0 _ rfl
    obtain ⟨a0, e0, _, _⟩ := DataW.trod_int Tryz.underlying33 g0
    obtain rfl : v0 = _ := by simpa using e0
    have g1 : DataW.trod enc Tryz.prog w base spare held k 33 [v1] = some y1 := hf 1 _ rfl
    obtain ⟨a1, e1, _, _⟩ := DataW.trod_int Tryz.underlying33 g1
    obtain rfl : v1 = _ := by simpa using e1
    have g2 : DataW.trod enc Tryz.prog w base spare held k 3 [v2] = some y2 := hf 2 _ rfl
    obtain ⟨a2, e2, _, _⟩ := DataW.trod_int Tryz.underlying3 g2
    obtain rfl : v2 = _ := by simpa using e2
    refine ⟨⟨a0, a1, a2⟩, rfl, ?_⟩
    rw [hxy]
    have b0 := some_bulk y0.1
    have b1 := some_bulk y1.1
    have b2 := some_bulk y2.1
    simp only [List.map_cons, List.map_nil, Rows.uptoBulk, Rows.uptoBulkAll]
    omega
/-- a call, as it is told -/
structure OpGood (w : World) (o : OpL) (b : Nat) : Prop where
  o0 : 0 ≤ o.o
  o1 : o.o < 18446744073709551616
  p0 : 0 ≤ o.p
  p1 : o.p < 18446744073709551616
  kl : o.k.size ≤ maxLen
  n1 : o.n ≤ 9223372036854775807
  ok : o.w.ok wC 1 w
  bk : o.w.xs.length + 11 ≤ b
set_option maxRecDepth 100000 in
theorem open_op {n : Nat} {cs : List Value} {x : DataW H × List MemPlace} (h : DataW.trod enc Tryz.prog w base spare held n 38 cs = some x) : ∃ o : OpL, cs = opC o ∧ OpGood w o (Rows.uptoBulk x.1) := by
  obtain ⟨xs, k, hk, hxy, hlen, hxl, hf⟩ := DataW.trod_struct Tryz.underlying38 h
  rw [show Tryz.prog.cellsOf 38 = 9 by kernel_rfl] at hlen
  have hxl : xs.length = 7 := hxl
  match cs, hlen, xs, hxl with
  | [v0, v1, v2, v3, v4, v5, v6, v7, v8], _, [y0, y1, y2, y3, y4, y5, y6], _ =>
    have g0 : DataW.trod enc Tryz.prog w base spare held k 3 [v0] = some y0 := hf 0 _ rfl
    obtain ⟨a0, e0, _⟩ := open_int g0
    obtain rfl : v0 = _ := by simpa using e0
    have g1 : DataW.trod enc Tryz.prog w base spare held k 33 [v1] = some y1 := hf 1 _ rfl
    obtain ⟨a1, e1, w1⟩ := open_word g1
    obtain rfl : v1 = _ := by simpa using e1
    have g2 : DataW.trod enc Tryz.prog w base spare held k 33 [v2] = some y2 := hf 2 _ rfl
    obtain ⟨a2, e2, w2⟩ := open_word g2
    obtain rfl : v2 = _ := by simpa using e2
    have g3 : DataW.trod enc Tryz.prog w base spare held k 9 [v3] = some y3 := hf 3 _ rfl
    obtain ⟨a3, e3, w3⟩ := open_str g3
    obtain rfl : v3 = _ := by simpa using e3
    have g4 : DataW.trod enc Tryz.prog w base spare held k 35 [v4, v5, v6] = some y4 := hf 4 _ rfl
    obtain ⟨d, e4, b4⟩ := open_desc g4
    obtain ⟨rfl, rfl, rfl⟩ : v4 = .int .u64 d.va ∧ v5 = .int .u64 d.se ∧ v6 = .int .i64 d.fl := by simpa using e4
    have g5 : DataW.trod enc Tryz.prog w base spare held k 3 [v7] = some y5 := hf 5 _ rfl
    obtain ⟨a5, e5, w5⟩ := open_int g5
    obtain rfl : v7 = _ := by simpa using e5
    have g6 : DataW.trod enc Tryz.prog w base spare held k 36 [v8] = some y6 := hf 6 _ rfl
    obtain ⟨s, e6, w6, _, w7⟩ := open_sl wC (fun _ => True) Tryz.underlying36 (show Tryz.prog.cellsOf 33 = 1 by kernel_rfl) (by omega) (fun _ => rfl) (fun n cs' x' h => by obtain ⟨y, e, _⟩ := open_word h; exact ⟨y, e, trivial⟩) g6
    obtain rfl : v8 = _ := by simpa using e6
    refine ⟨⟨a0, a1, a2, a3, d, a5, s⟩, rfl, ⟨w1.1, w1.2, w2.1, w2.2, w3, w5.2, w6, ?_⟩⟩
    rw [hxy]
    have b0 := some_bulk y0.1
    have b1 := some_bulk y1.1
    have b2 := some_bulk y2.1
    have b3 := some_bulk y3.1
    have b5 := some_bulk y5.1
    have b6 : s.xs.length + 1 ≤ Rows.uptoBulk y6.1 := by
      rcases w7 with e | ⟨els, sp, e, l⟩
      · rw [e]; exact some_bulk _
      · rw [e, ← l]; exact slice_bulk _ _
    simp only [List.map_cons, List.map_nil, Rows.uptoBulk, Rows.uptoBulkAll]
    omega
/-- a script -/
theorem open_ops {n : Nat} {cs : List Value} {x : DataW H × List MemPlace} (h : DataW.trod enc Tryz.prog w base spare held n 22 cs = some x) (hb : Rows.uptoBulk x.1 ≤ 1048576) :
    ∃ s : Sli OpL, cs = [s.val] ∧ s.ok opC 9 w ∧ (∀ o ∈ s.xs, o.wf ∧ o.w.ok wC 1 w) ∧ 11 * s.xs.length ≤ 1048576 := by
  obtain ⟨s, e1, e2, e3, e4⟩ := open_slx (c := 11) opC (fun o d => OpGood w o (Rows.uptoBulk d)) Tryz.underlying22 (show Tryz.prog.cellsOf 38 = 9 by kernel_rfl) (by omega) (fun _ => rfl) (fun n cs' x' h => open_op h) (fun y d g => by have := g.bk; omega) h
  refine ⟨s, e1, e2, fun o ho => ?_, by omega⟩
  obtain ⟨d, g, hd⟩ := e3 o ho
  exact ⟨⟨g.o0, g.o1, g.p0, g.p1, g.kl, g.n1, by have := g.bk; omega⟩, g.ok⟩
end
end Go.Proofs.YtkpdpdllbnihgaaGreat.Hp
/- A call of a script: on its way. -/
namespace Go.Proofs.YtkpdpdllbnihgaaGreat.Hp
open Go.RowKit
/-- the blocks X, and three more: the call's own variables -/
def Xb (w : World) (X : Nat → Prop) (b : Nat) : Prop := X b ∨ (w.heap.size ≤ b ∧ b < w.heap.size + 3)
/-- on a call's way: vS, tS its variable of the store, cs the call, vR, tR its result -/
structure On (w0 w W : World) (X : Nat → Prop) (hb : Nat) (H : He) (S : List So) (vo vt : SV) (ts : List ByteArray) (vS tS : SV) (cs : Array Value) (vR tR : SV) : Prop where
  two : TwoE w0 W (Xb w X) hb H S vo vt ts
  kp : ∀ b, X b → W.heap[b]? = w.heap[b]?
  xl : ∀ b, X b → b < w.heap.size
  lo : w0.heap.size ≤ w.heap.size
  s : BxS W w.heap.size vS tS
  o : W.heap[w.heap.size + 1]? = some (.cells cs 38 (0, 0))
  r : BxS W (w.heap.size + 1 + 1) vR tR
section
variable {w0 w W W' : World} {X : Nat → Prop} {hb : Nat} {H H' : He} {S S' : List So} {vo vo' vt vt' : SV} {ts ts' : List ByteArray} {vS tS vR tR : SV} {cs : Array Value}
theorem On.start (h : TwoE w0 w X hb H S vo vt ts) (cs : Array Value) : On w0 w (((w.alloc (.cells #[vo.val, vt.val] 28)).alloc (.cells cs 38)).alloc (.cells #[.slice none 0 0, .slice none 0 0] 28)) X hb H S vo vt ts vo vt cs .nil .nil := by
  have z1 := size_new w (.cells #[vo.val, vt.val] 28)
  have z2 := size_new (w.alloc (.cells #[vo.val, vt.val] 28)) (.cells cs 38)
  have z3 := size_new ((w.alloc (.cells #[vo.val, vt.val] 28)).alloc (.cells cs 38)) (.cells #[.slice none 0 0, .slice none 0 0] 28)
  have hB : Below w.heap.size w (((w.alloc (.cells #[vo.val, vt.val] 28)).alloc (.cells cs 38)).alloc (.cells #[.slice none 0 0, .slice none 0 0] 28)) := below_new (B2 w _ _) (by rw [z2, z1]; omega) _
  refine ⟨(h.box hB).mono (fun b q => q.imp id (fun q => ⟨q.1, by rw [z3, z2, z1]; exact q.2⟩)), fun b q => hB.block b (h.lt q), fun b q => h.lt q, h.bel.size, ?_, ?_, ?_⟩
  · exact at_old _ _ _ _ (at_old _ _ _ _ (at_new _ _))
  · exact at_old _ _ _ _ (at_two _ _ _)
  · have := at_new ((w.alloc (.cells #[vo.val, vt.val] 28)).alloc (.cells cs 38)) (.cells #[.slice none 0 0, .slice none 0 0] 28)
    rw [z2, z1] at this
    exact this
theorem On.call (h : On w0 w W X hb H S vo vt ts vS tS cs vR tR) (k : TwoK w0 W W' (Xb w X) hb H' S' vo' vt' ts') : On w0 w W' X hb H' S' vo' vt' ts' vS tS cs vR tR := by
  have e : ∀ j, j < 3 → W'.heap[w.heap.size + j]? = W.heap[w.heap.size + j]? := fun j hj => k.kp _ (Or.inr ⟨by omega, by omega⟩)
  refine ⟨k.two, fun b q => (k.kp b (Or.inl q)).trans (h.kp b q), h.xl, h.lo, ?_, ?_, ?_⟩
  · exact (e 0 (by omega)).trans h.s
  · exact (e 1 (by omega)).trans h.o
  · exact (e 2 (by omega)).trans h.r
theorem On.same (h : On w0 w W X hb H S vo vt ts vS tS cs vR tR) (hB : Below W.heap.size W W') : On w0 w W' X hb H S vo vt ts vS tS cs vR tR := h.call (h.two.same hB)
theorem On.xne (h : On w0 w W X hb H S vo vt ts vS tS cs vR tR) {b k : Nat} (q : X b) (hk : w.heap.size ≤ k) : b ≠ k := by have := h.xl b q; omega
/-- the store's variable is another one -/
theorem On.set1 (h : On w0 w W X hb H S vo vt ts vS tS cs vR tR) (va ta : SV) : On w0 w ((W.setCell ⟨w.heap.size, 0, none⟩ va.val).setCell ⟨w.heap.size, 1, none⟩ ta.val) X hb H S vo vt ts va ta cs vR tR := by
  have z0 := heap_setCell_same _ w.heap.size 0 _ _ va.val h.s
  have z1 := heap_setCell_same _ w.heap.size 1 _ _ ta.val z0
  have hc : Chg (fun b => b = w.heap.size) W ((W.setCell ⟨w.heap.size, 0, none⟩ va.val).setCell ⟨w.heap.size, 1, none⟩ ta.val) :=
    (Chg.set (S := fun b => b = w.heap.size) W ⟨w.heap.size, 0, none⟩ va.val rfl).trans (Chg.set (S := fun b => b = w.heap.size) _ ⟨w.heap.size, 1, none⟩ ta.val rfl) (fun _ _ e => e)
  refine ⟨(h.two.set (b := w.heap.size) (Or.inr ⟨Nat.le_refl _, by omega⟩) h.lo 0 _).set (b := w.heap.size) (Or.inr ⟨Nat.le_refl _, by omega⟩) h.lo 1 _, fun b q => ?_, h.xl, h.lo, z1, ?_, h.r.kept hc (by omega)⟩
  · have hbl : b < W.heap.size := h.two.lt (Or.inl q)
    rw [hc.block b hbl (h.xne q (Nat.le_refl _))]
    exact h.kp b q
  · rw [hc.block _ (Array.getElem?_eq_some_iff.1 h.o).1 (by omega)]
    exact h.o
/-- the result is another one -/
theorem On.set2 (h : On w0 w W X hb H S vo vt ts vS tS cs vR tR) (va ta : SV) : On w0 w ((W.setCell ⟨w.heap.size + 1 + 1, 0, none⟩ va.val).setCell ⟨w.heap.size + 1 + 1, 1, none⟩ ta.val) X hb H S vo vt ts vS tS cs va ta := by
  have z0 := heap_setCell_same _ (w.heap.size + 1 + 1) 0 _ _ va.val h.r
  have z1 := heap_setCell_same _ (w.heap.size + 1 + 1) 1 _ _ ta.val z0
  have hc : Chg (fun b => b = w.heap.size + 1 + 1) W ((W.setCell ⟨w.heap.size + 1 + 1, 0, none⟩ va.val).setCell ⟨w.heap.size + 1 + 1, 1, none⟩ ta.val) :=
    (Chg.set (S := fun b => b = w.heap.size + 1 + 1) W ⟨w.heap.size + 1 + 1, 0, none⟩ va.val rfl).trans (Chg.set (S := fun b => b = w.heap.size + 1 + 1) _ ⟨w.heap.size + 1 + 1, 1, none⟩ ta.val rfl) (fun _ _ e => e)
  have hl := h.lo
  refine ⟨(h.two.set (b := w.heap.size + 1 + 1) (Or.inr ⟨by omega, by omega⟩) (by omega) 0 _).set (b := w.heap.size + 1 + 1) (Or.inr ⟨by omega, by omega⟩) (by omega) 1 _, fun b q => ?_, h.xl, h.lo, h.s.kept hc (by omega), ?_, z1⟩
  · have hbl : b < W.heap.size := h.two.lt (Or.inl q)
    rw [hc.block b hbl (h.xne q (by omega))]
    exact h.kp b q
  · rw [hc.block _ (Array.getElem?_eq_some_iff.1 h.o).1 (by omega)]
    exact h.o
theorem On.fin (h : On w0 w W X hb H S vo vt ts vS tS cs vR tR) : TwoK w0 w W X hb H S vo vt ts := ⟨h.two.mono (fun b q => Or.inl q), h.kp⟩
theorem On.oc (h : On w0 w W X hb H S vo vt ts vS tS cs vR tR) (j : Nat) {v : Value} (hj : cs[j]? = some v) : W.cell? ⟨w.heap.size + 1, j, none⟩ = some v := by
  rw [cell_of_row W _ j cs _ (0, 0) h.o]
  exact hj
end
/-- first: the first word of some -/
theorem first_any (w : World) (m : Sli Int) (hm : m.ok wC 1 w) : Calls Tryz.prog 32 #[m.val] w fun e w' => e = .returned (.int .u64 ((m.xs[0]?).getD undW)) ∧ w' = w := by
  obtain ⟨a, c, l⟩ := m
  cases l with
  | nil =>
    unfold Sli.val undW
    simp only [List.length_nil]
    go_enter Tryz.func32, Tryz.ntmps32
    go_wp2_with fail
    go_ret
    exact ⟨rfl, rfl⟩
  | cons x l =>
    obtain ⟨b, off, e1, hc⟩ := hm.cells (by simp)
    simp only at e1
    subst e1
    have d0 := hc 0 x rfl 0 _ rfl
    have hl : (0 : Int) < ((x :: l).length : Int) := by rw [List.length_cons]; omega
    have hl2 : (((x :: l).length : Int) == 0) = false := by
      rw [beq_eq_false_iff_ne]
      omega
    have e : (((x :: l)[0]?).getD undW) = x := rfl
    rw [e]
    unfold Sli.val
    simp only [Nat.zero_mul, Nat.add_zero] at d0 ⊢
    generalize (x :: l).length = n at *
    clear hc hm e
    go_enter Tryz.func32, Tryz.ntmps32
    go_wp2_with fail
    go_ret
    exact ⟨rfl, rfl⟩
end Go.Proofs.YtkpdpdllbnihgaaGreat.Hp
