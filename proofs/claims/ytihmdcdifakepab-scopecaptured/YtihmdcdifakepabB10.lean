/- find, where there is one block, which has no names. -/
import Derived.Test.YtihmdcdifakepabB9
import Derived.Maps.OwnSet
import Derived.Test.YtihmdcdifakepabB6
namespace Go.Proofs.Ytihmdcdifakepab.Sc
open Go.RowKit Go.Shelf
set_option linter.unusedVariables false

attribute [local go_sem] Oper.semAt_some

theorem zero3 (w : World) : (zeroValue 3).run Try.prog w = .ok (.int .i64 0) w := by
  kernel_rfl
theorem look120 (s : ByteArray) (hs : s.size ≤ maxLen) (w : World) : (Instr.lookup 98 (.map none) (.string s) true).run Try.prog w = .ok (.tuple #[.int .i64 0, .bool false]) w :=
  Maps.look_nil (k := 9) true (Maps.string_keyed Try.underlying9) Try.underlying98 (zero3 w) (kl := .string s.data.toList) (by simp [keyOf, mapKey, Try.underlying9, hs])

set_option maxRecDepth 100000 in
set_option maxHeartbeats 2000000 in
theorem find_one (rb b off cap : Nat) (s : ByteArray) (w : World) (hr : w.cell? ⟨rb, 3, none⟩ = some (.slice (some ⟨b, off, none⟩) 1 cap)) (hc : w.cell? ⟨b, off, none⟩ = some (.map none)) (hs : s.size ≤ maxLen) :
    Calls Try.prog 60 #[.pointer (some ⟨rb, 0, none⟩), .string s] w fun e w' => e = .returned (.tuple #[.int .i64 (-1), .bool (decide (0 ≤ idxI s))]) ∧ Below w.heap.size w w' := by
  refine (callsIn_wide (n := 5)).1 ?_
  have hbl : b < w.heap.size := World.block_lt_of_cell? w _ hc
  have h1 : 1 ≤ 5 := by omega
  have hB3 : Below w.heap.size w (((w.alloc (.cells #[.string s] 9)).alloc (.cells #[.int .i64 0] 3)).alloc (.cells #[.bool false] 4)) := (((Below.refl w.heap.size w).alloc (Nat.le_refl _) _).alloc (by simp) _).alloc (by simp; omega) _
  have hq := cells_below hB3 _ _ hr
  refine callsIn_of_wp_marks Try.func60 rfl trivial ?_ rfl
  simp only [Try.ntmps60, List.size_toArray, List.length_cons, List.length_nil, Nat.reduceAdd, Nat.reduceSub, Array.replicate_succ, Array.replicate_zero, List.push_toArray, List.append_toArray, List.nil_append, List.cons_append]
  gi_wp2_with (refine ⟨trivial, ?_⟩; gi_at_call 66; refine (back_in Fence.wide 4 trivial rfl _ _ _ _).mono ?_; rintro e w' ⟨rfl, rfl⟩)
  have bS := Boxed.new w 9 (.string s)
  have bR := Boxed.new (w.alloc (.cells #[.string s] 9)) 3 (.int .i64 0)
  have bO := Boxed.new ((w.alloc (.cells #[.string s] 9)).alloc (.cells #[.int .i64 0] 3)) 4 (.bool false)
  have bN := Boxed.new (((w.alloc (.cells #[.string s] 9)).alloc (.cells #[.int .i64 0] 3)).alloc (.cells #[.bool false] 4)) 49 (.slice (some ⟨b, off, none⟩) 1 cap)
  rw [World.size_alloc] at bR
  rw [World.size_alloc, World.size_alloc] at bO
  rw [World.size_alloc, World.size_alloc, World.size_alloc] at bN
  have hB0 : Below w.heap.size w ((((w.alloc (.cells #[.string s] 9)).alloc (.cells #[.int .i64 0] 3)).alloc (.cells #[.bool false] 4)).alloc (.cells #[.slice (some ⟨b, off, none⟩) 1 cap] 49)) := hB3.alloc (by simp; omega) _
  have hbI : ((((w.alloc (.cells #[.string s] 9)).alloc (.cells #[.int .i64 0] 3)).alloc (.cells #[.bool false] 4)).alloc (.cells #[.slice (some ⟨b, off, none⟩) 1 cap] 49)).cell? ⟨b, off, none⟩ = some (.map none) := cells_below hB0 _ _ hc
  refine wpIn_rangeFunc_ownG rfl h1 (gf := 71) (lb := #[.pointer (some ⟨w.heap.size + 1 + 1 + 1, 0, none⟩)]) rfl trivial (enters_of Try.func71 (by kernel_rfl) rfl)
    (back_stops Fence.wide 4 trivial rfl (by omega) (w.heap.size + 1 + 1 + 1) w.heap.size b off cap hbl _ (by simp) (by simp; omega) bN.cell hbI) belowK_t (belowK_b (by simp; omega)) (Below.refl _ _) (fun _ => rfl)
    (fun pre W => ((W.cell? ⟨w.heap.size, 0, none⟩ = some (.string s) ∧ W.cell? ⟨w.heap.size + 1, 0, none⟩ = some (.int .i64 0) ∧ W.frozen? ⟨w.heap.size + 1, 0, none⟩ = false ∧ W.cell? ⟨w.heap.size + 1 + 1, 0, none⟩ = some (.bool false) ∧ W.frozen? ⟨w.heap.size + 1 + 1, 0, none⟩ = false)) ∧ Below w.heap.size w W)
    (fun _ _ _ => False)
    (OwnFrom.and (Own.from (fun s A B row hs hg hr => ⟨cell_kept hs.1 hg hr, cell_kept hs.2.1 hg hr, (frozen_kept hs.2.1 hg hr).trans hs.2.2.1, cell_kept hs.2.2.2.1 hg hr, (frozen_kept hs.2.2.2.1 hg hr).trans hs.2.2.2.2⟩) _) (ownFrom_below (Nat.le_refl _) (by simp; omega)))
    (fun c => fun _ _ _ _ h _ _ => h)
    ⟨⟨(((bS.alloc _).alloc _).alloc _).cell, ((bR.alloc _).alloc _).cell, ((bR.alloc _).alloc _).frozen, (bO.alloc _).cell, (bO.alloc _).frozen⟩, hB0⟩
    (fun _ => { tmps := #[.pointer (some ⟨rb, 0, none⟩), .string s, undef, .pointer (some ⟨w.heap.size, 0, none⟩), .pointer (some ⟨w.heap.size + 1, 0, none⟩), .pointer (some ⟨w.heap.size + 1 + 1, 0, none⟩), undef, .map none, undef, undef, undef, undef, .pointer (some ⟨rb, 0, none⟩), .pointer (some ⟨rb, 0, none⟩), .pointer (some ⟨rb, 3, none⟩), .slice (some ⟨b, off, none⟩) 1 cap, .func (.func 71) #[] #[.pointer (some ⟨w.heap.size + 1 + 1 + 1, 0, none⟩)], .int .i64 0, .map none, undef, undef, undef, undef, undef, undef, undef, undef, undef, undef, undef, undef, undef, undef], defers := [] }) ?assign ?body ?done ?stop
  case assign =>
    intro l x W K hK
    gi_wp2
    exact hK
  case body =>
    rintro l pre x W ⟨⟨h3, h4, h5, h6, h7⟩, hB⟩ _
    have hl := look120 s hs W
    gi_wp2
    exact ⟨KeepsFrom.refl _ _, Below.refl _ _, ⟨h3, h4, h5, h6, h7⟩, hB⟩
  case done =>
    rintro D ys W hD rfl ⟨⟨h3, h4, h5, h6, h7⟩, hB⟩ hK
    have hsz : w.heap.size + 1 + 1 + 1 + 1 ≤ D := by simpa using hD
    have hDW : D < W.heap.size := by
      rcases Nat.lt_or_ge D W.heap.size with h | h
      · exact h
      · rw [Array.getElem?_eq_none h] at hK; cases hK
    gi_wp2_with (refine ⟨trivial, ?_⟩; gi_at_call 67; refine (callsIn_wide.2 (builtin_any _ _)).mono ?_; rintro e w' ⟨rfl, hB1⟩; have k4 := cells_below hB1 _ _ h4; have k6 := cells_below hB1 _ _ h6; have k5 := (hB1.frozen (p := ⟨w.heap.size + 1, 0, none⟩) (by simp; omega)).trans h5; have k7 := (hB1.frozen (p := ⟨w.heap.size + 1 + 1, 0, none⟩) (by simp; omega)).trans h7)
    have hK1 : w'.heap[D]? = some (Obj.deferred (some [])) := (hB1.block D hDW).trans hK
    have hBw : Below w.heap.size w w' := hB.trans (hB1.mono hB.size)
    have hK2 := (KeepsOthers.setCell w' ⟨w.heap.size + 1, 0, none⟩ (.int .i64 (-1))).same D _ hK1 rfl
    have hK' := (KeepsOthers.setCell _ ⟨w.heap.size + 1 + 1, 0, none⟩ (.bool (decide (0 ≤ idxI s)))).same D _ hK2 rfl
    refine ⟨by simp, .inl ⟨_, _, rfl, run_takeDeferred hK', ?_⟩⟩
    have c1 : (((w'.setCell ⟨w.heap.size + 1, 0, none⟩ (.int .i64 (-1))).setCell ⟨w.heap.size + 1 + 1, 0, none⟩ (.bool (decide (0 ≤ idxI s))))).cell? ⟨w.heap.size + 1, 0, none⟩ = some (.int .i64 (-1)) := by
      rw [World.cell?_setCell_other]
      · exact World.cell?_setCell_same' _ _ _ (by rw [k4]; rfl)
      · simp
    have c2 : (((w'.setCell ⟨w.heap.size + 1, 0, none⟩ (.int .i64 (-1))).setCell ⟨w.heap.size + 1 + 1, 0, none⟩ (.bool (decide (0 ≤ idxI s))))).cell? ⟨w.heap.size + 1 + 1, 0, none⟩ = some (.bool (decide (0 ≤ idxI s))) := by
      refine World.cell?_setCell_same' _ _ _ ?_
      rw [World.cell?_setCell_other]
      · rw [k6]; rfl
      · simp
    have hc5 := cell_kept c1 (grownBy_putObj' _ D (.deferred none)) (fun r e => by cases e; exact ⟨_, hK', rfl⟩)
    have hc6 := cell_kept c2 (grownBy_putObj' _ D (.deferred none)) (fun r e => by cases e; exact ⟨_, hK', rfl⟩)
    refine ⟨.tuple #[.int .i64 (-1), .bool (decide (0 ≤ idxI s))], ?_, rfl, ((hBw.setCell (p := ⟨w.heap.size + 1, 0, none⟩) (by simp) _).setCell (p := ⟨w.heap.size + 1 + 1, 0, none⟩) (by simp; omega) _).trans (belowK_b (w := w) (Nat.le_refl _) _ D _ _ (by omega) hK' rfl rfl)⟩
    simp [results, Try.f60, go_sem, hc5, hc6]
  case stop =>
    rintro D c pre W _ _ h _
    exact h.elim
end Go.Proofs.Ytihmdcdifakepab.Sc

/- The resolver's walk: a range over slices.Backward, of many blocks. -/
namespace Go.Proofs.Ytihmdcdifakepab.Rv
open Go.RowKit Go.Shelf Go.Proofs.Ytihmdcdifakepab.Sc Go.Proofs.Ytihmdcdifakepab.Rz
set_option linter.unusedVariables false

attribute [local go_sem] Oper.semAt_some

/-- those that were gone by, where m are left -/
def revT (k m : Nat) : List (Fin k) := ((List.finRange k).drop m).reverse

theorem revT_all (k : Nat) : revT k k = [] := by unfold revT; rw [List.drop_eq_nil_of_le (by simp)]; rfl
theorem revT_next (k m : Nat) (h : m < k) : revT k m = revT k (m + 1) ++ [⟨m, h⟩] := by
  unfold revT
  rw [List.drop_eq_getElem_cons (by simpa using h), List.reverse_cons]
  congr 2
  simp
theorem revT_len (k m : Nat) : (revT k m).length = k - m := by unfold revT; simp

def encB {ms : List (Option Nat)} (x : Fin ms.length) : Array Value := #[.int .i64 ((x.val : Nat) : Int), .map ms[x.val]]

set_option maxRecDepth 100000 in
set_option maxHeartbeats 2000000 in
theorem backn_in (F : Fence) (n : Nat) (h95 : F.fn 71) (hro : F.round = none) (hn : 1 ≤ n) (l Bs n₀ b cap : Nat) (ms : List (Option Nat)) (hb : ms ≠ [] → b < n₀) (hBl : Bs < n₀) (hcm : ms.length ≤ cap ∧ cap ≤ maxLen) (J Jx : List (Fin ms.length) → World → Prop)
    (hY : ∀ pre x W, J pre W → pre.length < ms.length → YieldAt F (n - 1) Try.prog l (encB x) W fun e W' =>
      (e = .returned (.bool true) ∧ J (pre ++ [x]) W' ∧ Below n₀ W W') ∨ (e = .returned (.bool false) ∧ Jx (pre ++ [x]) W'))
    (ad : Option Addr) (W : World) (hBs : W.cell? ⟨Bs, 0, none⟩ = some (.slice ad ms.length cap)) (had : ms ≠ [] → ad = some ⟨b, 0, none⟩) (hc : ∀ (i : Nat) (m : Option Nat), ms[i]? = some m → W.cell? ⟨b, i, none⟩ = some (.map m)) (h0 : J [] W) :
    CallsIn F n Try.prog 71 #[.func (.yield l) #[] #[], .pointer (some ⟨Bs, 0, none⟩)] W fun e W' => (∃ v, e = .returned v) ∧ ((∃ xs, xs = revT ms.length 0 ∧ J xs W') ∨ ∃ pre, (∃ m, m < ms.length ∧ pre = revT ms.length m) ∧ Jx pre W') := by
  refine callsIn_of_wp Try.func71 rfl h95 ?_ hro
  have hlim : (ms.length : Int) ≤ 9223372036854775807 := by have := hcm.2; unfold maxLen at this; omega
  have HC : Hid (∀ wr, Below n₀ W wr → wr.cell? ⟨Bs, 0, none⟩ = some (.slice ad ms.length cap) ∧ ∀ (i : Nat) (m : Option Nat), ms[i]? = some m → wr.cell? ⟨b, i, none⟩ = some (.map m)) := fun wr hw => ⟨(hw.cell (p := ⟨Bs, 0, none⟩) hBl).trans hBs, fun i m q => (hw.cell (p := ⟨b, i, none⟩) (hb (fun e => by rw [e] at q; simp at q))).trans (hc i m q)⟩
  have HAD := (show Hid _ from had)
  have HY := (show Hid _ from hY)
  clear hc had hY hcm hb
  simp only [Try.ntmps71, List.size_toArray, List.length_cons, List.length_nil, Nat.reduceAdd, Nat.reduceSub, Array.replicate_succ, Array.replicate_zero, List.push_toArray, List.append_toArray, List.nil_append, List.cons_append]
  gi_wp2
  gi_loopw [3] (fun i wr => ∃ m : Nat, m ≤ ms.length ∧ i = .int .i64 ((m : Int) - 1) ∧ J (revT ms.length m) wr ∧ Below n₀ W wr) (fun i _ => (intOf i + 1).toNat)
  case atStart => exact ⟨ms.length, Nat.le_refl _, rfl, by rw [revT_all]; exact h0, Below.refl _ _⟩
  case round =>
    obtain ⟨m, hm, rfl, hJ, hB⟩ := hrel
    cases m with
    | zero =>
      have HJ : Hid (J (revT ms.length 0) wr) := hJ
      clear hJ HC HAD HY hBs
      simp only [Int.natCast_zero, Int.zero_sub]
      gi_wp2
      go_end0
      exact ⟨⟨_, rfl⟩, .inl ⟨_, rfl, HJ.out⟩⟩
    | succ m =>
      have hml : m < ms.length := by omega
      have e1 : ((m + 1 : Nat) : Int) - 1 = (m : Int) := by omega
      rw [e1]
      obtain rfl := HAD.out (fun e => by rw [e] at hml; simp at hml)
      obtain ⟨x1, x2⟩ := HC.out wr hB
      have x3 := x2 m _ (List.getElem?_eq_getElem hml)
      have hmi : (m : Int) < ms.length := by omega
      obtain ⟨fn, tmps, assign, body, hy, hR⟩ := HY.out (revT ms.length (m + 1)) ⟨m, hml⟩ wr hJ (by rw [revT_len]; omega)
      unfold encB at hy
      have HB : Hid (Below n₀ W wr) := hB
      have HN : Hid (revT ms.length m = revT ms.length (m + 1) ++ [⟨m, hml⟩]) := revT_next _ m hml
      clear x2 hJ hB HC HAD HY e1 hBs
      gi_wp2
      refine hR.mono ?_
      rintro e W3 (⟨rfl, hJ3, hk3⟩ | ⟨rfl, hJx3⟩)
      · have HJ3 : Hid (J (revT ms.length m) W3 ∧ Below n₀ W W3) := ⟨by rw [HN.out]; exact hJ3, HB.out.trans hk3⟩
        clear hJ3 hk3
        gi_wp2
        go_roundw
        case rel => exact ⟨m, by omega, by rfl, HJ3.out.1, HJ3.out.2⟩
        case measure => simp [intOf]
      · have HJ3 : Hid (Jx (revT ms.length m) W3) := by show Jx _ _; rw [HN.out]; exact hJx3
        clear hJx3
        gi_wp2
        refine bodyPost_ret (results_none rfl _ _ _) rfl ?_
        exact ⟨⟨_, rfl⟩, .inr ⟨_, ⟨m, hml, rfl⟩, HJ3.out⟩⟩

end Go.Proofs.Ytihmdcdifakepab.Rv
