/- LE, LF, LI -/
import Derived.Test.YtkpdpdllbnihgaaGreatB14
set_option linter.unusedVariables false
set_option linter.unusedSimpArgs false
set_option maxRecDepth 100000
set_option maxHeartbeats 40000000
/- The document's words of objects; At, Array, Open. -/
namespace Go.Proofs.YtkpdpdllbnihgaaGreat.Hp
open Go.RowKit
theorem rtag_obj (i : Int) (w : World) (h0 : 0 ≤ i) (h1 : i < 4294967296) : Calls Tryz.prog 90 #[.int .u64 (objW i)] w fun e w' => e = .returned (.tuple #[.int .u64 65530, .int .u32 i]) ∧ w' = w := by
  have o0 : 0 ≤ objW i := by unfold objW; omega
  have o1 : objW i < 18446744073709551616 := by unfold objW; omega
  have hq : objW i / 65536 / 65536 / 65536 = 65530 := by unfold objW; omega
  have hm : objW i % 4294967296 = i := by unfold objW; omega
  generalize objW i = o at *
  go_enter Tryz.func90, Tryz.ntmps90
  go_wp2
  go_ret2
  refine ⟨?_, rfl⟩
  show Ending.returned (.tuple #[.int .u64 (o / 65536 / 65536 / 65536), .int .u32 i]) = _
  rw [hq]
theorem rright_obj (i : Int) (w : World) (h0 : 0 ≤ i) (h1 : i < 4294967296) : Calls Tryz.prog 91 #[.int .u64 (objW i)] w fun e w' => e = .returned (.bool true) ∧ w' = w := by
  have kt := rtag_obj i w h0 h1
  have o0 : 0 ≤ objW i := by unfold objW; omega
  have o1 : objW i < 18446744073709551616 := by unfold objW; omega
  have hq : objW i / 4294967296 % 65536 = 0 := by unfold objW; omega
  generalize objW i = o at *
  go_enter Tryz.func91, Tryz.ntmps91
  go_wp2_with fail
  refine kt.mono ?_
  rintro e w1 ⟨rfl, rfl⟩
  clear kt
  go_wp2
  go_ret
  exact ⟨rfl, rfl⟩
theorem isTag_obj (i : Int) (w : World) (h0 : 0 ≤ i) (h1 : i < 4294967296) : Calls Tryz.prog 60 #[.int .u64 (objW i), .int .u64 65530] w fun e w' => e = .returned (.tuple #[.int .u32 i, .bool true]) ∧ w' = w := by
  have kt := rtag_obj i w h0 h1
  have kr := rright_obj i w h0 h1
  generalize objW i = o at *
  go_enter Tryz.func60, Tryz.ntmps60
  go_wp2_with fail
  refine kt.mono ?_
  rintro e w1 ⟨rfl, rfl⟩
  clear kt
  go_wp2_with fail
  refine kr.mono ?_
  rintro e w1 ⟨rfl, rfl⟩
  clear kr
  go_wp2
  go_ret2
  exact ⟨rfl, rfl⟩
/-- a store's value -/
def stV (vo vt : SV) : Value := .agg #[vo.val, vt.val]
/-- a variable of a store -/
def BxS (W : World) (b : Nat) (vo vt : SV) : Prop := W.heap[b]? = some (.cells #[vo.val, vt.val] 28 (0, 0))
section
variable {w W W' w' w1 : World} {B b n : Nat} {tg : Nat → Nat} {S : List So} {vo vt : SV} {qs : List QV}
theorem BxS.new (w : World) (vo vt : SV) : BxS (w.alloc (.cells #[vo.val, vt.val] 28)) w.heap.size vo vt := at_new _ _
theorem BxS.lt (h : BxS W b vo vt) : b < W.heap.size := (Array.getElem?_eq_some_iff.1 h).1
theorem BxS.below (h : BxS W b vo vt) (hB : Below W.heap.size W W') : BxS W' b vo vt := by
  unfold BxS
  rw [hB.block b h.lt]
  exact h
theorem BxS.kept {T : Nat → Prop} (h : BxS W b vo vt) (hc : Chg T W W') (hn : ¬ T b) : BxS W' b vo vt := by
  unfold BxS
  rw [hc.block b h.lt hn]
  exact h
theorem BxS.ce (h : BxS W b vo vt) : W.cell? ⟨b, 0, none⟩ = some vo.val ∧ W.cell? ⟨b, 1, none⟩ = some vt.val := ⟨cell_of_row W b 0 _ _ (0, 0) h, cell_of_row W b 1 _ _ (0, 0) h⟩
theorem BxS.fz (h : BxS W b vo vt) : W.frozen? ⟨b, 0, none⟩ = false ∧ W.frozen? ⟨b, 1, none⟩ = false := ⟨frozen_of_row W b 0 _ _ h, frozen_of_row W b 1 _ _ h⟩
set_option maxRecDepth 100000 in
theorem rat_any (h : StAt w B tg S vo qs) (vt : SV) {i : Nat} (hi : i < S.length) :
    Calls Tryz.prog 13 #[stV vo vt, .int .u64 (objW (i : Int))] w fun e w' => e = .returned (.int .i64 (i : Int)) ∧ Below w.heap.size w w' := by
  obtain ⟨ad, cap, hv, h1, h2⟩ := h.vol
  have hbig := h.big
  have HB : Hid (Below w.heap.size w (w.alloc (.cells #[vo.val, vt.val] 28))) := (Below.refl _ _).alloc (Nat.le_refl _) _
  have kt := fun W => isTag_obj (i : Int) W (by omega) (by omega)
  have hii : (i : Int) < (S.length : Int) := by omega
  have hsl : (S.length : Int) ≤ 65536 := by omega
  subst hv
  unfold stV SV.val at *
  simp only at *
  generalize objW (i : Int) = o at *
  clear h
  go_enter Tryz.func13, Tryz.ntmps13
  go_wp2_with fail
  refine (kt _).mono ?_
  rintro e w2 ⟨rfl, rfl⟩
  clear kt
  go_wp2_with fail
  go_ret
  exact ⟨rfl, HB.out⟩
end
end Go.Proofs.YtkpdpdllbnihgaaGreat.Hp
/- The document's place and Get. -/
namespace Go.Proofs.YtkpdpdllbnihgaaGreat.Hp
open Go.RowKit
def plS (nm : List ByteArray) (k : ByteArray) : Option Nat := nm.findIdx? (fun u => decide (u = k))
def plI (nm : List ByteArray) (k : ByteArray) : Int := match plS nm k with
  | some n => (n : Int)
  | none => -1
theorem plS_hit {nm : List ByteArray} {k u : ByteArray} {i : Nat} (hi : nm[i]? = some u) (hu : u = k) (hl : ∀ j, j < i → nm[j]? ≠ some k) : plS nm k = some i := by
  unfold plS
  rw [List.findIdx?_eq_some_iff_getElem]
  obtain ⟨h1, h2⟩ := List.getElem?_eq_some_iff.1 hi
  refine ⟨h1, by rw [h2]; simpa using hu, fun j hj => ?_⟩
  have := hl j hj
  rw [List.getElem?_eq_getElem (by omega)] at this
  simpa using this
theorem plS_miss {nm : List ByteArray} {k : ByteArray} (hl : ∀ j, j < nm.length → nm[j]? ≠ some k) : plS nm k = none := by
  unfold plS
  rw [List.findIdx?_eq_none_iff]
  intro u hu
  obtain ⟨j, hj⟩ := List.mem_iff_getElem?.1 hu
  have := hl j (List.getElem?_eq_some_iff.1 hj).1
  rw [hj] at this
  simpa using this
def soV (y : So × QV) : Value := .agg #[.int .i64 y.1.kind, .int .u64 y.1.proto, .bool y.1.shut, y.2.vn.val, y.2.vd.val, y.2.ve.val, y.2.vi.val]
/-- a variable of an object -/
def BxO (W : World) (b : Nat) (y : So × QV) : Prop := W.heap[b]? = some (.cells #[.int .i64 y.1.kind, .int .u64 y.1.proto, .bool y.1.shut, y.2.vn.val, y.2.vd.val, y.2.ve.val, y.2.vi.val] 45 (0, 0))
theorem BxO.new (w : World) (y : So × QV) : BxO (w.alloc (.cells #[.int .i64 y.1.kind, .int .u64 y.1.proto, .bool y.1.shut, y.2.vn.val, y.2.vd.val, y.2.ve.val, y.2.vi.val] 45)) w.heap.size y := at_new _ _
theorem BxO.lt {W : World} {b : Nat} {y : So × QV} (h : BxO W b y) : b < W.heap.size := (Array.getElem?_eq_some_iff.1 h).1
theorem BxO.below {W W' : World} {b : Nat} {y : So × QV} (h : BxO W b y) (hB : Below W.heap.size W W') : BxO W' b y := by
  unfold BxO
  rw [hB.block b h.lt]
  exact h
theorem BxO.kept {W W' : World} {b : Nat} {y : So × QV} {T : Nat → Prop} (h : BxO W b y) (hc : Chg T W W') (hn : ¬ T b) : BxO W' b y := by
  unfold BxO
  rw [hc.block b h.lt hn]
  exact h
theorem BxO.ce {W : World} {b : Nat} {y : So × QV} (h : BxO W b y) : W.cell? ⟨b, 0, none⟩ = some (.int .i64 y.1.kind) ∧ W.cell? ⟨b, 1, none⟩ = some (.int .u64 y.1.proto) ∧ W.cell? ⟨b, 2, none⟩ = some (.bool y.1.shut) ∧ W.cell? ⟨b, 3, none⟩ = some y.2.vn.val ∧ W.cell? ⟨b, 4, none⟩ = some y.2.vd.val ∧ W.cell? ⟨b, 5, none⟩ = some y.2.ve.val ∧ W.cell? ⟨b, 6, none⟩ = some y.2.vi.val := ⟨cell_of_row W b 0 _ _ (0, 0) h, cell_of_row W b 1 _ _ (0, 0) h, cell_of_row W b 2 _ _ (0, 0) h, cell_of_row W b 3 _ _ (0, 0) h, cell_of_row W b 4 _ _ (0, 0) h, cell_of_row W b 5 _ _ (0, 0) h, cell_of_row W b 6 _ _ (0, 0) h⟩
theorem BxO.fz {W : World} {b : Nat} {y : So × QV} (h : BxO W b y) (n : Nat) : W.frozen? ⟨b, n, none⟩ = false := frozen_of_row W b n _ _ h
section
variable {w W W' w' w1 : World} {B b n : Nat} {tg : Nat → Nat} {S : List So} {vo vt : SV} {qs : List QV}
set_option maxRecDepth 100000 in
set_option maxHeartbeats 1000000 in
theorem place_any {O : Nat → Prop} (y : So × QV) (hr : RowIn strC 1 9 B w O y.2.vn y.1.nm) (k : ByteArray) :
    Calls Tryz.prog 61 #[soV y, .string k] w fun e w' => e = .returned (.int .i64 (plI y.1.nm k)) ∧ Below w.heap.size w w' := by
  obtain ⟨wb, hwb⟩ : ∃ wb, wb = w.alloc (.cells #[.int .i64 y.1.kind, .int .u64 y.1.proto, .bool y.1.shut, y.2.vn.val, y.2.vd.val, y.2.ve.val, y.2.vi.val] 45) := ⟨_, rfl⟩
  have hB : Below w.heap.size w wb := by rw [hwb]; exact (Below.refl _ _).alloc (Nat.le_refl _) _
  have hbx : BxO wb w.heap.size y := by rw [hwb]; exact BxO.new w y
  obtain ⟨q1, q2, q3, q4⟩ := hr.open rtStr.len
  have H4 : Hid (∀ i u, y.1.nm[i]? = some u → ∃ gl, y.2.vn.ad = some ⟨gl, 0, none⟩ ∧ wb.cell? ⟨gl, i, none⟩ = some (.string u)) := fun i u hi => by
    obtain ⟨gl, e1, _, _, _, hc, _⟩ := q4 (by intro e; rw [e] at hi; simp at hi)
    have := hc i u hi 0 _ rfl
    simp only [Nat.mul_one, Nat.add_zero] at this
    exact ⟨gl, e1, cells_below hB _ _ this⟩
  obtain ⟨c0, c1, c2, c3, c4, c5, c6⟩ := hbx.ce
  have hlim : (y.1.nm.length : Int) ≤ 9223372036854775807 := by unfold maxLen at q3; omega
  have HB : Hid (Below w.heap.size w wb) := hB
  have HE : Hid (plI y.1.nm k = match plS y.1.nm k with
    | some n => (n : Int)
    | none => -1) := rfl
  generalize hR : plI y.1.nm k = R at *
  obtain ⟨⟨kd, pr, sh, nm, ds, el, inn⟩, ⟨⟨na, nl, nc⟩, vd, ve, vi⟩⟩ := y
  unfold soV
  unfold SV.val at *
  simp only at *
  subst q1
  clear hr hbx hB q2 q3 q4 hR
  go_enter Tryz.func61, Tryz.ntmps61
  go_wp2_with fail
  rw [← hwb]
  clear hwb
  go_loopw [5] (fun p wr => ∃ (i : Nat), i ≤ nm.length ∧ p = .int .i64 (i : Int) ∧ wr = wb ∧ Hid (∀ j, j < i → nm[j]? ≠ some k)) (fun p wr => ((nm.length : Int) - intOf p).toNat)
  case atStart => exact ⟨0, Nat.zero_le _, rfl, rfl, fun j hj => by omega⟩
  case round =>
    obtain ⟨i, hi, rfl, hww, HI⟩ := hrel
    have hw' := hww.symm
    subst hw'
    clear hww
    by_cases c : i < nm.length
    · have hex : ∃ u, nm[i]? = some u := ⟨_, List.getElem?_eq_getElem c⟩
      obtain ⟨u, hu⟩ := hex
      obtain ⟨gl, rfl, du⟩ := H4.out i u hu
      have hii : (i : Int) < (nm.length : Int) := by omega
      have hid : decide ((i : Int) < (nm.length : Int)) = true := decide_eq_true hii
      have hw1 : IntKind.i64.wrap ((i : Int) + 1) = ((i + 1 : Nat) : Int) := by rw [IntKind.wrap_i64]; omega
      have HC : Hid (i < nm.length) := c
      by_cases cu : u = k
      · have hee : (u.toList == k.toList) = true := by rw [cu]; exact Sp.bytes_yes k
        have HR : Hid (R = (i : Int)) := by show R = _; rw [HE.out, plS_hit hu cu HI.out]
        clear HE HI hu c hi H4 cu
        go_wp2_with fail
        go_ret
        rw [HR.out]
        exact ⟨rfl, HB.out⟩
      · have hee : (u.toList == k.toList) = false := Sp.bytes_no cu
        have HI2 : Hid (∀ j, j < i + 1 → nm[j]? ≠ some k) := fun j hj => by
          by_cases q : j = i
          · rw [q, hu]; simpa using cu
          · exact HI.out j (by omega)
        clear HE HI hu c hi H4 cu
        go_wp2_with fail
        refine ⟨⟨i + 1, by have := HC.out; omega, rfl, by first | rfl | trivial, HI2⟩, ?_⟩
        have := HC.out
        simp [intOf]
        omega
    · have hie : i = nm.length := by omega
      subst hie
      have hii : ¬ ((nm.length : Int) < (nm.length : Int)) := by omega
      have HR : Hid (R = -1) := by show R = _; rw [HE.out, plS_miss HI.out]
      clear HE HI c hi H4
      go_wp2_with fail
      go_ret
      rw [HR.out]
      exact ⟨rfl, HB.out⟩
end
end Go.Proofs.YtkpdpdllbnihgaaGreat.Hp
/- The document's with. -/
namespace Go.Proofs.YtkpdpdllbnihgaaGreat.Hp
open Go.RowKit
section
variable {w W W' w' w1 : World} {B b n : Nat} {tg : Nat → Nat} {S : List So} {vo vt : SV} {qs : List QV}
/-- the world in which with lays an object: its three boxes -/
def wWi (w : World) (vo vt : SV) (y : So × QV) : World := ((w.alloc (.cells #[vo.val, vt.val] 28)).alloc (.cells #[.int .i64 y.1.kind, .int .u64 y.1.proto, .bool y.1.shut, y.2.vn.val, y.2.vd.val, y.2.ve.val, y.2.vi.val] 45)).alloc (.cells #[.slice none 0 0, .slice none 0 0] 28)
theorem wWi_facts (w : World) (vo vt : SV) (y : So × QV) : BxS (wWi w vo vt y) w.heap.size vo vt ∧ BxO (wWi w vo vt y) (w.heap.size + 1) y ∧ BxS (wWi w vo vt y) (w.heap.size + 2) .nil .nil ∧ Below w.heap.size w (wWi w vo vt y) := by
  have s1 : (w.alloc (.cells #[vo.val, vt.val] 28)).heap.size = w.heap.size + 1 := size_new _ _
  have s2 : ((w.alloc (.cells #[vo.val, vt.val] 28)).alloc (.cells #[.int .i64 y.1.kind, .int .u64 y.1.proto, .bool y.1.shut, y.2.vn.val, y.2.vd.val, y.2.ve.val, y.2.vi.val] 45)).heap.size = w.heap.size + 2 := by rw [size_new, s1]
  refine ⟨at_old _ _ _ _ (at_old _ _ _ _ (at_new _ _)), at_old _ _ _ _ (at_two w _ _), ?_, below_new (below_new (below_new (Below.refl _ _) (Nat.le_refl _) _) (by rw [s1]; omega) _) (by rw [s2]; omega) _⟩
  have := at_new ((w.alloc (.cells #[vo.val, vt.val] 28)).alloc (.cells #[.int .i64 y.1.kind, .int .u64 y.1.proto, .bool y.1.shut, y.2.vn.val, y.2.vd.val, y.2.ve.val, y.2.vi.val] 45)) (.cells #[.slice none 0 0, .slice none 0 0] 28)
  rw [s2] at this
  exact this
/-- an object's cells that are there, and may be written -/
def CelO (w : World) (g n : Nat) : Prop := (∀ j, j < 7 → ∃ u, w.cell? ⟨g, n + j, none⟩ = some u) ∧ ∀ j, w.frozen? ⟨g, j, none⟩ = false
theorem StAt.celO (h : StAt w B tg S vo qs) {i g cap : Nat} {x : So} (hi : S[i]? = some x) (hvo : vo = ⟨some ⟨g, 0, none⟩, S.length, cap⟩) : CelO w g (i * 7) := by
  obtain ⟨g', cap', q, hv, hq, t1, hgl, hcell, hfz, hl1, hl2, hrow⟩ := h.obj hi
  rw [hvo] at hv
  injection hv with e1 e2 e3
  injection e1 with e1
  injection e1 with e1
  subst e1
  refine ⟨fun j hj => ?_, hfz⟩
  have : j = 0 ∨ j = 1 ∨ j = 2 ∨ j = 3 ∨ j = 4 ∨ j = 5 ∨ j = 6 := by omega
  rcases this with rfl | rfl | rfl | rfl | rfl | rfl | rfl
  · exact ⟨_, hcell 0 _ rfl⟩
  · exact ⟨_, hcell 1 _ rfl⟩
  · exact ⟨_, hcell 2 _ rfl⟩
  · exact ⟨_, hcell 3 _ rfl⟩
  · exact ⟨_, hcell 4 _ rfl⟩
  · exact ⟨_, hcell 5 _ rfl⟩
  · exact ⟨_, hcell 6 _ rfl⟩
theorem CelO.kept {T : Nat → Prop} {g : Nat} (h : CelO w g n) (hc : Chg T w w') (hn : ¬ T g) : CelO w' g n := by
  have hg : g < w.heap.size := by obtain ⟨u, hu⟩ := h.1 0 (by omega); exact World.block_lt_of_cell? w _ hu
  refine ⟨fun j hj => ?_, fun j => ?_⟩
  · obtain ⟨u, hu⟩ := h.1 j hj
    exact ⟨u, hc.cell hu hn⟩
  · rw [World.frozen?_of_block (w := w) (hc.block g hg hn)]
    exact h.2 j
set_option maxRecDepth 100000 in
set_option maxHeartbeats 2000000 in
theorem with_any {g cap len : Nat} (vt : SV) (i : Nat) (hc : CelO w g (i * 7)) (hil : i < len) (hl : len ≤ 65536) (y : So × QV) :
    Calls Tryz.prog 73 #[stV ⟨some ⟨g, 0, none⟩, len, cap⟩ vt, .int .i64 (i : Int), soV y] w fun e w' => e = .returned (stV ⟨some ⟨g, 0, none⟩, len, cap⟩ vt) ∧ ∃ w5, Below w.heap.size w w5 ∧ Chg (fun b => b = w.heap.size + 2) (st7 w5 g (i * 7) y) w' := by
  obtain ⟨wb, hwb⟩ : ∃ wb, wb = wWi w ⟨some ⟨g, 0, none⟩, len, cap⟩ vt y := ⟨_, rfl⟩
  obtain ⟨hs, ho, hr, hB⟩ := wWi_facts w ⟨some ⟨g, 0, none⟩, len, cap⟩ vt y
  rw [← hwb] at hs ho hr hB
  have hgl : g < w.heap.size := by obtain ⟨u, hu⟩ := hc.1 0 (by omega); exact World.block_lt_of_cell? w _ hu
  have hcb : CelO wb g (i * 7) := hc.kept (Chg.of_below (S := fun _ => False) hB) (fun q => q)
  obtain ⟨b0, b1⟩ := hs.ce
  obtain ⟨y0, y1, y2, y3, y4, y5, y6⟩ := ho.ce
  obtain ⟨u0, g0⟩ := hcb.1 0 (by omega)
  obtain ⟨u1, g1⟩ := hcb.1 1 (by omega)
  obtain ⟨u2, g2⟩ := hcb.1 2 (by omega)
  obtain ⟨u3, g3⟩ := hcb.1 3 (by omega)
  obtain ⟨u4, g4⟩ := hcb.1 4 (by omega)
  obtain ⟨u5, g5⟩ := hcb.1 5 (by omega)
  obtain ⟨u6, g6⟩ := hcb.1 6 (by omega)
  have f0 := hcb.2 (i * 7)
  have f1 := hcb.2 (i * 7 + 1)
  have f2 := hcb.2 (i * 7 + 2)
  have f3 := hcb.2 (i * 7 + 3)
  have f4 := hcb.2 (i * 7 + 4)
  have f5 := hcb.2 (i * 7 + 5)
  have f6 := hcb.2 (i * 7 + 6)
  have HCH : Hid (∀ W, Chg (fun b => b = w.heap.size + 2) (st7 wb g (i * 7) y) W → ∃ w5, Below w.heap.size w w5 ∧ Chg (fun b => b = w.heap.size + 2) (st7 w5 g (i * 7) y) W) := fun W q => ⟨wb, hB, q⟩
  have hch := st7_chg wb g (i * 7) y
  have hs7 := hs.kept hch (show ¬ w.heap.size = g by omega)
  have hr7 := hr.kept hch (show ¬ w.heap.size + 2 = g by omega)
  obtain ⟨e0, e1⟩ := hs7.ce
  obtain ⟨r0, r1⟩ := hr7.ce
  obtain ⟨t0, t1⟩ := hr7.fz
  have HB : Hid (Below w.heap.size w wb) := hB
  have hii : (i : Int) < (len : Int) := by omega
  have hll : (len : Int) ≤ 65536 := by omega
  have hrs := heap_setCell_same _ (w.heap.size + 2) 0 _ _ (SV.mk (some ⟨g, 0, none⟩) len cap).val hr7
  have hrs2 := heap_setCell_same _ (w.heap.size + 2) 1 _ _ vt.val hrs
  have HRS := (show Hid _ from hrs2)
  obtain ⟨⟨kd, pr, sh, nm, ds, el, inn⟩, ⟨⟨na, nl, nc⟩, ⟨da, dl, dc⟩, ⟨ea, el', ec⟩, ⟨ia, il, ic⟩⟩⟩ := y
  obtain ⟨ta, tl, tc⟩ := vt
  have hst : st7 wb g (i * 7) (⟨kd, pr, sh, nm, ds, el, inn⟩, ⟨⟨na, nl, nc⟩, ⟨da, dl, dc⟩, ⟨ea, el', ec⟩, ⟨ia, il, ic⟩⟩) = ((((((wb.setCell ⟨g, i * 7, none⟩ (.int .i64 kd)).setCell ⟨g, i * 7 + 1, none⟩ (.int .u64 pr)).setCell ⟨g, i * 7 + 2, none⟩ (.bool sh)).setCell ⟨g, i * 7 + 3, none⟩ (.slice na nl nc)).setCell ⟨g, i * 7 + 4, none⟩ (.slice da dl dc)).setCell ⟨g, i * 7 + 5, none⟩ (.slice ea el' ec)).setCell ⟨g, i * 7 + 6, none⟩ (.slice ia il ic) := rfl
  generalize st7 wb g (i * 7) (⟨kd, pr, sh, nm, ds, el, inn⟩, ⟨⟨na, nl, nc⟩, ⟨da, dl, dc⟩, ⟨ea, el', ec⟩, ⟨ia, il, ic⟩⟩) = w7 at *
  unfold wWi at hwb
  unfold stV soV
  unfold SV.nil at *
  unfold SV.val at *
  simp only at *
  clear hs ho hr hB hc hcb hch hs7 hr7 hrs hrs2
  go_enter Tryz.func73, Tryz.ntmps73
  go_upto_region 1 with fail
  rw [← hwb]
  clear hwb
  simp only [Nat.add_zero] at g0
  go_upto_region 2 with fail
  rw [← hst]
  clear hst g0 g1 g2 g3 g4 g5 g6 f0 f1 f2 f3 f4 f5 f6 b0 b1 y0 y1 y2 y3 y4 y5 y6
  go_wp2_with fail
  refine bodyPost_ret (res1 rfl _ _ (w.heap.size + 2) 28 _ (0, 0) _ rfl HRS.out Tryz.underlying28 rfl (by kernel_rfl)) rfl ?_
  refine ⟨rfl, HCH.out _ ?_⟩
  exact (Chg.set (S := fun b => b = w.heap.size + 2) w7 ⟨w.heap.size + 2, 0, none⟩ _ rfl).trans (Chg.set (S := fun b => b = w.heap.size + 2) _ ⟨w.heap.size + 2, 1, none⟩ _ rfl) (fun _ _ q => q)
end
end Go.Proofs.YtkpdpdllbnihgaaGreat.Hp
