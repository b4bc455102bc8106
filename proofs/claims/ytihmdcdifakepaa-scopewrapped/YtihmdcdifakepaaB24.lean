/- node, each, items: of one name. -/
import Derived.Test.YtihmdcdifakepaaB23
import Derived.Defers
import Derived.Recover
import Derived.Laws.Pointers
namespace Go.Proofs.Ytihmdcdifakepaa.Sc
open Go.RowKit
set_option linter.unusedVariables false

theorem Used.from {rb b cap : Nat} {sc : Value} {pl : Int} {w w1 w' : World} (h : Used rb b cap sc pl w1 w') (hb : Below w.heap.size w w1) : Used rb b cap sc pl w w' := by
  obtain ⟨h1, h5⟩ := h
  exact ⟨h1, (Chg.of_below hb).trans h5 (fun _ _ q => q)⟩

/-- what stands ahead of a use -/
structure Ahead (w : World) (rb b cap : Nat) (sc : Value) : Prop where
  rs : Rsv w rb sc (.slice none 0 0) (.slice (some ⟨b, 0, none⟩) 1 cap)
  mp : w.cell? ⟨b, 0, none⟩ = some (.map none)

theorem Ahead.kept {w w' : World} {rb b cap : Nat} {sc : Value} (h : Ahead w rb b cap sc) (hb : Below w.heap.size w w') : Ahead w' rb b cap sc := ⟨h.rs.kept (S := fun _ => False) (Chg.of_below hb) id, cells_below hb _ _ h.mp⟩

set_option maxRecDepth 100000 in
set_option maxHeartbeats 2000000 in
theorem node_name (rb b cap : Nat) (sc : Value) (pl num : Int) (name op : ByteArray) (kv : Value) (w : World) (ha : Ahead w rb b cap sc) (hs : name.size ≤ maxLen) (hi : 0 ≤ idxI name) :
    Calls Try.prog 73 #[.pointer (some ⟨rb, 0, none⟩), .agg #[.int .i64 3, .int .i64 pl, .string name, .int .u64 num, .string op, kv]] w fun e w' => e = .returned (.tuple #[]) ∧ Used rb b cap sc pl w w' := by
  obtain ⟨wb, hwb⟩ : ∃ wb, wb = w.alloc (.cells #[.int .i64 3, .int .i64 pl, .string name, .int .u64 num, .string op, kv] 25) := ⟨_, rfl⟩
  have hbl : Below w.heap.size w wb := by rw [hwb]; exact (Below.refl _ _).alloc (Nat.le_refl _) _
  have HB : Hid (Below w.heap.size w wb) := hbl
  have hu := use_one rb b cap sc 3 pl num name op kv wb (ha.kept hbl).rs (ha.kept hbl).mp hs hi
  have b0 : wb.cell? ⟨w.heap.size, 0, none⟩ = some (.int .i64 3) := by rw [hwb]; exact box_new w _ _ 0 _ rfl
  have b1 : wb.cell? ⟨w.heap.size, 1, none⟩ = some (.int .i64 pl) := by rw [hwb]; exact box_new w _ _ 1 _ rfl
  have b2 : wb.cell? ⟨w.heap.size, 2, none⟩ = some (.string name) := by rw [hwb]; exact box_new w _ _ 2 _ rfl
  have b3 : wb.cell? ⟨w.heap.size, 3, none⟩ = some (.int .u64 num) := by rw [hwb]; exact box_new w _ _ 3 _ rfl
  have b4 : wb.cell? ⟨w.heap.size, 4, none⟩ = some (.string op) := by rw [hwb]; exact box_new w _ _ 4 _ rfl
  have b5 : wb.cell? ⟨w.heap.size, 5, none⟩ = some kv := by rw [hwb]; exact box_new w _ _ 5 _ rfl
  clear ha hbl hs hi
  go_enter Try.func73, Try.ntmps73
  go_upto_region 1 with fail
  rw [← hwb]
  clear hwb
  go_wp2_with (go_at_call 76; refine hu.mono ?_; rintro e w1 ⟨rfl, hu1⟩; clear hu; have HU : Hid (Used rb b cap sc pl wb w1) := hu1; clear hu1)
  go_end0
  exact ⟨rfl, HU.out.from HB.out⟩

set_option maxRecDepth 100000 in
set_option maxHeartbeats 2000000 in
theorem node_each (rb b cap : Nat) (sc : Value) (pl : Int) (p2 num : Int) (name op : ByteArray) (kv : Value) (w : World) (he : ∀ w1, Below w.heap.size w w1 → Calls Try.prog 65 #[.pointer (some ⟨rb, 0, none⟩), kv] w1 fun e w' => e = .returned (.tuple #[]) ∧ Used rb b cap sc pl w1 w') :
    Calls Try.prog 73 #[.pointer (some ⟨rb, 0, none⟩), .agg #[.int .i64 46, .int .i64 p2, .string name, .int .u64 num, .string op, kv]] w fun e w' => e = .returned (.tuple #[]) ∧ Used rb b cap sc pl w w' := by
  obtain ⟨wb, hwb⟩ : ∃ wb, wb = w.alloc (.cells #[.int .i64 46, .int .i64 p2, .string name, .int .u64 num, .string op, kv] 25) := ⟨_, rfl⟩
  have hbl : Below w.heap.size w wb := by rw [hwb]; exact (Below.refl _ _).alloc (Nat.le_refl _) _
  have HB : Hid (Below w.heap.size w wb) := hbl
  have hu := he wb hbl
  have b0 : wb.cell? ⟨w.heap.size, 0, none⟩ = some (.int .i64 46) := by rw [hwb]; exact box_new w _ _ 0 _ rfl
  have b5 : wb.cell? ⟨w.heap.size, 5, none⟩ = some kv := by rw [hwb]; exact box_new w _ _ 5 _ rfl
  clear he hbl
  go_enter Try.func73, Try.ntmps73
  go_upto_region 1 with fail
  rw [← hwb]
  clear hwb
  go_wp2_with (go_at_call 65; refine hu.mono ?_; rintro e w1 ⟨rfl, hu1⟩; clear hu; have HU : Hid (Used rb b cap sc pl wb w1) := hu1; clear hu1)
  go_end0
  exact ⟨rfl, HU.out.from HB.out⟩

/-- one node in memory -/
structure OneAt (w : World) (kb ko : Nat) (k p : Int) (name : ByteArray) (num : Int) (op : ByteArray) (kv : Value) : Prop where
  x0 : w.cell? ⟨kb, ko, none⟩ = some (.int .i64 k)
  x1 : w.cell? ⟨kb, ko + 1, none⟩ = some (.int .i64 p)
  x2 : w.cell? ⟨kb, ko + 2, none⟩ = some (.string name)
  x3 : w.cell? ⟨kb, ko + 3, none⟩ = some (.int .u64 num)
  x4 : w.cell? ⟨kb, ko + 4, none⟩ = some (.string op)
  x5 : w.cell? ⟨kb, ko + 5, none⟩ = some kv

set_option maxRecDepth 100000 in
set_option maxHeartbeats 2000000 in
theorem each_one (rb b cap : Nat) (sc : Value) (pl : Int) (kb ko kc : Nat) (k p : Int) (name : ByteArray) (num : Int) (op : ByteArray) (ka : Option Addr) (kn kk : Nat) (w : World) (hk : OneAt w kb ko k p name num op (.slice ka kn kk))
    (he : ∀ w1, Below w.heap.size w w1 → Calls Try.prog 73 #[.pointer (some ⟨rb, 0, none⟩), .agg #[.int .i64 k, .int .i64 p, .string name, .int .u64 num, .string op, .slice ka kn kk]] w1 fun e w' => e = .returned (.tuple #[]) ∧ Used rb b cap sc pl w1 w') :
    Calls Try.prog 65 #[.pointer (some ⟨rb, 0, none⟩), .slice (some ⟨kb, ko, none⟩) 1 kc] w fun e w' => e = .returned (.tuple #[]) ∧ Used rb b cap sc pl w w' := by
  have HK : Hid (OneAt w kb ko k p name num op (.slice ka kn kk)) := hk
  have HE : Hid (∀ w1, Below w.heap.size w w1 → Calls Try.prog 73 #[.pointer (some ⟨rb, 0, none⟩), .agg #[.int .i64 k, .int .i64 p, .string name, .int .u64 num, .string op, .slice ka kn kk]] w1 fun e w' => e = .returned (.tuple #[]) ∧ Used rb b cap sc pl w1 w') := he
  clear hk he
  go_enter Try.func65, Try.ntmps65
  go_wp2_with fail
  go_loopw [8] (fun i wr => ∃ k : Nat, ((k = 0 ∧ wr = w) ∨ (k = 1 ∧ Used rb b cap sc pl w wr)) ∧ i = .int .i64 k) (fun i wr => 1 - (intOf i).toNat)
  case atStart => exact ⟨0, Or.inl ⟨rfl, rfl⟩, rfl⟩
  case round =>
    obtain ⟨j, hj, rfl⟩ := hrel
    rcases hj with ⟨rfl, rfl⟩ | ⟨rfl, hu⟩
    · obtain ⟨x0, x1, x2, x3, x4, x5⟩ := HK.out
      obtain ⟨wb, hwb⟩ : ∃ wb, wb = wr.alloc (.cells #[.int .i64 k, .int .i64 p, .string name, .int .u64 num, .string op, .slice ka kn kk] 25) := ⟨_, rfl⟩
      have hbl : Below wr.heap.size wr wb := by rw [hwb]; exact (Below.refl _ _).alloc (Nat.le_refl _) _
      have HB : Hid (Below wr.heap.size wr wb) := hbl
      have hu := HE.out wb hbl
      have b0 : wb.cell? ⟨wr.heap.size, 0, none⟩ = some (.int .i64 k) := by rw [hwb]; exact box_new wr _ _ 0 _ rfl
      have b1 : wb.cell? ⟨wr.heap.size, 1, none⟩ = some (.int .i64 p) := by rw [hwb]; exact box_new wr _ _ 1 _ rfl
      have b2 : wb.cell? ⟨wr.heap.size, 2, none⟩ = some (.string name) := by rw [hwb]; exact box_new wr _ _ 2 _ rfl
      have b3 : wb.cell? ⟨wr.heap.size, 3, none⟩ = some (.int .u64 num) := by rw [hwb]; exact box_new wr _ _ 3 _ rfl
      have b4 : wb.cell? ⟨wr.heap.size, 4, none⟩ = some (.string op) := by rw [hwb]; exact box_new wr _ _ 4 _ rfl
      have b5 : wb.cell? ⟨wr.heap.size, 5, none⟩ = some (.slice ka kn kk) := by rw [hwb]; exact box_new wr _ _ 5 _ rfl
      clear hbl
      go_upto_region 3 with fail
      rw [← hwb]
      clear hwb x0 x1 x2 x3 x4 x5
      go_wp2_with (go_at_call 73; refine hu.mono ?_; rintro e w1 ⟨rfl, hu1⟩; clear hu; have HU : Hid (Used rb b cap sc pl wr w1) := hu1.from HB.out; clear hu1)
      refine ⟨⟨1, Or.inr ⟨rfl, HU.out⟩, by go_num⟩, ?_⟩
      simp [intOf]
    · have HU : Hid (Used rb b cap sc pl w wr) := hu
      clear hu
      go_wp2_with fail
      go_end0
      exact ⟨rfl, HU.out⟩
end Go.Proofs.Ytihmdcdifakepaa.Sc

/- items, block, program: of one name. -/
namespace Go.Proofs.Ytihmdcdifakepaa.Sc
open Go.RowKit
set_option linter.unusedVariables false

set_option maxRecDepth 100000 in
set_option maxHeartbeats 2000000 in
theorem items_one (rb b cap : Nat) (sc : Value) (pl : Int) (kb ko kc : Nat) (p : Int) (name : ByteArray) (num : Int) (op : ByteArray) (ka : Option Addr) (kn kk : Nat) (w : World) (hk : OneAt w kb ko 46 p name num op (.slice ka kn kk))
    (he : ∀ w1, Below w.heap.size w w1 → Calls Try.prog 65 #[.pointer (some ⟨rb, 0, none⟩), .slice (some ⟨kb, ko, none⟩) 1 kc] w1 fun e w' => e = .returned (.tuple #[]) ∧ Used rb b cap sc pl w1 w') :
    Calls Try.prog 52 #[.pointer (some ⟨rb, 0, none⟩), .slice (some ⟨kb, ko, none⟩) 1 kc] w fun e w' => e = .returned (.tuple #[]) ∧ Used rb b cap sc pl w w' := by
  have HK : Hid (OneAt w kb ko 46 p name num op (.slice ka kn kk)) := hk
  have HE : Hid (∀ w1, Below w.heap.size w w1 → Calls Try.prog 65 #[.pointer (some ⟨rb, 0, none⟩), .slice (some ⟨kb, ko, none⟩) 1 kc] w1 fun e w' => e = .returned (.tuple #[]) ∧ Used rb b cap sc pl w1 w') := he
  clear hk he
  go_enter Try.func52, Try.ntmps52
  go_wp2_with fail
  go_loopw [8] (fun i wr => ∃ k : Nat, ((k = 0 ∧ wr = w) ∨ (k = 1 ∧ Below w.heap.size w wr)) ∧ i = .int .i64 k) (fun i wr => 1 - (intOf i).toNat)
  case atStart => exact ⟨0, Or.inl ⟨rfl, rfl⟩, rfl⟩
  case round =>
    obtain ⟨j, hj, rfl⟩ := hrel
    rcases hj with ⟨rfl, rfl⟩ | ⟨rfl, hb⟩
    · obtain ⟨x0, x1, x2, x3, x4, x5⟩ := HK.out
      obtain ⟨wb, hwb⟩ : ∃ wb, wb = wr.alloc (.cells #[.int .i64 46, .int .i64 p, .string name, .int .u64 num, .string op, .slice ka kn kk] 25) := ⟨_, rfl⟩
      have hbl : Below wr.heap.size wr wb := by rw [hwb]; exact (Below.refl _ _).alloc (Nat.le_refl _) _
      have HB : Hid (Below wr.heap.size wr wb) := hbl
      have b0 : wb.cell? ⟨wr.heap.size, 0, none⟩ = some (.int .i64 46) := by rw [hwb]; exact box_new wr _ _ 0 _ rfl
      clear hbl
      go_upto_region 3 with fail
      rw [← hwb]
      clear hwb x0 x1 x2 x3 x4 x5
      go_wp2_with fail
      refine ⟨⟨1, Or.inr ⟨rfl, HB.out⟩, by go_num⟩, ?_⟩
      simp [intOf]
    · have hu := HE.out wr hb
      have HB : Hid (Below w.heap.size w wr) := hb
      clear hb
      go_wp2_with (go_at_call 65; refine hu.mono ?_; rintro e w1 ⟨rfl, hu1⟩; clear hu; have HU : Hid (Used rb b cap sc pl w w1) := hu1.from HB.out; clear hu1)
      go_end0
      exact ⟨rfl, HU.out⟩

/-- what is told of one name -/
def Told (rb : Nat) (sc : Value) (pl : Int) (w' : World) : Prop :=
  ∃ u c bl, Rsv w' rb sc (.slice (some ⟨u, 0, none⟩) 1 c) bl ∧ w'.cell? ⟨u, 0, none⟩ = some (.int .i64 pl) ∧ w'.cell? ⟨u, 1, none⟩ = some (.int .i64 (-1))

set_option maxRecDepth 100000 in
set_option maxHeartbeats 2000000 in
theorem block_one (rb : Nat) (sc kids : Value) (pl : Int) (w : World) (hr : Rsv w rb sc (.slice none 0 0) (.slice none 0 0))
    (he : ∀ b cap w1, Ahead w1 rb b cap sc → Chg (fun k => k = rb) w w1 → Calls Try.prog 52 #[.pointer (some ⟨rb, 0, none⟩), kids] w1 fun e w' => e = .returned (.tuple #[]) ∧ Used rb b cap sc pl w1 w') :
    Calls Try.prog 36 #[.pointer (some ⟨rb, 0, none⟩), kids] w fun e w' => e = .returned (.tuple #[]) ∧ Told rb sc pl w' ∧ Chg (fun k => k = rb) w w' := by
  have ho := open_one rb sc (.slice none 0 0) w hr
  have HE : Hid (∀ b cap w1, Ahead w1 rb b cap sc → Chg (fun k => k = rb) w w1 → Calls Try.prog 52 #[.pointer (some ⟨rb, 0, none⟩), kids] w1 fun e w' => e = .returned (.tuple #[]) ∧ Used rb b cap sc pl w1 w') := he
  clear he hr
  go_enter Try.func36, Try.ntmps36
  go_wp2_with fail
  refine ho.mono ?_
  rintro e w1 ⟨rfl, ⟨b, cap, r1, m1, _, q1, q2, _⟩, hc1⟩
  have hi := HE.out b cap w1 ⟨r1, m1⟩ hc1
  have H1 : Hid (Chg (fun k => k = rb) w w1 ∧ 1 ≤ cap ∧ cap ≤ maxLen) := ⟨hc1, q1, q2⟩
  clear ho r1 m1 q1 q2 hc1
  go_wp2_with fail
  refine hi.mono ?_
  rintro e w2 ⟨rfl, hu⟩
  obtain ⟨⟨u, c, r2, u0, u1, une⟩, hc2⟩ := hu
  have hs := shut_one rb b 0 cap sc (.slice (some ⟨u, 0, none⟩) 1 c) w2 r2 H1.out.2
  have H2 : Hid (Chg (fun k => k = rb) w w2 ∧ w2.cell? ⟨u, 0, none⟩ = some (.int .i64 pl) ∧ w2.cell? ⟨u, 1, none⟩ = some (.int .i64 (-1)) ∧ u ≠ rb) := ⟨H1.out.1.trans hc2 (fun _ _ q => q), u0, u1, une⟩
  clear hi r2 u0 u1 une hc2
  go_wp2_with fail
  refine hs.mono ?_
  rintro e w3 ⟨rfl, ⟨bl, r3⟩, hc3⟩
  have H3 : Hid (Told rb sc pl w3 ∧ Chg (fun k => k = rb) w w3) := ⟨⟨u, c, bl, r3, hc3.cell H2.out.2.1 H2.out.2.2.2, hc3.cell H2.out.2.2.1 H2.out.2.2.2⟩, H2.out.1.trans hc3 (fun _ _ q => q)⟩
  clear hs r3 hc3
  go_wp2_with fail
  go_end0
  exact ⟨rfl, H3.out⟩

theorem info42 : (Try.prog.info? 42).map (fun i => (i.zero, i.size, i.bytes)) = some (some (.agg #[.int .i64 0, .int .i64 0, .int .i64 0, .int .i64 0]), 4, 32) := by kernel_rfl

set_option maxRecDepth 100000 in
set_option maxHeartbeats 2000000 in
theorem program_one (rb : Nat) (pl p num : Int) (name op : ByteArray) (kids : Value) (w : World) (hr : Rsv w rb (.slice none 0 0) (.slice none 0 0) (.slice none 0 0))
    (he : ∀ b cap sc w1, Ahead w1 rb b cap sc → Chg (fun k => k = rb) w w1 → Calls Try.prog 52 #[.pointer (some ⟨rb, 0, none⟩), kids] w1 fun e w' => e = .returned (.tuple #[]) ∧ Used rb b cap sc pl w1 w') :
    Calls Try.prog 25 #[.pointer (some ⟨rb, 0, none⟩), .agg #[.int .i64 47, .int .i64 p, .string name, .int .u64 num, .string op, kids]] w fun e w' => e = .returned (.tuple #[]) ∧ (∃ sb, Told rb (.slice (some ⟨sb, 0, none⟩) 1 1) pl w') ∧ Chg (fun k => k = rb) w w' := by
  obtain ⟨wb, hwb⟩ : ∃ wb, wb = w.alloc (.cells #[.int .i64 47, .int .i64 p, .string name, .int .u64 num, .string op, kids] 25) := ⟨_, rfl⟩
  have hbl : Below w.heap.size w wb := by rw [hwb]; exact (Below.refl _ _).alloc (Nat.le_refl _) _
  have hrb := hr.kept (S := fun _ => False) (Chg.of_below hbl) id
  have c0 := hrb.c0
  have f0 := hrb.f0
  have hne : ¬ rb = wb.heap.size := Nat.ne_of_lt hrb.lt
  have HR : Hid (Rsv wb rb (.slice none 0 0) (.slice none 0 0) (.slice none 0 0)) := hrb
  have HB : Hid (Below w.heap.size w wb) := hbl
  have HE : Hid (∀ b cap sc w1, Ahead w1 rb b cap sc → Chg (fun k => k = rb) w w1 → Calls Try.prog 52 #[.pointer (some ⟨rb, 0, none⟩), kids] w1 fun e w' => e = .returned (.tuple #[]) ∧ Used rb b cap sc pl w1 w') := he
  have b1 : wb.cell? ⟨w.heap.size, 1, none⟩ = some (.int .i64 p) := by rw [hwb]; exact box_new w _ _ 1 _ rfl
  have b5 : wb.cell? ⟨w.heap.size, 5, none⟩ = some kids := by rw [hwb]; exact box_new w _ _ 5 _ rfl
  obtain ⟨wc, hwc⟩ : ∃ wc, wc = wb.alloc (.cells #[.int .i64 p, .int .i64 (-1), .int .i64 0, .int .i64 0] 42) := ⟨_, rfl⟩
  have hbc : Below wb.heap.size wb wc := by rw [hwc]; exact (Below.refl _ _).alloc (Nat.le_refl _) _
  have hrc := hrb.kept (S := fun _ => False) (Chg.of_below hbc) id
  have c0a := hrc.c0
  have f0a := hrc.f0
  have b5a := cells_below hbc _ _ b5
  have hne2 : ¬ rb = w.heap.size := Nat.ne_of_lt hr.lt
  have b5c : (wc.setCell ⟨rb, 0, none⟩ (.slice (some ⟨wb.heap.size, 0, none⟩) 1 1)).cell? ⟨w.heap.size, 5, none⟩ = some kids := by rw [World.cell?_setCell_other _ _ _ _ (by simp)]; exact b5a
  have HC : Hid (Chg (fun k => k = rb) w (wc.setCell ⟨rb, 0, none⟩ (.slice (some ⟨wb.heap.size, 0, none⟩) 1 1)) ∧ Rsv (wc.setCell ⟨rb, 0, none⟩ (.slice (some ⟨wb.heap.size, 0, none⟩) 1 1)) rb (.slice (some ⟨wb.heap.size, 0, none⟩) 1 1) (.slice none 0 0) (.slice none 0 0)) :=
    ⟨((Chg.of_below hbl).trans (Chg.of_below (S := fun k => k = rb) hbc) (fun _ _ q => q)).trans (Chg.set (S := fun k => k = rb) _ _ _ rfl) (fun _ _ q => q), hrc.set0 _⟩
  have hblk := block_one rb (.slice (some ⟨wb.heap.size, 0, none⟩) 1 1) kids pl (wc.setCell ⟨rb, 0, none⟩ (.slice (some ⟨wb.heap.size, 0, none⟩) 1 1)) HC.out.2 (fun b cap w1 ha hc => HE.out b cap _ w1 ha (HC.out.1.trans hc (fun _ _ q => q)))
  rw [hwc] at c0a f0a b5a
  have HF : Hid (wc = wb.alloc (.cells #[.int .i64 p, .int .i64 (-1), .int .i64 0, .int .i64 0] 42)) := hwc
  have HBL : Hid (Calls Try.prog 36 #[.pointer (some ⟨rb, 0, none⟩), kids] (wc.setCell ⟨rb, 0, none⟩ (.slice (some ⟨wb.heap.size, 0, none⟩) 1 1)) fun e w' => e = .returned (.tuple #[]) ∧ Told rb (.slice (some ⟨wb.heap.size, 0, none⟩) 1 1) pl w' ∧ Chg (fun k => k = rb) (wc.setCell ⟨rb, 0, none⟩ (.slice (some ⟨wb.heap.size, 0, none⟩) 1 1)) w') := hblk
  clear he hr hrb hbl hbc hrc hwc hblk
  go_enter Try.func25, Try.ntmps25
  go_upto_region 1 with fail
  rw [← hwb]
  clear hwb
  go_upto_region 2 with fail
  rw [← HF.out]
  clear c0a f0a b5a c0 f0 b1 b5 hne hne2 HF
  obtain ⟨wd, hwd⟩ : ∃ wd, wd = wc.setCell ⟨rb, 0, none⟩ (.slice (some ⟨wb.heap.size, 0, none⟩) 1 1) := ⟨_, rfl⟩
  rw [← hwd] at b5c HC HBL ⊢
  clear hwd
  go_wp2_with fail
  refine HBL.out.mono ?_
  rintro e w3 ⟨rfl, h1, h2⟩
  have H3 : Hid (Told rb (.slice (some ⟨wb.heap.size, 0, none⟩) 1 1) pl w3 ∧ Chg (fun k => k = rb) w w3) := ⟨h1, HC.out.1.trans h2 (fun _ _ q => q)⟩
  clear h1 h2
  go_wp2_with fail
  go_end0
  exact ⟨rfl, ⟨_, H3.out.1⟩, H3.out.2⟩
end Go.Proofs.Ytihmdcdifakepaa.Sc

/- The deferred closure of Resolve, where nothing was thrown. -/
namespace Go.Proofs.Ytihmdcdifakepaa.Sc
open Go.RowKit
set_option linter.unusedVariables false
set_option linter.unusedSimpArgs false

theorem nil_assert (w : World) : (Instr.typeAssert Value.nilIface 20 65 true).run Try.prog w = .ok (.tuple #[.agg #[.int .i64 0, .int .i64 0], .bool false]) w := by kernel_rfl

set_option maxRecDepth 100000 in
set_option maxHeartbeats 2000000 in
theorem catch_idle (p0 p1 p2 : Addr) (w : World) :
    CallsD Try.prog 24 #[.pointer (some p0), .pointer (some p1), .pointer (some p2)] .returning w fun e u' w' => e = .returned (.tuple #[]) ∧ u' = .returning ∧ Below w.heap.size w w' := by
  have hta := fun w => nil_assert w
  refine callsD_of_wpS Try.func24 rfl fun c₀ cs hu => ?_
  simp only [Try.ntmps24, List.size_toArray, List.length_cons, List.length_nil, Nat.reduceAdd, Nat.reduceSub, Array.replicate_succ, Array.replicate_zero, List.push_toArray, List.append_toArray, List.nil_append, List.cons_append]
  apply wpS_seq
  apply wpS_region
  simp [wpOpsS, go_sem, recoverD, hu, hta, Exit.thenS]
  apply wpS_seq
  apply wpS_region
  simp [wpOpsS, go_sem, Exit.thenS]
  refine wpS_cond (t := false) (by simp [Act.eval]) ?_
  simp only [Bool.false_eq_true, if_false]
  refine wpS_of_wp (wp_skip ?_)
  have hb : Below w.heap.size w (w.alloc (.cells #[.int .i64 0, .int .i64 0] 65)) := (Below.refl _ _).alloc (Nat.le_refl _) _
  cases c₀
  simp_all [bodyPostS, results, Try.f24]

/-- Resolve's own boxes: the tree, and the three results -/
structure Boxes (w : World) (n : Nat) (p num : Int) (name op : ByteArray) (kids : Value) : Prop where
  b0 : w.cell? ⟨n, 0, none⟩ = some (.int .i64 47)
  b1 : w.cell? ⟨n, 1, none⟩ = some (.int .i64 p)
  b2 : w.cell? ⟨n, 2, none⟩ = some (.string name)
  b3 : w.cell? ⟨n, 3, none⟩ = some (.int .u64 num)
  b4 : w.cell? ⟨n, 4, none⟩ = some (.string op)
  b5 : w.cell? ⟨n, 5, none⟩ = some kids
  s0 : w.cell? ⟨n + 1, 0, none⟩ = some (.slice none 0 0)
  s1 : w.cell? ⟨n + 1, 1, none⟩ = some (.slice none 0 0)
  s2 : w.cell? ⟨n + 1, 2, none⟩ = some (.slice none 0 0)
  a0 : w.cell? ⟨n + 1 + 1, 0, none⟩ = some (.int .i64 0)
  e0 : w.cell? ⟨n + 1 + 1 + 1, 0, none⟩ = some (.int .i64 0)
  f0 : w.frozen? ⟨n + 1, 0, none⟩ = false
  f1 : w.frozen? ⟨n + 1, 1, none⟩ = false
  f2 : w.frozen? ⟨n + 1, 2, none⟩ = false
  fa : w.frozen? ⟨n + 1 + 1, 0, none⟩ = false
  fe : w.frozen? ⟨n + 1 + 1 + 1, 0, none⟩ = false

theorem Boxes.lt {w : World} {n : Nat} {p num : Int} {name op : ByteArray} {kids : Value} (h : Boxes w n p num name op kids) : n + 4 ≤ w.heap.size := World.block_lt_of_cell? w _ h.e0

theorem Boxes.kept {w w' : World} {n : Nat} {p num : Int} {name op : ByteArray} {kids : Value} {S : Nat → Prop} (h : Boxes w n p num name op kids) (hc : Chg S w w') (hn : ∀ k, S k → n + 4 ≤ k) : Boxes w' n p num name op kids := by
  have q : ∀ k, k < n + 4 → ¬ S k := fun k h1 h2 => by have := hn k h2; omega
  exact ⟨hc.cell h.b0 (q _ (by simp)), hc.cell h.b1 (q _ (by simp)), hc.cell h.b2 (q _ (by simp)), hc.cell h.b3 (q _ (by simp)), hc.cell h.b4 (q _ (by simp)), hc.cell h.b5 (q _ (by simp)),
    hc.cell h.s0 (q _ (by simp)), hc.cell h.s1 (q _ (by simp)), hc.cell h.s2 (q _ (by simp)), hc.cell h.a0 (q _ (by simp)), hc.cell h.e0 (q _ (by simp)),
    (frozen_chg' hc h.s0 (q _ (by simp))).trans h.f0, (frozen_chg' hc h.s1 (q _ (by simp))).trans h.f1, (frozen_chg' hc h.s2 (q _ (by simp))).trans h.f2, (frozen_chg' hc h.a0 (q _ (by simp))).trans h.fa, (frozen_chg' hc h.e0 (q _ (by simp))).trans h.fe⟩

theorem Boxes.made (w : World) (p num : Int) (name op : ByteArray) (kids : Value) : Boxes ((((w.alloc (.cells #[.int .i64 47, .int .i64 p, .string name, .int .u64 num, .string op, kids] 25)).alloc (.cells #[.slice none 0 0, .slice none 0 0, .slice none 0 0] 37)).alloc (.cells #[.int .i64 0] 3)).alloc (.cells #[.int .i64 0] 38)) w.heap.size p num name op kids := by
  constructor <;> simp [go_sem]

set_option maxRecDepth 100000 in
set_option maxHeartbeats 2000000 in
theorem resolve_one (pl p num : Int) (name op : ByteArray) (kids : Value) (w : World)
    (hr : ∀ w1, Below w.heap.size w w1 → Calls Try.prog 9 #[.agg #[.int .i64 47, .int .i64 p, .string name, .int .u64 num, .string op, kids]] w1 fun e w' => e = .returned (.bool true) ∧ Below w1.heap.size w1 w')
    (he : ∀ rb b cap sc w1, Ahead w1 rb b cap sc → Below w.heap.size w w1 → Calls Try.prog 52 #[.pointer (some ⟨rb, 0, none⟩), kids] w1 fun e w' => e = .returned (.tuple #[]) ∧ Used rb b cap sc pl w1 w') :
    Calls Try.prog 15 #[.agg #[.int .i64 47, .int .i64 p, .string name, .int .u64 num, .string op, kids]] w fun e w' => (∃ sb u c, e = .returned (.tuple #[.agg #[.slice (some ⟨sb, 0, none⟩) 1 1, .slice none 0 0, .slice (some ⟨u, 0, none⟩) 1 c], .int .i64 0, .int .i64 0]) ∧ w'.cell? ⟨u, 1, none⟩ = some (.int .i64 (-1))) ∧ Below w.heap.size w w' := by
  have hmf : ∀ (fn : Fn) (first cap : Array Value) (w : World), (Instr.makeFunc fn first cap).run Try.prog w = .ok (.func fn first cap) w := fun _ _ _ _ => rfl
  have HR : Hid (∀ w1, Below w.heap.size w w1 → Calls Try.prog 9 #[.agg #[.int .i64 47, .int .i64 p, .string name, .int .u64 num, .string op, kids]] w1 fun e w' => e = .returned (.bool true) ∧ Below w1.heap.size w1 w') := hr
  have HE : Hid (∀ rb b cap sc w1, Ahead w1 rb b cap sc → Below w.heap.size w w1 → Calls Try.prog 52 #[.pointer (some ⟨rb, 0, none⟩), kids] w1 fun e w' => e = .returned (.tuple #[]) ∧ Used rb b cap sc pl w1 w') := he
  clear hr he
  obtain ⟨w4, hw4⟩ : ∃ w4, w4 = (((w.alloc (.cells #[.int .i64 47, .int .i64 p, .string name, .int .u64 num, .string op, kids] 25)).alloc (.cells #[.slice none 0 0, .slice none 0 0, .slice none 0 0] 37)).alloc (.cells #[.int .i64 0] 3)).alloc (.cells #[.int .i64 0] 38) := ⟨_, rfl⟩
  have hB4 : Below w.heap.size w w4 := by rw [hw4]; exact ((((Below.refl w.heap.size w).alloc (Nat.le_refl _) _).alloc (by simp) _).alloc (by simp; omega) _).alloc (by simp; omega) _
  have hx : Boxes w4 w.heap.size p num name op kids := by rw [hw4]; exact Boxes.made w p num name op kids
  have HB4 : Hid (Below w.heap.size w w4) := hB4
  have HX : Hid (Boxes w4 w.heap.size p num name op kids) := hx
  have hcall := HR.out w4 hB4
  clear hB4 hx
  go_enter_defers Try.func15, Try.ntmps15
  go_wp2_with fail
  rw [← hw4]
  clear hw4
  refine hcall.mono ?_
  rintro e w5 ⟨rfl, hb5⟩
  have H5 : Hid (Below w.heap.size w w5) := HB4.out.trans (hb5.mono HB4.out.size)
  have X5 : Hid (Boxes w5 w.heap.size p num name op kids) := HX.out.kept (S := fun _ => False) (Chg.of_below hb5) (fun _ q => q.elim)
  clear hcall hb5
  obtain ⟨w6, hw6⟩ : ∃ w6, w6 = w5.alloc (.cells #[.slice none 0 0, .slice none 0 0, .slice none 0 0, .slice none 0 0, .int .i64 0, .int .i64 0, .slice none 0 0] 72) := ⟨_, rfl⟩
  have hb6 : Below w5.heap.size w5 w6 := by rw [hw6]; exact (Below.refl _ _).alloc (Nat.le_refl _) _
  have X6 : Hid (Boxes w6 w.heap.size p num name op kids) := X5.out.kept (S := fun _ => False) (Chg.of_below hb6) (fun _ q => q.elim)
  have R6 : Hid (Rsv w6 w5.heap.size (.slice none 0 0) (.slice none 0 0) (.slice none 0 0)) := by
    rw [hw6]
    exact ⟨box_new w5 _ _ 0 _ rfl, box_new w5 _ _ 1 _ rfl, box_new w5 _ _ 2 _ rfl, box_new w5 _ _ 3 _ rfl, frozen_new w5 _ _ _, frozen_new w5 _ _ _, frozen_new w5 _ _ _⟩
  have H6 : Hid (Below w.heap.size w w6) := H5.out.trans (hb6.mono H5.out.size)
  have HL : Hid (w.heap.size + 4 ≤ w5.heap.size) := X5.out.lt
  have hpr := program_one w5.heap.size pl p num name op kids w6 R6.out (fun b cap sc w1 ha hc => HE.out _ b cap sc w1 ha (hc.below H6.out H6.out.size (fun k e => by have := HL.out; omega)))
  have HPR : Hid (Calls Try.prog 25 #[.pointer (some ⟨w5.heap.size, 0, none⟩), .agg #[.int .i64 47, .int .i64 p, .string name, .int .u64 num, .string op, kids]] w6 fun e w' => e = .returned (.tuple #[]) ∧ (∃ sb, Told w5.heap.size (.slice (some ⟨sb, 0, none⟩) 1 1) pl w') ∧ Chg (fun k => k = w5.heap.size) w6 w') := hpr
  clear hpr hb6
  have b0 := X6.out.b0
  have b1 := X6.out.b1
  have b2 := X6.out.b2
  have b3 := X6.out.b3
  have b4 := X6.out.b4
  have b5 := X6.out.b5
  go_upto_region 5 with fail
  rw [← hw6]
  clear hw6
  go_wp2_with fail
  refine HPR.out.mono ?_
  rintro e w7 ⟨rfl, ⟨sb, u, c, bl, r7, u0, u1⟩, hc7⟩
  have X7 : Hid (Boxes w7 w.heap.size p num name op kids) := X6.out.kept hc7 (fun k e => by have := HL.out; omega)
  have H7 : Hid (Below w.heap.size w w7) := hc7.below H6.out H6.out.size (fun k e => by have := HL.out; omega)
  have HU : Hid (w7.cell? ⟨u, 1, none⟩ = some (.int .i64 (-1)) ∧ u ≠ w.heap.size + 1) := by
    refine ⟨u1, fun e => ?_⟩
    subst e
    have := X7.out.s1
    rw [u1] at this
    cases this
  obtain ⟨t0, t1, t2, _, _, _, _⟩ := r7
  have s0 := X7.out.s0
  have s1 := X7.out.s1
  have s2 := X7.out.s2
  have a0 := X7.out.a0
  have e0 := X7.out.e0
  have f0 := X7.out.f0
  have f1 := X7.out.f1
  have f2 := X7.out.f2
  have fa := X7.out.fa
  have fe := X7.out.fe
  clear b0 b1 b2 b3 b4 b5 u0 u1 hc7 R6 X6 H6 X5 H5 HX HB4 HPR HE HR
  go_wp2_with fail
  obtain ⟨w8, hw8⟩ : ∃ w8, w8 = ((((w7.setCell ⟨w.heap.size + 1, 0, none⟩ (.slice (some ⟨sb, 0, none⟩) 1 1)).setCell ⟨w.heap.size + 1, 1, none⟩ (.slice none 0 0)).setCell ⟨w.heap.size + 1, 2, none⟩ (.slice (some ⟨u, 0, none⟩) 1 c)).setCell ⟨w.heap.size + 1 + 1, 0, none⟩ (.int .i64 0)).setCell ⟨w.heap.size + 1 + 1 + 1, 0, none⟩ (.int .i64 0) := ⟨_, rfl⟩
  have hne := HU.out.2
  have hu1 := HU.out.1
  have k0 : w8.cell? ⟨w.heap.size + 1, 0, none⟩ = some (.slice (some ⟨sb, 0, none⟩) 1 1) := by rw [hw8]; simp [go_sem, s0, s1, s2, a0, e0]
  have k1 : w8.cell? ⟨w.heap.size + 1, 1, none⟩ = some (.slice none 0 0) := by rw [hw8]; simp [go_sem, s0, s1, s2, a0, e0]
  have k2 : w8.cell? ⟨w.heap.size + 1, 2, none⟩ = some (.slice (some ⟨u, 0, none⟩) 1 c) := by rw [hw8]; simp [go_sem, s0, s1, s2, a0, e0]
  have k3 : w8.cell? ⟨w.heap.size + 1 + 1, 0, none⟩ = some (.int .i64 0) := by rw [hw8]; simp [go_sem, s0, s1, s2, a0, e0]
  have k4 : w8.cell? ⟨w.heap.size + 1 + 1 + 1, 0, none⟩ = some (.int .i64 0) := by rw [hw8]; simp [go_sem, s0, s1, s2, a0, e0]
  have k5 : w8.cell? ⟨u, 1, none⟩ = some (.int .i64 (-1)) := by rw [hw8]; rw [World.cell?_setCell_other _ _ _ _ (by simp), World.cell?_setCell_other _ _ _ _ (by simp), World.cell?_setCell_other _ _ _ _ (by simp), World.cell?_setCell_other _ _ _ _ (by intro e; injection e with e1; exact hne e1.symm), World.cell?_setCell_other _ _ _ _ (by simp)]; exact hu1
  have H8 : Below w.heap.size w w8 := by
    rw [hw8]
    exact ((((H7.out.setCell (p := ⟨w.heap.size + 1, 0, none⟩) (by simp) _).setCell (p := ⟨w.heap.size + 1, 1, none⟩) (by simp) _).setCell (p := ⟨w.heap.size + 1, 2, none⟩) (by simp) _).setCell (p := ⟨w.heap.size + 1 + 1, 0, none⟩) (by simp; omega) _).setCell (p := ⟨w.heap.size + 1 + 1 + 1, 0, none⟩) (by simp; omega) _
  rw [← hw8]
  refine leaves_cons (f := 24) (args := #[.pointer (some ⟨w.heap.size + 1, 0, none⟩), .pointer (some ⟨w.heap.size + 1 + 1, 0, none⟩), .pointer (some ⟨w.heap.size + 1 + 1 + 1, 0, none⟩)]) (by simp) (by simp [go_sem]) ?_
  refine (catch_idle ⟨w.heap.size + 1, 0, none⟩ ⟨w.heap.size + 1 + 1, 0, none⟩ ⟨w.heap.size + 1 + 1 + 1, 0, none⟩ _).mono ?_
  rintro e u' w9 ⟨rfl, rfl, hb9⟩
  have j0 := cells_below hb9 _ _ k0
  have j1 := cells_below hb9 _ _ k1
  have j2 := cells_below hb9 _ _ k2
  have j3 := cells_below hb9 _ _ k3
  have j4 := cells_below hb9 _ _ k4
  have j5 := cells_below hb9 _ _ k5
  have H9 : Below w.heap.size w w9 := H8.trans (hb9.mono H8.size)
  simp [Leaves, settle, results, Try.f15, go_sem, j0, j1, j2, j3, j4]
  exact ⟨⟨sb, u, ⟨rfl, rfl⟩, j5⟩, H9⟩
end Go.Proofs.Ytihmdcdifakepaa.Sc
