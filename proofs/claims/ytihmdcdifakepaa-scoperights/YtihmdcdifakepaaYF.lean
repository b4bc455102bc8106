/- node, each, items: of one name. -/
import Derived.Test.YtihmdcdifakepaaYE
namespace Go.Proofs.Ytihmdcdifakepaa.Sc
open Go.RowKit
set_option linter.unusedVariables false

theorem Used.from {rb b cap : Nat} {sc : Value} {pl : Int} {w w1 w' : World} (h : Used rb b cap sc pl w1 w') (hb : Below w.heap.size w w1) : Used rb b cap sc pl w w' := by
  obtain ⟨h1, h5⟩ := h
  exact ⟨h1, (Chg.of_below hb).trans h5 (fun _ _ q => q)⟩

/-- what stands ahead of a use -/
structure Ahead (w : World) (rb b cap : Nat) (sc : Value) : Prop where
  rs : Rsv w rb sc (.slice none 0 0) (.slice (some ⟨b, 0, none⟩) 1 cap)
  mp : w.cell? ⟨b, 0, none⟩ = some (.map none)

theorem Ahead.kept {w w' : World} {rb b cap : Nat} {sc : Value} (h : Ahead w rb b cap sc) (hb : Below w.heap.size w w') : Ahead w' rb b cap sc := ⟨h.rs.kept (S := fun _ => False) (Chg.of_below hb) id, cells_below hb _ _ h.mp⟩

set_option maxRecDepth 100000 in
set_option maxHeartbeats 2000000 in
theorem node_name (rb b cap : Nat) (sc : Value) (pl num : Int) (name op : ByteArray) (kv : Value) (w : World) (ha : Ahead w rb b cap sc) (hs : name.size ≤ maxLen) (hi : 0 ≤ idxI name) :
    Calls Try.prog 73 #[.pointer (some ⟨rb, 0, none⟩), .agg #[.int .i64 3, .int .i64 pl, .string name, .int .u64 num, .string op, kv]] w fun e w' => e = .returned (.tuple #[]) ∧ Used rb b cap sc pl w w' := by
  obtain ⟨wb, hwb⟩ : ∃ wb, wb = w.alloc (.cells #[.int .i64 3, .int .i64 pl, .string name, .int .u64 num, .string op, kv] 25) := ⟨_, rfl⟩
  have hbl : Below w.heap.size w wb := by rw [hwb]; exact (Below.refl _ _).alloc (Nat.le_refl _) _
  have HB : Hid (Below w.heap.size w wb) := hbl
  have hu := use_one rb b cap sc 3 pl num name op kv wb (ha.kept hbl).rs (ha.kept hbl).mp hs hi
  have b0 : wb.cell? ⟨w.heap.size, 0, none⟩ = some (.int .i64 3) := by rw [hwb]; exact box_new w _ _ 0 _ rfl
  have b1 : wb.cell? ⟨w.heap.size, 1, none⟩ = some (.int .i64 pl) := by rw [hwb]; exact box_new w _ _ 1 _ rfl
  have b2 : wb.cell? ⟨w.heap.size, 2, none⟩ = some (.string name) := by rw [hwb]; exact box_new w _ _ 2 _ rfl
  have b3 : wb.cell? ⟨w.heap.size, 3, none⟩ = some (.int .u64 num) := by rw [hwb]; exact box_new w _ _ 3 _ rfl
  have b4 : wb.cell? ⟨w.heap.size, 4, none⟩ = some (.string op) := by rw [hwb]; exact box_new w _ _ 4 _ rfl
  have b5 : wb.cell? ⟨w.heap.size, 5, none⟩ = some kv := by rw [hwb]; exact box_new w _ _ 5 _ rfl
  clear ha hbl hs hi
  go_enter Try.func73, Try.ntmps73
  go_upto_region 1 with fail
  rw [← hwb]
  clear hwb
  go_wp2_with (go_at_call 76; refine hu.mono ?_; rintro e w1 ⟨rfl, hu1⟩; clear hu; have HU : Hid (Used rb b cap sc pl wb w1) := hu1; clear hu1)
  go_end0
  exact ⟨rfl, HU.out.from HB.out⟩

set_option maxRecDepth 100000 in
set_option maxHeartbeats 2000000 in
theorem node_each (rb b cap : Nat) (sc : Value) (pl : Int) (p2 num : Int) (name op : ByteArray) (kv : Value) (w : World) (he : ∀ w1, Below w.heap.size w w1 → Calls Try.prog 65 #[.pointer (some ⟨rb, 0, none⟩), kv] w1 fun e w' => e = .returned (.tuple #[]) ∧ Used rb b cap sc pl w1 w') :
    Calls Try.prog 73 #[.pointer (some ⟨rb, 0, none⟩), .agg #[.int .i64 46, .int .i64 p2, .string name, .int .u64 num, .string op, kv]] w fun e w' => e = .returned (.tuple #[]) ∧ Used rb b cap sc pl w w' := by
  obtain ⟨wb, hwb⟩ : ∃ wb, wb = w.alloc (.cells #[.int .i64 46, .int .i64 p2, .string name, .int .u64 num, .string op, kv] 25) := ⟨_, rfl⟩
  have hbl : Below w.heap.size w wb := by rw [hwb]; exact (Below.refl _ _).alloc (Nat.le_refl _) _
  have HB : Hid (Below w.heap.size w wb) := hbl
  have hu := he wb hbl
  have b0 : wb.cell? ⟨w.heap.size, 0, none⟩ = some (.int .i64 46) := by rw [hwb]; exact box_new w _ _ 0 _ rfl
  have b5 : wb.cell? ⟨w.heap.size, 5, none⟩ = some kv := by rw [hwb]; exact box_new w _ _ 5 _ rfl
  clear he hbl
  go_enter Try.func73, Try.ntmps73
  go_upto_region 1 with fail
  rw [← hwb]
  clear hwb
  go_wp2_with (go_at_call 65; refine hu.mono ?_; rintro e w1 ⟨rfl, hu1⟩; clear hu; have HU : Hid (Used rb b cap sc pl wb w1) := hu1; clear hu1)
  go_end0
  exact ⟨rfl, HU.out.from HB.out⟩

/-- one node in memory -/
structure OneAt (w : World) (kb ko : Nat) (k p : Int) (name : ByteArray) (num : Int) (op : ByteArray) (kv : Value) : Prop where
  x0 : w.cell? ⟨kb, ko, none⟩ = some (.int .i64 k)
  x1 : w.cell? ⟨kb, ko + 1, none⟩ = some (.int .i64 p)
  x2 : w.cell? ⟨kb, ko + 2, none⟩ = some (.string name)
  x3 : w.cell? ⟨kb, ko + 3, none⟩ = some (.int .u64 num)
  x4 : w.cell? ⟨kb, ko + 4, none⟩ = some (.string op)
  x5 : w.cell? ⟨kb, ko + 5, none⟩ = some kv

set_option maxRecDepth 100000 in
set_option maxHeartbeats 2000000 in
theorem each_one (rb b cap : Nat) (sc : Value) (pl : Int) (kb ko kc : Nat) (k p : Int) (name : ByteArray) (num : Int) (op : ByteArray) (ka : Option Addr) (kn kk : Nat) (w : World) (hk : OneAt w kb ko k p name num op (.slice ka kn kk))
    (he : ∀ w1, Below w.heap.size w w1 → Calls Try.prog 73 #[.pointer (some ⟨rb, 0, none⟩), .agg #[.int .i64 k, .int .i64 p, .string name, .int .u64 num, .string op, .slice ka kn kk]] w1 fun e w' => e = .returned (.tuple #[]) ∧ Used rb b cap sc pl w1 w') :
    Calls Try.prog 65 #[.pointer (some ⟨rb, 0, none⟩), .slice (some ⟨kb, ko, none⟩) 1 kc] w fun e w' => e = .returned (.tuple #[]) ∧ Used rb b cap sc pl w w' := by
  have HK : Hid (OneAt w kb ko k p name num op (.slice ka kn kk)) := hk
  have HE : Hid (∀ w1, Below w.heap.size w w1 → Calls Try.prog 73 #[.pointer (some ⟨rb, 0, none⟩), .agg #[.int .i64 k, .int .i64 p, .string name, .int .u64 num, .string op, .slice ka kn kk]] w1 fun e w' => e = .returned (.tuple #[]) ∧ Used rb b cap sc pl w1 w') := he
  clear hk he
  go_enter Try.func65, Try.ntmps65
  go_wp2_with fail
  go_loopw [8] (fun i wr => ∃ k : Nat, ((k = 0 ∧ wr = w) ∨ (k = 1 ∧ Used rb b cap sc pl w wr)) ∧ i = .int .i64 k) (fun i wr => 1 - (intOf i).toNat)
  case atStart => exact ⟨0, Or.inl ⟨rfl, rfl⟩, rfl⟩
  case round =>
    obtain ⟨j, hj, rfl⟩ := hrel
    rcases hj with ⟨rfl, rfl⟩ | ⟨rfl, hu⟩
    · obtain ⟨x0, x1, x2, x3, x4, x5⟩ := HK.out
      obtain ⟨wb, hwb⟩ : ∃ wb, wb = wr.alloc (.cells #[.int .i64 k, .int .i64 p, .string name, .int .u64 num, .string op, .slice ka kn kk] 25) := ⟨_, rfl⟩
      have hbl : Below wr.heap.size wr wb := by rw [hwb]; exact (Below.refl _ _).alloc (Nat.le_refl _) _
      have HB : Hid (Below wr.heap.size wr wb) := hbl
      have hu := HE.out wb hbl
      have b0 : wb.cell? ⟨wr.heap.size, 0, none⟩ = some (.int .i64 k) := by rw [hwb]; exact box_new wr _ _ 0 _ rfl
      have b1 : wb.cell? ⟨wr.heap.size, 1, none⟩ = some (.int .i64 p) := by rw [hwb]; exact box_new wr _ _ 1 _ rfl
      have b2 : wb.cell? ⟨wr.heap.size, 2, none⟩ = some (.string name) := by rw [hwb]; exact box_new wr _ _ 2 _ rfl
      have b3 : wb.cell? ⟨wr.heap.size, 3, none⟩ = some (.int .u64 num) := by rw [hwb]; exact box_new wr _ _ 3 _ rfl
      have b4 : wb.cell? ⟨wr.heap.size, 4, none⟩ = some (.string op) := by rw [hwb]; exact box_new wr _ _ 4 _ rfl
      have b5 : wb.cell? ⟨wr.heap.size, 5, none⟩ = some (.slice ka kn kk) := by rw [hwb]; exact box_new wr _ _ 5 _ rfl
      clear hbl
      go_upto_region 3 with fail
      rw [← hwb]
      clear hwb x0 x1 x2 x3 x4 x5
      go_wp2_with (go_at_call 73; refine hu.mono ?_; rintro e w1 ⟨rfl, hu1⟩; clear hu; have HU : Hid (Used rb b cap sc pl wr w1) := hu1.from HB.out; clear hu1)
      refine ⟨⟨1, Or.inr ⟨rfl, HU.out⟩, by go_num⟩, ?_⟩
      simp [intOf]
    · have HU : Hid (Used rb b cap sc pl w wr) := hu
      clear hu
      go_wp2_with fail
      go_end0
      exact ⟨rfl, HU.out⟩
end Go.Proofs.Ytihmdcdifakepaa.Sc
