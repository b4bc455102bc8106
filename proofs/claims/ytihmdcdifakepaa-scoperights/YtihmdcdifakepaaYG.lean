/- items, block, program: of one name. -/
import Derived.Test.YtihmdcdifakepaaYF
namespace Go.Proofs.Ytihmdcdifakepaa.Sc
open Go.RowKit
set_option linter.unusedVariables false

set_option maxRecDepth 100000 in
set_option maxHeartbeats 2000000 in
theorem items_one (rb b cap : Nat) (sc : Value) (pl : Int) (kb ko kc : Nat) (p : Int) (name : ByteArray) (num : Int) (op : ByteArray) (ka : Option Addr) (kn kk : Nat) (w : World) (hk : OneAt w kb ko 46 p name num op (.slice ka kn kk))
    (he : ∀ w1, Below w.heap.size w w1 → Calls Try.prog 65 #[.pointer (some ⟨rb, 0, none⟩), .slice (some ⟨kb, ko, none⟩) 1 kc] w1 fun e w' => e = .returned (.tuple #[]) ∧ Used rb b cap sc pl w1 w') :
    Calls Try.prog 52 #[.pointer (some ⟨rb, 0, none⟩), .slice (some ⟨kb, ko, none⟩) 1 kc] w fun e w' => e = .returned (.tuple #[]) ∧ Used rb b cap sc pl w w' := by
  have HK : Hid (OneAt w kb ko 46 p name num op (.slice ka kn kk)) := hk
  have HE : Hid (∀ w1, Below w.heap.size w w1 → Calls Try.prog 65 #[.pointer (some ⟨rb, 0, none⟩), .slice (some ⟨kb, ko, none⟩) 1 kc] w1 fun e w' => e = .returned (.tuple #[]) ∧ Used rb b cap sc pl w1 w') := he
  clear hk he
  go_enter Try.func52, Try.ntmps52
  go_wp2_with fail
  go_loopw [8] (fun i wr => ∃ k : Nat, ((k = 0 ∧ wr = w) ∨ (k = 1 ∧ Below w.heap.size w wr)) ∧ i = .int .i64 k) (fun i wr => 1 - (intOf i).toNat)
  case atStart => exact ⟨0, Or.inl ⟨rfl, rfl⟩, rfl⟩
  case round =>
    obtain ⟨j, hj, rfl⟩ := hrel
    rcases hj with ⟨rfl, rfl⟩ | ⟨rfl, hb⟩
    · obtain ⟨x0, x1, x2, x3, x4, x5⟩ := HK.out
      obtain ⟨wb, hwb⟩ : ∃ wb, wb = wr.alloc (.cells #[.int .i64 46, .int .i64 p, .string name, .int .u64 num, .string op, .slice ka kn kk] 25) := ⟨_, rfl⟩
      have hbl : Below wr.heap.size wr wb := by rw [hwb]; exact (Below.refl _ _).alloc (Nat.le_refl _) _
      have HB : Hid (Below wr.heap.size wr wb) := hbl
      have b0 : wb.cell? ⟨wr.heap.size, 0, none⟩ = some (.int .i64 46) := by rw [hwb]; exact box_new wr _ _ 0 _ rfl
      clear hbl
      go_upto_region 3 with fail
      rw [← hwb]
      clear hwb x0 x1 x2 x3 x4 x5
      go_wp2_with fail
      refine ⟨⟨1, Or.inr ⟨rfl, HB.out⟩, by go_num⟩, ?_⟩
      simp [intOf]
    · have hu := HE.out wr hb
      have HB : Hid (Below w.heap.size w wr) := hb
      clear hb
      go_wp2_with (go_at_call 65; refine hu.mono ?_; rintro e w1 ⟨rfl, hu1⟩; clear hu; have HU : Hid (Used rb b cap sc pl w w1) := hu1.from HB.out; clear hu1)
      go_end0
      exact ⟨rfl, HU.out⟩

/-- what is told of one name -/
def Told (rb : Nat) (sc : Value) (pl : Int) (w' : World) : Prop :=
  ∃ u c bl, Rsv w' rb sc (.slice (some ⟨u, 0, none⟩) 1 c) bl ∧ w'.cell? ⟨u, 0, none⟩ = some (.int .i64 pl) ∧ w'.cell? ⟨u, 1, none⟩ = some (.int .i64 (-1))

set_option maxRecDepth 100000 in
set_option maxHeartbeats 2000000 in
theorem block_one (rb : Nat) (sc kids : Value) (pl : Int) (w : World) (hr : Rsv w rb sc (.slice none 0 0) (.slice none 0 0))
    (he : ∀ b cap w1, Ahead w1 rb b cap sc → Chg (fun k => k = rb) w w1 → Calls Try.prog 52 #[.pointer (some ⟨rb, 0, none⟩), kids] w1 fun e w' => e = .returned (.tuple #[]) ∧ Used rb b cap sc pl w1 w') :
    Calls Try.prog 36 #[.pointer (some ⟨rb, 0, none⟩), kids] w fun e w' => e = .returned (.tuple #[]) ∧ Told rb sc pl w' ∧ Chg (fun k => k = rb) w w' := by
  have ho := open_one rb sc (.slice none 0 0) w hr
  have HE : Hid (∀ b cap w1, Ahead w1 rb b cap sc → Chg (fun k => k = rb) w w1 → Calls Try.prog 52 #[.pointer (some ⟨rb, 0, none⟩), kids] w1 fun e w' => e = .returned (.tuple #[]) ∧ Used rb b cap sc pl w1 w') := he
  clear he hr
  go_enter Try.func36, Try.ntmps36
  go_wp2_with fail
  refine ho.mono ?_
  rintro e w1 ⟨rfl, ⟨b, cap, r1, m1, _, q1, q2, _⟩, hc1⟩
  have hi := HE.out b cap w1 ⟨r1, m1⟩ hc1
  have H1 : Hid (Chg (fun k => k = rb) w w1 ∧ 1 ≤ cap ∧ cap ≤ maxLen) := ⟨hc1, q1, q2⟩
  clear ho r1 m1 q1 q2 hc1
  go_wp2_with fail
  refine hi.mono ?_
  rintro e w2 ⟨rfl, hu⟩
  obtain ⟨⟨u, c, r2, u0, u1, une⟩, hc2⟩ := hu
  have hs := shut_one rb b 0 cap sc (.slice (some ⟨u, 0, none⟩) 1 c) w2 r2 H1.out.2
  have H2 : Hid (Chg (fun k => k = rb) w w2 ∧ w2.cell? ⟨u, 0, none⟩ = some (.int .i64 pl) ∧ w2.cell? ⟨u, 1, none⟩ = some (.int .i64 (-1)) ∧ u ≠ rb) := ⟨H1.out.1.trans hc2 (fun _ _ q => q), u0, u1, une⟩
  clear hi r2 u0 u1 une hc2
  go_wp2_with fail
  refine hs.mono ?_
  rintro e w3 ⟨rfl, ⟨bl, r3⟩, hc3⟩
  have H3 : Hid (Told rb sc pl w3 ∧ Chg (fun k => k = rb) w w3) := ⟨⟨u, c, bl, r3, hc3.cell H2.out.2.1 H2.out.2.2.2, hc3.cell H2.out.2.2.1 H2.out.2.2.2⟩, H2.out.1.trans hc3 (fun _ _ q => q)⟩
  clear hs r3 hc3
  go_wp2_with fail
  go_end0
  exact ⟨rfl, H3.out⟩

theorem info42 : (Try.prog.info? 42).map (fun i => (i.zero, i.size, i.bytes)) = some (some (.agg #[.int .i64 0, .int .i64 0, .int .i64 0, .int .i64 0]), 4, 32) := by kernel_rfl

set_option maxRecDepth 100000 in
set_option maxHeartbeats 2000000 in
theorem program_one (rb : Nat) (pl p num : Int) (name op : ByteArray) (kids : Value) (w : World) (hr : Rsv w rb (.slice none 0 0) (.slice none 0 0) (.slice none 0 0))
    (he : ∀ b cap sc w1, Ahead w1 rb b cap sc → Chg (fun k => k = rb) w w1 → Calls Try.prog 52 #[.pointer (some ⟨rb, 0, none⟩), kids] w1 fun e w' => e = .returned (.tuple #[]) ∧ Used rb b cap sc pl w1 w') :
    Calls Try.prog 25 #[.pointer (some ⟨rb, 0, none⟩), .agg #[.int .i64 47, .int .i64 p, .string name, .int .u64 num, .string op, kids]] w fun e w' => e = .returned (.tuple #[]) ∧ (∃ sb, Told rb (.slice (some ⟨sb, 0, none⟩) 1 1) pl w') ∧ Chg (fun k => k = rb) w w' := by
  obtain ⟨wb, hwb⟩ : ∃ wb, wb = w.alloc (.cells #[.int .i64 47, .int .i64 p, .string name, .int .u64 num, .string op, kids] 25) := ⟨_, rfl⟩
  have hbl : Below w.heap.size w wb := by rw [hwb]; exact (Below.refl _ _).alloc (Nat.le_refl _) _
  have hrb := hr.kept (S := fun _ => False) (Chg.of_below hbl) id
  have c0 := hrb.c0
  have f0 := hrb.f0
  have hne : ¬ rb = wb.heap.size := Nat.ne_of_lt hrb.lt
  have HR : Hid (Rsv wb rb (.slice none 0 0) (.slice none 0 0) (.slice none 0 0)) := hrb
  have HB : Hid (Below w.heap.size w wb) := hbl
  have HE : Hid (∀ b cap sc w1, Ahead w1 rb b cap sc → Chg (fun k => k = rb) w w1 → Calls Try.prog 52 #[.pointer (some ⟨rb, 0, none⟩), kids] w1 fun e w' => e = .returned (.tuple #[]) ∧ Used rb b cap sc pl w1 w') := he
  have b1 : wb.cell? ⟨w.heap.size, 1, none⟩ = some (.int .i64 p) := by rw [hwb]; exact box_new w _ _ 1 _ rfl
  have b5 : wb.cell? ⟨w.heap.size, 5, none⟩ = some kids := by rw [hwb]; exact box_new w _ _ 5 _ rfl
  obtain ⟨wc, hwc⟩ : ∃ wc, wc = wb.alloc (.cells #[.int .i64 p, .int .i64 (-1), .int .i64 0, .int .i64 0] 42) := ⟨_, rfl⟩
  have hbc : Below wb.heap.size wb wc := by rw [hwc]; exact (Below.refl _ _).alloc (Nat.le_refl _) _
  have hrc := hrb.kept (S := fun _ => False) (Chg.of_below hbc) id
  have c0a := hrc.c0
  have f0a := hrc.f0
  have b5a := cells_below hbc _ _ b5
  have hne2 : ¬ rb = w.heap.size := Nat.ne_of_lt hr.lt
  have b5c : (wc.setCell ⟨rb, 0, none⟩ (.slice (some ⟨wb.heap.size, 0, none⟩) 1 1)).cell? ⟨w.heap.size, 5, none⟩ = some kids := by rw [World.cell?_setCell_other _ _ _ _ (by simp)]; exact b5a
  have HC : Hid (Chg (fun k => k = rb) w (wc.setCell ⟨rb, 0, none⟩ (.slice (some ⟨wb.heap.size, 0, none⟩) 1 1)) ∧ Rsv (wc.setCell ⟨rb, 0, none⟩ (.slice (some ⟨wb.heap.size, 0, none⟩) 1 1)) rb (.slice (some ⟨wb.heap.size, 0, none⟩) 1 1) (.slice none 0 0) (.slice none 0 0)) :=
    ⟨((Chg.of_below hbl).trans (Chg.of_below (S := fun k => k = rb) hbc) (fun _ _ q => q)).trans (Chg.set (S := fun k => k = rb) _ _ _ rfl) (fun _ _ q => q), hrc.set0 _⟩
  have hblk := block_one rb (.slice (some ⟨wb.heap.size, 0, none⟩) 1 1) kids pl (wc.setCell ⟨rb, 0, none⟩ (.slice (some ⟨wb.heap.size, 0, none⟩) 1 1)) HC.out.2 (fun b cap w1 ha hc => HE.out b cap _ w1 ha (HC.out.1.trans hc (fun _ _ q => q)))
  rw [hwc] at c0a f0a b5a
  have HF : Hid (wc = wb.alloc (.cells #[.int .i64 p, .int .i64 (-1), .int .i64 0, .int .i64 0] 42)) := hwc
  have HBL : Hid (Calls Try.prog 36 #[.pointer (some ⟨rb, 0, none⟩), kids] (wc.setCell ⟨rb, 0, none⟩ (.slice (some ⟨wb.heap.size, 0, none⟩) 1 1)) fun e w' => e = .returned (.tuple #[]) ∧ Told rb (.slice (some ⟨wb.heap.size, 0, none⟩) 1 1) pl w' ∧ Chg (fun k => k = rb) (wc.setCell ⟨rb, 0, none⟩ (.slice (some ⟨wb.heap.size, 0, none⟩) 1 1)) w') := hblk
  clear he hr hrb hbl hbc hrc hwc hblk
  go_enter Try.func25, Try.ntmps25
  go_upto_region 1 with fail
  rw [← hwb]
  clear hwb
  go_upto_region 2 with fail
  rw [← HF.out]
  clear c0a f0a b5a c0 f0 b1 b5 hne hne2 HF
  obtain ⟨wd, hwd⟩ : ∃ wd, wd = wc.setCell ⟨rb, 0, none⟩ (.slice (some ⟨wb.heap.size, 0, none⟩) 1 1) := ⟨_, rfl⟩
  rw [← hwd] at b5c HC HBL ⊢
  clear hwd
  go_wp2_with fail
  refine HBL.out.mono ?_
  rintro e w3 ⟨rfl, h1, h2⟩
  have H3 : Hid (Told rb (.slice (some ⟨wb.heap.size, 0, none⟩) 1 1) pl w3 ∧ Chg (fun k => k = rb) w w3) := ⟨h1, HC.out.1.trans h2 (fun _ _ q => q)⟩
  clear h1 h2
  go_wp2_with fail
  go_end0
  exact ⟨rfl, ⟨_, H3.out.1⟩, H3.out.2⟩
end Go.Proofs.Ytihmdcdifakepaa.Sc
