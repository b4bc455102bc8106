/- use, of a name that is a builtin's. -/
import Derived.Test.YtihmdcdifakepaaYD
namespace Go.Proofs.Ytihmdcdifakepaa.Sc
open Go.RowKit
set_option linter.unusedVariables false

theorem grown_undrew {w w' : World} {row : Option Nat} (h : w.drew.grownBy w' row) : w.grownBy w' row := ⟨h.1, h.2, h.3, h.4, h.5⟩

def Used (rb b cap : Nat) (sc : Value) (pl : Int) (w w' : World) : Prop :=
  (∃ u c, Rsv w' rb sc (.slice (some ⟨u, 0, none⟩) 1 c) (.slice (some ⟨b, 0, none⟩) 1 cap) ∧ w'.cell? ⟨u, 0, none⟩ = some (.int .i64 pl) ∧ w'.cell? ⟨u, 1, none⟩ = some (.int .i64 (-1)) ∧ u ≠ rb) ∧ Chg (fun k => k = rb) w w'

theorem Chg.mono {S S' : Nat → Prop} {w w' : World} (h : Chg S w w') (hs : ∀ k, S k → S' k) : Chg S' w w' := ⟨h.os, h.tape, h.output, h.size, fun k hk hn => h.block k hk (fun q => hn (hs k q))⟩
theorem Used.drew {rb b cap : Nat} {sc : Value} {pl : Int} {w w' : World} (h : Used rb b cap sc pl w w') : Used rb b cap sc pl w w'.drew := by
  obtain ⟨⟨u, c, h1, h2, h3, h4⟩, h5⟩ := h
  exact ⟨⟨u, c, h1.drew, h2, h3, h4⟩, chg_drew h5⟩

set_option maxRecDepth 100000 in
set_option maxHeartbeats 2000000 in
theorem use_one (rb b cap : Nat) (sc : Value) (kind pl num : Int) (name op : ByteArray) (kv : Value) (w : World) (hr : Rsv w rb sc (.slice none 0 0) (.slice (some ⟨b, 0, none⟩) 1 cap)) (hc : w.cell? ⟨b, 0, none⟩ = some (.map none)) (hs : name.size ≤ maxLen) (hi : 0 ≤ idxI name) :
    Calls Try.prog 76 #[.pointer (some ⟨rb, 0, none⟩), .agg #[.int .i64 kind, .int .i64 pl, .string name, .int .u64 num, .string op, kv]] w fun e w' => e = .returned (.int .i64 (-1)) ∧ Used rb b cap sc pl w w' := by
  obtain ⟨wb, hwb⟩ : ∃ wb, wb = w.alloc (.cells #[.int .i64 kind, .int .i64 pl, .string name, .int .u64 num, .string op, kv] 25) := ⟨_, rfl⟩
  have hbl : Below w.heap.size w wb := by rw [hwb]; exact (Below.refl _ _).alloc (Nat.le_refl _) _
  have hrb : Rsv wb rb sc (.slice none 0 0) (.slice (some ⟨b, 0, none⟩) 1 cap) := hr.kept (S := fun _ => False) (Chg.of_below hbl) id
  have hcb := cells_below hbl _ _ hc
  have b1 : wb.cell? ⟨w.heap.size, 1, none⟩ = some (.int .i64 pl) := by rw [hwb]; exact box_new w _ _ 1 _ rfl
  have b2 : wb.cell? ⟨w.heap.size, 2, none⟩ = some (.string name) := by rw [hwb]; exact box_new w _ _ 2 _ rfl
  have hf := find_one rb b 0 cap name wb hrb.c3 hcb hs
  rw [decide_eq_true hi] at hf
  have HR : Hid (Rsv wb rb sc (.slice none 0 0) (.slice (some ⟨b, 0, none⟩) 1 cap)) := hrb
  have HB : Hid (Below w.heap.size w wb ∧ rb < w.heap.size) := ⟨hbl, hr.lt⟩
  have H1 : Hid (wb.cell? ⟨w.heap.size, 1, none⟩ = some (.int .i64 pl)) := b1
  clear hr hrb hc hcb hbl hi hs
  go_enter Try.func76, Try.ntmps76
  go_upto_region 1 with fail
  rw [← hwb]
  clear hwb
  go_wp2_with (go_at_call 85; refine hf.mono ?_; rintro e w1 ⟨rfl, hb1⟩; clear hf; have HR1 : Hid (Rsv w1 rb sc (.slice none 0 0) (.slice (some ⟨b, 0, none⟩) 1 cap)) := HR.out.kept (S := fun _ => False) (Chg.of_below hb1) id; have b1' := cells_below hb1 _ _ H1.out; have HC1 : Hid (Chg (fun _ => False) w w1) := (Chg.of_below HB.out.1).trans (Chg.of_below (S := fun _ => False) hb1) (fun _ _ q => q); clear b1 b2 hb1)
  have c2 := HR1.out.c2
  have f2 := HR1.out.f2
  have hne : ¬ rb = w1.heap.size := Nat.ne_of_lt HR1.out.lt
  obtain ⟨i0, hi, hz0, hz1, hz2⟩ := info_parts info47
  have HNW : Hid (∀ j u, ([.int .i64 pl, .int .i64 (-1)] : List Value)[j]? = some u → (w1.alloc (.cells #[.int .i64 pl, .int .i64 (-1)] 47)).cell? ((⟨w1.heap.size, 0, none⟩ : Addr).add j) = some u) := World.news_of_block (cs := #[.int .i64 pl, .int .i64 (-1)]) (t := 47) (fr := (0, 0)) (blk_new _ _)
  have HA : Hid (Chg (fun _ => False) w1 (w1.alloc (.cells #[.int .i64 pl, .int .i64 (-1)] 47))) := Chg.of_below ((Below.refl w1.heap.size w1).alloc (Nat.le_refl _) _)
  have c2' := HA.out.cell c2 id
  go_region_law ((refine step_append_lies _ (by rfl) _ _ 35 (by rfl) w1.heap.size 47 i0 (.agg #[.int .i64 0, .int .i64 0]) 2 16 Try.underlying35 hi hz0 hz1 hz2 rfl (by decide) (.slice none 0 0) 0 [] (by rfl) (World.ownsRow_nil _ _ _ _) ⟨w1.heap.size, 0, none⟩ 1 1 [.int .i64 pl, .int .i64 (-1)] (by rfl) rfl (by exact HNW.out) (by simp [Value.oneCell']) (by decide) (by decide) (by decide) (by simp) _ (by rfl) ?_; intro g cap5 w5 ho5 hg5 hl5 hlt5; have HO : Hid _ := own_cell ho5; have HG : Hid (Chg (fun _ => False) w1 w5) := (HA.out.trans (Chg.of_grown (S := fun _ => False) (grown_undrew hg5) (fun k e => by simp [Value.ownBlock] at e)) (fun _ _ q => q)); have HR5 : Hid (Rsv w5 rb sc (.slice none 0 0) (.slice (some ⟨b, 0, none⟩) 1 cap)) := HR1.out.kept HG.out id; have c5 := HR5.out.c2; have f5 := HR5.out.f2))
  all_goals
    obtain ⟨w6, hw6⟩ : ∃ w6, w6 = w5.setCell ⟨rb, 2, none⟩ (.slice (some ⟨g, 0, none⟩) 1 cap5) := ⟨_, rfl⟩
    have hgr : g ≠ rb := by
      have h1 := HO.out.2.2.2
      have h2 := HR1.out.lt
      omega
    have HU : Hid (Used rb b cap sc pl w w6) := by
      rw [hw6]
      refine ⟨⟨g, cap5, HR5.out.set2 _, ?_, ?_, hgr⟩, ?_⟩
      · rw [World.cell?_setCell_other _ _ _ _ (by intro e; cases e)]
        exact HO.out.1 0 _ rfl
      · rw [World.cell?_setCell_other _ _ _ _ (by intro e; cases e)]
        exact HO.out.1 1 _ rfl
      · refine ((HC1.out.trans HG.out (fun _ _ q => q)).mono fun _ q => q.elim).trans (Chg.set (S := fun k => k = rb) _ _ _ rfl) (fun _ _ q => q)
    rw [← hw6]
    clear hw6 HO HG HR5 c5 f5 hgr c2 c2' f2 hne HNW HA HR1 HR H1 HC1 hi hz0 hz1 hz2 b1' ho5 hg5 hl5 hlt5
    go_wp2_with fail
    go_region
    go_wp2
    go_ret
    exact ⟨rfl, HU.out.drew⟩
end Go.Proofs.Ytihmdcdifakepaa.Sc
