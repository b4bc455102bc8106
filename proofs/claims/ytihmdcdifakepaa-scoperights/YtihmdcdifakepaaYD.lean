/- The resolver in memory; open, shut. -/
import Derived.Test.YtihmdcdifakepaaYC
import Derived.Deep.AppendLies
import Derived.Deep.RegionHeldLaw
namespace Go.Proofs.Ytihmdcdifakepaa.Sc
open Go.RowKit
set_option linter.unusedVariables false

/-- the resolver at a block: no variables, in the program itself -/
structure Rsv (w : World) (rb : Nat) (sc us bl : Value) : Prop where
  c0 : w.cell? ⟨rb, 0, none⟩ = some sc
  c1 : w.cell? ⟨rb, 1, none⟩ = some (.slice none 0 0)
  c2 : w.cell? ⟨rb, 2, none⟩ = some us
  c3 : w.cell? ⟨rb, 3, none⟩ = some bl
  f0 : w.frozen? ⟨rb, 0, none⟩ = false
  f2 : w.frozen? ⟨rb, 2, none⟩ = false
  f3 : w.frozen? ⟨rb, 3, none⟩ = false

theorem frozen_chg' {S : Nat → Prop} {w w' : World} (h : Chg S w w') {a : Addr} {u : Value} (hu : w.cell? a = some u) (hn : ¬ S a.block) : w'.frozen? a = w.frozen? a :=
  World.frozen?_of_block (w := w) (h.block a.block (World.block_lt_of_cell? w _ hu) hn)

theorem Rsv.kept {w w' : World} {rb : Nat} {sc us bl : Value} {S : Nat → Prop} (h : Rsv w rb sc us bl) (hc : Chg S w w') (hn : ¬ S rb) : Rsv w' rb sc us bl :=
  ⟨hc.cell h.c0 hn, hc.cell h.c1 hn, hc.cell h.c2 hn, hc.cell h.c3 hn, (frozen_chg' hc h.c0 hn).trans h.f0, (frozen_chg' hc h.c2 hn).trans h.f2, (frozen_chg' hc h.c3 hn).trans h.f3⟩

theorem Rsv.lt {w : World} {rb : Nat} {sc us bl : Value} (h : Rsv w rb sc us bl) : rb < w.heap.size := World.block_lt_of_cell? w _ h.c0

theorem Rsv.set0 {w : World} {rb : Nat} {sc us bl : Value} (h : Rsv w rb sc us bl) (v : Value) : Rsv (w.setCell ⟨rb, 0, none⟩ v) rb v us bl :=
  ⟨World.cell?_setCell_same _ _ _ h.c0, by rw [World.cell?_setCell_other _ _ _ _ (by simp)]; exact h.c1, by rw [World.cell?_setCell_other _ _ _ _ (by simp)]; exact h.c2, by rw [World.cell?_setCell_other _ _ _ _ (by simp)]; exact h.c3,
    by rw [World.frozen?_setCell]; exact h.f0, by rw [World.frozen?_setCell]; exact h.f2, by rw [World.frozen?_setCell]; exact h.f3⟩
theorem Rsv.set2 {w : World} {rb : Nat} {sc us bl : Value} (h : Rsv w rb sc us bl) (v : Value) : Rsv (w.setCell ⟨rb, 2, none⟩ v) rb sc v bl :=
  ⟨by rw [World.cell?_setCell_other _ _ _ _ (by simp)]; exact h.c0, by rw [World.cell?_setCell_other _ _ _ _ (by simp)]; exact h.c1, World.cell?_setCell_same _ _ _ h.c2, by rw [World.cell?_setCell_other _ _ _ _ (by simp)]; exact h.c3,
    by rw [World.frozen?_setCell]; exact h.f0, by rw [World.frozen?_setCell]; exact h.f2, by rw [World.frozen?_setCell]; exact h.f3⟩
theorem Rsv.set3 {w : World} {rb : Nat} {sc us bl : Value} (h : Rsv w rb sc us bl) (v : Value) : Rsv (w.setCell ⟨rb, 3, none⟩ v) rb sc us v :=
  ⟨by rw [World.cell?_setCell_other _ _ _ _ (by simp)]; exact h.c0, by rw [World.cell?_setCell_other _ _ _ _ (by simp)]; exact h.c1, by rw [World.cell?_setCell_other _ _ _ _ (by simp)]; exact h.c2, World.cell?_setCell_same _ _ _ h.c3,
    by rw [World.frozen?_setCell]; exact h.f0, by rw [World.frozen?_setCell]; exact h.f2, by rw [World.frozen?_setCell]; exact h.f3⟩

theorem own_cell {w : World} {base : Nat} {e : TypeId} {size g cap n : Nat} {xs : List Value} (h : w.ownsRow base e size (.slice (some ⟨g, 0, none⟩) n cap) n xs) :
    (∀ j u, xs[j]? = some u → w.cell? ⟨g, j, none⟩ = some u) ∧ n ≤ cap ∧ cap ≤ maxLen ∧ base ≤ g := by
  rcases h.2 with ⟨h0, _⟩ | ⟨g', cap', cur, hv, hb, hg, hn, hc, hs, ht⟩
  · cases h0
  · cases hv
    refine ⟨fun j u hj => ?_, hn, hc, hb⟩
    rw [cell_of_row w g j cur e (0, 0) hg]
    rw [← ht, List.getElem?_take] at hj
    split at hj
    · simpa using hj
    · cases hj

theorem blk_new (w : World) (o : Obj) : (w.alloc o).heap[w.heap.size]? = some o := by
  show (w.heap.push o)[w.heap.size]? = some o
  exact Array.getElem?_push_size

theorem info120 : (Try.prog.info? 120).map (fun i => (i.zero, i.size, i.bytes)) = some (some (.map none), 1, 8) := by kernel_rfl
theorem info47 : (Try.prog.info? 47).map (fun i => (i.zero, i.size, i.bytes)) = some (some (.agg #[.int .i64 0, .int .i64 0]), 2, 16) := by kernel_rfl

theorem chg_drew {S : Nat → Prop} {w w' : World} (h : Chg S w w') : Chg S w w'.drew := ⟨h.os, h.tape, h.output, h.size, h.block⟩
theorem Rsv.drew {w : World} {rb : Nat} {sc us bl : Value} (h : Rsv w rb sc us bl) : Rsv w.drew rb sc us bl := ⟨h.c0, h.c1, h.c2, h.c3, h.f0, h.f2, h.f3⟩

set_option maxRecDepth 100000 in
theorem shut_one (rb b off cap : Nat) (sc us : Value) (w : World) (hr : Rsv w rb sc us (.slice (some ⟨b, off, none⟩) 1 cap)) (hcap : 1 ≤ cap ∧ cap ≤ maxLen) :
    Calls Try.prog 53 #[.pointer (some ⟨rb, 0, none⟩)] w fun e w' => e = .returned (.tuple #[]) ∧ (∃ bl, Rsv w' rb sc us bl) ∧ Chg (fun k => k = rb) w w' := by
  have c3 := hr.c3
  have f3 := hr.f3
  have HR : Hid (Rsv w rb sc us (.slice (some ⟨b, off, none⟩) 1 cap)) := hr
  clear hr
  go_enter Try.func53, Try.ntmps53
  go_wp2_with fail
  go_region
  go_end0
  refine ⟨rfl, ⟨_, (HR.out.set3 _).drew⟩, chg_drew (Chg.set (S := fun k => k = rb) _ _ _ rfl)⟩
set_option maxRecDepth 100000 in
theorem open_one (rb : Nat) (sc us : Value) (w : World) (hr : Rsv w rb sc us (.slice none 0 0)) :
    Calls Try.prog 51 #[.pointer (some ⟨rb, 0, none⟩)] w fun e w' => e = .returned (.tuple #[]) ∧ (∃ b cap, Rsv w' rb sc us (.slice (some ⟨b, 0, none⟩) 1 cap) ∧ w'.cell? ⟨b, 0, none⟩ = some (.map none) ∧ b ≠ rb ∧ 1 ≤ cap ∧ cap ≤ maxLen ∧ w.heap.size ≤ b) ∧ Chg (fun k => k = rb) w w' := by
  have c3 := hr.c3
  have f3 := hr.f3
  have hlt := hr.lt
  have HR : Hid (Rsv w rb sc us (.slice none 0 0)) := hr
  obtain ⟨i0, hi, hz0, hz1, hz2⟩ := info_parts info120
  have nw : ∀ j u, ([.map none] : List Value)[j]? = some u → (w.alloc (.cells #[.map none] 120)).cell? ((⟨w.heap.size, 0, none⟩ : Addr).add j) = some u := World.news_of_block (cs := #[.map none]) (t := 120) (fr := (0, 0)) (blk_new _ _)
  clear hr
  go_enter Try.func51, Try.ntmps51
  go_wp2_with (at_builtin; refine wpList_append_lies _ rfl _ _ 67 rfl w.heap.size 120 i0 (.map none) 1 8 Try.underlying67 hi hz0 hz1 hz2 rfl (by decide) (.slice none 0 0) 0 [] rfl (World.ownsRow_nil _ _ _ _) ⟨w.heap.size, 0, none⟩ 1 1 [.map none] rfl rfl nw (by simp [Value.oneCell']) (by decide) (by decide) (by decide) (by simp) _ rfl ?_; intro g cap w1 hown hgrow hat hlt1; have HB : Hid (Chg (fun k => k = rb) w w1 ∧ Chg (fun _ => False) w w1) := (let h0 : Chg (fun _ => False) w w1 := (Chg.of_below ((Below.refl w.heap.size w).alloc (Nat.le_refl _) _)).trans (Chg.of_grown (S := fun _ => False) hgrow (fun k e => by simp [Value.ownBlock] at e)) (fun _ _ q => q); ⟨⟨h0.os, h0.tape, h0.output, h0.size, fun k hk _ => h0.block k hk id⟩, h0⟩); have HR1 : Hid (Rsv w1 rb sc us (.slice none 0 0)) := HR.out.kept HB.out.2 id; have c3' := HR1.out.c3; have f3' := HR1.out.f3; have HO : Hid _ := own_cell hown; clear hgrow hown hat hlt1)
  go_end0
  refine ⟨rfl, ⟨g, cap, HR1.out.set3 _, ?_, ?_, HO.out.2.1, HO.out.2.2.1, HO.out.2.2.2⟩, HB.out.1.trans (Chg.set (S := fun k => k = rb) _ _ _ rfl) (fun _ _ q => q)⟩
  · have h5 := HO.out.2.2.2
    rw [World.cell?_setCell_other _ _ _ _ (by intro e; cases e)]
    exact HO.out.1 0 _ rfl
  · have h5 := HO.out.2.2.2
    omega
end Go.Proofs.Ytihmdcdifakepaa.Sc
