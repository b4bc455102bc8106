/- The law's same, of lists that are the same. -/
import Derived.Test.YtaikkmehmiiffaaGreatDoorZ19
namespace Go.Proofs.YtaikkmehmiiffaaGreatDoor.Lx
open Go.RowKit
set_option linter.unusedVariables false

theorem same_nil (w : World) : Calls Tryz.prog 12 #[.slice none 0 0, .slice none 0 0] w fun e w' => e = .returned (.bool true) ∧ Below w.heap.size w w' := by
  go_enter Tryz.func12, Tryz.ntmps12
  go_wp2_with fail
  go_loopw [5] (fun i wr => i = .int .i64 0 ∧ wr = w) (fun i wr => 0)
  case atStart => exact ⟨rfl, rfl⟩
  case round =>
    obtain ⟨rfl, rfl⟩ := hrel
    go_wp2_with fail
    go_ret
    exact ⟨rfl, Below.refl _ _⟩

theorem same_none (v1 v2 : Value) (w : World) (h1 : v1 = .slice none 0 0 ∨ ∃ g cap, v1 = .slice (some ⟨g, 0, none⟩) 0 cap) (h2 : v2 = .slice none 0 0 ∨ ∃ g cap, v2 = .slice (some ⟨g, 0, none⟩) 0 cap) :
    Calls Tryz.prog 12 #[v1, v2] w fun e w' => e = .returned (.bool true) ∧ Below w.heap.size w w' := by
  rcases h1 with rfl | ⟨g1, c1, rfl⟩ <;> rcases h2 with rfl | ⟨g2, c2, rfl⟩
  all_goals
    go_enter Tryz.func12, Tryz.ntmps12
    go_wp2_with fail
    go_loopw [5] (fun i wr => i = .int .i64 0 ∧ wr = w) (fun i wr => 0)
    case atStart => exact ⟨rfl, rfl⟩
    case round =>
      obtain ⟨rfl, rfl⟩ := hrel
      go_wp2_with fail
      go_ret
      exact ⟨rfl, Below.refl _ _⟩

theorem heap_drewN (w : World) (m : Nat) : (w.drewN m).heap = w.heap := by
  induction m with
  | zero => rfl
  | succ m ih => exact ih

theorem cell_heap {w wr : World} (h : wr.heap = w.heap) (p : Addr) : wr.cell? p = w.cell? p := by
  unfold World.cell?
  rw [h]

set_option maxHeartbeats 4000000 in
set_option maxRecDepth 100000 in
theorem same_cons (ts : List Tok) (n g1 c1 g2 c2 : Nat) (w : World) (hn : ts.length = n) (nb : n ≤ 200000) (hc1 : n ≤ c1) (hc2 : n ≤ c2)
    (h1 : ∀ i t, ts[i]? = some t → ∀ j u, (tokC t)[j]? = some u → w.cell? ⟨g1, i * 4 + j, none⟩ = some u)
    (h2 : ∀ i t, ts[i]? = some t → ∀ j u, (tokC t)[j]? = some u → w.cell? ⟨g2, i * 4 + j, none⟩ = some u) :
    Calls Tryz.prog 12 #[.slice (some ⟨g1, 0, none⟩) n c1, .slice (some ⟨g2, 0, none⟩) n c2] w fun e w' => e = .returned (.bool true) ∧ Below w.heap.size w w' := by
  have H1 : Hid (∀ i t, ts[i]? = some t → ∀ j u, (tokC t)[j]? = some u → w.cell? ⟨g1, i * 4 + j, none⟩ = some u) := h1
  have H2 : Hid (∀ i t, ts[i]? = some t → ∀ j u, (tokC t)[j]? = some u → w.cell? ⟨g2, i * 4 + j, none⟩ = some u) := h2
  have HN : Hid (ts.length = n) := hn
  clear h1 h2 hn
  go_enter Tryz.func12, Tryz.ntmps12
  go_wp2_with fail
  go_loopw [5] (fun i wr => ∃ (k : Nat), k ≤ n ∧ i = .int .i64 k ∧ Hid (wr.heap = w.heap ∧ Below w.heap.size w wr)) (fun i wr => n - (intOf i).toNat)
  case atStart => exact ⟨0, Nat.zero_le _, rfl, rfl, Below.refl _ _⟩
  case round =>
    obtain ⟨k, hk, rfl, hw⟩ := hrel
    have he := cell_heap hw.out.1
    rcases Nat.lt_or_ge k n with c | c
    · obtain ⟨t, ht⟩ : ∃ t, ts[k]? = some t := ⟨_, List.getElem?_eq_getElem (by have := HN.out; omega)⟩
      have a0 : wr.cell? ⟨g1, k * 4, none⟩ = some (.int .i64 (t.kind : Int)) := (he _).trans (H1.out k _ ht 0 _ rfl)
      have a1 : wr.cell? ⟨g1, k * 4 + 1, none⟩ = some (.int .i64 (t.pl : Int)) := (he _).trans (H1.out k _ ht 1 _ rfl)
      have a2 : wr.cell? ⟨g1, k * 4 + 2, none⟩ = some (.string (bs t.text)) := (he _).trans (H1.out k _ ht 2 _ rfl)
      have a3 : wr.cell? ⟨g1, k * 4 + 3, none⟩ = some (.int .u64 (t.num : Int)) := (he _).trans (H1.out k _ ht 3 _ rfl)
      have b0 : wr.cell? ⟨g2, k * 4, none⟩ = some (.int .i64 (t.kind : Int)) := (he _).trans (H2.out k _ ht 0 _ rfl)
      have b1 : wr.cell? ⟨g2, k * 4 + 1, none⟩ = some (.int .i64 (t.pl : Int)) := (he _).trans (H2.out k _ ht 1 _ rfl)
      have b2 : wr.cell? ⟨g2, k * 4 + 2, none⟩ = some (.string (bs t.text)) := (he _).trans (H2.out k _ ht 2 _ rfl)
      have b3 : wr.cell? ⟨g2, k * 4 + 3, none⟩ = some (.int .u64 (t.num : Int)) := (he _).trans (H2.out k _ ht 3 _ rfl)
      have ki : (k : Int) < (n : Int) := by omega
      clear ht he
      generalize t.kind = kd at *
      generalize t.pl = pl at *
      generalize bs t.text = TX at *
      generalize t.num = nu at *
      go_wp2_with fail
      go_quiet (fail)
      go_wp2_with fail
      refine ⟨⟨k + 1, by omega, by go_num, ?_⟩, ?_⟩
      · exact ⟨(heap_drewN _ _).trans hw.out.1, below_drewN hw.out.2 _⟩
      · simp [intOf]
        omega
    · have ke : k = n := by omega
      subst ke
      clear he
      go_wp2_with fail
      go_ret
      exact ⟨rfl, hw.out.2⟩

theorem same_any (ts : List Tok) (B1 B2 : Nat) (v1 v2 : Value) (w : World) (nb : ts.length ≤ 200000) (h1 : TokSl B1 w v1 ts) (h2 : TokSl B2 w v2 ts) :
    Calls Tryz.prog 12 #[v1, v2] w fun e w' => e = .returned (.bool true) ∧ Below w.heap.size w w' := by
  by_cases z : ts = []
  · subst z
    have key : ∀ {B v}, TokSl B w v [] → v = .slice none 0 0 ∨ ∃ g cap, v = .slice (some ⟨g, 0, none⟩) 0 cap := by
      intro B v h
      rcases h.2 with ⟨rfl, _⟩ | ⟨g, cap, cur, rfl, _⟩
      · exact Or.inl rfl
      · exact Or.inr ⟨g, cap, rfl⟩
    rcases key h1 with rfl | ⟨g1, c1, rfl⟩ <;> rcases key h2 with rfl | ⟨g2, c2, rfl⟩
    · exact same_nil w
    · exact same_none _ _ w (Or.inl rfl) (Or.inr ⟨g2, c2, rfl⟩)
    · exact same_none _ _ w (Or.inr ⟨g1, c1, rfl⟩) (Or.inl rfl)
    · exact same_none _ _ w (Or.inr ⟨g1, c1, rfl⟩) (Or.inr ⟨g2, c2, rfl⟩)
  · obtain ⟨g1, c1, rfl, l1, _, _, _, k1⟩ := TokSl.cells h1 z
    obtain ⟨g2, c2, rfl, l2, _, _, _, k2⟩ := TokSl.cells h2 z
    exact same_cons ts ts.length g1 c1 g2 c2 w rfl nb l1 l2 k1 k2

end Go.Proofs.YtaikkmehmiiffaaGreatDoor.Lx
