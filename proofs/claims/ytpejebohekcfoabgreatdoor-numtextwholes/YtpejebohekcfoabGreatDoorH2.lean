/- The walks of layout: without an exponent. -/
import Derived.Test.YtpejebohekcfoabGreatDoorH1
import Derived.Laws.EntriesVeiled
namespace Go.Proofs.YtpejebohekcfoabGreatDoor
open Go.RowKit
set_option linter.unusedVariables false

theorem lt_start (w : World) : Hid (Lt w ((w.alloc (.cells #[.pointer none, .slice none 0 0] 65)).alloc (.cells #[.func (Fn.func 39) #[] #[.pointer (some ⟨w.heap.size, 0, none⟩)]] 70)) w.heap.size w.heap.size (w.heap.size + 1) []) := by
  have h1 := heap_alloc2_new w (.cells #[.pointer none, .slice none 0 0] 65) (.cells #[.func (Fn.func 39) #[] #[.pointer (some ⟨w.heap.size, 0, none⟩)]] 70)
  have h2 := heap_alloc2_old w (.cells #[.pointer none, .slice none 0 0] 65) (.cells #[.func (Fn.func 39) #[] #[.pointer (some ⟨w.heap.size, 0, none⟩)]] 70)
  exact ⟨Or.inl ⟨Nat.le_refl _, .slice none 0 0, h2, ⟨rfl, Or.inl ⟨rfl, rfl⟩⟩, by simp [Value.ownBlock]⟩, h1, ((Below.refl _ _).alloc (Nat.le_refl _) _).alloc (by simp) _, by simp; omega⟩

theorem lt_cell {w0 wr : World} {B bt bp : Nat} {l : List UInt8} (h : Hid (Lt w0 wr B bt bp l)) : wr.cell? ⟨bp, 0, none⟩ = some (.func (Fn.func 39) #[] #[.pointer (some ⟨bt, 0, none⟩)]) := cell_of_row wr bp 0 _ 70 (0, 0) h.out.put

set_option maxHeartbeats 2000000 in
theorem layout_neg (ds : List UInt8) (p : Int) (n : Nat) (w : World) (hp : p ≤ 0) (hp1 : -5 ≤ p) (hn : -p = n) (hd : ds.length ≤ 10000)
    (hmf : ∀ (fn : Fn) (first cap : Array Value) (w : World), (Instr.makeFunc fn first cap).run Tryz.prog w = .ok (.func fn first cap) w) :
    Calls Tryz.prog 19 #[.string (bs ds), .int .i64 p] w fun e w' => e = .returned (.string (bs ([48, 46] ++ List.replicate n 48 ++ ds))) ∧ Below w.heap.size w w' := by
  have S0 := lt_start w
  go_enter Tryz.func19, Tryz.ntmps19
  go_wp2_with fail
  refine (lt_put [48, 46] S0.out (by simp)).mono ?_
  rintro e w1 ⟨rfl, H1⟩
  clear S0
  go_wp2_with fail
  refine (lt_noughts n (by omega) (by simp) H1.out).mono ?_
  rintro e w2 ⟨rfl, H2⟩
  have d2 := lt_cell H2
  clear H1
  go_wp2_with fail
  refine (lt_put ds H2.out (by simp; omega)).mono ?_
  rintro e w3 ⟨rfl, H3⟩
  clear H2 d2
  go_wp2_with fail
  refine (lt_str H3.out).mono ?_
  rintro e w4 ⟨rfl, hb4⟩
  go_wp2
  go_ret
  exact ⟨rfl, hb4⟩

end Go.Proofs.YtpejebohekcfoabGreatDoor
