/- LexStrings: the law's walk. -/
import Derived.Test.YtaikkmehmiiffaaGreatDoorZ20
namespace Go.Proofs.YtaikkmehmiiffaaGreatDoor.Lx
open Go.RowKit
set_option linter.unusedVariables false

theorem str_long (s : ByteArray) (d : Bool) (v : Value) (w : World) (h : 5000 < s.size) (al : ∀ w1, Below w.heap.size w w1 → Calls Tryz.prog 9 #[] w1 fun e w' => e = .returned (.bool true) ∧ Below w1.heap.size w1 w') :
    Calls Tryz.prog 7 #[.string s, .bool d, v] w fun e w' => e = .returned (.bool true) ∧ Below w.heap.size w w' := by
  go_enter Tryz.func7, Tryz.ntmps7
  go_wp2_with (go_at_call 9; refine (al _ (Below.refl _ _)).mono ?_; rintro e w1 ⟨rfl, hb⟩)
  go_ret
  exact ⟨rfl, hb⟩

set_option maxRecDepth 100000 in
theorem str_big (s t : ByteArray) (d : Bool) (q : Int) (v : Value) (w : World) (h : s.size ≤ 5000) (h2 : 4096 < s.size) (hq : q = if d = true then 34 else 39)
    (c1 : Calls Tryz.prog 13 #[.string s, .int .u8 q, v] w fun e w' => e = .returned (.string t) ∧ Below w.heap.size w w')
    (c2 : ∀ w1, Below w.heap.size w w1 → Calls Tryz.prog 10 #[.string t] w1 (ScanPost w1 ([], 0, 56)))
    (al : ∀ w1, Below w.heap.size w w1 → Calls Tryz.prog 9 #[] w1 fun e w' => e = .returned (.bool true) ∧ Below w1.heap.size w1 w') :
    Calls Tryz.prog 7 #[.string s, .bool d, v] w fun e w' => e = .returned (.bool true) ∧ Below w.heap.size w w' := by
  cases d <;> (simp at hq; subst hq) <;>
  · go_enter Tryz.func7, Tryz.ntmps7
    go_wp2_with fail
    refine c1.mono ?_
    rintro e w1 ⟨rfl, b1⟩
    go_wp2_with fail
    refine (c2 _ b1).mono ?_
    rintro e w2 ⟨v2, rfl, ho, b2⟩
    have B2 := b1.trans (b2.mono b1.size)
    clear ho
    go_wp2_with fail
    refine (al _ B2).mono ?_
    rintro e w3 ⟨rfl, b3⟩
    have B3 := B2.trans (b3.mono B2.size)
    go_wp2_with fail
    go_ret
    exact ⟨rfl, B3⟩

set_option maxRecDepth 100000 in
theorem str_ok (s t : ByteArray) (d : Bool) (q : Int) (v : Value) (l : List UInt8) (n : Nat) (w : World) (hs : s = bs l) (h : s.size ≤ 5000) (h2 : s.size ≤ 4096) (hq : q = if d = true then 34 else 39)
    (c1 : Calls Tryz.prog 13 #[.string s, .int .u8 q, v] w fun e w' => e = .returned (.string t) ∧ Below w.heap.size w w')
    (c2 : ∀ w1, Below w.heap.size w w1 → Calls Tryz.prog 10 #[.string t] w1 (ScanPost w1 ([⟨4, 0, l, 0⟩, ⟨0, n, [], 0⟩], 0, 0)))
    (al : ∀ w1, Below w.heap.size w w1 → Calls Tryz.prog 9 #[] w1 fun e w' => e = .returned (.bool true) ∧ Below w1.heap.size w1 w') :
    Calls Tryz.prog 7 #[.string s, .bool d, v] w fun e w' => e = .returned (.bool true) ∧ Below w.heap.size w w' := by
  have HS : Hid (s = bs l) := hs
  clear hs
  cases d <;> (simp at hq; subst hq) <;>
  · go_enter Tryz.func7, Tryz.ntmps7
    go_wp2_with fail
    refine c1.mono ?_
    rintro e w1 ⟨rfl, b1⟩
    go_wp2_with fail
    refine (c2 _ b1).mono ?_
    rintro e w2 ⟨v2, rfl, ho, b2⟩
    obtain ⟨g, cap, rfl, hcap, hmax, hBg, hgw, hcell⟩ := TokSl.cells ho (by simp)
    have B2 := b1.trans (b2.mono b1.size)
    clear ho b1 b2 c2
    go_wp2_with fail
    refine (al _ B2).mono ?_
    rintro e w3 ⟨rfl, b3⟩
    have B3 := B2.trans (b3.mono B2.size)
    have kc : ∀ j, w3.cell? ⟨g, j, none⟩ = w2.cell? ⟨g, j, none⟩ := fun j => b3.cell (p := ⟨g, j, none⟩) hgw
    have a10 : w3.cell? ⟨g, 0, none⟩ = some (.int .i64 4) := by rw [kc]; exact hcell 0 _ rfl 0 _ rfl
    have a11 : w3.cell? ⟨g, 1, none⟩ = some (.int .i64 0) := by rw [kc]; exact hcell 0 _ rfl 1 _ rfl
    have a12 : w3.cell? ⟨g, 2, none⟩ = some (.string s) := by rw [kc, HS.out]; exact hcell 0 _ rfl 2 _ rfl
    have a13 : w3.cell? ⟨g, 3, none⟩ = some (.int .u64 0) := by rw [kc]; exact hcell 0 _ rfl 3 _ rfl
    clear hcell kc b3 B2 al c1 hBg hgw hcap hmax
    go_wp2_with fail
    go_ret
    refine ⟨?_, B3⟩
    simp

theorem strings_walk (l : List UInt8) (d : Bool) (a2 : Option Addr) (len cap : Nat) (hw : List Bool) (w : World) (hG : Glob w) (hb2 : BoolsAt w a2 len hw) (hlen : len ≤ maxLen) :
    Calls Tryz.prog 7 #[.string (bs l), .bool d, .slice a2 len cap] w fun e w' => e = .returned (.bool true) ∧ Below w.heap.size w w' := by
  have al := fun w1 (h : Below w.heap.size w w1) => alive_any w1 (hG.below h)
  by_cases h : 5000 < l.length
  · exact str_long (bs l) d _ w h al
  · obtain ⟨q, hq, hqv⟩ : ∃ q : UInt8, (q = 39 ∨ q = 34) ∧ (q.toNat : Int) = if d = true then 34 else 39 := by
      cases d
      · exact ⟨39, Or.inl rfl, rfl⟩
      · exact ⟨34, Or.inr rfl, rfl⟩
    have c1 := quoted_walk q l a2 len cap hw w (by omega) hb2 hlen
    have c2 := fun w1 (h : Below w.heap.size w w1) => scan_any (q :: (encs q l hw ++ [q])) w1 (hG.below h)
    unfold scI at c2
    rw [strings_plain litN q hq l hw (by omega)] at c2
    by_cases h2 : 4096 < l.length
    · rw [if_pos h2] at c2
      exact str_big (bs l) _ d _ _ w (by rw [bs_size]; omega) h2 hqv c1 c2 al
    · rw [if_neg h2] at c2
      exact str_ok (bs l) _ d _ _ l _ w rfl (by rw [bs_size]; omega) (by rw [bs_size]; omega) hqv c1 c2 al

end Go.Proofs.YtaikkmehmiiffaaGreatDoor.Lx
