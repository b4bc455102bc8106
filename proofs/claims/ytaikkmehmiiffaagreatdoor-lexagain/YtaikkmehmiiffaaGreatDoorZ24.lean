/- LexParts: the law's walk, but where both texts have tokens. -/
import Derived.Test.YtaikkmehmiiffaaGreatDoorZ23
namespace Go.Proofs.YtaikkmehmiiffaaGreatDoor.Lx
open Go.RowKit
set_option linter.unusedVariables false

abbrev AliveC (w : World) : Prop := ∀ w1, Below w.heap.size w w1 → Calls Tryz.prog 9 #[] w1 fun e w' => e = .returned (.bool true) ∧ Below w1.heap.size w1 w'

theorem parts_long (a b : ByteArray) (w : World) (al : AliveC w) (hz : a.size ≤ maxLen) (hz2 : b.size ≤ maxLen) (h : 65536 < a.size ∨ (a.size ≤ 65536 ∧ 65536 ≤ b.size + a.size)) :
    Calls Tryz.prog 6 #[.string a, .string b] w fun e w' => e = .returned (.bool true) ∧ Below w.heap.size w w' := by
  unfold maxLen at *
  rcases h with h | ⟨h, h2⟩
  · go_enter Tryz.func6, Tryz.ntmps6
    go_wp2_with (go_at_call 9; refine (al _ (Below.refl _ _)).mono ?_; rintro e w1 ⟨rfl, hb⟩)
    go_ret
    exact ⟨rfl, hb⟩
  · go_enter Tryz.func6, Tryz.ntmps6
    go_wp2_with (go_at_call 9; refine (al _ (Below.refl _ _)).mono ?_; rintro e w1 ⟨rfl, hb⟩)
    go_ret
    exact ⟨rfl, hb⟩

set_option maxHeartbeats 4000000 in
set_option maxRecDepth 100000 in
theorem parts_err (a b c : ByteArray) (X Y Z : List Tok × Nat × Nat) (b1 b2 b3 b4 b5 b6 b7 b8 b9 : Bool) (w : World) (al : AliveC w) (hs : a.size + b.size + 1 ≤ 65536) (hcat : (a ++ ⟨#[10]⟩) ++ b = c)
    (cX : ∀ w1, Below w.heap.size w w1 → Calls Tryz.prog 10 #[.string a] w1 (ScanPost w1 X)) (cY : ∀ w1, Below w.heap.size w w1 → Calls Tryz.prog 10 #[.string b] w1 (ScanPost w1 Y)) (cZ : ∀ w1, Below w.heap.size w w1 → Calls Tryz.prog 10 #[.string c] w1 (ScanPost w1 Z))
    (h1 : ((X.2.2 : Int) != 0) = b1) (h2 : ((Y.2.2 : Int) != 0) = b2) (h3 : ((Z.2.2 : Int) != 0) = b3) (h4 : ((X.2.2 : Int) == 52) = b4) (h5 : ((X.2.2 : Int) == 0) = b5) (h6 : ((Y.2.2 : Int) == 51) = b6) (h7 : ((X.2.2 : Int) != 51) = b7) (h8 : ((Z.2.2 : Int) == (X.2.2 : Int)) = b8) (h9 : ((Z.2.1 : Int) == (X.2.1 : Int)) = b9)
    (hb : (b1 || b2) = true) (hf1 : (b3 || b4) = true) (hf2 : (b5 || b4 || (b6 && b7) || (b8 && b9)) = true) :
    Calls Tryz.prog 6 #[.string a, .string b] w fun e w' => e = .returned (.bool true) ∧ Below w.heap.size w w' := by
  have HF : Hid ((b1 || b2) = true ∧ (b3 || b4) = true ∧ (b5 || b4 || (b6 && b7) || (b8 && b9)) = true) := ⟨hb, hf1, hf2⟩
  have as1 : (a ++ (⟨#[10]⟩ : ByteArray)).size = a.size + 1 := by rw [ByteArray.size_append]; rfl
  clear hb hf1 hf2
  go_enter Tryz.func6, Tryz.ntmps6
  go_wp2_with fail
  refine (al _ (Below.refl _ _)).mono ?_
  rintro e w1 ⟨rfl, b1'⟩
  go_wp2_with fail
  refine (cX _ b1').mono ?_
  rintro e w2 ⟨v1, rfl, o1, k2⟩
  have B2 := b1'.trans (k2.mono b1'.size)
  clear o1 k2
  go_wp2_with fail
  refine (cY _ B2).mono ?_
  rintro e w3 ⟨v2, rfl, o2, k3⟩
  have B3 := B2.trans (k3.mono B2.size)
  clear o2 k3
  go_wp2_with fail
  refine (cZ _ B3).mono ?_
  rintro e w4 ⟨v3, rfl, o3, k4⟩
  have B4 := B3.trans (k4.mono B3.size)
  clear o3 k4 B3 B2 b1' cX cY cZ
  generalize (X.2.2 : Int) = xe at *
  generalize (X.2.1 : Int) = xp at *
  generalize (Y.2.2 : Int) = ye at *
  generalize (Y.2.1 : Int) = yp at *
  generalize (Z.2.2 : Int) = ze at *
  generalize (Z.2.1 : Int) = zp at *
  have al4 := al _ B4
  clear al
  cases b1
  · have b2t : b2 = true := by simpa using HF.out.1
    subst b2t
    go_wp2_with fail
    refine al4.mono ?_
    rintro e w5 ⟨rfl, k5⟩
    have B5 := B4.trans (k5.mono B4.size)
    clear k5
    go_wp2_with fail
    all_goals (go_ret; refine ⟨?_, B5⟩; have hf := HF.out; simp_all)
  · go_wp2_with fail
    refine al4.mono ?_
    rintro e w5 ⟨rfl, k5⟩
    have B5 := B4.trans (k5.mono B4.size)
    clear k5
    go_wp2_with fail
    all_goals (go_ret; refine ⟨?_, B5⟩; have hf := HF.out; simp_all)

end Go.Proofs.YtaikkmehmiiffaaGreatDoor.Lx
