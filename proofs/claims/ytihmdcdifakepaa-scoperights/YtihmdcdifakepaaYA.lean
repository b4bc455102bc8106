/- The names that are there without a declaration. -/
import Derived.Test.YtihmdcdifakepaaXK
namespace Go.Proofs.Ytihmdcdifakepaa.Sc
open Go.RowKit
set_option linter.unusedVariables false

def namesL : List (List UInt8) := [[79, 98, 106, 101, 99, 116], [70, 117, 110, 99, 116, 105, 111, 110], [65, 114, 114, 97, 121], [83, 116, 114, 105, 110, 103], [78, 117, 109, 98, 101, 114], [66, 111, 111, 108, 101, 97, 110], [77, 97, 116, 104], [69, 114, 114, 111, 114], [84, 121, 112, 101, 69, 114, 114, 111, 114], [82, 97, 110, 103, 101, 69, 114, 114, 111, 114], [82, 101, 102, 101, 114, 101, 110, 99, 101, 69, 114, 114, 111, 114], [112, 114, 105, 110, 116], [78, 97, 78], [73, 110, 102, 105, 110, 105, 116, 121]]
def namesB : List ByteArray := namesL.map bs
def idxI (s : ByteArray) : Int := Lib.idxOfS namesB s

set_option maxRecDepth 100000 in
theorem builtins_any (w : World) : Calls Try.prog 11 #[] w fun e w' => e = .returned (.slice (some ⟨w.heap.size, 0, none⟩) 14 14) ∧ StrsAt w' (some ⟨w.heap.size, 0, none⟩) namesB ∧ Below w.heap.size w w' := by
  go_enter Try.func11, Try.ntmps11
  go_wp2_with fail
  go_ret
  exact ⟨rfl, strs_new w namesB, (Below.refl _ _).alloc (Nat.le_refl _) _⟩
set_option maxRecDepth 100000 in
theorem names_any (w : World) : Calls Try.prog 12 #[] w fun e w' => e = .returned (.slice (some ⟨w.heap.size, 0, none⟩) 14 14) ∧ StrsAt w' (some ⟨w.heap.size, 0, none⟩) namesB ∧ Below w.heap.size w w' := by
  go_enter Try.func12, Try.ntmps12
  go_wp2_with fail
  go_ret
  exact ⟨rfl, strs_new w namesB, (Below.refl _ _).alloc (Nat.le_refl _) _⟩

theorem index_any (b : Nat) (s : ByteArray) (w : World) (hz : StrsAt w (some ⟨b, 0, none⟩) namesB) : Calls Try.prog 23 #[.slice (some ⟨b, 0, none⟩) 14 14, .string s] w fun e w' => e = .returned (.int .i64 (idxI s)) ∧ w' = w := by
  obtain ⟨b', off', e1, hc⟩ := hz (by decide)
  cases e1
  have hlen : namesB.length = 14 := rfl
  have := Try.slices_Index_string b 0 14 14 namesB s w (by rw [hlen]; exact Nat.le_refl _) (by omega) (fun j hj => by
    have := hc j _ (List.getElem?_eq_getElem hj)
    rw [this]
    simp [List.getD, List.getElem?_eq_getElem hj])
  rw [show namesB.take 14 = namesB from rfl] at this
  exact this

theorem idxFrom_range (s : ByteArray) : ∀ (zs : List ByteArray) (i : Nat), Lib.idxFromS zs s i = -1 ∨ ((i : Int) ≤ Lib.idxFromS zs s i ∧ Lib.idxFromS zs s i < (i : Int) + zs.length) := by
  intro zs
  induction zs with
  | nil => intro i; left; rfl
  | cons z zs ih =>
    intro i
    by_cases hz : z = s
    · right
      simp [Lib.idxFromS, hz]
      omega
    · rcases ih (i + 1) with h | h
      · left; simp [Lib.idxFromS, hz, h]
      · right
        simp only [Lib.idxFromS, hz, if_false, List.length_cons]
        omega
theorem idx_range (s : ByteArray) : -1 ≤ idxI s ∧ idxI s ≤ 13 := by
  have := idxFrom_range s namesB 0
  have hl : namesB.length = 14 := rfl
  rw [hl] at this
  unfold idxI Lib.idxOfS
  omega

set_option maxRecDepth 100000 in
theorem builtin_any (s : ByteArray) (w : World) : Calls Try.prog 13 #[.string s] w fun e w' => e = .returned (.tuple #[.int .i64 (max (idxI s) 0), .bool (decide (0 ≤ idxI s))]) ∧ Below w.heap.size w w' := by
  have hb := builtins_any w
  have hx := fun b w1 => index_any b s w1
  have HX : Hid (∀ b w1, StrsAt w1 (some ⟨b, 0, none⟩) namesB → Calls Try.prog 23 #[.slice (some ⟨b, 0, none⟩) 14 14, .string s] w1 fun e w' => e = .returned (.int .i64 (idxI s)) ∧ w' = w1) := hx
  have hr := idx_range s
  generalize idxI s = i at *
  clear hx
  by_cases c : 0 ≤ i
  · have e1 : max i 0 = i := by omega
    have e2 : decide (0 ≤ i) = true := by simpa using c
    rw [e1, e2]
    go_enter Try.func13, Try.ntmps13
    go_wp2_with fail
    refine hb.mono ?_
    rintro e w1 ⟨rfl, h1, h2⟩
    have hc := HX.out _ _ h1
    have HB : Hid (Below w.heap.size w w1) := h2
    clear h1 h2 hb
    go_wp2_with fail
    refine hc.mono ?_
    rintro e w2 ⟨rfl, rfl⟩
    clear hc
    go_wp2_with fail
    go_ret2
    exact ⟨rfl, HB.out⟩
  · have e1 : max i 0 = 0 := by omega
    have e2 : decide (0 ≤ i) = false := by simpa using c
    rw [e1, e2]
    go_enter Try.func13, Try.ntmps13
    go_wp2_with fail
    refine hb.mono ?_
    rintro e w1 ⟨rfl, h1, h2⟩
    have hc := HX.out _ _ h1
    have HB : Hid (Below w.heap.size w w1) := h2
    clear h1 h2 hb
    go_wp2_with fail
    refine hc.mono ?_
    rintro e w2 ⟨rfl, rfl⟩
    clear hc
    go_wp2_with fail
    go_ret2
    exact ⟨rfl, HB.out⟩

set_option maxRecDepth 100000 in
theorem refBuiltin_any (s : ByteArray) (w : World) : Calls Try.prog 14 #[.string s] w fun e w' => e = .returned (.tuple #[.int .i64 (max (idxI s) 0), .bool (decide (0 ≤ idxI s))]) ∧ Below w.heap.size w w' := by
  have hb := names_any w
  obtain ⟨X, hX⟩ : ∃ X : Value, X = .tuple #[.int .i64 (max (idxI s) 0), .bool (decide (0 ≤ idxI s))] := ⟨_, rfl⟩
  rw [← hX]
  have HX : Hid (X = .tuple #[.int .i64 (max (idxI s) 0), .bool (decide (0 ≤ idxI s))]) := hX
  clear hX
  have hhit : ∀ k : Nat, k < 14 → (∀ j, j < k → namesB.getD j ByteArray.empty ≠ s) → namesB.getD k ByteArray.empty = s → idxI s = k := by
    intro k hk h1 h2
    have := Lib.idxOfS_hit namesB 14 k s hk (by decide) h2 h1
    rw [show namesB.take 14 = namesB from rfl] at this
    exact this
  have hmiss : (∀ j, j < 14 → namesB.getD j ByteArray.empty ≠ s) → idxI s = -1 := by
    intro h
    have := Lib.idxOfS_miss namesB 14 s h
    rw [show namesB.take 14 = namesB from rfl] at this
    exact this
  have HH : Hid ((∀ k : Nat, k < 14 → (∀ j, j < k → namesB.getD j ByteArray.empty ≠ s) → namesB.getD k ByteArray.empty = s → idxI s = k) ∧ ((∀ j, j < 14 → namesB.getD j ByteArray.empty ≠ s) → idxI s = -1)) := ⟨hhit, hmiss⟩
  clear hhit hmiss
  go_enter Try.func14, Try.ntmps14
  go_wp2_with fail
  refine hb.mono ?_
  rintro e w1 ⟨rfl, h1, h2⟩
  have HS : Hid (StrsAt w1 (some ⟨w.heap.size, 0, none⟩) namesB ∧ Below w.heap.size w w1) := ⟨h1, h2⟩
  clear h1 h2 hb
  go_wp2_with fail
  go_loopw [5] (fun i wr => ∃ k : Nat, (k ≤ 14 ∧ Hid (∀ j, j < k → namesB.getD j ByteArray.empty ≠ s) ∧ wr = w1) ∧ i = .int .i64 k) (fun i wr => 14 - (intOf i).toNat)
  case atStart => exact ⟨0, ⟨Nat.zero_le _, fun j hj => absurd hj (by omega), rfl⟩, rfl⟩
  case round =>
    obtain ⟨k, ⟨ple, HN, rfl⟩, rfl⟩ := hrel
    rcases Nat.lt_or_ge k 14 with c | c
    · obtain ⟨y, hy⟩ : ∃ y, y = namesB.getD k ByteArray.empty := ⟨_, rfl⟩
      have hyk : namesB[k]? = some y := by
        rw [hy, List.getD, List.getElem?_eq_getElem (by rw [show namesB.length = 14 from rfl]; exact c)]
        rfl
      obtain ⟨b', off', e1, hc⟩ := HS.out.1 (by decide)
      cases e1
      have c0 := hc k y hyk
      simp only [Nat.zero_add] at c0
      have HY : Hid (y = namesB.getD k ByteArray.empty) := hy
      clear hy hyk hc
      cases t : (y.toList == s.toList)
      · have HN2 : Hid (∀ j, j < k + 1 → namesB.getD j ByteArray.empty ≠ s) := by
          intro j hj e
          rcases Nat.lt_or_ge j k with q | q
          · exact HN.out j q e
          · obtain rfl : j = k := by omega
            rw [← HY.out] at e
            rw [e] at t
            simp at t
        go_wp2_with fail
        refine ⟨⟨k + 1, ⟨c, HN2, trivial⟩, by go_num⟩, ?_⟩
        simp [intOf]
        omega
      · have HE : Hid (X = .tuple #[.int .i64 k, .bool true]) := by
          have h := HH.out.1 k c HN.out (by rw [← HY.out]; exact bytes_eq y s (by simpa using t))
          show _ = _
          rw [HX.out, h, show max (k : Int) 0 = k by omega, show decide (0 ≤ (k : Int)) = true by simp]
        go_wp2_with fail
        go_ret2
        rw [HE.out]
        exact ⟨rfl, HS.out.2⟩
    · have HE : Hid (X = .tuple #[.int .i64 0, .bool false]) := by
        have h := HH.out.2 (fun j hj => HN.out j (by omega))
        show _ = _
        rw [HX.out, h]
        rfl
      have hk : ¬ (k : Int) < 14 := by omega
      go_wp2_with fail
      go_ret2
      rw [HE.out]
      exact ⟨rfl, HS.out.2⟩
end Go.Proofs.Ytihmdcdifakepaa.Sc
