/- NumtextBlanks: the walk. -/
import Derived.Test.YtpejebohekcfoabGreatDoorQ1
namespace Go.Proofs.YtpejebohekcfoabGreatDoor
open Go.RowKit
set_option linter.unusedVariables false

def BlankAt (zs : List Int) (len : Nat) (sv iv : Value) : Prop := ∃ k : Nat, k ≤ len ∧ sv = .string (bs (spL zs k)) ∧ iv = .int .i64 (k : Int)

theorem ba_list (X Y : ByteArray) : (X ++ Y).data.toList = X.data.toList ++ Y.data.toList := by simp [ByteArray.data_append]

theorem blanks_reads (s : ByteArray) (sp : List UInt8) (hs : s.size ≤ 4096) (hl : sp.length ≤ 4096) (hb : ∀ b ∈ sp, blankS.contains b = true) :
    (∀ w : World, Calls Tryz.prog 7 #[.string s] w fun e w' => e = .returned (.int .u64 (readI s.data.toList)) ∧ Below w.heap.size w w') ∧
    (∀ w : World, Calls Tryz.prog 7 #[.string (bs sp ++ s ++ bs sp)] w fun e w' => e = .returned (.int .u64 (readI s.data.toList)) ∧ Below w.heap.size w w') := by
  refine ⟨fun w => read_ba s w (by omega), fun w => ?_⟩
  have := read_ba (bs sp ++ s ++ bs sp) w (by rw [ByteArray.size_append, ByteArray.size_append, bs_size]; omega)
  rw [ba_list, ba_list, show (bs sp).data.toList = sp from by simp [bs], readI_pad sp _ hb] at this
  exact this

theorem xor_top (A : Int) (h0 : 0 ≤ A) (h1 : A < 9223372036854775808) : bits .xor .u64 A 9223372036854775808 = A + 9223372036854775808 := by
  rw [flip_sign A h0 (by omega)]
  omega

theorem first_cons (s : ByteArray) (t0 : 0 < s.size) : ∃ r, s.data.toList = s[0]'t0 :: r := by
  have h : 0 < s.data.toList.length := by simpa using t0
  cases hs : s.data.toList with
  | nil => rw [hs] at h; simp at h
  | cons c r =>
    refine ⟨r, ?_⟩
    have : s.data.toList[0]'h = s[0]'t0 := by simp [ByteArray.getElem_eq_getElem_data]
    rw [← this]
    simp [hs]

theorem blanks_more (s : ByteArray) (sp : List UInt8) (hs : s.size ≤ 4096) (hl : sp.length ≤ 4096) (hb : ∀ b ∈ sp, blankS.contains b = true) (t0 : 0 < s.size) (h0 : 49 ≤ (s[0]'t0).toNat) (h1 : (s[0]'t0).toNat ≤ 57) (hn : readI s.data.toList ≠ 9221120237041090560) :
    (∀ w : World, Calls Tryz.prog 7 #[.string (ByteArray.mk #[45] ++ s)] w fun e w' => e = .returned (.int .u64 (readI s.data.toList + 9223372036854775808)) ∧ Below w.heap.size w w') ∧
    (∀ w : World, Calls Tryz.prog 7 #[.string (bs sp ++ ByteArray.mk #[43] ++ s)] w fun e w' => e = .returned (.int .u64 (readI s.data.toList)) ∧ Below w.heap.size w w') ∧
    (sp ≠ [] → ∀ w : World, Calls Tryz.prog 7 #[.string (ByteArray.mk #[45] ++ bs sp ++ s)] w fun e w' => e = .returned (.int .u64 9221120237041090560) ∧ Below w.heap.size w w') ∧
    bits .xor .u64 (readI s.data.toList) 9223372036854775808 = readI s.data.toList + 9223372036854775808 := by
  obtain ⟨r, e⟩ := first_cons s t0
  have bl : (bs sp).data.toList = sp := by simp [bs]
  have l45 : (ByteArray.mk #[45]).data.toList = [45] := rfl
  have l43 : (ByteArray.mk #[43]).data.toList = [43] := rfl
  have z45 : (ByteArray.mk #[45]).size = 1 := rfl
  have z43 : (ByteArray.mk #[43]).size = 1 := rfl
  rw [e] at hn ⊢
  obtain ⟨p1, p2, p3, p4, p5⟩ := blanks_plain _ r sp h0 h1 hb hn
  refine ⟨fun w => ?_, fun w => ?_, fun h w => ?_, xor_top _ p4 p5⟩
  · have := read_ba (ByteArray.mk #[45] ++ s) w (by rw [ByteArray.size_append, z45]; omega)
    rw [ba_list, l45, e, List.singleton_append, p1] at this
    exact this
  · have := read_ba (bs sp ++ ByteArray.mk #[43] ++ s) w (by rw [ByteArray.size_append, ByteArray.size_append, z43, bs_size]; omega)
    rw [ba_list, ba_list, bl, l43, e, List.append_assoc, List.singleton_append, p2] at this
    exact this
  · have := read_ba (ByteArray.mk #[45] ++ bs sp ++ s) w (by rw [ByteArray.size_append, ByteArray.size_append, z45, bs_size]; omega)
    rw [ba_list, ba_list, bl, l45, e, List.append_assoc, List.singleton_append, p3 h] at this
    exact this

end Go.Proofs.YtpejebohekcfoabGreatDoor
