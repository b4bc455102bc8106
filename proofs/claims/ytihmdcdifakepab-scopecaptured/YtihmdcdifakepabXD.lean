/- The program's grammar: which signs. -/
import Derived.Test.YtihmdcdifakepabB7
namespace Go.Proofs.Ytihmdcdifakepab.Sc
open Go.RowKit
set_option linter.unusedVariables false

theorem bytes_eq (a b : ByteArray) (h : a.toList = b.toList) : a = b := by
  rw [Lib.toList_data, Lib.toList_data] at h
  cases a with | mk x => cases b with | mk y => simp only at h; rw [show x = y from Array.toList_inj.1 h]
theorem containsS_any (zs : List ByteArray) (s : ByteArray) : Lib.containsS zs s = zs.any fun z => z.toList == s.toList := by
  rw [Bool.eq_iff_iff, Lib.containsS_iff, List.any_eq_true]
  constructor
  · intro h; exact ⟨s, h, by simp⟩
  · rintro ⟨z, h1, h2⟩
    rw [← bytes_eq z s (by simpa using h2)]
    exact h1

theorem isOne_any (s : ByteArray) (b : Nat) (cap : Nat) (zs : List ByteArray) (w : World) (hz : StrsAt w (some ⟨b, 0, none⟩) zs) (hne : zs ≠ []) (hl : zs.length ≤ 1000) :
    Calls Try.prog 23 #[.string s, .slice (some ⟨b, 0, none⟩) zs.length cap] w fun e w' => e = .returned (.bool (zs.any fun z => z.toList == s.toList)) ∧ w' = w := by
  obtain ⟨b', off', e1, hc⟩ := hz hne
  cases e1
  have hcon := Try.slices_Contains_string b 0 zs.length cap zs s w (Nat.le_refl _) (by omega) (fun j hj => by
    have := hc j _ (List.getElem?_eq_getElem hj)
    rw [this]
    simp [List.getD, List.getElem?_eq_getElem hj])
  rw [List.take_length, containsS_any] at hcon
  obtain ⟨A, hA⟩ : ∃ A, A = (zs.any fun z => z.toList == s.toList) := ⟨_, rfl⟩
  rw [← hA] at hcon ⊢
  clear hA hc
  go_enter Try.func23, Try.ntmps23
  go_wp2_with fail
  refine hcon.mono ?_
  rintro e w1 ⟨rfl, rfl⟩
  go_wp2_with fail
  go_ret
  exact ⟨rfl, rfl⟩

set_option maxRecDepth 100000 in
theorem rightOp_11 (pl num : Int) (name op : ByteArray) (ad : Option Addr) (len cap : Nat) (w : World) :
    Calls Try.prog 15 #[ndA ⟨11, pl, name, num, op⟩ ad len cap] w fun e w' => e = .returned (.bool (oneB op propL)) ∧ Below w.heap.size w w' := by
  obtain ⟨A, hA⟩ : ∃ A, A = oneB op propL := ⟨_, rfl⟩
  rw [← hA]
  obtain ⟨wb, hwb⟩ : ∃ wb, wb = (w.alloc (.cells #[.int .i64 11, .int .i64 pl, .string name, .int .u64 num, .string op, .slice ad len cap] 25)).alloc (.cells ((propL.map bs).map Value.string).toArray 9) := ⟨_, rfl⟩
  have hs : StrsAt wb (some ⟨w.heap.size + 1, 0, none⟩) (propL.map bs) := by
    rw [hwb]
    have := strs_new (w.alloc (.cells #[.int .i64 11, .int .i64 pl, .string name, .int .u64 num, .string op, .slice ad len cap] 25)) (propL.map bs)
    simpa using this
  have HB : Hid (Below w.heap.size w wb) := by rw [hwb]; exact ((Below.refl w.heap.size w).alloc (Nat.le_refl _) _).alloc (by simp) _
  have hc := isOne_any op (w.heap.size + 1) (propL.map bs).length (propL.map bs) wb hs (by decide) (by decide)
  rw [any_one, ← hA, hwb] at hc
  rw [hwb] at HB
  clear hA hs hwb
  unfold ndA
  go_enter Try.func15, Try.ntmps15
  go_wp2_with fail
  refine hc.mono ?_
  rintro e w1 ⟨rfl, rfl⟩
  clear hc
  go_wp2_with fail
  go_ret
  exact ⟨rfl, HB.out⟩

set_option maxRecDepth 100000 in
theorem rightOp_16 (pl num : Int) (name op : ByteArray) (ad : Option Addr) (len cap : Nat) (w : World) :
    Calls Try.prog 15 #[ndA ⟨16, pl, name, num, op⟩ ad len cap] w fun e w' => e = .returned (.bool (oneB op unaryL)) ∧ Below w.heap.size w w' := by
  obtain ⟨A, hA⟩ : ∃ A, A = oneB op unaryL := ⟨_, rfl⟩
  rw [← hA]
  obtain ⟨wb, hwb⟩ : ∃ wb, wb = (w.alloc (.cells #[.int .i64 16, .int .i64 pl, .string name, .int .u64 num, .string op, .slice ad len cap] 25)).alloc (.cells ((unaryL.map bs).map Value.string).toArray 9) := ⟨_, rfl⟩
  have hs : StrsAt wb (some ⟨w.heap.size + 1, 0, none⟩) (unaryL.map bs) := by
    rw [hwb]
    have := strs_new (w.alloc (.cells #[.int .i64 16, .int .i64 pl, .string name, .int .u64 num, .string op, .slice ad len cap] 25)) (unaryL.map bs)
    simpa using this
  have HB : Hid (Below w.heap.size w wb) := by rw [hwb]; exact ((Below.refl w.heap.size w).alloc (Nat.le_refl _) _).alloc (by simp) _
  have hc := isOne_any op (w.heap.size + 1) (unaryL.map bs).length (unaryL.map bs) wb hs (by decide) (by decide)
  rw [any_one, ← hA, hwb] at hc
  rw [hwb] at HB
  clear hA hs hwb
  unfold ndA
  go_enter Try.func15, Try.ntmps15
  go_wp2_with fail
  refine hc.mono ?_
  rintro e w1 ⟨rfl, rfl⟩
  clear hc
  go_wp2_with fail
  go_ret
  exact ⟨rfl, HB.out⟩

set_option maxRecDepth 100000 in
theorem rightOp_17 (pl num : Int) (name op : ByteArray) (ad : Option Addr) (len cap : Nat) (w : World) :
    Calls Try.prog 15 #[ndA ⟨17, pl, name, num, op⟩ ad len cap] w fun e w' => e = .returned (.bool (oneB op updateL)) ∧ Below w.heap.size w w' := by
  obtain ⟨A, hA⟩ : ∃ A, A = oneB op updateL := ⟨_, rfl⟩
  rw [← hA]
  obtain ⟨wb, hwb⟩ : ∃ wb, wb = (w.alloc (.cells #[.int .i64 17, .int .i64 pl, .string name, .int .u64 num, .string op, .slice ad len cap] 25)).alloc (.cells ((updateL.map bs).map Value.string).toArray 9) := ⟨_, rfl⟩
  have hs : StrsAt wb (some ⟨w.heap.size + 1, 0, none⟩) (updateL.map bs) := by
    rw [hwb]
    have := strs_new (w.alloc (.cells #[.int .i64 17, .int .i64 pl, .string name, .int .u64 num, .string op, .slice ad len cap] 25)) (updateL.map bs)
    simpa using this
  have HB : Hid (Below w.heap.size w wb) := by rw [hwb]; exact ((Below.refl w.heap.size w).alloc (Nat.le_refl _) _).alloc (by simp) _
  have hc := isOne_any op (w.heap.size + 1) (updateL.map bs).length (updateL.map bs) wb hs (by decide) (by decide)
  rw [any_one, ← hA, hwb] at hc
  rw [hwb] at HB
  clear hA hs hwb
  unfold ndA
  go_enter Try.func15, Try.ntmps15
  go_wp2_with fail
  refine hc.mono ?_
  rintro e w1 ⟨rfl, rfl⟩
  clear hc
  go_wp2_with fail
  go_ret
  exact ⟨rfl, HB.out⟩

set_option maxRecDepth 100000 in
theorem rightOp_18 (pl num : Int) (name op : ByteArray) (ad : Option Addr) (len cap : Nat) (w : World) :
    Calls Try.prog 15 #[ndA ⟨18, pl, name, num, op⟩ ad len cap] w fun e w' => e = .returned (.bool (oneB op binaryPL)) ∧ Below w.heap.size w w' := by
  obtain ⟨A, hA⟩ : ∃ A, A = oneB op binaryPL := ⟨_, rfl⟩
  rw [← hA]
  obtain ⟨wb, hwb⟩ : ∃ wb, wb = (w.alloc (.cells #[.int .i64 18, .int .i64 pl, .string name, .int .u64 num, .string op, .slice ad len cap] 25)).alloc (.cells ((binaryPL.map bs).map Value.string).toArray 9) := ⟨_, rfl⟩
  have hs : StrsAt wb (some ⟨w.heap.size + 1, 0, none⟩) (binaryPL.map bs) := by
    rw [hwb]
    have := strs_new (w.alloc (.cells #[.int .i64 18, .int .i64 pl, .string name, .int .u64 num, .string op, .slice ad len cap] 25)) (binaryPL.map bs)
    simpa using this
  have HB : Hid (Below w.heap.size w wb) := by rw [hwb]; exact ((Below.refl w.heap.size w).alloc (Nat.le_refl _) _).alloc (by simp) _
  have hc := isOne_any op (w.heap.size + 1) (binaryPL.map bs).length (binaryPL.map bs) wb hs (by decide) (by decide)
  rw [any_one, ← hA, hwb] at hc
  rw [hwb] at HB
  clear hA hs hwb
  unfold ndA
  go_enter Try.func15, Try.ntmps15
  go_wp2_with fail
  refine hc.mono ?_
  rintro e w1 ⟨rfl, rfl⟩
  clear hc
  go_wp2_with fail
  go_ret
  exact ⟨rfl, HB.out⟩

set_option maxRecDepth 100000 in
theorem rightOp_19 (pl num : Int) (name op : ByteArray) (ad : Option Addr) (len cap : Nat) (w : World) :
    Calls Try.prog 15 #[ndA ⟨19, pl, name, num, op⟩ ad len cap] w fun e w' => e = .returned (.bool (oneB op logicL)) ∧ Below w.heap.size w w' := by
  obtain ⟨A, hA⟩ : ∃ A, A = oneB op logicL := ⟨_, rfl⟩
  rw [← hA]
  obtain ⟨wb, hwb⟩ : ∃ wb, wb = (w.alloc (.cells #[.int .i64 19, .int .i64 pl, .string name, .int .u64 num, .string op, .slice ad len cap] 25)).alloc (.cells ((logicL.map bs).map Value.string).toArray 9) := ⟨_, rfl⟩
  have hs : StrsAt wb (some ⟨w.heap.size + 1, 0, none⟩) (logicL.map bs) := by
    rw [hwb]
    have := strs_new (w.alloc (.cells #[.int .i64 19, .int .i64 pl, .string name, .int .u64 num, .string op, .slice ad len cap] 25)) (logicL.map bs)
    simpa using this
  have HB : Hid (Below w.heap.size w wb) := by rw [hwb]; exact ((Below.refl w.heap.size w).alloc (Nat.le_refl _) _).alloc (by simp) _
  have hc := isOne_any op (w.heap.size + 1) (logicL.map bs).length (logicL.map bs) wb hs (by decide) (by decide)
  rw [any_one, ← hA, hwb] at hc
  rw [hwb] at HB
  clear hA hs hwb
  unfold ndA
  go_enter Try.func15, Try.ntmps15
  go_wp2_with fail
  refine hc.mono ?_
  rintro e w1 ⟨rfl, rfl⟩
  clear hc
  go_wp2_with fail
  go_ret
  exact ⟨rfl, HB.out⟩

set_option maxRecDepth 100000 in
theorem rightOp_21 (pl num : Int) (name op : ByteArray) (ad : Option Addr) (len cap : Nat) (w : World) :
    Calls Try.prog 15 #[ndA ⟨21, pl, name, num, op⟩ ad len cap] w fun e w' => e = .returned (.bool (oneB op assignL)) ∧ Below w.heap.size w w' := by
  obtain ⟨A, hA⟩ : ∃ A, A = oneB op assignL := ⟨_, rfl⟩
  rw [← hA]
  obtain ⟨wb, hwb⟩ : ∃ wb, wb = (w.alloc (.cells #[.int .i64 21, .int .i64 pl, .string name, .int .u64 num, .string op, .slice ad len cap] 25)).alloc (.cells ((assignL.map bs).map Value.string).toArray 9) := ⟨_, rfl⟩
  have hs : StrsAt wb (some ⟨w.heap.size + 1, 0, none⟩) (assignL.map bs) := by
    rw [hwb]
    have := strs_new (w.alloc (.cells #[.int .i64 21, .int .i64 pl, .string name, .int .u64 num, .string op, .slice ad len cap] 25)) (assignL.map bs)
    simpa using this
  have HB : Hid (Below w.heap.size w wb) := by rw [hwb]; exact ((Below.refl w.heap.size w).alloc (Nat.le_refl _) _).alloc (by simp) _
  have hc := isOne_any op (w.heap.size + 1) (assignL.map bs).length (assignL.map bs) wb hs (by decide) (by decide)
  rw [any_one, ← hA, hwb] at hc
  rw [hwb] at HB
  clear hA hs hwb
  unfold ndA
  go_enter Try.func15, Try.ntmps15
  go_wp2_with fail
  refine hc.mono ?_
  rintro e w1 ⟨rfl, rfl⟩
  clear hc
  go_wp2_with fail
  go_ret
  exact ⟨rfl, HB.out⟩

set_option maxRecDepth 100000 in
theorem rightOp_38 (pl num : Int) (name op : ByteArray) (ad : Option Addr) (len cap : Nat) (w : World) :
    Calls Try.prog 15 #[ndA ⟨38, pl, name, num, op⟩ ad len cap] w fun e w' => e = .returned (.bool (oneB op ofL)) ∧ Below w.heap.size w w' := by
  obtain ⟨A, hA⟩ : ∃ A, A = oneB op ofL := ⟨_, rfl⟩
  rw [← hA]
  obtain ⟨wb, hwb⟩ : ∃ wb, wb = (w.alloc (.cells #[.int .i64 38, .int .i64 pl, .string name, .int .u64 num, .string op, .slice ad len cap] 25)).alloc (.cells ((ofL.map bs).map Value.string).toArray 9) := ⟨_, rfl⟩
  have hs : StrsAt wb (some ⟨w.heap.size + 1, 0, none⟩) (ofL.map bs) := by
    rw [hwb]
    have := strs_new (w.alloc (.cells #[.int .i64 38, .int .i64 pl, .string name, .int .u64 num, .string op, .slice ad len cap] 25)) (ofL.map bs)
    simpa using this
  have HB : Hid (Below w.heap.size w wb) := by rw [hwb]; exact ((Below.refl w.heap.size w).alloc (Nat.le_refl _) _).alloc (by simp) _
  have hc := isOne_any op (w.heap.size + 1) (ofL.map bs).length (ofL.map bs) wb hs (by decide) (by decide)
  rw [any_one, ← hA, hwb] at hc
  rw [hwb] at HB
  clear hA hs hwb
  unfold ndA
  go_enter Try.func15, Try.ntmps15
  go_wp2_with fail
  refine hc.mono ?_
  rintro e w1 ⟨rfl, rfl⟩
  clear hc
  go_wp2_with fail
  go_ret
  exact ⟨rfl, HB.out⟩

set_option maxRecDepth 100000 in
theorem rightOp_12 (pl num : Int) (name op : ByteArray) (ad : Option Addr) (len cap : Nat) (w : World) :
    Calls Try.prog 15 #[ndA ⟨12, pl, name, num, op⟩ ad len cap] w fun e w' => e = .returned (.bool (isS op [42] || isS op [])) ∧ Below w.heap.size w w' := by
  unfold ndA isS
  simp only
  cases h1 : (op.toList == [42])
  · cases h2 : (op.toList == [])
    all_goals
      go_enter Try.func15, Try.ntmps15
      go_wp2_with fail
      go_ret
      exact ⟨rfl, (Below.refl _ _).alloc (Nat.le_refl _) _⟩
  · go_enter Try.func15, Try.ntmps15
    go_wp2_with fail
    go_ret
    exact ⟨rfl, (Below.refl _ _).alloc (Nat.le_refl _) _⟩

set_option maxRecDepth 100000 in
theorem rightOp_33 (pl num : Int) (name op : ByteArray) (ad : Option Addr) (len cap : Nat) (w : World) :
    Calls Try.prog 15 #[ndA ⟨33, pl, name, num, op⟩ ad len cap] w fun e w' => e = .returned (.bool (isS op [42] || isS op [])) ∧ Below w.heap.size w w' := by
  unfold ndA isS
  simp only
  cases h1 : (op.toList == [42])
  · cases h2 : (op.toList == [])
    all_goals
      go_enter Try.func15, Try.ntmps15
      go_wp2_with fail
      go_ret
      exact ⟨rfl, (Below.refl _ _).alloc (Nat.le_refl _) _⟩
  · go_enter Try.func15, Try.ntmps15
    go_wp2_with fail
    go_ret
    exact ⟨rfl, (Below.refl _ _).alloc (Nat.le_refl _) _⟩

set_option maxRecDepth 100000 in
theorem rightOp_no (kind pl num : Int) (name op : ByteArray) (ad : Option Addr) (len cap : Nat) (w : World) (n12 : (kind == 12) = false) (n33 : (kind == 33) = false) (n11 : (kind == 11) = false) (n16 : (kind == 16) = false) (n17 : (kind == 17) = false) (n18 : (kind == 18) = false) (n19 : (kind == 19) = false) (n21 : (kind == 21) = false) (n38 : (kind == 38) = false) :
    Calls Try.prog 15 #[ndA ⟨kind, pl, name, num, op⟩ ad len cap] w fun e w' => e = .returned (.bool true) ∧ Below w.heap.size w w' := by
  unfold ndA
  simp only
  go_enter Try.func15, Try.ntmps15
  go_wp2_with fail
  go_ret
  exact ⟨rfl, (Below.refl _ _).alloc (Nat.le_refl _) _⟩

theorem rightOp_any (x : Nd) (ad : Option Addr) (len cap : Nat) (w : World) : Calls Try.prog 15 #[ndA x ad len cap] w fun e w' => e = .returned (.bool (rightOpB x)) ∧ Below w.heap.size w w' := by
  obtain ⟨kind, pl, name, num, op⟩ := x
  by_cases h12 : kind = 12
  · subst h12
    have e : rightOpB ⟨12, pl, name, num, op⟩ = (isS op [42] || isS op []) := by unfold rightOpB; simp
    rw [e]
    exact rightOp_12 pl num name op ad len cap w
  by_cases h33 : kind = 33
  · subst h33
    have e : rightOpB ⟨33, pl, name, num, op⟩ = (isS op [42] || isS op []) := by unfold rightOpB; simp
    rw [e]
    exact rightOp_33 pl num name op ad len cap w
  by_cases h11 : kind = 11
  · subst h11
    have e : rightOpB ⟨11, pl, name, num, op⟩ = oneB op propL := by unfold rightOpB; simp
    rw [e]
    exact rightOp_11 pl num name op ad len cap w
  by_cases h16 : kind = 16
  · subst h16
    have e : rightOpB ⟨16, pl, name, num, op⟩ = oneB op unaryL := by unfold rightOpB; simp
    rw [e]
    exact rightOp_16 pl num name op ad len cap w
  by_cases h17 : kind = 17
  · subst h17
    have e : rightOpB ⟨17, pl, name, num, op⟩ = oneB op updateL := by unfold rightOpB; simp
    rw [e]
    exact rightOp_17 pl num name op ad len cap w
  by_cases h18 : kind = 18
  · subst h18
    have e : rightOpB ⟨18, pl, name, num, op⟩ = oneB op binaryPL := by unfold rightOpB; simp
    rw [e]
    exact rightOp_18 pl num name op ad len cap w
  by_cases h19 : kind = 19
  · subst h19
    have e : rightOpB ⟨19, pl, name, num, op⟩ = oneB op logicL := by unfold rightOpB; simp
    rw [e]
    exact rightOp_19 pl num name op ad len cap w
  by_cases h21 : kind = 21
  · subst h21
    have e : rightOpB ⟨21, pl, name, num, op⟩ = oneB op assignL := by unfold rightOpB; simp
    rw [e]
    exact rightOp_21 pl num name op ad len cap w
  by_cases h38 : kind = 38
  · subst h38
    have e : rightOpB ⟨38, pl, name, num, op⟩ = oneB op ofL := by unfold rightOpB; simp
    rw [e]
    exact rightOp_38 pl num name op ad len cap w
  have e : rightOpB ⟨kind, pl, name, num, op⟩ = true := by
    unfold rightOpB
    repeat rw [if_neg (by simp only; omega)]
  rw [e]
  exact rightOp_no kind pl num name op ad len cap w (by simpa using h12) (by simpa using h33) (by simpa using h11) (by simpa using h16) (by simpa using h17) (by simpa using h18) (by simpa using h19) (by simpa using h21) (by simpa using h38)
end Go.Proofs.Ytihmdcdifakepab.Sc
