/- The program's grammar: what a node is. -/
import Derived.Test.YtihmdcdifakepaaB9
import Derived.Shelf.Strings.Repeat
import Derived.Shelf.Slices.Turned
import Derived.Test.YtihmdcdifakepaaProg
namespace Go.Proofs.Ytihmdcdifakepaa.Sc
open Go.RowKit
set_option linter.unusedVariables false

section
variable (x : Nd) (ad : Option Addr) (len cap : Nat) (w : World)
abbrev ndA (x : Nd) (ad : Option Addr) (len cap : Nat) : Value := .agg #[.int .i64 x.kind, .int .i64 x.pl, .string x.name, .int .u64 x.num, .string x.op, .slice ad len cap]

set_option maxRecDepth 100000 in
theorem self_any : Calls Try.prog 61 #[ndA x ad len cap] w fun e w' => e = .returned (.bool (selfB x)) ∧ Below w.heap.size w w' := by
  obtain ⟨kind, pl, name, num, op⟩ := x
  unfold ndA selfB isS
  simp only
  by_cases h : kind = 12
  · subst h
    cases hn : (name.toList == [])
    · go_enter Try.func61, Try.ntmps61
      go_wp2_with fail
      go_ret
      exact ⟨rfl, (Below.refl _ _).alloc (Nat.le_refl _) _⟩
    · go_enter Try.func61, Try.ntmps61
      go_wp2_with fail
      go_ret
      exact ⟨rfl, (Below.refl _ _).alloc (Nat.le_refl _) _⟩
  · have h' : (kind == 12) = false := by simpa using h
    rw [h']
    go_enter Try.func61, Try.ntmps61
    go_wp2_with fail
    go_ret
    exact ⟨rfl, (Below.refl _ _).alloc (Nat.le_refl _) _⟩

set_option maxRecDepth 100000 in
theorem isFn_any : Calls Try.prog 29 #[ndA x ad len cap] w fun e w' => e = .returned (.bool (isFnB x)) ∧ Below w.heap.size w w' := by
  obtain ⟨kind, pl, name, num, op⟩ := x
  unfold ndA isFnB
  simp only
  by_cases h : kind = 12
  · subst h
    go_enter Try.func29, Try.ntmps29
    go_wp2_with fail
    go_ret
    exact ⟨rfl, (Below.refl _ _).alloc (Nat.le_refl _) _⟩
  · have h' : (kind == 12) = false := by simpa using h
    rw [h', Bool.false_or]
    obtain ⟨q, hq⟩ : ∃ q, q = (kind == 33) := ⟨_, rfl⟩
    have HQ : Hid (q = (kind == 33)) := hq
    rw [← hq]
    clear hq h
    go_enter Try.func29, Try.ntmps29
    go_wp2_with fail
    go_ret
    rw [HQ.out]
    exact ⟨rfl, (Below.refl _ _).alloc (Nat.le_refl _) _⟩
end

/-- the kinds of two kids, where they are -/
def Two (W0 : World) (ad : Option Addr) (len : Nat) (q1 q2 : Int) : Prop := 3 ≤ len ∧ ∃ b off, ad = some ⟨b, off, none⟩ ∧ ∀ w, Below W0.heap.size W0 w → w.cell? ⟨b, off + 6, none⟩ = some (.int .i64 q1) ∧ w.cell? ⟨b, off + 12, none⟩ = some (.int .i64 q2)

def declI (x : Nd) (q1 : Int) : Bool := if x.kind = 31 ∨ x.kind = 32 ∨ x.kind = 33 ∨ x.kind = 38 then true else if x.kind = 43 then q1 != 0 else selfB x

set_option maxRecDepth 100000 in
theorem declares_any (x : Nd) (ad : Option Addr) (len cap : Nat) (W0 w : World) (hb : Below W0.heap.size W0 w) (hl : len ≤ 2 ^ 63 - 1) (q1 q2 : Int) (h2 : x.kind = 43 → Two W0 ad len q1 q2) :
    Calls Try.prog 40 #[ndA x ad len cap] w fun e w' => e = .returned (.bool (declI x q1)) ∧ Below w.heap.size w w' := by
  obtain ⟨wb, hwb⟩ : ∃ wb, wb = w.alloc (.cells #[.int .i64 x.kind, .int .i64 x.pl, .string x.name, .int .u64 x.num, .string x.op, .slice ad len cap] 25) := ⟨_, rfl⟩
  have hB : Below w.heap.size w wb := by rw [hwb]; exact (Below.refl _ _).alloc (Nat.le_refl _) _
  have hbox : ∀ i v, (#[.int .i64 x.kind, .int .i64 x.pl, .string x.name, .int .u64 x.num, .string x.op, .slice ad len cap] : Array Value)[i]? = some v → wb.cell? ⟨w.heap.size, i, none⟩ = some v := by rw [hwb]; exact box_new w _ _
  have hself := self_any x ad len cap wb
  obtain ⟨sv, hsv⟩ : ∃ sv, sv = selfB x := ⟨_, rfl⟩
  rw [← hsv] at hself
  obtain ⟨D, hD⟩ : ∃ D, D = declI x q1 := ⟨_, rfl⟩
  rw [← hD]
  unfold declI at hD
  rw [← hsv] at hD
  clear hsv
  obtain ⟨kind, pl, name, num, op⟩ := x
  unfold ndA at hself ⊢
  simp only at hself hD h2 hbox hwb ⊢
  have b0 : wb.cell? ⟨w.heap.size, 0, none⟩ = some (.int .i64 kind) := hbox 0 _ rfl
  have b1 : wb.cell? ⟨w.heap.size, 1, none⟩ = some (.int .i64 pl) := hbox 1 _ rfl
  have b2 : wb.cell? ⟨w.heap.size, 2, none⟩ = some (.string name) := hbox 2 _ rfl
  have b3 : wb.cell? ⟨w.heap.size, 3, none⟩ = some (.int .u64 num) := hbox 3 _ rfl
  have b4 : wb.cell? ⟨w.heap.size, 4, none⟩ = some (.string op) := hbox 4 _ rfl
  have b5 : wb.cell? ⟨w.heap.size, 5, none⟩ = some (.slice ad len cap) := hbox 5 _ rfl
  have HB : Hid (Below w.heap.size w wb) := hB
  have HW : Hid (Below W0.heap.size W0 wb) := hb.trans (hB.mono hb.size)
  clear hB hbox hb
  by_cases h31 : kind = 31 ∨ kind = 32 ∨ kind = 33 ∨ kind = 38
  · rw [if_pos h31] at hD
    rw [hD]
    rcases h31 with rfl | rfl | rfl | rfl
    all_goals
      go_enter Try.func40, Try.ntmps40
      go_upto_region 1 with fail
      rw [← hwb]
      clear hwb
      go_wp2_with fail
      go_ret
      exact ⟨rfl, HB.out⟩
  · rw [if_neg h31] at hD
    by_cases h43 : kind = 43
    · rw [if_pos h43] at hD
      rw [hD]
      obtain ⟨hl3, b, off, rfl, hc⟩ := h2 h43
      have z1 := (hc wb HW.out).1
      subst h43
      clear h2 hc
      have lt1 : 1 < len := by omega
      go_enter Try.func40, Try.ntmps40
      go_upto_region 1 with fail
      rw [← hwb]
      clear hwb
      go_wp2_with fail
      go_ret
      exact ⟨rfl, HB.out⟩
    · rw [if_neg h43] at hD
      rw [hD]
      have n1 : (kind == 31) = false := by simp; omega
      have n2 : (kind == 32) = false := by simp; omega
      have n3 : (kind == 33) = false := by simp; omega
      have n4 : (kind == 38) = false := by simp; omega
      have n5 : (kind == 43) = false := by simp; omega
      clear h2 h31 h43
      go_enter Try.func40, Try.ntmps40
      go_upto_region 1 with fail
      rw [← hwb]
      clear hwb
      go_wp2_with fail
      refine hself.mono ?_
      rintro e w2 ⟨rfl, hb2⟩
      have HB2 : Hid (Below w.heap.size w w2) := HB.out.trans (hb2.mono HB.out.size)
      clear hb2 hself
      go_wp2_with fail
      go_ret
      exact ⟨rfl, HB2.out⟩
end Go.Proofs.Ytihmdcdifakepaa.Sc

/-
  DERIVED: THE SHELF's CONTRACTS AT THIS DUMP, IN PLAIN WORDS (tools/lay-plain.mjs out of 'YtihmdcdifakepaaShelfR.lean', which tools/lay-shelf.mjs wrote): THE SAME DECLARATIONS UNDER THE SAME NAMES: 'import', 'namespace', 'open', 'def', 'theorem' AND NOTHING ELSE: no command of the shelf's: FOR A HAND-IN. Each laying: the table of numbers ('.._ren') and one theorem, a field a fact of the dump's own or the kernel's comparison; each contract: ONE APPLICATION.
-/
namespace Go.Proofs
open Go.Shelf
def Try.lays105_ren : Go.Shelf.Ren := ⟨fun | 105 => 37 | 212 => 54 | 99 => 55 | 165 => 56 | 166 => 57 | 170 => 58 | 169 => 59 | 263 => 66 | 264 => 67 | 206 => 68 | 240 => 69 | 241 => 70 | 276 => 74 | 277 => 75 | n => n, fun | 9 => 9 | 3 => 3 | 4 => 4 | 20 => 20 | 0 => 0 | 46 => 94 | 109 => 95 | 5 => 5 | 72 => 101 | 76 => 105 | 51 => 113 | 146 => 114 | 53 => 22 | 148 => 116 | 70 => 98 | 37 => 99 | 75 => 104 | 127 => 118 | 164 => 124 | 80 => 108 | n => n, fun | n => n⟩
theorem Try.lays105 : Go.Proofs.Lays.n105 Try.prog Try.lays105_ren := {
  mixed := by kernel_rfl
  f99 := Try.func55.trans (congrArg some (by kernel_rfl))
  f105 := Try.func37.trans (congrArg some (by kernel_rfl))
  f165 := Try.func56.trans (congrArg some (by kernel_rfl))
  f166 := Try.func57.trans (congrArg some (by kernel_rfl))
  f169 := Try.func59.trans (congrArg some (by kernel_rfl))
  f170 := Try.func58.trans (congrArg some (by kernel_rfl))
  f206 := Try.func68.trans (congrArg some (by kernel_rfl))
  f212 := Try.func54.trans (congrArg some (by kernel_rfl))
  f240 := Try.func69.trans (congrArg some (by kernel_rfl))
  f241 := Try.func70.trans (congrArg some (by kernel_rfl))
  f263 := Try.func66.trans (congrArg some (by kernel_rfl))
  f264 := Try.func67.trans (congrArg some (by kernel_rfl))
  f276 := Try.func74.trans (congrArg some (by kernel_rfl))
  f277 := Try.func75.trans (congrArg some (by kernel_rfl))
  t0 := Try.underlying0
  a0 := Try.isAgg0
  z0 := Try.sizeOf0
  v0 := Try.zeroValue0
  t3 := Try.underlying3
  a3 := Try.isAgg3
  z3 := Try.sizeOf3
  v3 := Try.zeroValue3
  t4 := Try.underlying4
  a4 := Try.isAgg4
  z4 := Try.sizeOf4
  v4 := Try.zeroValue4
  t5 := Try.underlying5
  a5 := Try.isAgg5
  z5 := Try.sizeOf5
  v5 := Try.zeroValue5
  t9 := Try.underlying9
  a9 := Try.isAgg9
  z9 := Try.sizeOf9
  v9 := Try.zeroValue9
  t20 := Try.underlying20
  a20 := Try.isAgg20
  z20 := Try.sizeOf20
  v20 := Try.zeroValue20
  t37 := Try.underlying99
  a37 := Try.isAgg99
  z37 := Try.sizeOf99
  v37 := Try.zeroValue99
  t46 := Try.underlying94
  a46 := Try.isAgg94
  z46 := Try.sizeOf94
  v46 := Try.zeroValue94
  t51 := Try.underlying113
  a51 := Try.isAgg113
  z51 := Try.sizeOf113
  v51 := Try.zeroValue113
  t53 := Try.underlying22
  a53 := Try.isAgg22
  z53 := Try.sizeOf22
  v53 := Try.zeroValue22
  t70 := Try.underlying98
  a70 := Try.isAgg98
  z70 := Try.sizeOf98
  v70 := Try.zeroValue98
  t72 := Try.underlying101
  a72 := Try.isAgg101
  z72 := Try.sizeOf101
  v72 := Try.zeroValue101
  t75 := Try.underlying104
  a75 := Try.isAgg104
  z75 := Try.sizeOf104
  v75 := Try.zeroValue104
  t76 := Try.underlying105
  a76 := Try.isAgg105
  z76 := Try.sizeOf105
  v76 := Try.zeroValue105
  t109 := Try.underlying95
  a109 := Try.isAgg95
  z109 := Try.sizeOf95
  v109 := Try.zeroValue95
  t127 := Try.underlying118
  a127 := Try.isAgg118
  z127 := Try.sizeOf118
  v127 := Try.zeroValue118
  t146 := Try.underlying114
  a146 := Try.isAgg114
  z146 := Try.sizeOf114
  v146 := Try.zeroValue114
  t148 := Try.underlying116
  a148 := Try.isAgg116
  z148 := Try.sizeOf116
  v148 := Try.zeroValue116
  t164 := Try.underlying124
  a164 := Try.isAgg124
  z164 := Try.sizeOf124
  v164 := Try.zeroValue124 }
theorem Try.Builder_Extra_105 : Builder.Extra Try.prog Try.lays105_ren := {
  sizeBuilder := by kernel_rfl
  liesBuilder := by kernel_rfl
  t5 := Try.underlying5
  a5 := Try.isAgg5
  z5 := Try.sizeOf5
  v5 := Try.zeroValue5
  infoByte := by kernel_rfl
  cellsByte := by kernel_rfl
  sizeByte := by kernel_rfl
  neB5 := by decide }
open Go.RowKit Go.Lib in
/-- **strings.Repeat: count ≥ 0, the result within one allocation: count copies of s.** (LAID: no walk: one application.) -/
theorem Try.strings_Repeat (s : ByteArray) (c : Nat) (w : World) (hc : c ≤ 9223372036854775807) (hlen : s.size * c ≤ 140737488355328) :
    Calls Try.prog 37 #[.string s, .int .i64 c] w fun e w' => e = .returned (.string ⟨(Lib.repeatL s.data.toList c).toArray⟩) ∧ Below w.heap.size w w' := Any.strings_Repeat Try.lays105 Try.Builder_Extra_105 s c w hc hlen
def Try.lays109_ren : Go.Shelf.Ren := ⟨fun | 109 => 23 | n => n, fun | 31 => 28 | 9 => 9 | 3 => 3 | 0 => 0 | 4 => 4 | n => n, fun | n => n⟩
theorem Try.lays109 : Go.Proofs.Lays.n109 Try.prog Try.lays109_ren := {
  mixed := by kernel_rfl
  f109 := Try.func23.trans (congrArg some (by kernel_rfl))
  t0 := Try.underlying0
  a0 := Try.isAgg0
  z0 := Try.sizeOf0
  v0 := Try.zeroValue0
  t3 := Try.underlying3
  a3 := Try.isAgg3
  z3 := Try.sizeOf3
  v3 := Try.zeroValue3
  t4 := Try.underlying4
  a4 := Try.isAgg4
  z4 := Try.sizeOf4
  v4 := Try.zeroValue4
  t9 := Try.underlying9
  a9 := Try.isAgg9
  z9 := Try.sizeOf9
  v9 := Try.zeroValue9
  t31 := Try.underlying28
  a31 := Try.isAgg28
  z31 := Try.sizeOf28
  v31 := Try.zeroValue28 }
open Go.Lib in
/-- slices.Index at []string: "Index returns the index of the first occurrence of v in s, or -1 if not present.": IT RETURNS 'Lib.idxOfS (the elements) v'; the world is as it was. 'zs': what the cells behind the slice's address hold (its spare capacity too, if you have it); 'zs.take n': its elements. (LAID: no walk: one application.) -/
theorem Try.slices_Index_string (b off n c : Nat) (zs : List ByteArray) (x : ByteArray) (w : World) (hz : n ≤ zs.length) (hbig : n ≤ 9223372036854775807) (hc : ∀ j, j < zs.length → w.cell? ⟨b, off + j, none⟩ = some (.string (zs.getD j ByteArray.empty))) :
    Calls Try.prog 23 #[.slice (some ⟨b, off, none⟩) n c, .string x] w fun e w' => e = .returned (.int .i64 (Lib.idxOfS (zs.take n) x)) ∧ w' = w := Any.slices_Index_string Try.lays109 b off n c zs x w hz hbig hc
def Try.lays110_ren : Go.Shelf.Ren := ⟨fun | 110 => 60 | 109 => 23 | n => n, fun | 31 => 28 | 9 => 9 | 4 => 4 | 3 => 3 | 0 => 0 | n => n, fun | n => n⟩
theorem Try.lays110 : Go.Proofs.Lays.n110 Try.prog Try.lays110_ren := {
  mixed := by kernel_rfl
  f109 := Try.func23.trans (congrArg some (by kernel_rfl))
  f110 := Try.func60.trans (congrArg some (by kernel_rfl))
  t0 := Try.underlying0
  a0 := Try.isAgg0
  z0 := Try.sizeOf0
  v0 := Try.zeroValue0
  t3 := Try.underlying3
  a3 := Try.isAgg3
  z3 := Try.sizeOf3
  v3 := Try.zeroValue3
  t4 := Try.underlying4
  a4 := Try.isAgg4
  z4 := Try.sizeOf4
  v4 := Try.zeroValue4
  t9 := Try.underlying9
  a9 := Try.isAgg9
  z9 := Try.sizeOf9
  v9 := Try.zeroValue9
  t31 := Try.underlying28
  a31 := Try.isAgg28
  z31 := Try.sizeOf28
  v31 := Try.zeroValue28 }
open Go.Lib in
/-- slices.Contains at []string: "Contains reports whether v is present in s.": IT RETURNS 'Lib.containsS (the elements) v', which is true just where v is among them ('Lib.containsS_iff'); the world is as it was. ITS CALLEE slices.Index IS MET BY ITS OWN CONTRACT OFF THE SHELF (lay that first): no loop is walked here. (LAID: no walk: one application.) -/
theorem Try.slices_Contains_string (b off n c : Nat) (zs : List ByteArray) (x : ByteArray) (w : World) (hz : n ≤ zs.length) (hbig : n ≤ 9223372036854775807) (hc : ∀ j, j < zs.length → w.cell? ⟨b, off + j, none⟩ = some (.string (zs.getD j ByteArray.empty))) :
    Calls Try.prog 60 #[.slice (some ⟨b, off, none⟩) n c, .string x] w fun e w' => e = .returned (.bool (Lib.containsS (zs.take n) x)) ∧ w' = w := Any.slices_Contains_string Try.lays110 b off n c zs x w hz hbig hc
end Go.Proofs

/- The program's grammar: which signs. -/
namespace Go.Proofs.Ytihmdcdifakepaa.Sc
open Go.RowKit
set_option linter.unusedVariables false

theorem bytes_eq (a b : ByteArray) (h : a.toList = b.toList) : a = b := by
  rw [Lib.toList_data, Lib.toList_data] at h
  cases a with | mk x => cases b with | mk y => simp only at h; rw [show x = y from Array.toList_inj.1 h]
theorem containsS_any (zs : List ByteArray) (s : ByteArray) : Lib.containsS zs s = zs.any fun z => z.toList == s.toList := by
  rw [Bool.eq_iff_iff, Lib.containsS_iff, List.any_eq_true]
  constructor
  · intro h; exact ⟨s, h, by simp⟩
  · rintro ⟨z, h1, h2⟩
    rw [← bytes_eq z s (by simpa using h2)]
    exact h1

theorem isOne_any (s : ByteArray) (b : Nat) (cap : Nat) (zs : List ByteArray) (w : World) (hz : StrsAt w (some ⟨b, 0, none⟩) zs) (hne : zs ≠ []) (hl : zs.length ≤ 1000) :
    Calls Try.prog 38 #[.string s, .slice (some ⟨b, 0, none⟩) zs.length cap] w fun e w' => e = .returned (.bool (zs.any fun z => z.toList == s.toList)) ∧ w' = w := by
  obtain ⟨b', off', e1, hc⟩ := hz hne
  cases e1
  have hcon := Try.slices_Contains_string b 0 zs.length cap zs s w (Nat.le_refl _) (by omega) (fun j hj => by
    have := hc j _ (List.getElem?_eq_getElem hj)
    rw [this]
    simp [List.getD, List.getElem?_eq_getElem hj])
  rw [List.take_length, containsS_any] at hcon
  obtain ⟨A, hA⟩ : ∃ A, A = (zs.any fun z => z.toList == s.toList) := ⟨_, rfl⟩
  rw [← hA] at hcon ⊢
  clear hA hc
  go_enter Try.func38, Try.ntmps38
  go_wp2_with fail
  refine hcon.mono ?_
  rintro e w1 ⟨rfl, rfl⟩
  go_wp2_with fail
  go_ret
  exact ⟨rfl, rfl⟩

set_option maxRecDepth 100000 in
theorem rightOp_11 (pl num : Int) (name op : ByteArray) (ad : Option Addr) (len cap : Nat) (w : World) :
    Calls Try.prog 27 #[ndA ⟨11, pl, name, num, op⟩ ad len cap] w fun e w' => e = .returned (.bool (oneB op propL)) ∧ Below w.heap.size w w' := by
  obtain ⟨A, hA⟩ : ∃ A, A = oneB op propL := ⟨_, rfl⟩
  rw [← hA]
  obtain ⟨wb, hwb⟩ : ∃ wb, wb = (w.alloc (.cells #[.int .i64 11, .int .i64 pl, .string name, .int .u64 num, .string op, .slice ad len cap] 25)).alloc (.cells ((propL.map bs).map Value.string).toArray 9) := ⟨_, rfl⟩
  have hs : StrsAt wb (some ⟨w.heap.size + 1, 0, none⟩) (propL.map bs) := by
    rw [hwb]
    have := strs_new (w.alloc (.cells #[.int .i64 11, .int .i64 pl, .string name, .int .u64 num, .string op, .slice ad len cap] 25)) (propL.map bs)
    simpa using this
  have HB : Hid (Below w.heap.size w wb) := by rw [hwb]; exact ((Below.refl w.heap.size w).alloc (Nat.le_refl _) _).alloc (by simp) _
  have hc := isOne_any op (w.heap.size + 1) (propL.map bs).length (propL.map bs) wb hs (by decide) (by decide)
  rw [any_one, ← hA, hwb] at hc
  rw [hwb] at HB
  clear hA hs hwb
  unfold ndA
  go_enter Try.func27, Try.ntmps27
  go_wp2_with fail
  refine hc.mono ?_
  rintro e w1 ⟨rfl, rfl⟩
  clear hc
  go_wp2_with fail
  go_ret
  exact ⟨rfl, HB.out⟩

set_option maxRecDepth 100000 in
theorem rightOp_16 (pl num : Int) (name op : ByteArray) (ad : Option Addr) (len cap : Nat) (w : World) :
    Calls Try.prog 27 #[ndA ⟨16, pl, name, num, op⟩ ad len cap] w fun e w' => e = .returned (.bool (oneB op unaryL)) ∧ Below w.heap.size w w' := by
  obtain ⟨A, hA⟩ : ∃ A, A = oneB op unaryL := ⟨_, rfl⟩
  rw [← hA]
  obtain ⟨wb, hwb⟩ : ∃ wb, wb = (w.alloc (.cells #[.int .i64 16, .int .i64 pl, .string name, .int .u64 num, .string op, .slice ad len cap] 25)).alloc (.cells ((unaryL.map bs).map Value.string).toArray 9) := ⟨_, rfl⟩
  have hs : StrsAt wb (some ⟨w.heap.size + 1, 0, none⟩) (unaryL.map bs) := by
    rw [hwb]
    have := strs_new (w.alloc (.cells #[.int .i64 16, .int .i64 pl, .string name, .int .u64 num, .string op, .slice ad len cap] 25)) (unaryL.map bs)
    simpa using this
  have HB : Hid (Below w.heap.size w wb) := by rw [hwb]; exact ((Below.refl w.heap.size w).alloc (Nat.le_refl _) _).alloc (by simp) _
  have hc := isOne_any op (w.heap.size + 1) (unaryL.map bs).length (unaryL.map bs) wb hs (by decide) (by decide)
  rw [any_one, ← hA, hwb] at hc
  rw [hwb] at HB
  clear hA hs hwb
  unfold ndA
  go_enter Try.func27, Try.ntmps27
  go_wp2_with fail
  refine hc.mono ?_
  rintro e w1 ⟨rfl, rfl⟩
  clear hc
  go_wp2_with fail
  go_ret
  exact ⟨rfl, HB.out⟩

set_option maxRecDepth 100000 in
theorem rightOp_17 (pl num : Int) (name op : ByteArray) (ad : Option Addr) (len cap : Nat) (w : World) :
    Calls Try.prog 27 #[ndA ⟨17, pl, name, num, op⟩ ad len cap] w fun e w' => e = .returned (.bool (oneB op updateL)) ∧ Below w.heap.size w w' := by
  obtain ⟨A, hA⟩ : ∃ A, A = oneB op updateL := ⟨_, rfl⟩
  rw [← hA]
  obtain ⟨wb, hwb⟩ : ∃ wb, wb = (w.alloc (.cells #[.int .i64 17, .int .i64 pl, .string name, .int .u64 num, .string op, .slice ad len cap] 25)).alloc (.cells ((updateL.map bs).map Value.string).toArray 9) := ⟨_, rfl⟩
  have hs : StrsAt wb (some ⟨w.heap.size + 1, 0, none⟩) (updateL.map bs) := by
    rw [hwb]
    have := strs_new (w.alloc (.cells #[.int .i64 17, .int .i64 pl, .string name, .int .u64 num, .string op, .slice ad len cap] 25)) (updateL.map bs)
    simpa using this
  have HB : Hid (Below w.heap.size w wb) := by rw [hwb]; exact ((Below.refl w.heap.size w).alloc (Nat.le_refl _) _).alloc (by simp) _
  have hc := isOne_any op (w.heap.size + 1) (updateL.map bs).length (updateL.map bs) wb hs (by decide) (by decide)
  rw [any_one, ← hA, hwb] at hc
  rw [hwb] at HB
  clear hA hs hwb
  unfold ndA
  go_enter Try.func27, Try.ntmps27
  go_wp2_with fail
  refine hc.mono ?_
  rintro e w1 ⟨rfl, rfl⟩
  clear hc
  go_wp2_with fail
  go_ret
  exact ⟨rfl, HB.out⟩

set_option maxRecDepth 100000 in
theorem rightOp_18 (pl num : Int) (name op : ByteArray) (ad : Option Addr) (len cap : Nat) (w : World) :
    Calls Try.prog 27 #[ndA ⟨18, pl, name, num, op⟩ ad len cap] w fun e w' => e = .returned (.bool (oneB op binaryPL)) ∧ Below w.heap.size w w' := by
  obtain ⟨A, hA⟩ : ∃ A, A = oneB op binaryPL := ⟨_, rfl⟩
  rw [← hA]
  obtain ⟨wb, hwb⟩ : ∃ wb, wb = (w.alloc (.cells #[.int .i64 18, .int .i64 pl, .string name, .int .u64 num, .string op, .slice ad len cap] 25)).alloc (.cells ((binaryPL.map bs).map Value.string).toArray 9) := ⟨_, rfl⟩
  have hs : StrsAt wb (some ⟨w.heap.size + 1, 0, none⟩) (binaryPL.map bs) := by
    rw [hwb]
    have := strs_new (w.alloc (.cells #[.int .i64 18, .int .i64 pl, .string name, .int .u64 num, .string op, .slice ad len cap] 25)) (binaryPL.map bs)
    simpa using this
  have HB : Hid (Below w.heap.size w wb) := by rw [hwb]; exact ((Below.refl w.heap.size w).alloc (Nat.le_refl _) _).alloc (by simp) _
  have hc := isOne_any op (w.heap.size + 1) (binaryPL.map bs).length (binaryPL.map bs) wb hs (by decide) (by decide)
  rw [any_one, ← hA, hwb] at hc
  rw [hwb] at HB
  clear hA hs hwb
  unfold ndA
  go_enter Try.func27, Try.ntmps27
  go_wp2_with fail
  refine hc.mono ?_
  rintro e w1 ⟨rfl, rfl⟩
  clear hc
  go_wp2_with fail
  go_ret
  exact ⟨rfl, HB.out⟩

set_option maxRecDepth 100000 in
theorem rightOp_19 (pl num : Int) (name op : ByteArray) (ad : Option Addr) (len cap : Nat) (w : World) :
    Calls Try.prog 27 #[ndA ⟨19, pl, name, num, op⟩ ad len cap] w fun e w' => e = .returned (.bool (oneB op logicL)) ∧ Below w.heap.size w w' := by
  obtain ⟨A, hA⟩ : ∃ A, A = oneB op logicL := ⟨_, rfl⟩
  rw [← hA]
  obtain ⟨wb, hwb⟩ : ∃ wb, wb = (w.alloc (.cells #[.int .i64 19, .int .i64 pl, .string name, .int .u64 num, .string op, .slice ad len cap] 25)).alloc (.cells ((logicL.map bs).map Value.string).toArray 9) := ⟨_, rfl⟩
  have hs : StrsAt wb (some ⟨w.heap.size + 1, 0, none⟩) (logicL.map bs) := by
    rw [hwb]
    have := strs_new (w.alloc (.cells #[.int .i64 19, .int .i64 pl, .string name, .int .u64 num, .string op, .slice ad len cap] 25)) (logicL.map bs)
    simpa using this
  have HB : Hid (Below w.heap.size w wb) := by rw [hwb]; exact ((Below.refl w.heap.size w).alloc (Nat.le_refl _) _).alloc (by simp) _
  have hc := isOne_any op (w.heap.size + 1) (logicL.map bs).length (logicL.map bs) wb hs (by decide) (by decide)
  rw [any_one, ← hA, hwb] at hc
  rw [hwb] at HB
  clear hA hs hwb
  unfold ndA
  go_enter Try.func27, Try.ntmps27
  go_wp2_with fail
  refine hc.mono ?_
  rintro e w1 ⟨rfl, rfl⟩
  clear hc
  go_wp2_with fail
  go_ret
  exact ⟨rfl, HB.out⟩

set_option maxRecDepth 100000 in
theorem rightOp_21 (pl num : Int) (name op : ByteArray) (ad : Option Addr) (len cap : Nat) (w : World) :
    Calls Try.prog 27 #[ndA ⟨21, pl, name, num, op⟩ ad len cap] w fun e w' => e = .returned (.bool (oneB op assignL)) ∧ Below w.heap.size w w' := by
  obtain ⟨A, hA⟩ : ∃ A, A = oneB op assignL := ⟨_, rfl⟩
  rw [← hA]
  obtain ⟨wb, hwb⟩ : ∃ wb, wb = (w.alloc (.cells #[.int .i64 21, .int .i64 pl, .string name, .int .u64 num, .string op, .slice ad len cap] 25)).alloc (.cells ((assignL.map bs).map Value.string).toArray 9) := ⟨_, rfl⟩
  have hs : StrsAt wb (some ⟨w.heap.size + 1, 0, none⟩) (assignL.map bs) := by
    rw [hwb]
    have := strs_new (w.alloc (.cells #[.int .i64 21, .int .i64 pl, .string name, .int .u64 num, .string op, .slice ad len cap] 25)) (assignL.map bs)
    simpa using this
  have HB : Hid (Below w.heap.size w wb) := by rw [hwb]; exact ((Below.refl w.heap.size w).alloc (Nat.le_refl _) _).alloc (by simp) _
  have hc := isOne_any op (w.heap.size + 1) (assignL.map bs).length (assignL.map bs) wb hs (by decide) (by decide)
  rw [any_one, ← hA, hwb] at hc
  rw [hwb] at HB
  clear hA hs hwb
  unfold ndA
  go_enter Try.func27, Try.ntmps27
  go_wp2_with fail
  refine hc.mono ?_
  rintro e w1 ⟨rfl, rfl⟩
  clear hc
  go_wp2_with fail
  go_ret
  exact ⟨rfl, HB.out⟩

set_option maxRecDepth 100000 in
theorem rightOp_38 (pl num : Int) (name op : ByteArray) (ad : Option Addr) (len cap : Nat) (w : World) :
    Calls Try.prog 27 #[ndA ⟨38, pl, name, num, op⟩ ad len cap] w fun e w' => e = .returned (.bool (oneB op ofL)) ∧ Below w.heap.size w w' := by
  obtain ⟨A, hA⟩ : ∃ A, A = oneB op ofL := ⟨_, rfl⟩
  rw [← hA]
  obtain ⟨wb, hwb⟩ : ∃ wb, wb = (w.alloc (.cells #[.int .i64 38, .int .i64 pl, .string name, .int .u64 num, .string op, .slice ad len cap] 25)).alloc (.cells ((ofL.map bs).map Value.string).toArray 9) := ⟨_, rfl⟩
  have hs : StrsAt wb (some ⟨w.heap.size + 1, 0, none⟩) (ofL.map bs) := by
    rw [hwb]
    have := strs_new (w.alloc (.cells #[.int .i64 38, .int .i64 pl, .string name, .int .u64 num, .string op, .slice ad len cap] 25)) (ofL.map bs)
    simpa using this
  have HB : Hid (Below w.heap.size w wb) := by rw [hwb]; exact ((Below.refl w.heap.size w).alloc (Nat.le_refl _) _).alloc (by simp) _
  have hc := isOne_any op (w.heap.size + 1) (ofL.map bs).length (ofL.map bs) wb hs (by decide) (by decide)
  rw [any_one, ← hA, hwb] at hc
  rw [hwb] at HB
  clear hA hs hwb
  unfold ndA
  go_enter Try.func27, Try.ntmps27
  go_wp2_with fail
  refine hc.mono ?_
  rintro e w1 ⟨rfl, rfl⟩
  clear hc
  go_wp2_with fail
  go_ret
  exact ⟨rfl, HB.out⟩

set_option maxRecDepth 100000 in
theorem rightOp_12 (pl num : Int) (name op : ByteArray) (ad : Option Addr) (len cap : Nat) (w : World) :
    Calls Try.prog 27 #[ndA ⟨12, pl, name, num, op⟩ ad len cap] w fun e w' => e = .returned (.bool (isS op [42] || isS op [])) ∧ Below w.heap.size w w' := by
  unfold ndA isS
  simp only
  cases h1 : (op.toList == [42])
  · cases h2 : (op.toList == [])
    all_goals
      go_enter Try.func27, Try.ntmps27
      go_wp2_with fail
      go_ret
      exact ⟨rfl, (Below.refl _ _).alloc (Nat.le_refl _) _⟩
  · go_enter Try.func27, Try.ntmps27
    go_wp2_with fail
    go_ret
    exact ⟨rfl, (Below.refl _ _).alloc (Nat.le_refl _) _⟩

set_option maxRecDepth 100000 in
theorem rightOp_33 (pl num : Int) (name op : ByteArray) (ad : Option Addr) (len cap : Nat) (w : World) :
    Calls Try.prog 27 #[ndA ⟨33, pl, name, num, op⟩ ad len cap] w fun e w' => e = .returned (.bool (isS op [42] || isS op [])) ∧ Below w.heap.size w w' := by
  unfold ndA isS
  simp only
  cases h1 : (op.toList == [42])
  · cases h2 : (op.toList == [])
    all_goals
      go_enter Try.func27, Try.ntmps27
      go_wp2_with fail
      go_ret
      exact ⟨rfl, (Below.refl _ _).alloc (Nat.le_refl _) _⟩
  · go_enter Try.func27, Try.ntmps27
    go_wp2_with fail
    go_ret
    exact ⟨rfl, (Below.refl _ _).alloc (Nat.le_refl _) _⟩

set_option maxRecDepth 100000 in
theorem rightOp_no (kind pl num : Int) (name op : ByteArray) (ad : Option Addr) (len cap : Nat) (w : World) (n12 : (kind == 12) = false) (n33 : (kind == 33) = false) (n11 : (kind == 11) = false) (n16 : (kind == 16) = false) (n17 : (kind == 17) = false) (n18 : (kind == 18) = false) (n19 : (kind == 19) = false) (n21 : (kind == 21) = false) (n38 : (kind == 38) = false) :
    Calls Try.prog 27 #[ndA ⟨kind, pl, name, num, op⟩ ad len cap] w fun e w' => e = .returned (.bool true) ∧ Below w.heap.size w w' := by
  unfold ndA
  simp only
  go_enter Try.func27, Try.ntmps27
  go_wp2_with fail
  go_ret
  exact ⟨rfl, (Below.refl _ _).alloc (Nat.le_refl _) _⟩

theorem rightOp_any (x : Nd) (ad : Option Addr) (len cap : Nat) (w : World) : Calls Try.prog 27 #[ndA x ad len cap] w fun e w' => e = .returned (.bool (rightOpB x)) ∧ Below w.heap.size w w' := by
  obtain ⟨kind, pl, name, num, op⟩ := x
  by_cases h12 : kind = 12
  · subst h12
    have e : rightOpB ⟨12, pl, name, num, op⟩ = (isS op [42] || isS op []) := by unfold rightOpB; simp
    rw [e]
    exact rightOp_12 pl num name op ad len cap w
  by_cases h33 : kind = 33
  · subst h33
    have e : rightOpB ⟨33, pl, name, num, op⟩ = (isS op [42] || isS op []) := by unfold rightOpB; simp
    rw [e]
    exact rightOp_33 pl num name op ad len cap w
  by_cases h11 : kind = 11
  · subst h11
    have e : rightOpB ⟨11, pl, name, num, op⟩ = oneB op propL := by unfold rightOpB; simp
    rw [e]
    exact rightOp_11 pl num name op ad len cap w
  by_cases h16 : kind = 16
  · subst h16
    have e : rightOpB ⟨16, pl, name, num, op⟩ = oneB op unaryL := by unfold rightOpB; simp
    rw [e]
    exact rightOp_16 pl num name op ad len cap w
  by_cases h17 : kind = 17
  · subst h17
    have e : rightOpB ⟨17, pl, name, num, op⟩ = oneB op updateL := by unfold rightOpB; simp
    rw [e]
    exact rightOp_17 pl num name op ad len cap w
  by_cases h18 : kind = 18
  · subst h18
    have e : rightOpB ⟨18, pl, name, num, op⟩ = oneB op binaryPL := by unfold rightOpB; simp
    rw [e]
    exact rightOp_18 pl num name op ad len cap w
  by_cases h19 : kind = 19
  · subst h19
    have e : rightOpB ⟨19, pl, name, num, op⟩ = oneB op logicL := by unfold rightOpB; simp
    rw [e]
    exact rightOp_19 pl num name op ad len cap w
  by_cases h21 : kind = 21
  · subst h21
    have e : rightOpB ⟨21, pl, name, num, op⟩ = oneB op assignL := by unfold rightOpB; simp
    rw [e]
    exact rightOp_21 pl num name op ad len cap w
  by_cases h38 : kind = 38
  · subst h38
    have e : rightOpB ⟨38, pl, name, num, op⟩ = oneB op ofL := by unfold rightOpB; simp
    rw [e]
    exact rightOp_38 pl num name op ad len cap w
  have e : rightOpB ⟨kind, pl, name, num, op⟩ = true := by
    unfold rightOpB
    repeat rw [if_neg (by simp only; omega)]
  rw [e]
  exact rightOp_no kind pl num name op ad len cap w (by simpa using h12) (by simpa using h33) (by simpa using h11) (by simpa using h16) (by simpa using h17) (by simpa using h18) (by simpa using h19) (by simpa using h21) (by simpa using h38)
end Go.Proofs.Ytihmdcdifakepaa.Sc
