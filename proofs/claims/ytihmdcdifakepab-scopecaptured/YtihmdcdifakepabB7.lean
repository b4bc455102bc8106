/- The program's grammar: letters. -/
import Derived.Test.YtihmdcdifakepabB6
import Derived.Shelf.Strings.Repeat
import Derived.Shelf.Slices.Turned
import Derived.Test.YtihmdcdifakepabProg
namespace Go.Proofs.Ytihmdcdifakepab.Sc
open Go.RowKit
set_option linter.unusedVariables false

theorem isExpr_any (k : Int) (w : World) : Calls Try.prog 38 #[.int .i64 k] w fun e w' => e = .returned (.bool (isExprB k)) ∧ w' = w := by
  by_cases h1 : 1 ≤ k
  · by_cases h2 : k ≤ 22
    · by_cases h3 : k = 11
      · subst h3
        go_enter Try.func38, Try.ntmps38
        go_wp2
        go_ret
        exact ⟨rfl, rfl⟩
      · have HE : Hid (isExprB k = true) := by show _ = _; unfold isExprB; simp [h1, h2, h3]
        have h3' : (k != 11) = true := by simpa using h3
        go_enter Try.func38, Try.ntmps38
        go_wp2
        go_ret
        rw [HE.out]
        exact ⟨rfl, rfl⟩
    · have HE : Hid (isExprB k = false) := by show _ = _; unfold isExprB; simp [h2]
      have h2' : decide (k ≤ 22) = false := by simpa using h2
      go_enter Try.func38, Try.ntmps38
      go_wp2
      go_ret
      rw [HE.out]
      exact ⟨rfl, rfl⟩
  · have HE : Hid (isExprB k = false) := by show _ = _; unfold isExprB; simp [h1]
    have h1' : decide (1 ≤ k) = false := by simpa using h1
    go_enter Try.func38, Try.ntmps38
    go_wp2
    go_ret
    rw [HE.out]
    exact ⟨rfl, rfl⟩

theorem isStmt_any (k : Int) (w : World) : Calls Try.prog 39 #[.int .i64 k] w fun e w' => e = .returned (.bool (isStmtB k)) ∧ w' = w := by
  by_cases h1 : 34 ≤ k
  · by_cases h2 : k ≤ 46
    · have HE : Hid (isStmtB k = true) := by show _ = _; unfold isStmtB; simp [h1, h2]
      go_enter Try.func39, Try.ntmps39
      go_wp2
      go_ret
      rw [HE.out]
      exact ⟨rfl, rfl⟩
    · have HE : Hid (isStmtB k = false) := by show _ = _; unfold isStmtB; simp [h2]
      have h2' : decide (k ≤ 46) = false := by simpa using h2
      go_enter Try.func39, Try.ntmps39
      go_wp2
      go_ret
      rw [HE.out]
      exact ⟨rfl, rfl⟩
  · have HE : Hid (isStmtB k = false) := by show _ = _; unfold isStmtB; simp [h1]
    have h1' : decide (34 ≤ k) = false := by simpa using h1
    go_enter Try.func39, Try.ntmps39
    go_wp2
    go_ret
    rw [HE.out]
    exact ⟨rfl, rfl⟩

def letters : List UInt8 := [101, 69, 103, 115, 83, 105, 98, 66, 112, 110]

theorem mayLack_any (p : UInt8) (hp : p ∈ letters) (w : World) : Calls Try.prog 26 #[.int .u8 p.toNat] w fun e w' => e = .returned (.bool (mayLackB p)) ∧ w' = w := by
  simp only [letters, List.mem_cons, List.not_mem_nil, or_false] at hp
  rcases hp with rfl | rfl | rfl | rfl | rfl | rfl | rfl | rfl | rfl | rfl
  all_goals
    go_enter Try.func26, Try.ntmps26
    go_wp2
    go_ret
    exact ⟨rfl, rfl⟩

set_option maxRecDepth 100000 in
theorem isPart_any (p : UInt8) (hp : p ∈ letters) (k : Int) (w : World) : Calls Try.prog 27 #[.int .u8 p.toNat, .int .i64 k] w fun e w' => e = .returned (.bool (isPartB p k)) ∧ w' = w := by
  obtain ⟨A, hA⟩ : ∃ A, A = isPartB p k := ⟨_, rfl⟩
  rw [← hA]
  have HA : Hid (A = isPartB p k) := hA
  clear hA
  have e1 := isExpr_any k w
  have e2 := isStmt_any k w
  obtain ⟨E, hE⟩ : ∃ E, E = isExprB k := ⟨_, rfl⟩
  obtain ⟨S, hS⟩ : ∃ S, S = isStmtB k := ⟨_, rfl⟩
  rw [← hE] at e1
  rw [← hS] at e2
  have HE : Hid (E = isExprB k ∧ S = isStmtB k) := ⟨hE, hS⟩
  clear hE hS
  simp only [letters, List.mem_cons, List.not_mem_nil, or_false] at hp
  rcases hp with rfl | rfl | rfl | rfl | rfl | rfl | rfl | rfl | rfl | rfl
  · go_enter Try.func27, Try.ntmps27
    go_wp2_with fail
    refine e1.mono ?_
    rintro e w1 ⟨rfl, rfl⟩
    go_wp2_with fail
    go_ret
    exact ⟨by rw [HA.out, HE.out.1]; rfl, rfl⟩
  · go_enter Try.func27, Try.ntmps27
    go_wp2_with fail
    refine e1.mono ?_
    rintro e w1 ⟨rfl, rfl⟩
    go_wp2_with fail
    go_ret
    exact ⟨by rw [HA.out, HE.out.1]; rfl, rfl⟩
  · by_cases k3 : k = 3
    · subst k3
      go_enter Try.func27, Try.ntmps27
      go_wp2_with fail
      go_ret
      exact ⟨by rw [HA.out]; rfl, rfl⟩
    · have k3' : (k == 3) = false := by simpa using k3
      have HK : Hid (isPartB 103 k = (k == 13)) := by show _ = _; unfold isPartB; simp [k3]
      clear k3
      go_enter Try.func27, Try.ntmps27
      go_wp2_with fail
      go_ret
      exact ⟨by rw [HA.out, HK.out]; rfl, rfl⟩
  · go_enter Try.func27, Try.ntmps27
    go_wp2_with fail
    refine e2.mono ?_
    rintro e w1 ⟨rfl, rfl⟩
    go_wp2_with fail
    go_ret
    exact ⟨by rw [HA.out, HE.out.2]; rfl, rfl⟩
  · go_enter Try.func27, Try.ntmps27
    go_wp2_with fail
    refine e2.mono ?_
    rintro e w1 ⟨rfl, rfl⟩
    go_wp2_with fail
    go_ret
    exact ⟨by rw [HA.out, HE.out.2]; rfl, rfl⟩
  · have HK : Hid (isPartB 105 k = (isStmtB k || k == 31 || k == 32 || k == 33)) := rfl
    by_cases k1 : k = 31
    · subst k1
      cases S
      all_goals
        go_enter Try.func27, Try.ntmps27
        go_wp2_with fail
        refine e2.mono ?_
        rintro e w1 ⟨rfl, rfl⟩
        go_wp2_with fail
        go_ret
        exact ⟨by rw [HA.out]; rfl, rfl⟩
    by_cases k2 : k = 32
    · subst k2
      cases S
      all_goals
        go_enter Try.func27, Try.ntmps27
        go_wp2_with fail
        refine e2.mono ?_
        rintro e w1 ⟨rfl, rfl⟩
        go_wp2_with fail
        go_ret
        exact ⟨by rw [HA.out]; rfl, rfl⟩
    have k1' : (k == 31) = false := by simpa using k1
    have k2' : (k == 32) = false := by simpa using k2
    have HK2 : Hid (isPartB 105 k = (isStmtB k || k == 33)) := by show _ = _; rw [HK.out, k1', k2']; simp
    clear k1 k2
    cases hs : S
    · have HS2 : Hid (isPartB 105 k = (k == 33)) := by show _ = _; rw [HK2.out, ← HE.out.2, hs]; simp
      rw [hs] at e2
      go_enter Try.func27, Try.ntmps27
      go_wp2_with fail
      refine e2.mono ?_
      rintro e w1 ⟨rfl, rfl⟩
      go_wp2_with fail
      go_ret
      exact ⟨by rw [HA.out, HS2.out]; rfl, rfl⟩
    · have HS2 : Hid (isPartB 105 k = true) := by show _ = _; rw [HK2.out, ← HE.out.2, hs]; simp
      rw [hs] at e2
      go_enter Try.func27, Try.ntmps27
      go_wp2_with fail
      refine e2.mono ?_
      rintro e w1 ⟨rfl, rfl⟩
      go_wp2_with fail
      go_ret
      exact ⟨by rw [HA.out, HS2.out]; rfl, rfl⟩
  all_goals
    go_enter Try.func27, Try.ntmps27
    go_wp2_with fail
    go_ret
    exact ⟨by rw [HA.out]; rfl, rfl⟩
end Go.Proofs.Ytihmdcdifakepab.Sc

/- The program's grammar: what a node is. -/
namespace Go.Proofs.Ytihmdcdifakepab.Sc
open Go.RowKit
set_option linter.unusedVariables false

section
variable (x : Nd) (ad : Option Addr) (len cap : Nat) (w : World)
abbrev ndA (x : Nd) (ad : Option Addr) (len cap : Nat) : Value := .agg #[.int .i64 x.kind, .int .i64 x.pl, .string x.name, .int .u64 x.num, .string x.op, .slice ad len cap]

set_option maxRecDepth 100000 in
theorem self_any : Calls Try.prog 37 #[ndA x ad len cap] w fun e w' => e = .returned (.bool (selfB x)) ∧ Below w.heap.size w w' := by
  obtain ⟨kind, pl, name, num, op⟩ := x
  unfold ndA selfB isS
  simp only
  by_cases h : kind = 12
  · subst h
    cases hn : (name.toList == [])
    · go_enter Try.func37, Try.ntmps37
      go_wp2_with fail
      go_ret
      exact ⟨rfl, (Below.refl _ _).alloc (Nat.le_refl _) _⟩
    · go_enter Try.func37, Try.ntmps37
      go_wp2_with fail
      go_ret
      exact ⟨rfl, (Below.refl _ _).alloc (Nat.le_refl _) _⟩
  · have h' : (kind == 12) = false := by simpa using h
    rw [h']
    go_enter Try.func37, Try.ntmps37
    go_wp2_with fail
    go_ret
    exact ⟨rfl, (Below.refl _ _).alloc (Nat.le_refl _) _⟩

set_option maxRecDepth 100000 in
theorem isFn_any : Calls Try.prog 17 #[ndA x ad len cap] w fun e w' => e = .returned (.bool (isFnB x)) ∧ Below w.heap.size w w' := by
  obtain ⟨kind, pl, name, num, op⟩ := x
  unfold ndA isFnB
  simp only
  by_cases h : kind = 12
  · subst h
    go_enter Try.func17, Try.ntmps17
    go_wp2_with fail
    go_ret
    exact ⟨rfl, (Below.refl _ _).alloc (Nat.le_refl _) _⟩
  · have h' : (kind == 12) = false := by simpa using h
    rw [h', Bool.false_or]
    obtain ⟨q, hq⟩ : ∃ q, q = (kind == 33) := ⟨_, rfl⟩
    have HQ : Hid (q = (kind == 33)) := hq
    rw [← hq]
    clear hq h
    go_enter Try.func17, Try.ntmps17
    go_wp2_with fail
    go_ret
    rw [HQ.out]
    exact ⟨rfl, (Below.refl _ _).alloc (Nat.le_refl _) _⟩
end

/-- the kinds of two kids, where they are -/
def Two (W0 : World) (ad : Option Addr) (len : Nat) (q1 q2 : Int) : Prop := 3 ≤ len ∧ ∃ b off, ad = some ⟨b, off, none⟩ ∧ ∀ w, Below W0.heap.size W0 w → w.cell? ⟨b, off + 6, none⟩ = some (.int .i64 q1) ∧ w.cell? ⟨b, off + 12, none⟩ = some (.int .i64 q2)

def declI (x : Nd) (q1 : Int) : Bool := if x.kind = 31 ∨ x.kind = 32 ∨ x.kind = 33 ∨ x.kind = 38 then true else if x.kind = 43 then q1 != 0 else selfB x

set_option maxRecDepth 100000 in
theorem declares_any (x : Nd) (ad : Option Addr) (len cap : Nat) (W0 w : World) (hb : Below W0.heap.size W0 w) (hl : len ≤ 2 ^ 63 - 1) (q1 q2 : Int) (h2 : x.kind = 43 → Two W0 ad len q1 q2) :
    Calls Try.prog 25 #[ndA x ad len cap] w fun e w' => e = .returned (.bool (declI x q1)) ∧ Below w.heap.size w w' := by
  obtain ⟨wb, hwb⟩ : ∃ wb, wb = w.alloc (.cells #[.int .i64 x.kind, .int .i64 x.pl, .string x.name, .int .u64 x.num, .string x.op, .slice ad len cap] 25) := ⟨_, rfl⟩
  have hB : Below w.heap.size w wb := by rw [hwb]; exact (Below.refl _ _).alloc (Nat.le_refl _) _
  have hbox : ∀ i v, (#[.int .i64 x.kind, .int .i64 x.pl, .string x.name, .int .u64 x.num, .string x.op, .slice ad len cap] : Array Value)[i]? = some v → wb.cell? ⟨w.heap.size, i, none⟩ = some v := by rw [hwb]; exact box_new w _ _
  have hself := self_any x ad len cap wb
  obtain ⟨sv, hsv⟩ : ∃ sv, sv = selfB x := ⟨_, rfl⟩
  rw [← hsv] at hself
  obtain ⟨D, hD⟩ : ∃ D, D = declI x q1 := ⟨_, rfl⟩
  rw [← hD]
  unfold declI at hD
  rw [← hsv] at hD
  clear hsv
  obtain ⟨kind, pl, name, num, op⟩ := x
  unfold ndA at hself ⊢
  simp only at hself hD h2 hbox hwb ⊢
  have b0 : wb.cell? ⟨w.heap.size, 0, none⟩ = some (.int .i64 kind) := hbox 0 _ rfl
  have b1 : wb.cell? ⟨w.heap.size, 1, none⟩ = some (.int .i64 pl) := hbox 1 _ rfl
  have b2 : wb.cell? ⟨w.heap.size, 2, none⟩ = some (.string name) := hbox 2 _ rfl
  have b3 : wb.cell? ⟨w.heap.size, 3, none⟩ = some (.int .u64 num) := hbox 3 _ rfl
  have b4 : wb.cell? ⟨w.heap.size, 4, none⟩ = some (.string op) := hbox 4 _ rfl
  have b5 : wb.cell? ⟨w.heap.size, 5, none⟩ = some (.slice ad len cap) := hbox 5 _ rfl
  have HB : Hid (Below w.heap.size w wb) := hB
  have HW : Hid (Below W0.heap.size W0 wb) := hb.trans (hB.mono hb.size)
  clear hB hbox hb
  by_cases h31 : kind = 31 ∨ kind = 32 ∨ kind = 33 ∨ kind = 38
  · rw [if_pos h31] at hD
    rw [hD]
    rcases h31 with rfl | rfl | rfl | rfl
    all_goals
      go_enter Try.func25, Try.ntmps25
      go_upto_region 1 with fail
      rw [← hwb]
      clear hwb
      go_wp2_with fail
      go_ret
      exact ⟨rfl, HB.out⟩
  · rw [if_neg h31] at hD
    by_cases h43 : kind = 43
    · rw [if_pos h43] at hD
      rw [hD]
      obtain ⟨hl3, b, off, rfl, hc⟩ := h2 h43
      have z1 := (hc wb HW.out).1
      subst h43
      clear h2 hc
      have lt1 : 1 < len := by omega
      go_enter Try.func25, Try.ntmps25
      go_upto_region 1 with fail
      rw [← hwb]
      clear hwb
      go_wp2_with fail
      go_ret
      exact ⟨rfl, HB.out⟩
    · rw [if_neg h43] at hD
      rw [hD]
      have n1 : (kind == 31) = false := by simp; omega
      have n2 : (kind == 32) = false := by simp; omega
      have n3 : (kind == 33) = false := by simp; omega
      have n4 : (kind == 38) = false := by simp; omega
      have n5 : (kind == 43) = false := by simp; omega
      clear h2 h31 h43
      go_enter Try.func25, Try.ntmps25
      go_upto_region 1 with fail
      rw [← hwb]
      clear hwb
      go_wp2_with fail
      refine hself.mono ?_
      rintro e w2 ⟨rfl, hb2⟩
      have HB2 : Hid (Below w.heap.size w w2) := HB.out.trans (hb2.mono HB.out.size)
      clear hb2 hself
      go_wp2_with fail
      go_ret
      exact ⟨rfl, HB2.out⟩
end Go.Proofs.Ytihmdcdifakepab.Sc

/-
  DERIVED: THE SHELF's CONTRACTS AT THIS DUMP, IN PLAIN WORDS (tools/lay-plain.mjs out of 'YtihmdcdifakepabShelfR.lean', which tools/lay-shelf.mjs wrote): THE SAME DECLARATIONS UNDER THE SAME NAMES: 'import', 'namespace', 'open', 'def', 'theorem' AND NOTHING ELSE: no command of the shelf's: FOR A HAND-IN. Each laying: the table of numbers ('.._ren') and one theorem, a field a fact of the dump's own or the kernel's comparison; each contract: ONE APPLICATION.
-/
namespace Go.Proofs
open Go.Shelf
def Try.lays105_ren : Go.Shelf.Ren := ⟨fun | 105 => 22 | 212 => 30 | 99 => 31 | 165 => 32 | 166 => 33 | 170 => 34 | 169 => 35 | 263 => 43 | 264 => 44 | 206 => 45 | 240 => 46 | 241 => 47 | 276 => 58 | 277 => 59 | n => n, fun | 9 => 9 | 3 => 3 | 4 => 4 | 20 => 20 | 0 => 0 | 46 => 78 | 109 => 79 | 5 => 5 | 72 => 85 | 76 => 89 | 51 => 102 | 146 => 103 | 53 => 22 | 148 => 105 | 70 => 82 | 37 => 83 | 75 => 88 | 127 => 107 | 164 => 110 | 80 => 92 | n => n, fun | n => n⟩
theorem Try.lays105 : Go.Proofs.Lays.n105 Try.prog Try.lays105_ren := {
  mixed := by kernel_rfl
  f99 := Try.func31.trans (congrArg some (by kernel_rfl))
  f105 := Try.func22.trans (congrArg some (by kernel_rfl))
  f165 := Try.func32.trans (congrArg some (by kernel_rfl))
  f166 := Try.func33.trans (congrArg some (by kernel_rfl))
  f169 := Try.func35.trans (congrArg some (by kernel_rfl))
  f170 := Try.func34.trans (congrArg some (by kernel_rfl))
  f206 := Try.func45.trans (congrArg some (by kernel_rfl))
  f212 := Try.func30.trans (congrArg some (by kernel_rfl))
  f240 := Try.func46.trans (congrArg some (by kernel_rfl))
  f241 := Try.func47.trans (congrArg some (by kernel_rfl))
  f263 := Try.func43.trans (congrArg some (by kernel_rfl))
  f264 := Try.func44.trans (congrArg some (by kernel_rfl))
  f276 := Try.func58.trans (congrArg some (by kernel_rfl))
  f277 := Try.func59.trans (congrArg some (by kernel_rfl))
  t0 := Try.underlying0
  a0 := Try.isAgg0
  z0 := Try.sizeOf0
  v0 := Try.zeroValue0
  t3 := Try.underlying3
  a3 := Try.isAgg3
  z3 := Try.sizeOf3
  v3 := Try.zeroValue3
  t4 := Try.underlying4
  a4 := Try.isAgg4
  z4 := Try.sizeOf4
  v4 := Try.zeroValue4
  t5 := Try.underlying5
  a5 := Try.isAgg5
  z5 := Try.sizeOf5
  v5 := Try.zeroValue5
  t9 := Try.underlying9
  a9 := Try.isAgg9
  z9 := Try.sizeOf9
  v9 := Try.zeroValue9
  t20 := Try.underlying20
  a20 := Try.isAgg20
  z20 := Try.sizeOf20
  v20 := Try.zeroValue20
  t37 := Try.underlying83
  a37 := Try.isAgg83
  z37 := Try.sizeOf83
  v37 := Try.zeroValue83
  t46 := Try.underlying78
  a46 := Try.isAgg78
  z46 := Try.sizeOf78
  v46 := Try.zeroValue78
  t51 := Try.underlying102
  a51 := Try.isAgg102
  z51 := Try.sizeOf102
  v51 := Try.zeroValue102
  t53 := Try.underlying22
  a53 := Try.isAgg22
  z53 := Try.sizeOf22
  v53 := Try.zeroValue22
  t70 := Try.underlying82
  a70 := Try.isAgg82
  z70 := Try.sizeOf82
  v70 := Try.zeroValue82
  t72 := Try.underlying85
  a72 := Try.isAgg85
  z72 := Try.sizeOf85
  v72 := Try.zeroValue85
  t75 := Try.underlying88
  a75 := Try.isAgg88
  z75 := Try.sizeOf88
  v75 := Try.zeroValue88
  t76 := Try.underlying89
  a76 := Try.isAgg89
  z76 := Try.sizeOf89
  v76 := Try.zeroValue89
  t109 := Try.underlying79
  a109 := Try.isAgg79
  z109 := Try.sizeOf79
  v109 := Try.zeroValue79
  t127 := Try.underlying107
  a127 := Try.isAgg107
  z127 := Try.sizeOf107
  v127 := Try.zeroValue107
  t146 := Try.underlying103
  a146 := Try.isAgg103
  z146 := Try.sizeOf103
  v146 := Try.zeroValue103
  t148 := Try.underlying105
  a148 := Try.isAgg105
  z148 := Try.sizeOf105
  v148 := Try.zeroValue105
  t164 := Try.underlying110
  a164 := Try.isAgg110
  z164 := Try.sizeOf110
  v164 := Try.zeroValue110 }
theorem Try.Builder_Extra_105 : Builder.Extra Try.prog Try.lays105_ren := {
  sizeBuilder := by kernel_rfl
  liesBuilder := by kernel_rfl
  t5 := Try.underlying5
  a5 := Try.isAgg5
  z5 := Try.sizeOf5
  v5 := Try.zeroValue5
  infoByte := by kernel_rfl
  cellsByte := by kernel_rfl
  sizeByte := by kernel_rfl
  neB5 := by decide }
open Go.RowKit Go.Lib in
/-- **strings.Repeat: count ≥ 0, the result within one allocation: count copies of s.** (LAID: no walk: one application.) -/
theorem Try.strings_Repeat (s : ByteArray) (c : Nat) (w : World) (hc : c ≤ 9223372036854775807) (hlen : s.size * c ≤ 140737488355328) :
    Calls Try.prog 22 #[.string s, .int .i64 c] w fun e w' => e = .returned (.string ⟨(Lib.repeatL s.data.toList c).toArray⟩) ∧ Below w.heap.size w w' := Any.strings_Repeat Try.lays105 Try.Builder_Extra_105 s c w hc hlen
def Try.lays109_ren : Go.Shelf.Ren := ⟨fun | 109 => 48 | n => n, fun | 31 => 56 | 9 => 9 | 3 => 3 | 0 => 0 | 4 => 4 | n => n, fun | n => n⟩
theorem Try.lays109 : Go.Proofs.Lays.n109 Try.prog Try.lays109_ren := {
  mixed := by kernel_rfl
  f109 := Try.func48.trans (congrArg some (by kernel_rfl))
  t0 := Try.underlying0
  a0 := Try.isAgg0
  z0 := Try.sizeOf0
  v0 := Try.zeroValue0
  t3 := Try.underlying3
  a3 := Try.isAgg3
  z3 := Try.sizeOf3
  v3 := Try.zeroValue3
  t4 := Try.underlying4
  a4 := Try.isAgg4
  z4 := Try.sizeOf4
  v4 := Try.zeroValue4
  t9 := Try.underlying9
  a9 := Try.isAgg9
  z9 := Try.sizeOf9
  v9 := Try.zeroValue9
  t31 := Try.underlying56
  a31 := Try.isAgg56
  z31 := Try.sizeOf56
  v31 := Try.zeroValue56 }
open Go.Lib in
/-- slices.Index at []string: "Index returns the index of the first occurrence of v in s, or -1 if not present.": IT RETURNS 'Lib.idxOfS (the elements) v'; the world is as it was. 'zs': what the cells behind the slice's address hold (its spare capacity too, if you have it); 'zs.take n': its elements. (LAID: no walk: one application.) -/
theorem Try.slices_Index_string (b off n c : Nat) (zs : List ByteArray) (x : ByteArray) (w : World) (hz : n ≤ zs.length) (hbig : n ≤ 9223372036854775807) (hc : ∀ j, j < zs.length → w.cell? ⟨b, off + j, none⟩ = some (.string (zs.getD j ByteArray.empty))) :
    Calls Try.prog 48 #[.slice (some ⟨b, off, none⟩) n c, .string x] w fun e w' => e = .returned (.int .i64 (Lib.idxOfS (zs.take n) x)) ∧ w' = w := Any.slices_Index_string Try.lays109 b off n c zs x w hz hbig hc
def Try.lays110_ren : Go.Shelf.Ren := ⟨fun | 110 => 36 | 109 => 48 | n => n, fun | 31 => 56 | 9 => 9 | 4 => 4 | 3 => 3 | 0 => 0 | n => n, fun | n => n⟩
theorem Try.lays110 : Go.Proofs.Lays.n110 Try.prog Try.lays110_ren := {
  mixed := by kernel_rfl
  f109 := Try.func48.trans (congrArg some (by kernel_rfl))
  f110 := Try.func36.trans (congrArg some (by kernel_rfl))
  t0 := Try.underlying0
  a0 := Try.isAgg0
  z0 := Try.sizeOf0
  v0 := Try.zeroValue0
  t3 := Try.underlying3
  a3 := Try.isAgg3
  z3 := Try.sizeOf3
  v3 := Try.zeroValue3
  t4 := Try.underlying4
  a4 := Try.isAgg4
  z4 := Try.sizeOf4
  v4 := Try.zeroValue4
  t9 := Try.underlying9
  a9 := Try.isAgg9
  z9 := Try.sizeOf9
  v9 := Try.zeroValue9
  t31 := Try.underlying56
  a31 := Try.isAgg56
  z31 := Try.sizeOf56
  v31 := Try.zeroValue56 }
open Go.Lib in
/-- slices.Contains at []string: "Contains reports whether v is present in s.": IT RETURNS 'Lib.containsS (the elements) v', which is true just where v is among them ('Lib.containsS_iff'); the world is as it was. ITS CALLEE slices.Index IS MET BY ITS OWN CONTRACT OFF THE SHELF (lay that first): no loop is walked here. (LAID: no walk: one application.) -/
theorem Try.slices_Contains_string (b off n c : Nat) (zs : List ByteArray) (x : ByteArray) (w : World) (hz : n ≤ zs.length) (hbig : n ≤ 9223372036854775807) (hc : ∀ j, j < zs.length → w.cell? ⟨b, off + j, none⟩ = some (.string (zs.getD j ByteArray.empty))) :
    Calls Try.prog 36 #[.slice (some ⟨b, off, none⟩) n c, .string x] w fun e w' => e = .returned (.bool (Lib.containsS (zs.take n) x)) ∧ w' = w := Any.slices_Contains_string Try.lays110 b off n c zs x w hz hbig hc
end Go.Proofs
