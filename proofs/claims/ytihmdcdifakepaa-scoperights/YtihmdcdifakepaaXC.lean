/- The program's grammar: what a node is. -/
import Derived.Test.YtihmdcdifakepaaXB
namespace Go.Proofs.Ytihmdcdifakepaa.Sc
open Go.RowKit
set_option linter.unusedVariables false

section
variable (x : Nd) (ad : Option Addr) (len cap : Nat) (w : World)
abbrev ndA (x : Nd) (ad : Option Addr) (len cap : Nat) : Value := .agg #[.int .i64 x.kind, .int .i64 x.pl, .string x.name, .int .u64 x.num, .string x.op, .slice ad len cap]

set_option maxRecDepth 100000 in
theorem self_any : Calls Try.prog 61 #[ndA x ad len cap] w fun e w' => e = .returned (.bool (selfB x)) ∧ Below w.heap.size w w' := by
  obtain ⟨kind, pl, name, num, op⟩ := x
  unfold ndA selfB isS
  simp only
  by_cases h : kind = 12
  · subst h
    cases hn : (name.toList == [])
    · go_enter Try.func61, Try.ntmps61
      go_wp2_with fail
      go_ret
      exact ⟨rfl, (Below.refl _ _).alloc (Nat.le_refl _) _⟩
    · go_enter Try.func61, Try.ntmps61
      go_wp2_with fail
      go_ret
      exact ⟨rfl, (Below.refl _ _).alloc (Nat.le_refl _) _⟩
  · have h' : (kind == 12) = false := by simpa using h
    rw [h']
    go_enter Try.func61, Try.ntmps61
    go_wp2_with fail
    go_ret
    exact ⟨rfl, (Below.refl _ _).alloc (Nat.le_refl _) _⟩

set_option maxRecDepth 100000 in
theorem isFn_any : Calls Try.prog 29 #[ndA x ad len cap] w fun e w' => e = .returned (.bool (isFnB x)) ∧ Below w.heap.size w w' := by
  obtain ⟨kind, pl, name, num, op⟩ := x
  unfold ndA isFnB
  simp only
  by_cases h : kind = 12
  · subst h
    go_enter Try.func29, Try.ntmps29
    go_wp2_with fail
    go_ret
    exact ⟨rfl, (Below.refl _ _).alloc (Nat.le_refl _) _⟩
  · have h' : (kind == 12) = false := by simpa using h
    rw [h', Bool.false_or]
    obtain ⟨q, hq⟩ : ∃ q, q = (kind == 33) := ⟨_, rfl⟩
    have HQ : Hid (q = (kind == 33)) := hq
    rw [← hq]
    clear hq h
    go_enter Try.func29, Try.ntmps29
    go_wp2_with fail
    go_ret
    rw [HQ.out]
    exact ⟨rfl, (Below.refl _ _).alloc (Nat.le_refl _) _⟩
end

/-- the kinds of two kids, where they are -/
def Two (W0 : World) (ad : Option Addr) (len : Nat) (q1 q2 : Int) : Prop := 3 ≤ len ∧ ∃ b off, ad = some ⟨b, off, none⟩ ∧ ∀ w, Below W0.heap.size W0 w → w.cell? ⟨b, off + 6, none⟩ = some (.int .i64 q1) ∧ w.cell? ⟨b, off + 12, none⟩ = some (.int .i64 q2)

def declI (x : Nd) (q1 : Int) : Bool := if x.kind = 31 ∨ x.kind = 32 ∨ x.kind = 33 ∨ x.kind = 38 then true else if x.kind = 43 then q1 != 0 else selfB x

set_option maxRecDepth 100000 in
theorem declares_any (x : Nd) (ad : Option Addr) (len cap : Nat) (W0 w : World) (hb : Below W0.heap.size W0 w) (hl : len ≤ 2 ^ 63 - 1) (q1 q2 : Int) (h2 : x.kind = 43 → Two W0 ad len q1 q2) :
    Calls Try.prog 40 #[ndA x ad len cap] w fun e w' => e = .returned (.bool (declI x q1)) ∧ Below w.heap.size w w' := by
  obtain ⟨wb, hwb⟩ : ∃ wb, wb = w.alloc (.cells #[.int .i64 x.kind, .int .i64 x.pl, .string x.name, .int .u64 x.num, .string x.op, .slice ad len cap] 25) := ⟨_, rfl⟩
  have hB : Below w.heap.size w wb := by rw [hwb]; exact (Below.refl _ _).alloc (Nat.le_refl _) _
  have hbox : ∀ i v, (#[.int .i64 x.kind, .int .i64 x.pl, .string x.name, .int .u64 x.num, .string x.op, .slice ad len cap] : Array Value)[i]? = some v → wb.cell? ⟨w.heap.size, i, none⟩ = some v := by rw [hwb]; exact box_new w _ _
  have hself := self_any x ad len cap wb
  obtain ⟨sv, hsv⟩ : ∃ sv, sv = selfB x := ⟨_, rfl⟩
  rw [← hsv] at hself
  obtain ⟨D, hD⟩ : ∃ D, D = declI x q1 := ⟨_, rfl⟩
  rw [← hD]
  unfold declI at hD
  rw [← hsv] at hD
  clear hsv
  obtain ⟨kind, pl, name, num, op⟩ := x
  unfold ndA at hself ⊢
  simp only at hself hD h2 hbox hwb ⊢
  have b0 : wb.cell? ⟨w.heap.size, 0, none⟩ = some (.int .i64 kind) := hbox 0 _ rfl
  have b1 : wb.cell? ⟨w.heap.size, 1, none⟩ = some (.int .i64 pl) := hbox 1 _ rfl
  have b2 : wb.cell? ⟨w.heap.size, 2, none⟩ = some (.string name) := hbox 2 _ rfl
  have b3 : wb.cell? ⟨w.heap.size, 3, none⟩ = some (.int .u64 num) := hbox 3 _ rfl
  have b4 : wb.cell? ⟨w.heap.size, 4, none⟩ = some (.string op) := hbox 4 _ rfl
  have b5 : wb.cell? ⟨w.heap.size, 5, none⟩ = some (.slice ad len cap) := hbox 5 _ rfl
  have HB : Hid (Below w.heap.size w wb) := hB
  have HW : Hid (Below W0.heap.size W0 wb) := hb.trans (hB.mono hb.size)
  clear hB hbox hb
  by_cases h31 : kind = 31 ∨ kind = 32 ∨ kind = 33 ∨ kind = 38
  · rw [if_pos h31] at hD
    rw [hD]
    rcases h31 with rfl | rfl | rfl | rfl
    all_goals
      go_enter Try.func40, Try.ntmps40
      go_upto_region 1 with fail
      rw [← hwb]
      clear hwb
      go_wp2_with fail
      go_ret
      exact ⟨rfl, HB.out⟩
  · rw [if_neg h31] at hD
    by_cases h43 : kind = 43
    · rw [if_pos h43] at hD
      rw [hD]
      obtain ⟨hl3, b, off, rfl, hc⟩ := h2 h43
      have z1 := (hc wb HW.out).1
      subst h43
      clear h2 hc
      have lt1 : 1 < len := by omega
      go_enter Try.func40, Try.ntmps40
      go_upto_region 1 with fail
      rw [← hwb]
      clear hwb
      go_wp2_with fail
      go_ret
      exact ⟨rfl, HB.out⟩
    · rw [if_neg h43] at hD
      rw [hD]
      have n1 : (kind == 31) = false := by simp; omega
      have n2 : (kind == 32) = false := by simp; omega
      have n3 : (kind == 33) = false := by simp; omega
      have n4 : (kind == 38) = false := by simp; omega
      have n5 : (kind == 43) = false := by simp; omega
      clear h2 h31 h43
      go_enter Try.func40, Try.ntmps40
      go_upto_region 1 with fail
      rw [← hwb]
      clear hwb
      go_wp2_with fail
      refine hself.mono ?_
      rintro e w2 ⟨rfl, hb2⟩
      have HB2 : Hid (Below w.heap.size w w2) := HB.out.trans (hb2.mono HB.out.size)
      clear hb2 hself
      go_wp2_with fail
      go_ret
      exact ⟨rfl, HB2.out⟩
end Go.Proofs.Ytihmdcdifakepaa.Sc
