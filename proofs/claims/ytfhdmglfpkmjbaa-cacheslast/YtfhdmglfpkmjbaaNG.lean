/- Caches: whether a number is in a list; the states of CachesFew. -/
import Derived.Test.YtfhdmglfpkmjbaaNF
namespace Go.Proofs.Ytfhdmglfpkmjbaa.Hp
open Go.RowKit
set_option linter.unusedVariables false
set_option linter.unusedSimpArgs false

def inB (l : List Int) (n : Int) : Bool := l.contains n
theorem in_step {l : List Int} {i : Nat} {x : Int} (n : Int) (hi : l[i]? = some x) : inB (l.take (i + 1)) n = (inB (l.take i) n || x == n) := by
  unfold inB
  rw [take_at l i x hi]
  by_cases c : x = n
  · subst c; simp
  · have h2 : n ≠ x := fun q => c q.symm
    simp [c, h2]
theorem in_hit {l : List Int} {i : Nat} {n : Int} (hi : l[i]? = some n) : inB l n = true := by
  unfold inB
  simpa using List.mem_of_getElem? hi

set_option maxRecDepth 100000 in
set_option maxHeartbeats 1000000 in
theorem in_any (m : Sli Int) (n : Int) (w : World) (hm : m.ok iC 1 w) : Calls Try.prog 10 #[m.val, .int .i64 n] w fun e w' => e = .returned (.bool (inB m.xs n)) ∧ w' = w := by
  have HM : Hid (m.ok iC 1 w) := hm
  obtain ⟨ad, cp, l⟩ := m
  have hlim : (l.length : Int) ≤ 9223372036854775807 := by have := hm.len; have := hm.cap; unfold maxLen at this; simp only at *; omega
  unfold Sli.val
  simp only
  obtain ⟨R, hR⟩ : ∃ R, R = inB l n := ⟨_, rfl⟩
  have HR : Hid (R = inB l n) := hR
  rw [← hR]
  clear hm hR
  go_enter Try.func10, Try.ntmps10
  go_wp2_with fail
  go_loopw [5] (fun p wr => ∃ i : Nat, i ≤ l.length ∧ Hid (inB (l.take i) n = false) ∧ p = .int .i64 (i : Int) ∧ wr = w) (fun p wr => ((l.length : Int) - intOf p).toNat)
  case atStart => exact ⟨0, Nat.zero_le _, rfl, rfl, rfl⟩
  case round =>
    obtain ⟨i, hi, hno, rfl, rfl⟩ := hrel
    by_cases c : i < l.length
    · have hex : ∃ x, l[i]? = some x := ⟨_, List.getElem?_eq_getElem c⟩
      obtain ⟨x, hx⟩ := hex
      obtain ⟨b, off, hb1, hcc⟩ := HM.out.cells (by intro q; simp only at q; rw [q] at hx; simp at hx)
      simp only at hb1
      subst hb1
      have c0 := hcc i x hx 0 _ rfl
      simp only [Nat.mul_one, Nat.add_zero] at c0
      have hii : (i : Int) < (l.length : Int) := by omega
      have hii2 : decide ((i : Int) < (l.length : Int)) = true := decide_eq_true hii
      have hw1 : IntKind.i64.wrap ((i : Int) + 1) = ((i + 1 : Nat) : Int) := by rw [IntKind.wrap_i64]; omega
      have HS : Hid (inB (l.take (i + 1)) n = (inB (l.take i) n || x == n)) := in_step n hx
      have HX : Hid (l[i]? = some x) := hx
      have HI : Hid (i < l.length) := c
      clear hcc hx
      by_cases cx : x = n
      · subst cx
        have HT : Hid (inB l x = true) := in_hit HX.out
        go_wp2_with fail
        go_ret
        rw [HR.out, HT.out]
        exact ⟨rfl, rfl⟩
      · have hne : (x == n) = false := by simpa using cx
        have HN : Hid (inB (l.take (i + 1)) n = false) := by
          show _ = _
          rw [HS.out, hno.out, hne]
          rfl
        clear HS hno
        go_wp2_with fail
        refine ⟨⟨i + 1, HI.out, HN, rfl, trivial⟩, ?_⟩
        have := HI.out
        simp [intOf]
        omega
    · have hii2 : ¬ ((i : Int) < (l.length : Int)) := by omega
      have hil : i = l.length := by omega
      subst hil
      rw [List.take_length] at hno
      clear HM
      go_wp2_with fail
      go_ret
      rw [HR.out, hno.out]
      exact ⟨rfl, rfl⟩
end Go.Proofs.Ytfhdmglfpkmjbaa.Hp
