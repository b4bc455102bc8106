/- Objects, made, at. -/
import Derived.Test.YtkpdpdllbnihgabHE
namespace Go.Proofs.Ytkpdpdllbnihgab.Hp
open Go.RowKit
set_option linter.unusedVariables false

section
variable {w : World} {B hb : Nat} {O S : Nat → Prop} {H : He} {M : HV} {tg : Nat → Nat}

set_option maxRecDepth 100000 in
theorem objects_at (h : HeapAt w B hb tg H M) : Calls Try.prog 17 #[.pointer (some ⟨hb, 0, none⟩)] w fun e w' => e = .returned (.int .i64 (H.obs.length : Int)) ∧ w' = w := by
  obtain ⟨c0, c1, c2, c3, c4, c5, fz⟩ := h.box
  obtain ⟨ad, cap, hv, h1, h2⟩ := h.vol
  rw [hv] at c2
  unfold SV.val at c2
  simp only at c2
  clear h hv h1 h2 fz
  go_enter Try.func17, Try.ntmps17
  go_wp2_with fail
  go_ret
  exact ⟨rfl, rfl⟩

set_option maxRecDepth 100000 in
theorem made_at (h : HeapAt w B hb tg H M) : Calls Try.prog 19 #[.pointer (some ⟨hb, 0, none⟩)] w fun e w' => e = .returned (.bool true) ∧ w' = w := by
  obtain ⟨c0, c1, c2, c3, c4, c5, fz⟩ := h.box
  have q51 : ∀ (w : World) (r : Option Nat), (binOp .eql 34 (.map r) (.map none)).run Try.prog w = .ok (.bool r.isNone) w := fun w r => run_eql_map_nil w _ _ _ r Try.underlying34
  clear h c0 c2 c3 c4 c5 fz
  go_enter Try.func19, Try.ntmps19
  go_wp2_with fail
  go_ret
  exact ⟨rfl, rfl⟩

/-- the object of a word -/
def obI (H : He) (o : Int) : Option Nat := if isT o 65530 = true ∧ payN o 65530 < (H.obs.length : Int) then some (payN o 65530).toNat else none

theorem obI_some {H : He} {o : Int} {i : Nat} (h : obI H o = some i) : isT o 65530 = true ∧ payN o 65530 = (i : Int) ∧ i < H.obs.length ∧ o = objW (i : Int) := by
  unfold obI at h
  split at h
  · rename_i c
    have := payN_bd o 65530
    have e : payN o 65530 = (i : Int) := by
      have := Option.some.inj h
      omega
    refine ⟨c.1, e, by omega, ?_⟩
    rw [obj_of o c.1, e]
  · cases h
theorem obI_none {H : He} {o : Int} (h : obI H o = none) (ht : isT o 65530 = true) : (H.obs.length : Int) ≤ payN o 65530 := by
  unfold obI at h
  split at h
  · cases h
  · rename_i c
    rcases Int.lt_or_le (payN o 65530) (H.obs.length : Int) with q | q
    · exact absurd ⟨ht, q⟩ c
    · exact q
theorem obI_of {H : He} {i : Nat} (hi : i < H.obs.length) (hl : H.obs.length ≤ 65536) : obI H (objW (i : Int)) = some i := by
  have h := isT_obj (i : Int) (by omega) (by omega)
  unfold obI
  rw [h.1, h.2, if_pos ⟨rfl, by omega⟩]
  simp

set_option maxRecDepth 100000 in
theorem at_hit (h : HeapAt w B hb tg H M) (o : Int) (o0 : 0 ≤ o) (o1 : o < 18446744073709551616) (i g cap : Nat) (hi : obI H o = some i) (hvo : M.vo = ⟨some ⟨g, 0, none⟩, H.obs.length, cap⟩) :
    Calls Try.prog 24 #[.pointer (some ⟨hb, 0, none⟩), .int .u64 o] w fun e w' => e = .returned (.pointer (some ⟨g, i * 12, none⟩)) ∧ w' = w := by
  obtain ⟨k1, k2, k3, k4⟩ := obI_some hi
  have c := isObject_any o w o0 o1
  rw [k1, k2] at c
  have ko := objects_at h
  obtain ⟨c0, c1, c2, c3, c4, c5, fz⟩ := h.box
  obtain ⟨ad, cap', hv, h1, h2⟩ := h.vol
  rw [hvo] at c2
  unfold SV.val at c2
  simp only at c2
  have hol := h.wf.ol
  have hil : (i : Int) < (H.obs.length : Int) := by omega
  have hlim : (H.obs.length : Int) ≤ 65536 := by omega
  generalize H.obs.length = n at *
  have hd : ¬ ((n : Int) ≤ (i : Int)) := by omega
  clear h hi k1 k2 k4 hv hvo fz c0 c1 c3 c4 c5 h1 h2 k3 hol
  go_enter Try.func24, Try.ntmps24
  go_wp2_with fail
  refine c.mono ?_
  rintro e w2 ⟨rfl, rfl⟩
  clear c
  go_wp2_with fail
  refine ko.mono ?_
  rintro e w2 ⟨rfl, rfl⟩
  clear ko
  go_wp2_with fail
  go_ret
  exact ⟨rfl, rfl⟩

set_option maxRecDepth 100000 in
theorem at_miss (h : HeapAt w B hb tg H M) (o : Int) (o0 : 0 ≤ o) (o1 : o < 18446744073709551616) (hi : obI H o = none) :
    Calls Try.prog 24 #[.pointer (some ⟨hb, 0, none⟩), .int .u64 o] w fun e w' => e = .returned (.pointer none) ∧ w' = w := by
  have c := isObject_any o w o0 o1
  have ko := objects_at h
  have hol := h.wf.ol
  have hbd := payN_bd o 65530
  cases ht : isT o 65530 with
  | false =>
    rw [ht] at c
    generalize payN o 65530 = x at *
    clear h hi ko hol ht
    go_enter Try.func24, Try.ntmps24
    go_wp2_with fail
    refine c.mono ?_
    rintro e w2 ⟨rfl, rfl⟩
    clear c
    go_wp2_with fail
    go_ret
    exact ⟨rfl, rfl⟩
  | true =>
    rw [ht] at c
    have hle := obI_none hi ht
    generalize payN o 65530 = x at *
    have hlim : (H.obs.length : Int) ≤ 65536 := by omega
    generalize H.obs.length = n at *
    clear h hi ht hol
    go_enter Try.func24, Try.ntmps24
    go_wp2_with fail
    refine c.mono ?_
    rintro e w2 ⟨rfl, rfl⟩
    clear c
    go_wp2_with fail
    refine ko.mono ?_
    rintro e w2 ⟨rfl, rfl⟩
    clear ko
    go_wp2_with fail
    go_ret
    exact ⟨rfl, rfl⟩

end

end Go.Proofs.Ytkpdpdllbnihgab.Hp
