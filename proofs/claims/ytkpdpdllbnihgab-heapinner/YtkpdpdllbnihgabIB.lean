/- copied. -/
import Derived.Test.YtkpdpdllbnihgabHD
import Derived.Laws.CopyOwn
import Derived.OwnWalk
namespace Go.Proofs.Ytkpdpdllbnihgab.Hp
open Go.RowKit
set_option linter.unusedVariables false

theorem infoW : (Try.prog.info? 24).map (fun i => (i.zero, i.size, i.bytes)) = some (some (.int .u64 0), 1, 8) := by kernel_rfl

theorem wC_flat (xs : List Int) : (xs.flatMap wC).length = xs.length := by rw [flat_len rtW.len, Nat.mul_one]

set_option maxRecDepth 100000 in
set_option maxHeartbeats 1000000 in
theorem copied_any (w : World) (m : Sli Int) (hm : m.ok wC 1 w) (hl : m.xs.length ≤ 17592186044416) :
    Calls Try.prog 25 #[m.val] w fun e w' => ∃ s : SV, e = .returned s.val ∧ OwnR wC 1 24 w.heap.size w' s.val m.xs ∧ Below w.heap.size w w' := by
  obtain ⟨ad, cap, xs⟩ := m
  have hcells := hm.cells
  simp only at hcells hl
  obtain ⟨i0, hi, hz0, hz1, hz2⟩ := info_parts infoW
  obtain ⟨CS, hCS⟩ : ∃ CS, CS = xs.flatMap wC := ⟨_, rfl⟩
  have hcl : CS.length = xs.length := by rw [hCS]; exact wC_flat xs
  have HONE : Hid (∀ v ∈ CS, v.oneCell' = true) := fun v hv => by
    rw [hCS] at hv
    obtain ⟨g, g1, g2⟩ := List.mem_flatMap.1 hv
    exact rtW.one g v g2
  have HSRC : Hid (∀ W, Below w.heap.size w W → 0 < CS.length → ∃ a, ad = some a ∧ ∀ j v, CS[j]? = some v → W.cell? (a.add j) = some v) := fun W hW hp => by
    obtain ⟨b, off, e1, hc⟩ := hcells (by intro e; rw [hcl, e] at hp; simp at hp)
    refine ⟨⟨b, off, none⟩, e1, fun j v hj => ?_⟩
    rw [hCS] at hj
    exact cells_below hW _ _ (news_of (w := w) rtW.len hc j v hj)
  have HOWN : Hid (∀ (W : World) (cur : List Value), cur.length = xs.length → W.heap[w.heap.size]? = some (.cells (splice cur 0 CS).toArray 24 (0, 0)) → OwnR wC 1 24 w.heap.size W (.slice (some ⟨w.heap.size, 0, none⟩) xs.length xs.length) xs) := fun W cur hcur hW => by
    have hsp : splice cur 0 CS = CS := by
      unfold splice
      rw [List.take_zero, List.nil_append, Nat.zero_add, List.drop_of_length_le (by omega), List.append_nil]
    rw [hsp] at hW
    refine ⟨by rw [wC_flat, Nat.mul_one], Or.inr ⟨w.heap.size, xs.length, CS.toArray, rfl, Nat.le_refl _, hW, Nat.le_refl _, by unfold maxLen; omega, by simp [hcl], ?_⟩⟩
    show CS.toArray.toList.take (xs.length * 1) = xs.flatMap wC
    rw [Nat.mul_one, List.take_of_length_le (by simp; omega), ← hCS]
  have hlim : (xs.length : Int) ≤ 9223372036854775807 := by omega
  have HL : Hid (xs.length ≤ 17592186044416) := hl
  have HSZ : Hid ((Try.prog.info? 24).map (·.size) = some 1) := by show _ = _; kernel_rfl
  have hmin : Nat.min xs.length xs.length = xs.length := Nat.min_self _
  have HCL : Hid (CS.length = xs.length) := hcl
  unfold Sli.val
  simp only
  generalize hn : xs.length = n at *
  clear hm hcells hCS hcl hl hn
  go_enter Try.func25, Try.ntmps25
  go_wp2_with (at_make; refine wpList_make_full _ rfl _ _ 22 rfl w.heap.size 24 i0 (.int .u64 0) 1 Try.underlying22 hi hz0 hz1 _ _ _ _ n rfl rfl rfl rfl ?m1 ?m2 (Nat.le_refl _) ?_)
  case m1 => rw [hz2]; have := HL.out; omega
  case m2 => have := HL.out; unfold maxLen; omega
  intro w1 hmade hg1
  have hB1 : Below w.heap.size w w1 := below_grown hg1
  rcases hmade.2 with ⟨h5, _⟩ | ⟨g, cp, cur, h5, hb5, hg5, hn5, hc5, hs5, ht5⟩
  · cases h5
  · injection h5 with e1 e2 e3
    injection e1 with e1
    injection e1 with e1
    subst e1 e3
    rw [Nat.mul_one] at hs5
    have HCUR : Hid (w1.heap[w.heap.size]? = some (.cells cur.toList.toArray 24 (0, 0))) := by
      show _ = _
      rw [hg5]
    have HCSZ : Hid (cur.toList.length = n) := by
      show _ = _
      rw [Array.length_toList]
      exact hs5
    have HB1 : Hid (Below w.heap.size w w1) := hB1
    clear hmade hg1 hb5 hg5 hn5 hc5 hs5 ht5 e2 hi hz0 hz1 hz2 hB1
    generalize cur.toList = cl at *
    go_wp2_with (refine wpList_copy_splice rfl _ _ 22 22 rfl 24 Try.underlying22 HSZ.out (some ⟨w.heap.size, 0, none⟩) ad n n n cap ?k1 ?k2 w.heap.size 0 cl 24 HCUR.out CS ?k3 ?k4 ?k5 HONE.out w.heap.size w HB1.out (Nat.le_refl _) ?_)
    case k3 => first | exact HCL.out | (rw [hmin]; exact HCL.out)
    case k4 => first | exact fun q => HSRC.out w1 HB1.out q | exact fun q => ⟨rfl, HSRC.out w1 HB1.out q⟩
    case k5 => rw [HCSZ.out, HCL.out]; omega
    intro w2 hw2 hB2
    have HO := (show Hid _ from HOWN.out w2 cl HCSZ.out hw2.out)
    have HB2 := (show Hid _ from hB2)
    clear hw2 hB2 HOWN HSRC HONE HCUR HCSZ
    go_wp2_with fail
    go_ret
    exact ⟨⟨some ⟨w.heap.size, 0, none⟩, n, n⟩, rfl, HO.out, HB2.out⟩

end Go.Proofs.Ytkpdpdllbnihgab.Hp
