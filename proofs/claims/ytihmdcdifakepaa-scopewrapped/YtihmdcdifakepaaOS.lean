/- Same: what is told twice is the same. -/
import Derived.Test.YtihmdcdifakepaaOR
import Derived.Laws.StructEq
namespace Go.Proofs.Ytihmdcdifakepaa.Rv
open Go.RowKit Go.Proofs.Ytihmdcdifakepaa.Sc Go.Proofs.Ytihmdcdifakepaa.Rz
set_option linter.unusedVariables false
set_option linter.unusedSimpArgs false

theorem neq_scp (y : Rz.Scp) (w : World) : (Go.binOp .neq 42 (.agg #[.int .i64 y.pl, .int .i64 y.parent, .int .i64 (y.params : Int), .int .i64 (y.vars : Int)]) (.agg #[.int .i64 y.pl, .int .i64 y.parent, .int .i64 (y.params : Int), .int .i64 (y.vars : Int)])).run Try.prog w = .ok (.bool false) w := by
  have ht : Try.prog.underlying 42 = some (.struct (Try.prog.fieldsOf 42)) := by kernel_rfl
  have hp : Try.prog.stoodInHeld 42 = false := by kernel_rfl
  rw [run_neq_struct, run_equalIn_struct w 9999 42 _ _ ht hp]
  have hf : (Try.prog.fieldsOf 42).toList = [⟨"At", 3, 0, false, "", "", 0⟩, ⟨"Parent", 3, 1, false, "", "", 8⟩, ⟨"Params", 3, 2, false, "", "", 16⟩, ⟨"Vars", 3, 3, false, "", "", 24⟩] := by kernel_rfl
  rw [hf]
  simp [Op.eqFields, go_sem]
theorem neq_vr (y : Rz.Vr) (w : World) : (Go.binOp .neq 45 (.agg #[.string y.name, .int .i64 y.pl, .int .i64 y.kind, .int .i64 (y.fn : Int), .int .i64 (y.slot : Int), .bool y.cap]) (.agg #[.string y.name, .int .i64 y.pl, .int .i64 y.kind, .int .i64 (y.fn : Int), .int .i64 (y.slot : Int), .bool y.cap])).run Try.prog w = .ok (.bool false) w := by
  have ht : Try.prog.underlying 45 = some (.struct (Try.prog.fieldsOf 45)) := by kernel_rfl
  have hp : Try.prog.stoodInHeld 45 = false := by kernel_rfl
  rw [run_neq_struct, run_equalIn_struct w 9999 45 _ _ ht hp]
  have hf : (Try.prog.fieldsOf 45).toList = [⟨"Name", 9, 0, false, "", "", 0⟩, ⟨"At", 3, 1, false, "", "", 16⟩, ⟨"Kind", 3, 2, false, "", "", 24⟩, ⟨"Func", 3, 3, false, "", "", 32⟩, ⟨"Slot", 3, 4, false, "", "", 40⟩, ⟨"Captured", 4, 5, false, "", "", 48⟩] := by kernel_rfl
  rw [hf]
  simp [Op.eqFields, go_sem]
theorem neq_us (y : Rz.Us) (w : World) : (Go.binOp .neq 47 (.agg #[.int .i64 y.pl, .int .i64 y.var]) (.agg #[.int .i64 y.pl, .int .i64 y.var])).run Try.prog w = .ok (.bool false) w := by
  have ht : Try.prog.underlying 47 = some (.struct (Try.prog.fieldsOf 47)) := by kernel_rfl
  have hp : Try.prog.stoodInHeld 47 = false := by kernel_rfl
  rw [run_neq_struct, run_equalIn_struct w 9999 47 _ _ ht hp]
  have hf : (Try.prog.fieldsOf 47).toList = [⟨"At", 3, 0, false, "", "", 0⟩, ⟨"Var", 3, 1, false, "", "", 8⟩] := by kernel_rfl
  rw [hf]
  simp [Op.eqFields, go_sem]

set_option maxRecDepth 100000 in
set_option maxHeartbeats 8000000 in
theorem same_any (w : World) (B B' : Nat) (sc : List Rz.Scp) (vr : List Rz.Vr) (us : List Rz.Us) (v0 v1 v2 u0 u1 u2 : Value) (r0 : OwnR scpC 4 42 B w v0 sc) (r1 : OwnR vrC 6 45 B w v1 vr) (r2 : OwnR usC 2 47 B w v2 us) (s0 : OwnR scpC 4 42 B' w u0 sc) (s1 : OwnR vrC 6 45 B' w u1 vr) (s2 : OwnR usC 2 47 B' w u2 us) (m0 : sc.length ≤ 2000000) (m1 : vr.length ≤ 2000000) (m2 : us.length ≤ 2000000) :
    Calls Try.prog 18 #[.agg #[v0, v1, v2], .agg #[u0, u1, u2]] w fun e w' => e = .returned (.bool true) ∧ Below w.heap.size w w' := by
  obtain ⟨p0, q0, rfl⟩ := row_len r0
  obtain ⟨p1, q1, rfl⟩ := row_len r1
  obtain ⟨p2, q2, rfl⟩ := row_len r2
  obtain ⟨j0, l0, rfl⟩ := row_len s0
  obtain ⟨j1, l1, rfl⟩ := row_len s1
  obtain ⟨j2, l2, rfl⟩ := row_len s2
  obtain ⟨wb, hwb⟩ : ∃ wb, wb = (w.alloc (.cells #[.slice p0 sc.length q0, .slice p1 vr.length q1, .slice p2 us.length q2] 37)).alloc (.cells #[.slice j0 sc.length l0, .slice j1 vr.length l1, .slice j2 us.length l2] 37) := ⟨_, rfl⟩
  have hb : Below w.heap.size w wb := by rw [hwb]; exact ((Below.refl w.heap.size w).alloc (Nat.le_refl _) _).alloc (by simp) _
  have a0 : wb.cell? ⟨w.heap.size, 0, none⟩ = some (.slice p0 sc.length q0) := by rw [hwb]; simp [go_sem]
  have a1 : wb.cell? ⟨w.heap.size, 1, none⟩ = some (.slice p1 vr.length q1) := by rw [hwb]; simp [go_sem]
  have a2 : wb.cell? ⟨w.heap.size, 2, none⟩ = some (.slice p2 us.length q2) := by rw [hwb]; simp [go_sem]
  have b0 : wb.cell? ⟨w.heap.size + 1, 0, none⟩ = some (.slice j0 sc.length l0) := by rw [hwb]; simp [go_sem]
  have b1 : wb.cell? ⟨w.heap.size + 1, 1, none⟩ = some (.slice j1 vr.length l1) := by rw [hwb]; simp [go_sem]
  have b2 : wb.cell? ⟨w.heap.size + 1, 2, none⟩ = some (.slice j2 us.length l2) := by rw [hwb]; simp [go_sem]
  have HB : Hid (Below w.heap.size w wb) := hb
  have HA : Hid (wb.cell? ⟨w.heap.size, 0, none⟩ = some (.slice p0 sc.length q0) ∧ wb.cell? ⟨w.heap.size, 1, none⟩ = some (.slice p1 vr.length q1) ∧ wb.cell? ⟨w.heap.size, 2, none⟩ = some (.slice p2 us.length q2)) := ⟨a0, a1, a2⟩
  have HC : Hid (wb.cell? ⟨w.heap.size + 1, 0, none⟩ = some (.slice j0 sc.length l0) ∧ wb.cell? ⟨w.heap.size + 1, 1, none⟩ = some (.slice j1 vr.length l1) ∧ wb.cell? ⟨w.heap.size + 1, 2, none⟩ = some (.slice j2 us.length l2)) := ⟨b0, b1, b2⟩
  have R0 : Hid (OwnR scpC 4 42 B wb (.slice p0 sc.length q0) sc ∧ OwnR scpC 4 42 B' wb (.slice j0 sc.length l0) sc) := ⟨r0.below hb, s0.below hb⟩
  have R1 : Hid (OwnR vrC 6 45 B wb (.slice p1 vr.length q1) vr ∧ OwnR vrC 6 45 B' wb (.slice j1 vr.length l1) vr) := ⟨r1.below hb, s1.below hb⟩
  have R2 : Hid (OwnR usC 2 47 B wb (.slice p2 us.length q2) us ∧ OwnR usC 2 47 B' wb (.slice j2 us.length l2) us) := ⟨r2.below hb, s2.below hb⟩
  have HM : Hid (sc.length ≤ 2000000 ∧ vr.length ≤ 2000000 ∧ us.length ≤ 2000000) := ⟨m0, m1, m2⟩
  clear r0 r1 r2 s0 s1 s2 m0 m1 m2 hb
  go_enter Try.func18, Try.ntmps18
  go_upto_region 1 with fail
  rw [← hwb]
  clear hwb
  go_wp2_with fail
  go_loopw [5] (fun i wz => ∃ k : Nat, Hid (k ≤ sc.length ∧ Below wb.heap.size wb wz) ∧ i = .int .i64 (k : Int)) (fun i wz => sc.length - (intOf i).toNat)
  case atStart => exact ⟨0, ⟨Nat.zero_le _, Below.refl _ _⟩, rfl⟩
  case round =>
    obtain ⟨i, HI, rfl⟩ := hrel
    clear a0 a1 a2 b0 b1 b2
    have t1 := Sc.cells_below HI.out.2 _ _ HA.out.1
    have t2 := Sc.cells_below HI.out.2 _ _ HC.out.1
    rcases Nat.lt_or_ge i sc.length with ci | ci
    · obtain ⟨y, hy⟩ : ∃ y, sc[i]? = some y := ⟨_, List.getElem?_eq_getElem ci⟩
      obtain ⟨g1, rfl, hc1⟩ := row_cells (fun y => (rfl : (scpC y).length = 4)) R0.out.1 hy
      obtain ⟨g2, rfl, hc2⟩ := row_cells (fun y => (rfl : (scpC y).length = 4)) R0.out.2 hy
      have x0 := hc1 wr HI.out.2 0 _ rfl
      have z0 := hc2 wr HI.out.2 0 _ rfl
      have x1 := hc1 wr HI.out.2 1 _ rfl
      have z1 := hc2 wr HI.out.2 1 _ rfl
      have x2 := hc1 wr HI.out.2 2 _ rfl
      have z2 := hc2 wr HI.out.2 2 _ rfl
      have x3 := hc1 wr HI.out.2 3 _ rfl
      have z3 := hc2 wr HI.out.2 3 _ rfl
      rw [Nat.add_zero] at x0 z0
      have hil : (i : Int) < (sc.length : Int) := by omega
      have hi0 : (0 : Int) ≤ (i : Int) := by omega
      have hw1 : IntKind.i64.wrap ((i : Int) + 1) = ((i + 1 : Nat) : Int) := by have := HM.out.1; rw [IntKind.wrap_i64]; omega
      have hnq := neq_scp y
      have HQ : Hid (i < sc.length) := ci
      have HN : Hid (Below wb.heap.size wb wr.drew) := HI.out.2.drew
      clear hc1 hc2 hy ci HI
      go_wp2_with fail
      go_region
      all_goals
        go_wp2_with fail
        refine ⟨⟨i + 1, ⟨HQ.out, HN.out⟩, by go_num⟩, ?_⟩
        simp [intOf]
        have := HQ.out
        omega
    · have hil : ¬ (i : Int) < (sc.length : Int) := by omega
      have HZ : Hid (Below wb.heap.size wb wr) := HI.out.2
      clear HI ci
      go_wp2_with fail
      go_loopw [6] (fun i wz => ∃ k : Nat, Hid (k ≤ vr.length ∧ Below wb.heap.size wb wz) ∧ i = .int .i64 (k : Int)) (fun i wz => vr.length - (intOf i).toNat)
      case atStart => exact ⟨0, ⟨Nat.zero_le _, HZ.out⟩, rfl⟩
      case round =>
        obtain ⟨i, HI, rfl⟩ := hrel
        have t1 := Sc.cells_below HI.out.2 _ _ HA.out.2.1
        have t2 := Sc.cells_below HI.out.2 _ _ HC.out.2.1
        rcases Nat.lt_or_ge i vr.length with ci | ci
        · obtain ⟨y, hy⟩ : ∃ y, vr[i]? = some y := ⟨_, List.getElem?_eq_getElem ci⟩
          obtain ⟨g1, rfl, hc1⟩ := row_cells (fun y => (rfl : (vrC y).length = 6)) R1.out.1 hy
          obtain ⟨g2, rfl, hc2⟩ := row_cells (fun y => (rfl : (vrC y).length = 6)) R1.out.2 hy
          have x0 := hc1 wr HI.out.2 0 _ rfl
          have z0 := hc2 wr HI.out.2 0 _ rfl
          have x1 := hc1 wr HI.out.2 1 _ rfl
          have z1 := hc2 wr HI.out.2 1 _ rfl
          have x2 := hc1 wr HI.out.2 2 _ rfl
          have z2 := hc2 wr HI.out.2 2 _ rfl
          have x3 := hc1 wr HI.out.2 3 _ rfl
          have z3 := hc2 wr HI.out.2 3 _ rfl
          have x4 := hc1 wr HI.out.2 4 _ rfl
          have z4 := hc2 wr HI.out.2 4 _ rfl
          have x5 := hc1 wr HI.out.2 5 _ rfl
          have z5 := hc2 wr HI.out.2 5 _ rfl
          rw [Nat.add_zero] at x0 z0
          have hil : (i : Int) < (vr.length : Int) := by omega
          have hi0 : (0 : Int) ≤ (i : Int) := by omega
          have hw1 : IntKind.i64.wrap ((i : Int) + 1) = ((i + 1 : Nat) : Int) := by have := HM.out.2.1; rw [IntKind.wrap_i64]; omega
          have hnq := neq_vr y
          have HQ : Hid (i < vr.length) := ci
          have HN : Hid (Below wb.heap.size wb wr.drew) := HI.out.2.drew
          clear hc1 hc2 hy ci HI
          go_wp2_with fail
          go_region
          all_goals
            go_wp2_with fail
            refine ⟨⟨i + 1, ⟨HQ.out, HN.out⟩, by go_num⟩, ?_⟩
            simp [intOf]
            have := HQ.out
            omega
        · have hil : ¬ (i : Int) < (vr.length : Int) := by omega
          have HZ : Hid (Below wb.heap.size wb wr) := HI.out.2
          clear HI ci
          go_wp2_with fail
          go_loopw [7] (fun i wz => ∃ k : Nat, Hid (k ≤ us.length ∧ Below wb.heap.size wb wz) ∧ i = .int .i64 (k : Int)) (fun i wz => us.length - (intOf i).toNat)
          case atStart => exact ⟨0, ⟨Nat.zero_le _, HZ.out⟩, rfl⟩
          case round =>
            obtain ⟨i, HI, rfl⟩ := hrel
            have t1 := Sc.cells_below HI.out.2 _ _ HA.out.2.2
            have t2 := Sc.cells_below HI.out.2 _ _ HC.out.2.2
            rcases Nat.lt_or_ge i us.length with ci | ci
            · obtain ⟨y, hy⟩ : ∃ y, us[i]? = some y := ⟨_, List.getElem?_eq_getElem ci⟩
              obtain ⟨g1, rfl, hc1⟩ := row_cells (fun y => (rfl : (usC y).length = 2)) R2.out.1 hy
              obtain ⟨g2, rfl, hc2⟩ := row_cells (fun y => (rfl : (usC y).length = 2)) R2.out.2 hy
              have x0 := hc1 wr HI.out.2 0 _ rfl
              have z0 := hc2 wr HI.out.2 0 _ rfl
              have x1 := hc1 wr HI.out.2 1 _ rfl
              have z1 := hc2 wr HI.out.2 1 _ rfl
              rw [Nat.add_zero] at x0 z0
              have hil : (i : Int) < (us.length : Int) := by omega
              have hi0 : (0 : Int) ≤ (i : Int) := by omega
              have hw1 : IntKind.i64.wrap ((i : Int) + 1) = ((i + 1 : Nat) : Int) := by have := HM.out.2.2; rw [IntKind.wrap_i64]; omega
              have hnq := neq_us y
              have HQ : Hid (i < us.length) := ci
              have HN : Hid (Below wb.heap.size wb wr.drew) := HI.out.2.drew
              clear hc1 hc2 hy ci HI
              go_wp2_with fail
              go_region
              all_goals
                go_wp2_with fail
                refine ⟨⟨i + 1, ⟨HQ.out, HN.out⟩, by go_num⟩, ?_⟩
                simp [intOf]
                have := HQ.out
                omega
            · have hil : ¬ (i : Int) < (us.length : Int) := by omega
              have HZ : Hid (Below wb.heap.size wb wr) := HI.out.2
              clear HI ci
              go_wp2_with fail
              go_ret
              exact ⟨rfl, HB.out.trans (HZ.out.mono HB.out.size)⟩
end Go.Proofs.Ytihmdcdifakepaa.Rv
