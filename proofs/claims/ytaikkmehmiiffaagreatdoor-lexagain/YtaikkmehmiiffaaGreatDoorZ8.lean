/- Package lex: sign. -/
import Derived.Test.YtaikkmehmiiffaaGreatDoorZ7
namespace Go.Proofs.YtaikkmehmiiffaaGreatDoor.Lx
open Go.RowKit
set_option linter.unusedVariables false

/-- the signs, as they lie in memory -/
def signsV : Array Value := (signL.map fun t => Value.string (bs t)).toArray

/-- the variable signs, where the program's text lays it -/
def SignsAt (w : World) : Prop := ∃ t fr, w.heap[0]? = some (.cells signsV t fr)

theorem SignsAt.lt {w : World} (h : SignsAt w) : 0 < w.heap.size := by
  obtain ⟨t, fr, h⟩ := h
  rcases Nat.lt_or_ge 0 w.heap.size with k | k
  · exact k
  · rw [Array.getElem?_eq_none k] at h
    exact absurd h (by simp)

theorem SignsAt.below {w w' : World} (h : SignsAt w) (hb : Below w.heap.size w w') : SignsAt w' := by
  obtain ⟨t, fr, k⟩ := h
  exact ⟨t, fr, (hb.block 0 (SignsAt.lt ⟨t, fr, k⟩)).trans k⟩

theorem signsV_at (k : Nat) (t : List UInt8) (h : signL[k]? = some t) : signsV[k]? = some (.string (bs t)) := by
  unfold signsV
  simp [h]

theorem idx62 (k : Nat) (t : ByteArray) (w : World) (hv : signsV[k]? = some (.string t)) (hk : k < 48) : (Instr.index 62 (.agg signsV) (.int .i64 k)).run Tryz.prog w = .ok (.string t) w := by
  simp [go_sem, Instr.index, hv, hk]

structure SgAt (l : List UInt8) (w0 wr : World) (k : Nat) : Prop where
  le : k ≤ 48
  val : signI l = signF (signL.drop k) l
  bel : Below w0.heap.size w0 wr
  row : Row4 wr w0.heap.size 31 (.int .i64 0) (.int .i64 0) (.string ⟨#[]⟩) (.int .u64 0)

set_option maxRecDepth 100000 in
theorem sign_any (l : List UInt8) (w : World) (hl : l.length ≤ 900000) (hS : SignsAt w) :
    Calls Tryz.prog 31 #[.string (bs l)] w fun e w' => e = .returned (tokR (signI l)) ∧ Below w.heap.size w w' := by
  have B0 := (Below.refl w.heap.size w).alloc (Nat.le_refl _) (.cells #[.int .i64 0, .int .i64 0, .string ⟨#[]⟩, .int .u64 0] 31)
  have R0 := row4_new w 31 (.int .i64 0) (.int .i64 0) (.string ⟨#[]⟩) (.int .u64 0)
  obtain ⟨tt, fr, hg⟩ := hS.below B0
  have HS : Hid (SgAt l w (w.alloc (.cells #[.int .i64 0, .int .i64 0, .string ⟨#[]⟩, .int .u64 0] 31)) 0) := ⟨by omega, rfl, B0, R0⟩
  clear B0 R0 hS
  have hpre := fun t w => pre_any l t w (by omega)
  have hsz : signsV.size = 48 := by kernel_rfl
  go_enter Tryz.func31, Tryz.ntmps31
  go_wp2_with (refine wpList_load_row rfl 62 _ rfl 0 rfl tt _ fr _ hg Tryz.underlying62 rfl (by kernel_rfl) ?_)
  generalize w.alloc (.cells #[.int .i64 0, .int .i64 0, .string ⟨#[]⟩, .int .u64 0] 31) = w1 at *
  clear hg
  go_loopw [8] (fun i wr => ∃ k : Nat, SgAt l w wr k ∧ i = .int .i64 k) (fun i wr => 48 - (intOf i).toNat)
  case atStart => exact ⟨0, HS.out, rfl⟩
  case round =>
    obtain ⟨k, hr, rfl⟩ := hrel
    have k48 := hr.le
    have R1 := hr.row
    have HV : Hid (signI l = signF (signL.drop k) l) := hr.val
    have HB : Hid (Below w.heap.size w wr) := hr.bel
    clear hr
    rcases Nat.lt_or_ge k 48 with c | c
    · obtain ⟨t, ht⟩ : ∃ t, signL[k]? = some t := ⟨_, List.getElem?_eq_getElem (by show k < 48; exact c)⟩
      have hv := signsV_at k t ht
      have hd : signL.drop k = t :: signL.drop (k + 1) := by
        rw [List.drop_eq_getElem_cons (by show k < 48; exact c)]
        rw [List.getElem?_eq_getElem (by show k < 48; exact c)] at ht
        rw [Option.some.inj ht]
      have hp := hpre t wr
      have hix := idx62 k (bs t) wr hv c
      clear hpre hv
      generalize signsV = sv at *
      cases hb : Go.Lib.hasPrefix l t with
      | true =>
        rw [hb] at hp
        have HV2 : Hid (signI l = (⟨5, 0, t, 0⟩, t.length, 0)) := by
          show _ = _
          rw [HV.out, hd, signF, if_pos hb]
        have HR := R1.set (.int .i64 5) (.int .i64 0) (.string (bs t)) (.int .u64 0)
        have k0 := R1.c0
        have k1 := R1.c1
        have k2 := R1.c2
        have k3 := R1.c3
        have f0 := R1.f 0
        have f1 := R1.f 1
        have f2 := R1.f 2
        have f3 := R1.f 3
        clear R1 hd hb HV ht
        go_wp2_with fail
        refine hp.mono ?_
        rintro e w2 ⟨rfl, rfl⟩
        go_wp2
        refine bodyPost_ret (results_tok rfl _ _ w.heap.size 31 _ (0, 0) _ rfl HR.row Tryz.underlying31 rfl (by kernel_rfl)) rfl ?_
        rw [HV2.out]
        exact ⟨rfl, set4_below HB.out (Nat.le_refl _) _ _ _ _⟩
      | false =>
        rw [hb] at hp
        have HN : Hid (SgAt l w wr (k + 1)) := by
          refine ⟨c, ?_, HB.out, R1⟩
          rw [HV.out, hd, signF, if_neg (by rw [hb]; decide)]
        clear R1 hd hb HV ht HB
        go_wp2_with fail
        refine hp.mono ?_
        rintro e w2 ⟨rfl, rfl⟩
        go_wp2_with fail
        refine ⟨⟨k + 1, HN.out, by go_num⟩, ?_⟩
        simp [intOf]
        omega
    · have HV2 : Hid (signI l = (zt, 0, 57)) := by
        show _ = _
        rw [HV.out, List.drop_of_length_le (by show 48 ≤ k; exact c)]
        rfl
      have HR := R1.set (.int .i64 0) (.int .i64 0) (.string ⟨#[]⟩) (.int .u64 0)
      have k0 := R1.c0
      have k1 := R1.c1
      have k2 := R1.c2
      have k3 := R1.c3
      have f0 := R1.f 0
      have f1 := R1.f 1
      have f2 := R1.f 2
      have f3 := R1.f 3
      clear R1 HV hpre
      generalize signsV = sv at *
      go_wp2
      refine bodyPost_ret (results_tok rfl _ _ w.heap.size 31 _ (0, 0) _ rfl HR.row Tryz.underlying31 rfl (by kernel_rfl)) rfl ?_
      rw [HV2.out]
      exact ⟨rfl, set4_below HB.out (Nat.le_refl _) _ _ _ _⟩

end Go.Proofs.YtaikkmehmiiffaaGreatDoor.Lx
