/- The walks of shifted and plus. -/
import Derived.Test.YtaikkmehmiiffaaGreatDoorA4
namespace Go.Proofs.YtaikkmehmiiffaaGreatDoor
open Go.RowKit
set_option linter.unusedVariables false

theorem wval_zeros (q : Nat) (xs : List Nat) : wval (List.replicate q 0 ++ xs) = wval xs * 2 ^ (64 * q) := by
  have z : wval (List.replicate q 0) = 0 := by
    induction q with
    | zero => rfl
    | succ q ih => rw [List.replicate_succ]; simp [wval, ih]
  rw [wval_append, z, List.length_replicate, show (18446744073709551616 : Nat) = 2 ^ 64 from rfl, ← Nat.pow_mul, Nat.mul_comm]
  omega

theorem fit_zeros (q : Nat) : Fit (List.replicate q 0) := by
  intro x hx
  rw [List.mem_replicate] at hx
  omega

theorem made_zeros (q : Nat) : (madeCells #[Value.int .u64 0] q).toList = (List.replicate q 0).map wordV := by
  rw [toList_madeCells_one, List.map_replicate]
  rfl

theorem wrap_pow (r : Nat) (hr : r < 64) : IntKind.u64.wrap ((2 : Int) ^ r) = ((2 ^ r : Nat) : Int) := by
  have p1 : (2 : Nat) ^ r < 18446744073709551616 := Nat.pow_lt_pow_right (by decide) (show r < 64 from hr)
  have e : (2 : Int) ^ r = ((2 ^ r : Nat) : Int) := (Int.natCast_pow 2 r).symm
  rw [e, IntKind.wrap_u64]
  generalize 2 ^ r = P at *
  omega

theorem shifted_walk (w : World) (v : Value) (g N c q r K : Nat) (hc : c = 64 * q + r) (hr : r < 64) (hv : Num w v g N) (hN : N < 2 ^ K) (hK : K + c ≤ 6400000) :
    Calls Tryz.prog 113 #[v, .int .i64 c] w fun e w' => ∃ v' g', e = .returned v' ∧ Num w' v' g' (N * 2 ^ c) ∧ Moved w w' g g' := by
  have qt0 : (c : Int).tdiv 64 = (q : Int) := by rw [Int.tdiv_eq_ediv_of_nonneg (by omega)]; omega
  have qt1 : (c : Int).tmod 64 = (r : Int) := by rw [Int.tmod_eq_emod_of_nonneg (by omega)]; omega
  have qe0 : (c : Int) / 64 = (q : Int) := by omega
  have qe1 : (c : Int) % 64 = (r : Int) := by omega
  have p1 : (2 : Nat) ^ r < 18446744073709551616 := Nat.pow_lt_pow_right (by decide) (show r < 64 from hr)
  have sc := scaled_moved w v g N (2 ^ r) 0 K hv p1 (by decide) hN (by omega)
  have hN2 : N * 2 ^ r < 2 ^ (K + r) := by rw [Nat.pow_add]; exact Nat.mul_lt_mul_of_pos_right hN (Nat.two_pow_pos r)
  rw [Nat.add_zero] at sc
  have HC : Hid (c = 64 * q + r) := hc
  have HN : Hid (N * 2 ^ r < 2 ^ (K + r) ∧ K + c ≤ 6400000) := ⟨hN2, hK⟩
  have hq : q ≤ 6400000 := by omega
  have hc2 : c ≤ 6400000 := by omega
  obtain ⟨i0, hi, hz0, hz1, hz2⟩ := info_parts Tryz.info29
  clear hc hN hK hN2
  have hP := wrap_pow r hr
  obtain ⟨P, hPe⟩ : ∃ P, P = 2 ^ r := ⟨_, rfl⟩
  rw [← hPe] at hP sc p1
  have HP : Hid (P = 2 ^ r) := hPe
  clear hPe
  go_enter Tryz.func113, Tryz.ntmps113
  go_wp2_with (first | (go_at_call 94; refine sc.mono ?_; rintro e w1 ⟨v1, g1, rfl, ⟨cap1, rfl, hown1⟩, hm1⟩) | (at_make; refine wpList_make_full _ rfl _ _ 106 rfl w1.heap.size 29 i0 (.int .u64 0) 1 Tryz.underlying106 hi hz0 hz1 _ _ _ _ q rfl rfl (by omega) (by omega) ?m1 ?m2 (Nat.le_refl _) ?_))
  case m1 => rw [hz2]; omega
  case m2 => unfold maxLen; omega
  intro w2 hmade hg2
  have hlen := len_small (by have := HN.out.1; rw [← HP.out] at this; exact this) (by have := HN.out.2; have := HC.out; omega)
  have hown2 := hown1.kept hg2 (.inr (by simp [Value.ownBlock]))
  rw [made_zeros] at hmade
  go_wp2_with (at_builtin; refine wpList_app rfl _ _ rfl w1.heap.size q q _ rfl hmade ⟨g1, 0, none⟩ (wds (N * P)).length cap1 ((wds (N * P)).map wordV) rfl (by simp) (hown2.cells (g := g1) rfl) ?c2 ?c3 ?_)
  case c2 =>
    intro u hu
    obtain ⟨x, _, rfl⟩ := List.mem_map.1 hu
    rfl
  case c3 => omega
  intro g3 cap3 w3 hown3 hgr3 hpl3
  have hl3 : (List.replicate q 0 ++ wds (N * P)).length = q + (wds (N * P)).length := by simp
  have hH : Holds w3 (.slice (some ⟨g3, 0, none⟩) (q + (wds (N * P)).length) cap3) g3 (List.replicate q 0 ++ wds (N * P)) := by
    refine ⟨cap3, by rw [hl3], ?_⟩
    rw [hl3, List.map_append, List.map_replicate]
    exact hown3
  have tr := trimmed_any w3 _ g3 _ hH (fit_append (fit_zeros q) (fit_wds _))
  have hval : wval (List.replicate q 0 ++ wds (N * P)) = N * 2 ^ c := by
    rw [wval_zeros, wval_wds, HP.out, Nat.mul_assoc, ← Nat.pow_add, HC.out, Nat.add_comm]
  rw [hval] at tr
  have hmv : Moved w w3 g g3 := by
    have s1 := hm1.grown.size
    have s2 := hg2.size
    refine ⟨⟨hgr3.os.trans (hg2.os.trans hm1.grown.os), hgr3.tape.trans (hg2.tape.trans hm1.grown.tape), hgr3.output.trans (hg2.output.trans hm1.grown.output), Nat.le_trans s1 (Nat.le_trans s2 hgr3.size), fun j hj hr => ?_⟩, ?_⟩
    · rw [hgr3.block j (by omega) (by simp; omega), hg2.block j (by omega) (by simp)]
      exact hm1.grown.block j hj hr
    · right
      rcases hpl3 with h | h
      · omega
      · omega
  clear hH hown3 hgr3 hpl3 hown2 hown1 hmade hg2 sc
  go_wp2_with (go_at_call 111; refine tr.mono ?_; rintro e w4 ⟨rfl, v', rfl, hh⟩)
  go_ret
  exact ⟨_, g3, rfl, hh, hmv⟩

theorem shifted_any (w : World) (v : Value) (g N c K : Nat) (hv : Num w v g N) (hN : N < 2 ^ K) (hK : K + c ≤ 6400000) :
    Calls Tryz.prog 113 #[v, .int .i64 c] w fun e w' => ∃ v' g', e = .returned v' ∧ Num w' v' g' (N * 2 ^ c) ∧ Moved w w' g g' :=
  shifted_walk w v g N c (c / 64) (c % 64) K (by omega) (by omega) hv hN hK

/-- the words of plus: those that are done and those that are not -/
def PlusAt (w wr : World) (g cap : Nat) (xs ys : List Nat) (k c : Nat) : Prop :=
  ∃ A : List Nat, A.length = k ∧ Fit A ∧ wval A + 18446744073709551616 ^ k * c = wval (xs.take k) + wval (ys.take k) ∧
    wr.ownsRow g 29 1 (.slice (some ⟨g, 0, none⟩) (List.replicate (xs.length + 1) 0).length cap) (List.replicate (xs.length + 1) 0).length ((A ++ (List.replicate (xs.length + 1) 0).drop k).map wordV) ∧ w.grownBy wr none ∧ w.heap.size ≤ g

theorem PlusAt.next {w wr : World} {g cap : Nat} {xs ys : List Nat} {k c : Nat} (h : PlusAt w wr g cap xs ys k c) {x y : Nat} (hx : xs[k]? = some x) (hy : wval (ys.take (k + 1)) = wval (ys.take k) + 18446744073709551616 ^ k * y) :
    PlusAt w (wr.setCell ⟨g, k, none⟩ (.int .u64 (((x + y + c) % 18446744073709551616 : Nat) : Int))) g cap xs ys (k + 1) ((x + y + c) / 18446744073709551616) := by
  obtain ⟨A, hA, fA, hv, hown, hg, hsz⟩ := h
  have hk : k < xs.length := (List.getElem?_eq_some_iff.1 hx).1
  obtain ⟨s1, s2⟩ := own_step hA hown (by simp; omega) ((x + y + c) % 18446744073709551616)
  refine ⟨A ++ [(x + y + c) % 18446744073709551616], by simp [hA], fit_append fA (fit_one (by omega)), plus_step xs ys A k x y c hA hx hy hv, s1, ?_, hsz⟩
  exact ⟨s2.os.trans hg.os, s2.tape.trans hg.tape, s2.output.trans hg.output, Nat.le_trans hg.size s2.size, fun j hj hr => (s2.block j (by have := hg.size; omega) (by simp; omega)).trans (hg.block j hj hr)⟩

theorem plus_parts (x y c : Nat) (hx : x < 18446744073709551616) (hy : y < 18446744073709551616) (hc : c ≤ 1) :
    ∃ d b : Nat, d = (x + y + c) % 18446744073709551616 ∧ b = (x + y + c) / 18446744073709551616 ∧ b ≤ 1 ∧
      (∀ w : World, (callFunc 110 #[.int .u64 (x : Int), .int .u64 (y : Int), .int .u64 (c : Int)]).run Tryz.prog w = .ok (.value (.tuple #[.int .u64 (d : Int), .int .u64 (b : Int)])) w) :=
  ⟨_, _, rfl, rfl, by omega, fun w => add64_run x y c hc w⟩

theorem plus_fin {w wr : World} {xs ys : List Nat} {c : Nat} (h : PlusAt w wr w.heap.size (xs.length + 1) xs ys xs.length c) (hl : ys.length ≤ xs.length) (hc : c < 18446744073709551616) :
    ∃ A, Fit A ∧ Holds (wr.setCell ⟨w.heap.size, xs.length, none⟩ (.int .u64 (c : Int))) (.slice (some ⟨w.heap.size, 0, none⟩) (xs.length + 1) (xs.length + 1)) w.heap.size A ∧ wval A = wval xs + wval ys ∧ w.grownBy (wr.setCell ⟨w.heap.size, xs.length, none⟩ (.int .u64 (c : Int))) none := by
  obtain ⟨A, hA, fA, hv, hown, hg, hsz⟩ := h
  obtain ⟨s1, s2⟩ := own_step hA hown (by simp) c
  have hl1 : (A ++ [c]).length = xs.length + 1 := by simp [hA]
  refine ⟨A ++ [c], fit_append fA (fit_one hc), ⟨xs.length + 1, by rw [hl1], ?_⟩, ?_, ?_⟩
  · rw [hl1]
    rw [List.length_replicate, List.drop_eq_nil_of_le (by simp), List.append_nil] at s1
    exact s1
  · rw [wval_snoc, hA, hv, List.take_length, wval_take_past ys _ hl]
  · exact ⟨s2.os.trans hg.os, s2.tape.trans hg.tape, s2.output.trans hg.output, Nat.le_trans hg.size s2.size, fun j hj hr => (s2.block j (by have := hg.size; omega) (by simp; omega)).trans (hg.block j hj hr)⟩

end Go.Proofs.YtaikkmehmiiffaaGreatDoor
