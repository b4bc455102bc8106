/- The walks of shifted and plus. -/
import Derived.Test.YtpejebohekcfoabGreatDoorA4
namespace Go.Proofs.YtpejebohekcfoabGreatDoor
open Go.RowKit
set_option linter.unusedVariables false

theorem wval_zeros (q : Nat) (xs : List Nat) : wval (List.replicate q 0 ++ xs) = wval xs * 2 ^ (64 * q) := by
  have z : wval (List.replicate q 0) = 0 := by
    induction q with
    | zero => rfl
    | succ q ih => rw [List.replicate_succ]; simp [wval, ih]
  rw [wval_append, z, List.length_replicate, show (18446744073709551616 : Nat) = 2 ^ 64 from rfl, ← Nat.pow_mul, Nat.mul_comm]
  omega

theorem fit_zeros (q : Nat) : Fit (List.replicate q 0) := by
  intro x hx
  rw [List.mem_replicate] at hx
  omega

theorem made_zeros (q : Nat) : (madeCells #[Value.int .u64 0] q).toList = (List.replicate q 0).map wordV := by
  rw [toList_madeCells_one, List.map_replicate]
  rfl

theorem wrap_pow (r : Nat) (hr : r < 64) : IntKind.u64.wrap ((2 : Int) ^ r) = ((2 ^ r : Nat) : Int) := by
  have p1 : (2 : Nat) ^ r < 18446744073709551616 := Nat.pow_lt_pow_right (by decide) (show r < 64 from hr)
  have e : (2 : Int) ^ r = ((2 ^ r : Nat) : Int) := (Int.natCast_pow 2 r).symm
  rw [e, IntKind.wrap_u64]
  generalize 2 ^ r = P at *
  omega

theorem shifted_walk (w : World) (v : Value) (g N c q r K : Nat) (hc : c = 64 * q + r) (hr : r < 64) (hv : Num w v g N) (hN : N < 2 ^ K) (hK : K + c ≤ 6400000) :
    Calls Tryz.prog 79 #[v, .int .i64 c] w fun e w' => ∃ v' g', e = .returned v' ∧ Num w' v' g' (N * 2 ^ c) ∧ Moved w w' g g' := by
  have qt0 : (c : Int).tdiv 64 = (q : Int) := by rw [Int.tdiv_eq_ediv_of_nonneg (by omega)]; omega
  have qt1 : (c : Int).tmod 64 = (r : Int) := by rw [Int.tmod_eq_emod_of_nonneg (by omega)]; omega
  have qe0 : (c : Int) / 64 = (q : Int) := by omega
  have qe1 : (c : Int) % 64 = (r : Int) := by omega
  have p1 : (2 : Nat) ^ r < 18446744073709551616 := Nat.pow_lt_pow_right (by decide) (show r < 64 from hr)
  have sc := scaled_moved w v g N (2 ^ r) 0 K hv p1 (by decide) hN (by omega)
  have hN2 : N * 2 ^ r < 2 ^ (K + r) := by rw [Nat.pow_add]; exact Nat.mul_lt_mul_of_pos_right hN (Nat.two_pow_pos r)
  rw [Nat.add_zero] at sc
  have HC : Hid (c = 64 * q + r) := hc
  have HN : Hid (N * 2 ^ r < 2 ^ (K + r) ∧ K + c ≤ 6400000) := ⟨hN2, hK⟩
  have hq : q ≤ 6400000 := by omega
  have hc2 : c ≤ 6400000 := by omega
  obtain ⟨i0, hi, hz0, hz1, hz2⟩ := info_parts Tryz.info22
  clear hc hN hK hN2
  have hP := wrap_pow r hr
  obtain ⟨P, hPe⟩ : ∃ P, P = 2 ^ r := ⟨_, rfl⟩
  rw [← hPe] at hP sc p1
  have HP : Hid (P = 2 ^ r) := hPe
  clear hPe
  go_enter Tryz.func79, Tryz.ntmps79
  go_wp2_with (first | (go_at_call 68; refine sc.mono ?_; rintro e w1 ⟨v1, g1, rfl, ⟨cap1, rfl, hown1⟩, hm1⟩) | (at_make; refine wpList_make_full _ rfl _ _ 74 rfl w1.heap.size 22 i0 (.int .u64 0) 1 Tryz.underlying74 hi hz0 hz1 _ _ _ _ q rfl rfl (by omega) (by omega) ?m1 ?m2 (Nat.le_refl _) ?_))
  case m1 => rw [hz2]; omega
  case m2 => unfold maxLen; omega
  intro w2 hmade hg2
  have hlen := len_small (by have := HN.out.1; rw [← HP.out] at this; exact this) (by have := HN.out.2; have := HC.out; omega)
  have hown2 := hown1.kept hg2 (.inr (by simp [Value.ownBlock]))
  rw [made_zeros] at hmade
  go_wp2_with (at_builtin; refine wpList_app rfl _ _ rfl w1.heap.size q q _ rfl hmade ⟨g1, 0, none⟩ (wds (N * P)).length cap1 ((wds (N * P)).map wordV) rfl (by simp) (hown2.cells (g := g1) rfl) ?c2 ?c3 ?_)
  case c2 =>
    intro u hu
    obtain ⟨x, _, rfl⟩ := List.mem_map.1 hu
    rfl
  case c3 => omega
  intro g3 cap3 w3 hown3 hgr3 hpl3
  have hl3 : (List.replicate q 0 ++ wds (N * P)).length = q + (wds (N * P)).length := by simp
  have hH : Holds w3 (.slice (some ⟨g3, 0, none⟩) (q + (wds (N * P)).length) cap3) g3 (List.replicate q 0 ++ wds (N * P)) := by
    refine ⟨cap3, by rw [hl3], ?_⟩
    rw [hl3, List.map_append, List.map_replicate]
    exact hown3
  have tr := trimmed_any w3 _ g3 _ hH (fit_append (fit_zeros q) (fit_wds _))
  have hval : wval (List.replicate q 0 ++ wds (N * P)) = N * 2 ^ c := by
    rw [wval_zeros, wval_wds, HP.out, Nat.mul_assoc, ← Nat.pow_add, HC.out, Nat.add_comm]
  rw [hval] at tr
  have hmv : Moved w w3 g g3 := by
    have s1 := hm1.grown.size
    have s2 := hg2.size
    refine ⟨⟨hgr3.os.trans (hg2.os.trans hm1.grown.os), hgr3.tape.trans (hg2.tape.trans hm1.grown.tape), hgr3.output.trans (hg2.output.trans hm1.grown.output), Nat.le_trans s1 (Nat.le_trans s2 hgr3.size), fun j hj hr => ?_⟩, ?_⟩
    · rw [hgr3.block j (by omega) (by simp; omega), hg2.block j (by omega) (by simp)]
      exact hm1.grown.block j hj hr
    · right
      rcases hpl3 with h | h
      · omega
      · omega
  clear hH hown3 hgr3 hpl3 hown2 hown1 hmade hg2 sc
  go_wp2_with (go_at_call 94; refine tr.mono ?_; rintro e w4 ⟨rfl, v', rfl, hh⟩)
  go_ret
  exact ⟨_, g3, rfl, hh, hmv⟩

theorem shifted_any (w : World) (v : Value) (g N c K : Nat) (hv : Num w v g N) (hN : N < 2 ^ K) (hK : K + c ≤ 6400000) :
    Calls Tryz.prog 79 #[v, .int .i64 c] w fun e w' => ∃ v' g', e = .returned v' ∧ Num w' v' g' (N * 2 ^ c) ∧ Moved w w' g g' :=
  shifted_walk w v g N c (c / 64) (c % 64) K (by omega) (by omega) hv hN hK

/-- the words of plus: those that are done and those that are not -/
def PlusAt (w wr : World) (g cap : Nat) (xs ys : List Nat) (k c : Nat) : Prop :=
  ∃ A : List Nat, A.length = k ∧ Fit A ∧ wval A + 18446744073709551616 ^ k * c = wval (xs.take k) + wval (ys.take k) ∧
    wr.ownsRow g 22 1 (.slice (some ⟨g, 0, none⟩) (List.replicate (xs.length + 1) 0).length cap) (List.replicate (xs.length + 1) 0).length ((A ++ (List.replicate (xs.length + 1) 0).drop k).map wordV) ∧ w.grownBy wr none ∧ w.heap.size ≤ g

theorem PlusAt.next {w wr : World} {g cap : Nat} {xs ys : List Nat} {k c : Nat} (h : PlusAt w wr g cap xs ys k c) {x y : Nat} (hx : xs[k]? = some x) (hy : wval (ys.take (k + 1)) = wval (ys.take k) + 18446744073709551616 ^ k * y) :
    PlusAt w (wr.setCell ⟨g, k, none⟩ (.int .u64 (((x + y + c) % 18446744073709551616 : Nat) : Int))) g cap xs ys (k + 1) ((x + y + c) / 18446744073709551616) := by
  obtain ⟨A, hA, fA, hv, hown, hg, hsz⟩ := h
  have hk : k < xs.length := (List.getElem?_eq_some_iff.1 hx).1
  obtain ⟨s1, s2⟩ := own_step hA hown (by simp; omega) ((x + y + c) % 18446744073709551616)
  refine ⟨A ++ [(x + y + c) % 18446744073709551616], by simp [hA], fit_append fA (fit_one (by omega)), plus_step xs ys A k x y c hA hx hy hv, s1, ?_, hsz⟩
  exact ⟨s2.os.trans hg.os, s2.tape.trans hg.tape, s2.output.trans hg.output, Nat.le_trans hg.size s2.size, fun j hj hr => (s2.block j (by have := hg.size; omega) (by simp; omega)).trans (hg.block j hj hr)⟩

theorem plus_parts (x y c : Nat) (hx : x < 18446744073709551616) (hy : y < 18446744073709551616) (hc : c ≤ 1) :
    ∃ d b : Nat, d = (x + y + c) % 18446744073709551616 ∧ b = (x + y + c) / 18446744073709551616 ∧ b ≤ 1 ∧
      (∀ w : World, (callFunc 93 #[.int .u64 (x : Int), .int .u64 (y : Int), .int .u64 (c : Int)]).run Tryz.prog w = .ok (.value (.tuple #[.int .u64 (d : Int), .int .u64 (b : Int)])) w) :=
  ⟨_, _, rfl, rfl, by omega, fun w => add64_run x y c hc w⟩

theorem plus_fin {w wr : World} {xs ys : List Nat} {c : Nat} (h : PlusAt w wr w.heap.size (xs.length + 1) xs ys xs.length c) (hl : ys.length ≤ xs.length) (hc : c < 18446744073709551616) :
    ∃ A, Fit A ∧ Holds (wr.setCell ⟨w.heap.size, xs.length, none⟩ (.int .u64 (c : Int))) (.slice (some ⟨w.heap.size, 0, none⟩) (xs.length + 1) (xs.length + 1)) w.heap.size A ∧ wval A = wval xs + wval ys ∧ w.grownBy (wr.setCell ⟨w.heap.size, xs.length, none⟩ (.int .u64 (c : Int))) none := by
  obtain ⟨A, hA, fA, hv, hown, hg, hsz⟩ := h
  obtain ⟨s1, s2⟩ := own_step hA hown (by simp) c
  have hl1 : (A ++ [c]).length = xs.length + 1 := by simp [hA]
  refine ⟨A ++ [c], fit_append fA (fit_one hc), ⟨xs.length + 1, by rw [hl1], ?_⟩, ?_, ?_⟩
  · rw [hl1]
    rw [List.length_replicate, List.drop_eq_nil_of_le (by simp), List.append_nil] at s1
    exact s1
  · rw [wval_snoc, hA, hv, List.take_length, wval_take_past ys _ hl]
  · exact ⟨s2.os.trans hg.os, s2.tape.trans hg.tape, s2.output.trans hg.output, Nat.le_trans hg.size s2.size, fun j hj hr => (s2.block j (by have := hg.size; omega) (by simp; omega)).trans (hg.block j hj hr)⟩

theorem plus_walk (w : World) (g cap k cup : Nat) (xs ys : List Nat) (fx : Fit xs) (fy : Fit ys) (hlen : xs.length ≤ 1000000) (hl2 : ys.length ≤ xs.length)
    (hown : w.ownsRow g 22 1 (.slice (some ⟨g, 0, none⟩) xs.length cap) xs.length (xs.map wordV))
    (hwn : w.ownsRow k 22 1 (.slice (some ⟨k, 0, none⟩) ys.length cup) ys.length (ys.map wordV)) (a1 a2 : Value)
    (ha : (a1 = .slice (some ⟨g, 0, none⟩) xs.length cap ∧ a2 = .slice (some ⟨k, 0, none⟩) ys.length cup) ∨ (ys.length < xs.length ∧ a1 = .slice (some ⟨k, 0, none⟩) ys.length cup ∧ a2 = .slice (some ⟨g, 0, none⟩) xs.length cap)) :
    Calls Tryz.prog 84 #[a1, a2] w fun e w' => ∃ v' g', e = .returned v' ∧ Holds w' v' g' (wds (wval xs + wval ys)) ∧ w.grownBy w' none ∧ w.heap.size ≤ g' := by
  obtain ⟨i0, hi, hz0, hz1, hz2⟩ := info_parts Tryz.info22
  have bx := owns_bound hown
  have bk := owns_bound hwn
  have start : ∀ w1 : World, w1.ownsRow w.heap.size 22 1 (.slice (some ⟨w.heap.size, 0, none⟩) (xs.length + 1) (xs.length + 1)) (xs.length + 1) (madeCells #[.int .u64 0] (xs.length + 1)).toList → w.grownBy w1 none →
      PlusAt w w1 w.heap.size (xs.length + 1) xs ys 0 0 := by
    intro w1 hmade hg1
    rw [made_zeros] at hmade
    refine ⟨[], rfl, (by intro x hx; simp at hx), by simp [wval], ?_, hg1, Nat.le_refl _⟩
    rw [List.length_replicate, List.drop_zero, List.nil_append]
    exact hmade
  have HL : Hid (ys.length ≤ xs.length) := hl2
  clear hl2
  go_enter Tryz.func84, Tryz.ntmps84
  rcases ha with ⟨rfl, rfl⟩ | ⟨hlt, rfl, rfl⟩
  · have hn : decide (xs.length < ys.length) = false := by have := HL.out; simp; omega
    go_wp2_with (at_make; refine wpList_make_full _ rfl _ _ 74 rfl w.heap.size 22 i0 (.int .u64 0) 1 Tryz.underlying74 hi hz0 hz1 _ _ _ _ (xs.length + 1) rfl rfl (by omega) (by omega) ?m1 ?m2 (Nat.le_refl _) ?_)
    case m1 => rw [hz2]; omega
    case m2 => unfold maxLen; omega
    intro w1 hmade hg1
    have st := start w1 hmade hg1
    clear hmade hg1 start hi hz0 hz1 hz2 bx bk hn
    go_wp2_with fail
    go_loopw [6, 22] (fun b i wr => ∃ j c : Nat, j ≤ xs.length ∧ i = .int .i64 j ∧ b = .int .u64 c ∧ c ≤ 1 ∧ PlusAt w wr w.heap.size (xs.length + 1) xs ys j c) (fun _ i _ => xs.length - (intOf i).toNat)
    case atStart => exact ⟨0, 0, Nat.zero_le _, rfl, rfl, by omega, st⟩
    case round =>
      clear st
      obtain ⟨j, c, hj, rfl, rfl, hc, hs⟩ := hrel
      have cells : (∀ x, xs[j]? = some x → wr.cell? ⟨g, j, none⟩ = some (.int .u64 (x : Int))) ∧ (∀ y, ys[j]? = some y → wr.cell? ⟨k, j, none⟩ = some (.int .u64 (y : Int))) ∧ wr.frozen? ⟨w.heap.size, j, none⟩ = false ∧ wr.cell? ⟨w.heap.size, j, none⟩ = some (.int .u64 0) := by
        obtain ⟨A, hA, _, _, ho, hg, _⟩ := hs
        exact ⟨fun x hx => hg.cell (owns_cell hown hx) (by simp), fun y hy => hg.cell (owns_cell hwn hy) (by simp), ho.frozenAt j, own_mid hA ho (by rw [List.getElem?_replicate, if_pos (by omega)])⟩
      obtain ⟨cells1, cells2, fr, c0⟩ := cells
      rcases Nat.lt_or_ge j xs.length with hjl | hge
      · obtain ⟨x, hx⟩ : ∃ x, xs[j]? = some x := ⟨_, List.getElem?_eq_getElem hjl⟩
        have hx1 := fit_get fx hx
        have cl := cells1 x hx
        by_cases hy2 : j < ys.length
        · obtain ⟨y, hy⟩ : ∃ y, ys[j]? = some y := ⟨_, List.getElem?_eq_getElem hy2⟩
          have cy := cells2 y hy
          obtain ⟨d, b, d1, d2, d3, d4⟩ := plus_parts x y c hx1 (fit_get fy hy) hc
          have nx := hs.next hx (other_in ys j y hy)
          rw [← d1, ← d2] at nx
          have HN : Hid (PlusAt w (wr.setCell ⟨w.heap.size, j, none⟩ (.int .u64 (d : Int))) w.heap.size (xs.length + 1) xs ys (j + 1) b) := nx
          clear nx d1 d2 cells1 cells2
          go_wp2_with fail
          all_goals (refine ⟨⟨j + 1, b, by omega, by go_num, rfl, d3, HN.out⟩, ?_⟩; simp [intOf]; omega)
        · obtain ⟨d, b, d1, d2, d3, d4⟩ := plus_parts x 0 c hx1 (by omega) hc
          have nx := hs.next hx (other_out ys j (by omega))
          rw [← d1, ← d2] at nx
          have HN : Hid (PlusAt w (wr.setCell ⟨w.heap.size, j, none⟩ (.int .u64 (d : Int))) w.heap.size (xs.length + 1) xs ys (j + 1) b) := nx
          have d5 : ∀ w : World, (callFunc 93 #[.int .u64 (x : Int), .int .u64 0, .int .u64 (c : Int)]).run Tryz.prog w = .ok (.value (.tuple #[.int .u64 (d : Int), .int .u64 (b : Int)])) w := d4
          clear nx d1 d2 d4 cells1 cells2
          go_wp2_with fail
          all_goals (refine ⟨⟨j + 1, b, by omega, by go_num, rfl, d3, HN.out⟩, ?_⟩; simp [intOf]; omega)
      · have hjx : j = xs.length := by omega
        have fin := plus_fin (hjx ▸ hs) HL.out (by omega)
        subst hjx
        obtain ⟨A, fA, hH, hval, hgr⟩ := fin
        have tr := trimmed_any _ _ _ A hH fA
        rw [hval] at tr
        clear hH cells1 cells2 hs
        go_wp2_with (go_at_call 94; refine tr.mono ?_; rintro e w2 ⟨rfl, v', rfl, hh⟩)
        go_ret
        exact ⟨_, w.heap.size, rfl, hh, hgr, Nat.le_refl _⟩
  · skip
    go_wp2_with (at_make; refine wpList_make_full _ rfl _ _ 74 rfl w.heap.size 22 i0 (.int .u64 0) 1 Tryz.underlying74 hi hz0 hz1 _ _ _ _ (xs.length + 1) rfl rfl (by omega) (by omega) ?m1 ?m2 (Nat.le_refl _) ?_)
    case m1 => rw [hz2]; omega
    case m2 => unfold maxLen; omega
    intro w1 hmade hg1
    have st := start w1 hmade hg1
    clear hmade hg1 start hi hz0 hz1 hz2 bx bk
    go_wp2_with fail
    go_loopw [6, 22] (fun b i wr => ∃ j c : Nat, j ≤ xs.length ∧ i = .int .i64 j ∧ b = .int .u64 c ∧ c ≤ 1 ∧ PlusAt w wr w.heap.size (xs.length + 1) xs ys j c) (fun _ i _ => xs.length - (intOf i).toNat)
    case atStart => exact ⟨0, 0, Nat.zero_le _, rfl, rfl, by omega, st⟩
    case round =>
      clear st
      obtain ⟨j, c, hj, rfl, rfl, hc, hs⟩ := hrel
      have cells : (∀ x, xs[j]? = some x → wr.cell? ⟨g, j, none⟩ = some (.int .u64 (x : Int))) ∧ (∀ y, ys[j]? = some y → wr.cell? ⟨k, j, none⟩ = some (.int .u64 (y : Int))) ∧ wr.frozen? ⟨w.heap.size, j, none⟩ = false ∧ wr.cell? ⟨w.heap.size, j, none⟩ = some (.int .u64 0) := by
        obtain ⟨A, hA, _, _, ho, hg, _⟩ := hs
        exact ⟨fun x hx => hg.cell (owns_cell hown hx) (by simp), fun y hy => hg.cell (owns_cell hwn hy) (by simp), ho.frozenAt j, own_mid hA ho (by rw [List.getElem?_replicate, if_pos (by omega)])⟩
      obtain ⟨cells1, cells2, fr, c0⟩ := cells
      rcases Nat.lt_or_ge j xs.length with hjl | hge
      · obtain ⟨x, hx⟩ : ∃ x, xs[j]? = some x := ⟨_, List.getElem?_eq_getElem hjl⟩
        have hx1 := fit_get fx hx
        have cl := cells1 x hx
        by_cases hy2 : j < ys.length
        · obtain ⟨y, hy⟩ : ∃ y, ys[j]? = some y := ⟨_, List.getElem?_eq_getElem hy2⟩
          have cy := cells2 y hy
          obtain ⟨d, b, d1, d2, d3, d4⟩ := plus_parts x y c hx1 (fit_get fy hy) hc
          have nx := hs.next hx (other_in ys j y hy)
          rw [← d1, ← d2] at nx
          have HN : Hid (PlusAt w (wr.setCell ⟨w.heap.size, j, none⟩ (.int .u64 (d : Int))) w.heap.size (xs.length + 1) xs ys (j + 1) b) := nx
          clear nx d1 d2 cells1 cells2
          go_wp2_with fail
          all_goals (refine ⟨⟨j + 1, b, by omega, by go_num, rfl, d3, HN.out⟩, ?_⟩; simp [intOf]; omega)
        · obtain ⟨d, b, d1, d2, d3, d4⟩ := plus_parts x 0 c hx1 (by omega) hc
          have nx := hs.next hx (other_out ys j (by omega))
          rw [← d1, ← d2] at nx
          have HN : Hid (PlusAt w (wr.setCell ⟨w.heap.size, j, none⟩ (.int .u64 (d : Int))) w.heap.size (xs.length + 1) xs ys (j + 1) b) := nx
          have d5 : ∀ w : World, (callFunc 93 #[.int .u64 (x : Int), .int .u64 0, .int .u64 (c : Int)]).run Tryz.prog w = .ok (.value (.tuple #[.int .u64 (d : Int), .int .u64 (b : Int)])) w := d4
          clear nx d1 d2 d4 cells1 cells2
          go_wp2_with fail
          all_goals (refine ⟨⟨j + 1, b, by omega, by go_num, rfl, d3, HN.out⟩, ?_⟩; simp [intOf]; omega)
      · have hjx : j = xs.length := by omega
        have fin := plus_fin (hjx ▸ hs) HL.out (by omega)
        subst hjx
        obtain ⟨A, fA, hH, hval, hgr⟩ := fin
        have tr := trimmed_any _ _ _ A hH fA
        rw [hval] at tr
        clear hH cells1 cells2 hs
        go_wp2_with (go_at_call 94; refine tr.mono ?_; rintro e w2 ⟨rfl, v', rfl, hh⟩)
        go_ret
        exact ⟨_, w.heap.size, rfl, hh, hgr, Nat.le_refl _⟩

theorem plus_any (w : World) (v u : Value) (g k N M : Nat) (hv : Num w v g N) (hu : Num w u k M) (hlen : (wds N).length ≤ 1000000) (hlen2 : (wds M).length ≤ 1000000) :
    Calls Tryz.prog 84 #[v, u] w fun e w' => ∃ v' g', e = .returned v' ∧ Num w' v' g' (N + M) ∧ w.grownBy w' none ∧ w.heap.size ≤ g' := by
  obtain ⟨cap, rfl, hown⟩ := hv
  obtain ⟨cup, rfl, hwn⟩ := hu
  rcases Nat.lt_or_ge (wds N).length (wds M).length with c | c
  · have := plus_walk w k cup g cap (wds M) (wds N) (fit_wds M) (fit_wds N) hlen2 (by omega) hwn hown _ _ (.inr ⟨c, rfl, rfl⟩)
    rw [wval_wds, wval_wds, Nat.add_comm] at this
    exact this
  · have := plus_walk w g cap k cup (wds N) (wds M) (fit_wds N) (fit_wds M) hlen c hown hwn _ _ (.inl ⟨rfl, rfl⟩)
    rw [wval_wds, wval_wds] at this
    exact this

end Go.Proofs.YtpejebohekcfoabGreatDoor
