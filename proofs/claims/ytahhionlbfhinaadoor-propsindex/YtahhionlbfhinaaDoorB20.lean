/- The document's Digits. -/
import Derived.Test.YtahhionlbfhinaaDoorKF
import Derived.Laws.IdiomStrings
import Derived.Test.YtahhionlbfhinaaDoorB19
import Derived.Test.YtahhionlbfhinaaDoorRows
import Derived.ProofKit
import Derived.OpenShut
import Derived.LaidMore
import Derived.Lib.LaidTab
import Derived.MakeChecks
import Derived.Lay
namespace Go.Proofs.YtahhionlbfhinaaDoor.Hp
open Go.RowKit
set_option linter.unusedVariables false

def baS (l : List UInt8) : ByteArray := ⟨l.toArray⟩
theorem baS_app (l m : List UInt8) : baS l ++ baS m = baS (l ++ m) := by
  apply ByteArray.ext
  show _ = (l ++ m).toArray
  rw [ByteArray.data_append]
  simp [baS]

theorem dg_len : ∀ (f n : Nat), (dgF f n).length ≤ f + 1
  | 0, n => by simp [dgF]
  | f + 1, n => by
    unfold dgF
    split
    · simp
    · have := dg_len f (n / 10)
      rw [List.length_append]
      simp
      omega

theorem conv_one (W : World) (g : Nat) (d : UInt8) (z : Int) (hz : z = (d.toNat : Int)) (h : W.heap[g]? = some (.cells #[.int .u8 z] 5 (0, 0))) : (convert 40 9 (.slice (some ⟨g, 0, none⟩) 1 1)).run Tryd.prog W = .ok (.string (baS [d])) W := by
  refine run_convert_bytes_back (P := Tryd.prog) W 40 9 5 ⟨g, 0, none⟩ 1 [d] Tryd.underlying40 Tryd.underlying5 Tryd.underlying9 (fun j hj => ?_)
  obtain rfl : j = 0 := by simp at hj; omega
  show W.cell? ⟨g, 0, none⟩ = _
  rw [cell_of_row W g 0 _ _ (0, 0) h, hz]
  rfl

set_option maxRecDepth 100000 in
set_option maxHeartbeats 1000000 in
theorem digits_any : ∀ (f n : Nat) (w : World), f ≤ 4 → n < 10 ^ (f + 1) → Calls Tryd.prog 7 #[.int .i64 (n : Int)] w fun e w' => e = .returned (.string (baS (dgF f n))) ∧ Below w.heap.size w w' := by
  intro f
  induction f with
  | zero =>
    intro n w hf hn
    have hn : n < 10 := by simpa using hn
    have e : dgF 0 n = [UInt8.ofNat (48 + n)] := by unfold dgF; rw [Nat.mod_eq_of_lt hn]
    rw [e]
    have hcv := conv_one (w.alloc (.cells #[.int .u8 (48 + (n : Int))] 5)) w.heap.size (UInt8.ofNat (48 + n)) (48 + (n : Int)) (by rw [ofn n hn]; omega) (at_new _ _)
    have HB : Hid (Below w.heap.size w (w.alloc (.cells #[.int .u8 (48 + (n : Int))] 5))) := (Below.refl _ _).alloc (Nat.le_refl _) _
    have h1 : (n : Int) < 10 := by omega
    clear hn hf e
    generalize baS [UInt8.ofNat (48 + n)] = R0 at *
    go_enter Tryd.func7, Tryd.ntmps7
    go_wp2_with fail
    go_ret
    exact ⟨rfl, HB.out⟩
  | succ f ih =>
    intro n w hf hn
    have hn5 : n < 100000 := Nat.lt_of_lt_of_le hn (by have := Nat.pow_le_pow_right (n := 10) (by omega) (show f + 1 + 1 ≤ 5 by omega); omega)
    by_cases c : n < 10
    · have e : dgF (f + 1) n = [UInt8.ofNat (48 + n)] := by unfold dgF; rw [if_pos c]
      rw [e]
      have hcv := conv_one (w.alloc (.cells #[.int .u8 (48 + (n : Int))] 5)) w.heap.size (UInt8.ofNat (48 + n)) (48 + (n : Int)) (by rw [ofn n c]; omega) (at_new _ _)
      have HB : Hid (Below w.heap.size w (w.alloc (.cells #[.int .u8 (48 + (n : Int))] 5))) := (Below.refl _ _).alloc (Nat.le_refl _) _
      have h1 : (n : Int) < 10 := by omega
      clear hn hf e c ih
      generalize baS [UInt8.ofNat (48 + n)] = R0 at *
      go_enter Tryd.func7, Tryd.ntmps7
      go_wp2_with fail
      go_ret
      exact ⟨rfl, HB.out⟩
    · have e : dgF (f + 1) n = dgF f (n / 10) ++ [UInt8.ofNat (48 + n % 10)] := by rw [dgF]; rw [if_neg c]
      have h2 : n / 10 < 10 ^ (f + 1) := by
        rw [Nat.pow_succ] at hn
        exact Nat.div_lt_of_lt_mul (by omega)
      obtain ⟨q, hq⟩ : ∃ q : Int, q = ((n / 10 : Nat) : Int) := ⟨_, rfl⟩
      obtain ⟨m, hm⟩ : ∃ m : Int, m = ((n % 10 : Nat) : Int) := ⟨_, rfl⟩
      obtain ⟨z, hz⟩ : ∃ z : Int, z = 48 + m := ⟨_, rfl⟩
      have hm10 : n % 10 < 10 := Nat.mod_lt _ (by omega)
      have w1 : IntKind.i64.wrap ((n : Int) / 10) = q := by rw [IntKind.wrap_i64]; omega
      have w2 : (n : Int).tmod 10 = m := by rw [Int.tmod_eq_emod_of_nonneg (by omega)]; omega
      have w3 : IntKind.i64.wrap (48 + m) = z := by rw [IntKind.wrap_i64]; omega
      have w4 : IntKind.u8.wrap z = z := by rw [IntKind.wrap_u8]; omega
      have kd : ∀ W : World, Calls Tryd.prog 7 #[.int .i64 q] W fun e w' => e = .returned (.string (baS (dgF f (n / 10)))) ∧ Below W.heap.size W w' := fun W => by rw [hq]; exact ih (n / 10) W (by omega) h2
      have HC : Hid (∀ (W : World) (g : Nat), W.heap[g]? = some (.cells #[.int .u8 z] 5 (0, 0)) → (convert 40 9 (.slice (some ⟨g, 0, none⟩) 1 1)).run Tryd.prog W = .ok (.string (baS [UInt8.ofNat (48 + n % 10)])) W) := fun W g h => conv_one W g _ _ (by rw [ofn _ hm10]; omega) h
      have hcv : ∀ W : World, (convert 40 9 (.slice (some ⟨W.heap.size, 0, none⟩) 1 1)).run Tryd.prog (W.alloc (.cells #[.int .u8 z] 5)) = .ok (.string (baS [UInt8.ofNat (48 + n % 10)])) (W.alloc (.cells #[.int .u8 z] 5)) := fun W => HC.out _ _ (at_new _ _)
      have hcvD : ∀ W : World, (convert 40 9 (.slice (some ⟨W.heap.size, 0, none⟩) 1 1)).run Tryd.prog (W.alloc (.cells #[.int .u8 z] 5)).drew = .ok (.string (baS [UInt8.ofNat (48 + n % 10)])) (W.alloc (.cells #[.int .u8 z] 5)).drew := fun W => HC.out _ _ (at_new _ _)
      have HE : Hid (baS (dgF (f + 1) n) = baS (dgF f (n / 10)) ++ baS [UInt8.ofNat (48 + n % 10)]) := by show _ = _; rw [baS_app, e]
      have h1 : ¬ (n : Int) < 10 := by omega
      have z1 : ((baS (dgF f (n / 10))).size : Int) ≤ 100 := by
        have := dg_len f (n / 10)
        show (((dgF f (n / 10)).toArray.size : Nat) : Int) ≤ 100
        simp
        omega
      have z2 : (baS [UInt8.ofNat (48 + n % 10)]).size = 1 := rfl
      clear hn hf e ih h2 hm hz hq hm10 c
      generalize baS (dgF (f + 1) n) = R at *
      generalize baS [UInt8.ofNat (48 + n % 10)] = R2 at *
      generalize baS (dgF f (n / 10)) = R1 at *
      go_enter Tryd.func7, Tryd.ntmps7
      go_wp2_with fail
      go_region_with ((go_at_call 7; refine (kd _).mono ?_; rintro e w5 ⟨rfl, hB5⟩; first | (have hlt : w.heap.size < (w.alloc (.cells #[.int .u8 z] 5)).drew.heap.size := Nat.lt_of_lt_of_eq (Nat.lt_succ_self _) (size_new w _).symm; have hC := HC.out w5 w.heap.size (by rw [hB5.block _ hlt]; exact at_new _ _); have HF : Hid (Below w.heap.size w w5) := ((Below.refl w.heap.size w).alloc (Nat.le_refl _) _).drew.trans (hB5.mono (Nat.le_of_lt hlt)); clear hB5 hlt) | (have HF : Hid (Below w.heap.size w w5) := ⟨hB5.os, hB5.tape, hB5.output, hB5.size, hB5.block⟩; clear hB5)))
      all_goals
        go_wp2_with fail
        go_ret
        refine ⟨by rw [HE.out]; rfl, ?_⟩
        first
        | exact HF.out
        | exact HF.out.alloc HF.out.size _

end Go.Proofs.YtahhionlbfhinaaDoor.Hp

/- PropsIndex: the law's walk. -/
namespace Go.Proofs.YtahhionlbfhinaaDoor.Hp
open Go.RowKit
set_option linter.unusedVariables false

theorem dg_size (n : Nat) : (baS (dgF 4 n)).size ≤ maxLen := by
  have := dg_len 4 n
  show (dgF 4 n).toArray.size ≤ maxLen
  simp only [List.size_toArray]
  unfold maxLen
  omega

set_option maxRecDepth 100000 in
set_option maxHeartbeats 1000000 in
theorem pindex_walk (w : World) (hF : FpAt w) (s : ByteArray) (hs : s.size ≤ maxLen) (n : Int) (hn : -9223372036854775808 ≤ n ∧ n ≤ 9223372036854775807) :
    Calls Tryd.prog 3 #[.string s, .int .i64 n] w fun e w' => e = .returned (.bool true) ∧ Below w.heap.size w w' := by
  have k1 := index_any s w hs
  have k2 := rindex_any s w hs
  rw [← ix_same] at k2
  have ka := palive_any w hF
  have he : ((((ixI s).getD 0 : Nat) : Int) != (((ixI s).getD 0 : Nat) : Int)) = false := by simp
  have he2 : ((ixI s).isSome != (ixI s).isSome) = false := by simp
  generalize (((ixI s).getD 0 : Nat) : Int) = r at *
  generalize (ixI s).isSome = ok at *
  obtain ⟨n0, n1⟩ := hn
  by_cases c : n < 0 ∨ 4096 ≤ n
  · rcases c with c | c
    · have c1 : decide (n < 0) = true := decide_eq_true c
      go_enter Tryd.func3, Tryd.ntmps3
      go_wp2_with fail
      refine k1.mono ?_
      rintro e w1 ⟨rfl, rfl⟩
      clear k1
      go_wp2_with fail
      refine k2.mono ?_
      rintro e w1 ⟨rfl, rfl⟩
      clear k2
      go_wp2_with fail
      refine ka.mono ?_
      rintro e w2 ⟨rfl, hB2⟩
      have HB2 := (show Hid _ from hB2)
      clear ka hB2
      go_wp2_with fail
      go_ret
      exact ⟨rfl, HB2.out⟩
    · have c1 : decide (n < 0) = false := decide_eq_false (by omega)
      have c2 : decide (4096 ≤ n) = true := decide_eq_true c
      go_enter Tryd.func3, Tryd.ntmps3
      go_wp2_with fail
      refine k1.mono ?_
      rintro e w1 ⟨rfl, rfl⟩
      clear k1
      go_wp2_with fail
      refine k2.mono ?_
      rintro e w1 ⟨rfl, rfl⟩
      clear k2
      go_wp2_with fail
      refine ka.mono ?_
      rintro e w2 ⟨rfl, hB2⟩
      have HB2 := (show Hid _ from hB2)
      clear ka hB2
      go_wp2_with fail
      go_ret
      exact ⟨rfl, HB2.out⟩
  · obtain ⟨m, rfl⟩ : ∃ m : Nat, n = m := ⟨n.toNat, by omega⟩
    have hm : m < 4096 := by omega
    have c1 : decide ((m : Int) < 0) = false := decide_eq_false (by omega)
    have c2 : decide (4096 ≤ (m : Int)) = false := decide_eq_false (by omega)
    have kd := fun W => digits_any 4 m W (Nat.le_refl _) (by omega)
    have kx := fun W => index_any (baS (dgF 4 m)) W (dg_size m)
    rw [show ixI (baS (dgF 4 m)) = some m from dg_ix m hm] at kx
    simp only [Option.getD_some, Option.isSome_some] at kx
    have hmm : ((m : Int) == (m : Int)) = true := by simp
    generalize baS (dgF 4 m) = ds at *
    clear c hm hF hs
    go_enter Tryd.func3, Tryd.ntmps3
    go_wp2_with fail
    refine k1.mono ?_
    rintro e w1 ⟨rfl, rfl⟩
    clear k1
    go_wp2_with fail
    refine k2.mono ?_
    rintro e w1 ⟨rfl, rfl⟩
    clear k2
    go_wp2_with fail
    refine ka.mono ?_
    rintro e w2 ⟨rfl, hB2⟩
    have HB2 := (show Hid _ from hB2)
    clear ka hB2
    go_wp2_with fail
    refine (kd _).mono ?_
    rintro e w3 ⟨rfl, hB3⟩
    have HB3 := (show Hid _ from bel_sm HB2.out hB3)
    clear kd hB3 HB2
    go_wp2_with fail
    refine (kx _).mono ?_
    rintro e w4 ⟨rfl, rfl⟩
    clear kx
    go_wp2_with fail
    go_ret
    exact ⟨rfl, HB3.out⟩

end Go.Proofs.YtahhionlbfhinaaDoor.Hp

/- The listed variable. -/
namespace Go.Proofs.YtahhionlbfhinaaDoor.Hp
open Go.RowKit Go.ChangeShapes Go.WideShapes
set_option linter.unusedVariables false

theorem cells_of_pairs {H : Type} {enc : TypeId × Value → H} {W : World} {base : Nat} {sp : Nat → Bool} {held : Bool} {fuel : Nat} {cs : List Value} {p : List MemPlace}
    (h : DataW.trod enc Tryd.prog W base sp held fuel 104 cs = some (Rows.laid_brazier_props_flagPairs, p)) : cs = [.int .i64 2, .int .i64 1, .int .i64 4, .int .i64 2, .int .i64 8, .int .i64 4] := by
  have c1 : Tryd.prog.cellsOf 103 = 2 := by kernel_rfl
  have c2 : Tryd.prog.cellsOf 104 = 6 := by kernel_rfl
  unfold Rows.laid_brazier_props_flagPairs at h
  cases fuel with
  | zero => simp [DataW.trod] at h
  | succ fuel =>
    simp only [DataW.trod, Tryd.underlying104, c1, c2] at h
    split at h
    · rename_i hl
      obtain ⟨xs, hm, hx⟩ := Option.map_eq_some_iff.1 h
      have hf : xs.map (·.1) = [.agg [.lit (.int .i64 2), .lit (.int .i64 1)], .agg [.lit (.int .i64 4), .lit (.int .i64 2)], .agg [.lit (.int .i64 8), .lit (.int .i64 4)]] := by simpa using congrArg Prod.fst hx
      have part : ∀ (i : Nat) (a b : Int), i < 3 → (xs.map (·.1))[i]? = some (DataW.agg [.lit (.int .i64 a), .lit (.int .i64 b)] : DataW H) → (cs.drop (i * 2)).take 2 = [.int .i64 a, .int .i64 b] := fun i a b hi he => by
        obtain ⟨x, hb, hk⟩ := Go.Lib.mapM_at hm i i (by simp [hi])
        rw [List.getElem?_map, hb] at he
        have he := Option.some.inj he
        obtain ⟨x1, x2⟩ := x
        simp only at he
        subst he
        exact Lib.cells_of_tab (zs := [a, b]) Tryd.underlying103 Tryd.underlying3 (by kernel_rfl) (by kernel_rfl) hk
      have p0 := part 0 2 1 (by omega) (by rw [hf]; rfl)
      have p1 := part 1 4 2 (by omega) (by rw [hf]; rfl)
      have p2 := part 2 8 4 (by omega) (by rw [hf]; rfl)
      match cs, hl, p0, p1, p2 with
      | [a, b, c, d, e, f], _, p0, p1, p2 =>
        simp at p0 p1 p2
        obtain ⟨rfl, rfl⟩ := p0
        obtain ⟨rfl, rfl⟩ := p1
        obtain ⟨rfl, rfl⟩ := p2
        rfl
    · cases h

theorem fp_of {W : World} (h : laidMetH Tryd.prog [("brazier/props.flagPairs", Rows.laid_brazier_props_flagPairs)] W) : FpAt W := by
  rw [MakeChecks.laidMetH_plain _ _ _ (by kernel_rfl)] at h
  obtain ⟨ps, ⟨g0, t0, cs0, f0, p0, q0, hg0, ht0, hv0, hd0, _, _⟩, _⟩ := h
  obtain rfl := Option.some.inj ((show Tryd.prog.globalNamed "brazier/props.flagPairs" = some 0 by kernel_rfl).symm.trans hg0)
  obtain rfl := Option.some.inj ((show (Tryd.prog.globals[0]?).map (·.type) = some 104 by kernel_rfl).symm.trans ht0)
  have e := cells_of_pairs hd0
  unfold World.var? at hv0
  rw [show Tryd.prog.globalNamed "brazier/props.flagPairs" = some 0 by kernel_rfl] at hv0
  simp only [Option.bind_some] at hv0
  split at hv0
  · rename_i c t fr hh
    simp at hv0
    subst hv0
    refine ⟨t, fr, ?_⟩
    rw [hh]
    congr 2
    rw [← e]
  · simp at hv0

end Go.Proofs.YtahhionlbfhinaaDoor.Hp
