/- The language's own sums, and the walk of SoftSums. -/
import Derived.Test.YtnocnodiecihnaaW12
namespace Go.Proofs.Ytnocnodiecihnaa
open Go.RowKit

/-- the bits of a NaN that the language leaves open -/
def nanOf (t : Nat) : Nat := t % 2 * 9223372036854775808 + 9218868437227405312 + 1 + t / 2 % 4503599627370495

theorem nanOf_kind (t : Nat) : kindI ((nanOf t : Nat) : Int) = 3 ∧ nanOf t < 18446744073709551616 := by
  have hb : nanOf t < 18446744073709551616 := by unfold nanOf; omega
  refine ⟨?_, hb⟩
  unfold kindI
  rw [Int.toNat_natCast]
  have hr : t / 2 % 4503599627370495 < 4503599627370495 := Nat.mod_lt _ (by decide)
  have hp : t % 2 = 0 ∨ t % 2 = 1 := by omega
  have e1 : fldN (nanOf t) = 2047 := by
    unfold fldN nanOf
    generalize t / 2 % 4503599627370495 = r at *
    rcases hp with hp | hp <;> rw [hp] <;> omega
  have e2 : frcN (nanOf t) ≠ 0 := by
    unfold frcN nanOf
    generalize t / 2 % 4503599627370495 = r at *
    rcases hp with hp | hp <;> rw [hp] <;> omega
  rw [if_pos e1, if_neg e2]

theorem run_float_none (op : BinOp) (t : TypeId) (x y : Nat) (w : World) (hop : op = .add ∨ op = .sub ∨ op = .mul ∨ op = .quo) (h : floatBits op .f64 x y = none) :
    (binOp op t (.float .f64 x) (.float .f64 y)).run Try.prog w = .ok (.float .f64 (nanOf (w.tape w.drawn (.nanBits .f64 x y)))) w.drew := by
  rcases hop with rfl | rfl | rfl | rfl <;> unfold floatBits at h <;> simp only at h <;> simp [binOp, Op.floatArith, h] <;> rfl

theorem write_kind (d : Ieee.Datum) (hd : ∀ s t, d ≠ .nan s t) : kindI ((Ieee.double.write d : Nat) : Int) ≠ 3 ∧ Ieee.double.write d < 18446744073709551616 := by
  have key : ∃ s q, Ieee.double.write d = wordOf s q ∧ q ≤ 9218868437227405312 := by
    cases d with
    | number s m e => exact ⟨s, _, write_num s m e, rung_le m e⟩
    | infinity s => exact ⟨s, _, write_inf s, Nat.le_refl _⟩
    | nan s t => exact absurd rfl (hd s t)
  obtain ⟨s, q, e, hq⟩ := key
  rw [e]
  have hb : wordOf s q < 18446744073709551616 := by unfold wordOf; split <;> omega
  refine ⟨?_, hb⟩
  intro k
  have := (kind_fld ((wordOf s q : Nat) : Int) (by omega) (by omega)).2.2.1 k
  unfold rankI wordOf at this
  cases s
  · simp only [Bool.false_eq_true, if_false] at this
    rw [if_pos (by omega)] at this
    omega
  · simp only [if_true] at this
    rw [if_neg (by omega)] at this
    omega

theorem sum_not_nan (x y d : Ieee.Datum) (h : x.sum y = some d) (s : Bool) (t : Nat) : d ≠ .nan s t := by
  intro e; subst e
  cases x <;> cases y <;> simp only [Ieee.Datum.sum] at h <;> first | cases h | (split at h <;> cases h)

theorem product_not_nan (x y d : Ieee.Datum) (h : x.product y = some d) (s : Bool) (t : Nat) : d ≠ .nan s t := by
  intro e; subst e
  cases x <;> cases y <;> simp only [Ieee.Datum.product] at h <;> first | cases h | (split at h <;> cases h)

theorem quotient_not_nan (n : Nat) (x y d : Ieee.Datum) (h : x.quotient n y = some d) (s : Bool) (t : Nat) : d ≠ .nan s t := by
  intro e; subst e
  cases x <;> cases y <;> simp only [Ieee.Datum.quotient] at h <;> first | cases h | (split at h <;> first | cases h | (split at h <;> cases h))

theorem map_kind (o : Option Ieee.Datum) (ho : ∀ d, o = some d → ∀ s t, d ≠ .nan s t) (r : Nat) (h : o.map Ieee.double.write = some r) : kindI ((r : Nat) : Int) ≠ 3 ∧ r < 18446744073709551616 := by
  cases o with
  | none => cases h
  | some d =>
    rw [Option.map_some] at h
    cases h
    exact write_kind d (ho d rfl)

theorem bits_kind (op : BinOp) (x y r : Nat) (h : floatBits op .f64 x y = some r) : kindI ((r : Nat) : Int) ≠ 3 ∧ r < 18446744073709551616 := by
  cases op <;> simp only [floatBits] at h <;> first | (cases h; done) | skip
  · exact map_kind _ (fun d hd => sum_not_nan _ _ d hd) r h
  · exact map_kind _ (fun d hd => sum_not_nan _ _ d hd) r h
  · exact map_kind _ (fun d hd => product_not_nan _ _ d hd) r h
  · exact map_kind _ (fun d hd => quotient_not_nan _ _ _ d hd) r h

/-- one of the language's own operations: what it gives has the bits that the answer has, once a NaN is brought to the document's -/
theorem float_op (op : BinOp) (hop : op = .add ∨ op = .sub ∨ op = .mul ∨ op = .quo) (x y : Nat) :
    ∃ (F : World → Nat) (D : World → World), (∀ w, (binOp op 23 (.float .f64 x) (.float .f64 y)).run Try.prog w = .ok (.float .f64 (F w)) (D w)) ∧
      (∀ w u, Calls Try.prog 12 #[.float .f64 (F w)] u fun e w' => e = .returned (.int .u64 (opI (floatBits op .f64 x y))) ∧ w' = u) ∧
      (∀ w, Below w.heap.size w (D w)) := by
  cases h : floatBits op .f64 x y with
  | none =>
    refine ⟨fun w => nanOf (w.tape w.drawn (.nanBits .f64 x y)), fun w => w.drew, fun w => run_float_none op 23 x y w hop h, fun w u => ?_, fun w => (Below.refl _ _).drew⟩
    have hk := nanOf_kind (w.tape w.drawn (.nanBits .f64 x y))
    have := of_any ((nanOf (w.tape w.drawn (.nanBits .f64 x y)) : Nat) : Int) u (by omega) (by omega)
    rw [if_pos hk.1, Int.toNat_natCast] at this
    exact this
  | some r =>
    refine ⟨fun _ => r, fun w => w, fun w => run_float_arith w op 23 .f64 x y r h, fun w u => ?_, fun w => Below.refl _ _⟩
    have hk := bits_kind op x y r h
    have := of_any ((r : Nat) : Int) u (by omega) (by omega)
    rw [if_neg hk.1, Int.toNat_natCast] at this
    exact this

set_option maxHeartbeats 1000000 in
theorem sums_walk (a b : Int) (h0 : 0 ≤ a) (h1 : a < 18446744073709551616) (h2 : 0 ≤ b) (h3 : b < 18446744073709551616) (w : World) :
    Calls Try.prog 3 #[.int .u64 a, .int .u64 b] w fun e w' => e = .returned (.bool true) ∧ Below w.heap.size w w' := by
  obtain ⟨F1, D1, r1, o1, d1⟩ := float_op .add (Or.inl rfl) a.toNat b.toNat
  obtain ⟨F2, D2, r2, o2, d2⟩ := float_op .sub (Or.inr (Or.inl rfl)) a.toNat b.toNat
  obtain ⟨F3, D3, r3, o3, d3⟩ := float_op .mul (Or.inr (Or.inr (Or.inl rfl))) a.toNat b.toNat
  obtain ⟨F4, D4, r4, o4, d4⟩ := float_op .quo (Or.inr (Or.inr (Or.inr rfl))) a.toNat b.toNat
  have c1 := fun w => add_any a b w h0 h1 h2 h3
  have c2 := fun w => sub_any a b w h0 h1 h2 h3
  have c3 := fun w => mul_any a b w h0 h1 h2 h3
  have c4 := fun w => div_any a b w h0 h1 h2 h3
  have e1 : opI (floatBits .add .f64 a.toNat b.toNat) = addI a b := rfl
  have e2 : opI (floatBits .sub .f64 a.toNat b.toNat) = subI a b := rfl
  have e3 : opI (floatBits .mul .f64 a.toNat b.toNat) = mulI a b := rfl
  have e4 : opI (floatBits .quo .f64 a.toNat b.toNat) = divI a b := rfl
  rw [e1] at o1
  rw [e2] at o2
  rw [e3] at o3
  rw [e4] at o4
  have va := fun w => val_any a w
  have vb := fun w => val_any b w
  clear e1 e2 e3 e4
  generalize addI a b = A1 at *
  generalize subI a b = A2 at *
  generalize mulI a b = A3 at *
  generalize divI a b = A4 at *
  generalize a.toNat = x at *
  generalize b.toNat = y at *
  go_enter Try.func3, Try.ntmps3
  go_wp2_with fail
  refine (va _).mono ?_
  rintro e w1 ⟨rfl, hw⟩
  subst hw
  go_wp2_with fail
  refine (vb _).mono ?_
  rintro e w1 ⟨rfl, hw⟩
  subst hw
  go_wp2_with fail
  refine (alive_any _).mono ?_
  rintro e w2 ⟨rfl, hb1⟩
  go_wp2_with fail
  refine (c1 _).mono ?_
  rintro e w3 ⟨rfl, hb2⟩
  go_wp2_with fail
  refine (o1 _ _).mono ?_
  rintro e w4 ⟨rfl, hw4⟩
  subst hw4
  go_wp2_with fail
  refine (c2 _).mono ?_
  rintro e w5 ⟨rfl, hb3⟩
  go_wp2_with fail
  refine (o2 _ _).mono ?_
  rintro e w6 ⟨rfl, hw6⟩
  subst hw6
  go_wp2_with fail
  refine (c3 _).mono ?_
  rintro e w7 ⟨rfl, hb4⟩
  go_wp2_with fail
  refine (o3 _ _).mono ?_
  rintro e w8 ⟨rfl, hw8⟩
  subst hw8
  go_wp2_with fail
  refine (c4 _).mono ?_
  rintro e w9 ⟨rfl, hb5⟩
  go_wp2_with fail
  refine (o4 _ _).mono ?_
  rintro e w10 ⟨rfl, hw10⟩
  subst hw10
  go_wp2
  go_ret
  exact ⟨rfl, bt (bt (bt (bt (bt (bt (bt (bt hb1 hb2) (d1 _)) hb3) (d2 _)) hb4) (d3 _)) hb5) (d4 _)⟩

end Go.Proofs.Ytnocnodiecihnaa
