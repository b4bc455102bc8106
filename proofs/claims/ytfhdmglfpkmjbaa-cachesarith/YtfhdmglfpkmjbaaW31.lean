/- The words of numbers that are kept whole: their order, differences, multiples and parts by the language. -/
import Derived.Test.YtfhdmglfpkmjbaaW28
import Derived.Test.YtfhdmglfpkmjbaaB5
import Derived.Test.YtfhdmglfpkmjbaaM13
namespace Go.Proofs.Ytfhdmglfpkmjbaa
open Go.RowKit

/-- a finite number, without its sign -/
theorem fin_rep (F : Int) (h0 : 0 ≤ F) (h1 : F < 9218868437227405312) : Rep (valN F.toNat) ∧ wd (valN F.toNat) = F.toNat := by
  by_cases z : F = 0
  · subst z
    have : valN (0 : Int).toNat = 0 := rfl
    rw [this]
    exact ⟨rep_zero, wd_zero⟩
  obtain ⟨_, _, _, k⟩ := own_parts F (by omega) h1
  have v := val_parts F h0 (by omega) k
  obtain ⟨_, f, e⟩ := read_fin F h0 (by omega) k
  obtain ⟨f1, f2, f3, f4, _⟩ := f
  have ng : negB F.toNat = false := decide_eq_false (by omega)
  rw [ng, if_neg (by decide)] at v
  have v2 : valI F = ((valN F.toNat : Nat) : Int) := by unfold valI; rw [if_pos (by omega)]
  have vn : valN F.toNat = (manI F).toNat * 2 ^ (expI F + 1074).toNat := by rw [v2] at v; exact Int.ofNat.inj v
  have sc := rung_scale (manI F).toNat (expI F + 1074).toNat (-1074)
  rw [show -1074 + (((expI F + 1074).toNat : Nat) : Int) = expI F from by omega] at sc
  have ht := te
  refine ⟨⟨⟨_, _, vn, by omega⟩, ?_⟩, ?_⟩
  · rw [vn]
    have p := Nat.two_pow_pos (expI F + 1074).toNat
    have b1 : (manI F).toNat * 2 ^ (expI F + 1074).toNat < 2 ^ 53 * 2 ^ (expI F + 1074).toNat := (Nat.mul_lt_mul_right p).2 (by show _ < 9007199254740992; omega)
    rw [← Nat.pow_add] at b1
    exact Nat.lt_of_lt_of_le b1 (Nat.pow_le_pow_right (by decide) (by omega))
  · unfold wd
    rw [vn, sc]
    rw [ng] at e
    have sb0 : sb false = 0 := rfl
    rw [sb0] at e
    generalize rung (manI F).toNat (expI F) = R at *
    clear v v2 vn sc k
    omega

theorem wd_kind (R : Nat) (hR : Rep R) : kindI ((wd R : Nat) : Int) < 2 ∧ valI ((wd R : Nat) : Int) = ((R : Nat) : Int) := by
  obtain ⟨v, r1⟩ := rep_word R hR
  have k1 := (kind_fld ((wd R : Nat) : Int) (by omega) (by omega)).1
  have e1 : rankI ((wd R : Nat) : Int) = ((wd R : Nat) : Int) := by unfold rankI; rw [if_pos (by omega)]
  rw [e1] at k1
  refine ⟨k1.2 (by omega), ?_⟩
  unfold valI
  rw [if_pos (by omega), Int.toNat_natCast, v]

theorem wd_less (R Y : Nat) (hR : Rep R) (hY : Rep Y) : (FloatKind.f64.format.order (wd R) (wd Y) == some Ordering.lt) = decide (R < Y) := by
  have r1 := (rep_word R hR).2
  have y1 := (rep_word Y hY).2
  have l := wd_lt hR hY
  have o := less_order ((wd R : Nat) : Int) ((wd Y : Nat) : Int) (by omega) (by omega) (by omega) (by omega)
  rw [Int.toNat_natCast, Int.toNat_natCast] at o
  rw [o]
  unfold lessI
  have k1 := (kind_fld ((wd R : Nat) : Int) (by omega) (by omega)).1
  have k2 := (kind_fld ((wd Y : Nat) : Int) (by omega) (by omega)).1
  have e1 : rankI ((wd R : Nat) : Int) = ((wd R : Nat) : Int) := by unfold rankI; rw [if_pos (by omega)]
  have e2 : rankI ((wd Y : Nat) : Int) = ((wd Y : Nat) : Int) := by unfold rankI; rw [if_pos (by omega)]
  rw [e1] at k1 ⊢
  rw [e2] at k2 ⊢
  have n1 : kindI ((wd R : Nat) : Int) < 2 := k1.2 (by omega)
  have n2 : kindI ((wd Y : Nat) : Int) < 2 := k2.2 (by omega)
  have a1 : (kindI ((wd R : Nat) : Int) == 3) = false := by rw [beq_eq_false_iff_ne]; omega
  have a2 : (kindI ((wd Y : Nat) : Int) == 3) = false := by rw [beq_eq_false_iff_ne]; omega
  rw [a1, a2]
  have l2 : (((wd R : Nat) : Int) < ((wd Y : Nat) : Int)) ↔ R < Y := by rw [← l]; omega
  rw [decide_eq_decide.2 l2]
  rfl

theorem wd_geq (R Y : Nat) (hR : Rep R) (hY : Rep Y) : (FloatKind.f64.format.order (wd R) (wd Y) == some Ordering.gt || FloatKind.f64.format.order (wd R) (wd Y) == some Ordering.eq) = decide (Y ≤ R) := by
  have r1 := (rep_word R hR).2
  have y1 := (rep_word Y hY).2
  have l := wd_less R Y hR hY
  have k1 := (kind_fld ((wd R : Nat) : Int) (by omega) (by omega)).1
  have k2 := (kind_fld ((wd Y : Nat) : Int) (by omega) (by omega)).1
  have e1 : rankI ((wd R : Nat) : Int) = ((wd R : Nat) : Int) := by unfold rankI; rw [if_pos (by omega)]
  have e2 : rankI ((wd Y : Nat) : Int) = ((wd Y : Nat) : Int) := by unfold rankI; rw [if_pos (by omega)]
  rw [e1] at k1
  rw [e2] at k2
  have n1 : kindI ((wd R : Nat) : Int) < 2 := k1.2 (by omega)
  have n2 : kindI ((wd Y : Nat) : Int) < 2 := k2.2 (by omega)
  have o := order_eq ((wd R : Nat) : Int) ((wd Y : Nat) : Int) (by omega) (by omega) (by omega) (by omega) (by omega) (by omega)
  rw [Int.toNat_natCast, Int.toNat_natCast] at o
  have o' : FloatKind.f64.format.order (wd R) (wd Y) = some (compare (rankI ((wd R : Nat) : Int)) (rankI ((wd Y : Nat) : Int))) := o
  rw [o'] at l ⊢
  generalize compare (rankI ((wd R : Nat) : Int)) (rankI ((wd Y : Nat) : Int)) = c at *
  by_cases d : R < Y
  · rw [decide_eq_true d] at l
    rw [decide_eq_false (by omega)]
    cases c <;> simp_all
  · rw [decide_eq_false d] at l
    rw [decide_eq_true (by omega)]
    cases c <;> simp_all
theorem wd_sub (R Z : Nat) (hR : Rep R) (hZ : Rep Z) (h1 : Z ≤ R) (h2 : R < 2 * Z) : subI ((wd R : Nat) : Int) ((wd Z : Nat) : Int) = ((wd (R - Z) : Nat) : Int) := by
  obtain ⟨vr, r1⟩ := rep_word R hR
  obtain ⟨vz, z1⟩ := rep_word Z hZ
  obtain ⟨kr, wr⟩ := wd_kind R hR
  obtain ⟨kz, wz⟩ := wd_kind Z hZ
  by_cases c : R = Z
  · subst c
    rw [sub_self _ (by omega) (by omega) kr, show R - R = 0 from by omega, wd_zero]
    rfl
  · have hD := rep_sub R Z hR hZ h1 h2
    have pos := wd_pos _ hD (by omega)
    obtain ⟨_, d1⟩ := rep_word _ hD
    have r := rank_sub ((wd R : Nat) : Int) ((wd Z : Nat) : Int) (by omega) (by omega) (by omega) (by omega) kr kz
    rw [wr, wz] at r
    obtain ⟨s0, s1⟩ := subI_bd ((wd R : Nat) : Int) ((wd Z : Nat) : Int)
    have e : srp (-1074) (((R : Nat) : Int) - ((Z : Nat) : Int)) = ((wd (R - Z) : Nat) : Int) := by
      unfold srp wd
      rw [if_neg (by omega), show (((R : Nat) : Int) - ((Z : Nat) : Int)).natAbs = R - Z from by omega]
    rw [e] at r
    generalize wd (R - Z) = D at *
    generalize subI ((wd R : Nat) : Int) ((wd Z : Nat) : Int) = S at *
    unfold rankI at r
    split at r <;> omega

/-- a difference of two finite ones, by the language -/
theorem sub_run (a b : Int) (h0 : 0 ≤ a) (h1 : a < 18446744073709551616) (h2 : 0 ≤ b) (h3 : b < 18446744073709551616) (ka : kindI a < 2) (kb : kindI b < 2) (w : World) :
    (binOp .sub 63 (.float .f64 a.toNat) (.float .f64 b.toNat)).run Try.prog w = .ok (.float .f64 (subI a b).toNat) w := by
  obtain ⟨m, i, ra⟩ := read_num a h0 h1 ka
  obtain ⟨n, j, rb⟩ := read_num b h2 h3 kb
  have h : Ieee.double.sub a.toNat b.toNat = some (subI a b).toNat := by
    unfold subI Ieee.Format.sub
    rw [ra, rb]
    simp only [Ieee.Datum.sum, Ieee.Datum.opposite]
    rw [Option.map_some, opI_some, Int.toNat_natCast]
  exact run_float_arith w .sub 23 .f64 _ _ _ h

theorem wd_sub_run (R Z : Nat) (hR : Rep R) (hZ : Rep Z) (h1 : Z ≤ R) (h2 : R < 2 * Z) (w : World) :
    (binOp .sub 63 (.float .f64 (wd R)) (.float .f64 (wd Z))).run Try.prog w = .ok (.float .f64 (wd (R - Z))) w := by
  obtain ⟨vr, r1⟩ := rep_word R hR
  obtain ⟨vz, z1⟩ := rep_word Z hZ
  have kr := (wd_kind R hR).1
  have kz := (wd_kind Z hZ).1
  have := sub_run ((wd R : Nat) : Int) ((wd Z : Nat) : Int) (by omega) (by omega) (by omega) (by omega) kr kz w
  rw [wd_sub R Z hR hZ h1 h2, Int.toNat_natCast, Int.toNat_natCast, Int.toNat_natCast] at this
  exact this

/-- Frexp's parts -/
theorem frexp_parts (F : Int) (h0 : 0 < F) (h1 : F < 9218868437227405312) :
    4503599627370496 ≤ frgI F ∧ frgI F < 9007199254740992 ∧ -51 ≤ frcE F ∧ frcE F ≤ 2046 ∧ valN F.toNat * 4503599627370496 = frgI F * 2 ^ (frcE F + 51).toNat := by
  obtain ⟨q, f, q0, q1, hf, hG, hr⟩ := norm_parts F h0 h1
  have E0 : -52 ≤ nexpI F := by unfold nexpI; split <;> omega
  have E1 : nexpI F ≤ 0 := by unfold nexpI; split <;> omega
  have eg : frgI F = f + 4503599627370496 := by unfold frgI; clear hr; omega
  have ec : frcE F = nexpI F + (q : Int) := by unfold frcE; clear hr; omega
  rw [eg, ec]
  refine ⟨by omega, by omega, by omega, by omega, ?_⟩
  by_cases c : F < 4503599627370496
  · have ne : nexpI F = -52 := by unfold nexpI; rw [if_pos c]
    have h := hr 52
    rw [ne] at h ⊢
    obtain ⟨_, _, _, kF⟩ := own_parts F h0 h1
    have f0 : fldN F.toNat = 0 := by unfold fldN; clear hr h hG; omega
    have r0 : frcN F.toNat = F.toNat := by unfold frcN; clear hr h hG; omega
    have mF : manI F = F := by unfold manI manN; rw [if_pos kF, f0, if_pos rfl, r0]; clear hr h hG; omega
    have eF : expI F = -1074 := by unfold expI; rw [if_pos kF, f0]; rfl
    rw [mF, eF] at h
    have a := val_rung (f + 4503599627370496) ((q : Int) - 1075 + -52 + 52) (by omega) (by omega) (by omega)
    have b := val_rung F.toNat (-1074 + 52) (by omega) (by omega) (by omega)
    rw [h] at a
    rw [b] at a
    have vF : valN F.toNat = F.toNat := valN_low _ (by omega)
    rw [vF]
    have e1 : ((-1074 : Int) + 52 + 1074).toNat = 52 := rfl
    have e2 : ((q : Int) - 1075 + -52 + 52 + 1074).toNat = (-52 + (q : Int) + 51).toNat := by omega
    rw [e1, e2] at a
    exact a
  · have ne : nexpI F = 0 := by unfold nexpI; rw [if_neg c]
    have nF : normI F = F := by unfold normI; rw [if_neg c]
    rw [nF] at hG
    rw [ne]
    have hF : F.toNat = (q - 1) * 4503599627370496 + (f + 4503599627370496) := by clear hr; omega
    rw [hF, valN_high (q - 1) _ (by omega) (by omega), Nat.mul_assoc]
    have e : (4503599627370496 : Nat) = 2 ^ 52 := rfl
    have e3 : 2 ^ (q - 1) * 4503599627370496 = 2 ^ (0 + (q : Int) + 51).toNat := by
      rw [e, ← Nat.pow_add]
      congr 1
      omega
    rw [e3]

/-- the order of what is ahead of the point -/
theorem fr_less (g h : Nat) (g0 : 4503599627370496 ≤ g) (g1 : g < 9007199254740992) (h0 : 4503599627370496 ≤ h) (h1 : h < 9007199254740992) :
    (FloatKind.f64.format.order (4598175219545276416 + g) (4598175219545276416 + h) == some Ordering.lt) = decide (g < h) := by
  obtain ⟨a, ha⟩ : ∃ a : Int, a = ((4598175219545276416 + g : Nat) : Int) := ⟨_, rfl⟩
  obtain ⟨b, hb⟩ : ∃ b : Int, b = ((4598175219545276416 + h : Nat) : Int) := ⟨_, rfl⟩
  have ta : 4598175219545276416 + g = a.toNat := by omega
  have tb : 4598175219545276416 + h = b.toNat := by omega
  have o := less_order a b (by omega) (by omega) (by omega) (by omega)
  rw [ta, tb, o]
  have k1 := (kind_fld a (by omega) (by omega)).1
  have k2 := (kind_fld b (by omega) (by omega)).1
  have e1 : rankI a = a := by unfold rankI; rw [if_pos (by omega)]
  have e2 : rankI b = b := by unfold rankI; rw [if_pos (by omega)]
  rw [e1] at k1
  rw [e2] at k2
  have n1 : kindI a < 2 := k1.2 (by omega)
  have n2 : kindI b < 2 := k2.2 (by omega)
  unfold lessI
  have a1 : (kindI a == 3) = false := by rw [beq_eq_false_iff_ne]; omega
  have a2 : (kindI b == 3) = false := by rw [beq_eq_false_iff_ne]; omega
  rw [a1, a2, e1, e2]
  have l2 : (a < b) ↔ g < h := by omega
  rw [decide_eq_decide.2 l2]
  rfl

end Go.Proofs.Ytfhdmglfpkmjbaa
