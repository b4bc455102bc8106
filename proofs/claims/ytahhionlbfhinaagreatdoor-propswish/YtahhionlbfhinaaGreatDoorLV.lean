/- What becomes of a wish: plain. -/
import Derived.Test.YtahhionlbfhinaaGreatDoorLU
import Derived.Test.YtahhionlbfhinaaGreatDoorKO
import Derived.Test.YtahhionlbfhinaaGreatDoorKI
namespace Go.Proofs.YtahhionlbfhinaaGreatDoor.Hp
open Go.RowKit
set_option linter.unusedVariables false

/-! ## Bits -/
theorem and_le (n m : Int) (M : Nat) (hm : (BitVec.ofInt 64 m).toNat = M) (h : M ≤ 63) : bits .and .i64 n m = (((BitVec.ofInt 64 n).toNat &&& M : Nat) : Int) := by
  have h6 : (BitVec.ofInt 64 n).toNat &&& M ≤ M := Nat.and_le_right
  show IntKind.i64.wrap ((BitVec.ofInt 64 n &&& BitVec.ofInt 64 m).toNat : Nat) = _
  rw [BitVec.toNat_and, hm, IntKind.wrap_i64]
  omega
theorem nat_or_zero (a b : Nat) : a ||| b = 0 ↔ a = 0 ∧ b = 0 := by
  constructor
  · intro h
    have h1 : a ≤ a ||| b := Nat.left_le_or
    have h2 : b ≤ a ||| b := Nat.right_le_or
    omega
  · rintro ⟨rfl, rfl⟩; rfl
theorem and_two (n : Int) (a b c : Int) (A B C : Nat) (ha : (BitVec.ofInt 64 a).toNat = A) (hb : (BitVec.ofInt 64 b).toNat = B) (hc : (BitVec.ofInt 64 c).toNat = C) (hA : A ≤ 63) (hB : B ≤ 63) (hC : C ≤ 63) (h : C = A ||| B) :
    (bits .and .i64 n c != 0) = ((bits .and .i64 n a != 0) || (bits .and .i64 n b != 0)) := by
  rw [and_le n a A ha hA, and_le n b B hb hB, and_le n c C hc hC, h, Nat.and_or_distrib_left]
  generalize (BitVec.ofInt 64 n).toNat &&& A = x
  generalize (BitVec.ofInt 64 n).toNat &&& B = y
  have := nat_or_zero x y
  generalize x ||| y = z at *
  rw [Bool.eq_iff_iff]
  simp only [Bool.or_eq_true, bne_iff_ne, ne_eq]
  omega
theorem has48 (u : Ws) : (bits .and .i64 u.has 48 != 0) = (hasU u 16 || hasU u 32) := and_two u.has 16 32 48 16 32 48 (by decide) (by decide) (by decide) (by decide) (by decide) (by decide) (by decide)
theorem has3 (u : Ws) : (bits .and .i64 u.has 3 != 0) = (hasU u 1 || hasU u 2) := and_two u.has 1 2 3 1 2 3 (by decide) (by decide) (by decide) (by decide) (by decide) (by decide) (by decide)
theorem fl_bit (n : Int) (b : Nat) (hb : b < 63) : ∃ g : Bool, bits .and .i64 n (2 ^ b : Nat) = if g = true then ((2 ^ b : Nat) : Int) else 0 := ⟨btB n b, and_pow n b hb⟩

/-! ## Flags -/
def stP (b g : Bool) (p fl : Int) : Int := if b = true then bits .or .i64 (bits .andNot .i64 fl p) (if g = true then p else 0) else fl
def acF (f : Int) : Bool := bits .and .i64 f 8 != 0
def tuF (f : Int) (b1 b2 b16 b32 : Bool) : Int := if (if acF f = true then (b1 || b2) else (b16 || b32)) = false then f else bits .andNot .i64 (bits .xor .i64 f 8) 1
def flP (f : Int) (b1 b2 b4 b8 b16 b32 g1 g2 g4 : Bool) : Int := stP b8 g4 4 (stP b4 g2 2 (stP b2 g1 1 (tuF f b1 b2 b16 b32)))
def fgP (o : Int) (b g : Bool) (p : Int) : Int := if b = true then (if g = true then p else 0) else bits .and .i64 o p
def coF (f : Int) (b1 b2 : Bool) : Int := if acF f = true ∧ (b1 = true ∨ b2 = true) then bits .and .i64 f 6 else f
def flD (f : Int) (b1 b2 b4 b8 b16 b32 g1 g2 g4 : Bool) : Int :=
  if b16 = true ∨ b32 = true then bits .or .i64 (bits .or .i64 8 (fgP f b4 g2 2)) (fgP f b8 g4 4)
  else if (bits .and .i64 (coF f b1 b2) 8 != 0) = true then bits .or .i64 (bits .or .i64 (bits .or .i64 (bits .or .i64 (bits .and .i64 (coF f b1 b2) 8) (fgP (coF f b1 b2) b2 g1 1)) (fgP f b4 g2 2)) (fgP f b8 g4 4)) 8
    else bits .or .i64 (bits .or .i64 (bits .or .i64 (bits .and .i64 (coF f b1 b2) 8) (fgP (coF f b1 b2) b2 g1 1)) (fgP f b4 g2 2)) (fgP f b8 g4 4)

set_option maxRecDepth 100000 in
theorem fl_all : ∀ f : Fin 16, (f.val < 8 ∨ f.val % 2 = 0) → ∀ b1 b2 b4 b8 b16 b32 g1 g2 g4 : Bool, ((b16 || b32) && (b1 || b2)) = false → flP (f.val : Int) b1 b2 b4 b8 b16 b32 g1 g2 g4 = flD (f.val : Int) b1 b2 b4 b8 b16 b32 g1 g2 g4 ∧ 0 ≤ flP (f.val : Int) b1 b2 b4 b8 b16 b32 g1 g2 g4 ∧ flP (f.val : Int) b1 b2 b4 b8 b16 b32 g1 g2 g4 ≤ 15 := by
  decide +kernel

set_option maxRecDepth 100000 in
theorem may_all : ∀ f d : Fin 16, ((!(bits .and .i64 (f.val : Int) 8 != 0)) && !(bits .and .i64 (f.val : Int) 1 == 0) && (bits .andNot .i64 (d.val : Int) 1 == bits .andNot .i64 (f.val : Int) 1)) = (!((bits .and .i64 (f.val : Int) 8 != 0) || (bits .and .i64 (d.val : Int) 8 != 0) || (bits .and .i64 (f.val : Int) 6 != bits .and .i64 (d.val : Int) 6)) && (bits .and .i64 (f.val : Int) 1 != 0)) := by
  decide +kernel

/-- flags as an object keeps them -/
def De.ok (d : De) : Prop := 0 ≤ d.fl ∧ d.fl ≤ 15 ∧ (d.fl < 8 ∨ d.fl % 2 = 0)
theorem kept_ok (d : De) : (keptD d).ok := by
  show 0 ≤ keptI d.fl ∧ keptI d.fl ≤ 15 ∧ (keptI d.fl < 8 ∨ keptI d.fl % 2 = 0)
  unfold keptI
  split <;> omega
theorem new_ok : newD.ok := by unfold De.ok newD; decide

theorem wish_fl (d : De) (u : Ws) (hd : d.ok) (hn : rnoB u = false) : (wishD d u).fl = (rWishD d u).fl ∧ 0 ≤ (wishD d u).fl ∧ (wishD d u).fl ≤ 15 := by
  obtain ⟨h1, h2, h3⟩ := hd
  obtain ⟨g1, e1⟩ := fl_bit u.fl 0 (by decide)
  obtain ⟨g2, e2⟩ := fl_bit u.fl 1 (by decide)
  obtain ⟨g4, e4⟩ := fl_bit u.fl 2 (by decide)
  rw [show ((2 ^ 0 : Nat) : Int) = 1 from rfl] at e1
  rw [show ((2 ^ 1 : Nat) : Int) = 2 from rfl] at e2
  rw [show ((2 ^ 2 : Nat) : Int) = 4 from rfl] at e4
  have k := fl_all ⟨d.fl.toNat, by omega⟩ (by show d.fl.toNat < 8 ∨ d.fl.toNat % 2 = 0; omega) (hasU u 1) (hasU u 2) (hasU u 4) (hasU u 8) (hasU u 16) (hasU u 32) g1 g2 g4 hn
  rw [show (((⟨d.fl.toNat, by omega⟩ : Fin 16).val : Nat) : Int) = d.fl from by show ((d.fl.toNat : Nat) : Int) = d.fl; omega] at k
  have p1 : (wishD d u).fl = flP d.fl (hasU u 1) (hasU u 2) (hasU u 4) (hasU u 8) (hasU u 16) (hasU u 32) g1 g2 g4 := by
    have ht : (turnD d u).fl = tuF d.fl (hasU u 1) (hasU u 2) (hasU u 16) (hasU u 32) := by
      unfold turnD tuF
      have q3 := has3 u
      have q48 := has48 u
      have qa : accB d = acF d.fl := rfl
      rw [qa]
      cases acF d.fl with
      | true =>
        rw [if_pos rfl, if_pos rfl, ← q3]
        cases c : (bits .and .i64 u.has 3 == 0) with
        | true => rw [if_pos rfl, if_pos (by rw [bne, c]; rfl)]
        | false => rw [if_neg (by decide), if_neg (by rw [bne, c]; decide)]
      | false =>
        rw [show (if (false : Bool) = true then (3 : Int) else 48) = 48 from rfl, show (if (false : Bool) = true then (hasU u 1 || hasU u 2) else (hasU u 16 || hasU u 32)) = (hasU u 16 || hasU u 32) from rfl, ← q48]
        cases c : (bits .and .i64 u.has 48 == 0) with
        | true => rw [if_pos rfl, if_pos (by rw [bne, c]; rfl)]
        | false => rw [if_neg (by decide), if_neg (by rw [bne, c]; decide)]
    show flR u (turnD d u).fl 3 = _
    rw [ht]
    show stF u 8 4 (stF u 4 2 (stF u 2 1 _)) = _
    unfold stF flP stP
    rw [e1, e2, e4]
    rfl
  have p2 : (rWishD d u).fl = flD d.fl (hasU u 1) (hasU u 2) (hasU u 4) (hasU u 8) (hasU u 16) (hasU u 32) g1 g2 g4 := by
    have hc : (rconv d u).fl = coF d.fl (hasU u 1) (hasU u 2) := by
      unfold rconv coF
      show (if acF d.fl = true ∧ (hasU u 1 = true ∨ hasU u 2 = true) then (⟨undW, undW, bits .and .i64 d.fl 6⟩ : De) else d).fl = _
      by_cases c : acF d.fl = true ∧ (hasU u 1 = true ∨ hasU u 2 = true)
      · rw [if_pos c, if_pos c]
      · rw [if_neg c, if_neg c]
    unfold rWishD flD
    by_cases c : hasU u 16 = true ∨ hasU u 32 = true
    · rw [if_pos c, if_pos c]
      unfold flagU fgP
      rw [e2, e4]
    · rw [if_neg c, if_neg c]
      unfold rflags flagU fgP
      rw [hc, e1, e2, e4]
  rw [p1, p2]
  exact k

theorem wish_same (d : De) (u : Ws) (hd : d.ok) (hn : rnoB u = false) : wishD d u = rWishD d u := by
  have hf := (wish_fl d u hd hn).1
  have hv : (wishD d u).va = (rWishD d u).va ∧ (wishD d u).se = (rWishD d u).se := by
    unfold wishD rWishD turnD rconv rbase
    have q3 := has3 u
    have q48 := has48 u
    unfold rnoB at hn
    have w1 : (bits .and .i64 u.has 16 != 0) = hasU u 16 := rfl
    have w2 : (bits .and .i64 u.has 32 != 0) = hasU u 32 := rfl
    have w3 : (bits .and .i64 u.has 1 != 0) = hasU u 1 := rfl
    rw [w1, w2, w3]
    have b3 : (bits .and .i64 u.has 3 == 0) = !(hasU u 1 || hasU u 2) := by rw [← q3, bne, Bool.not_not]
    have b48 : (bits .and .i64 u.has 48 == 0) = !(hasU u 16 || hasU u 32) := by rw [← q48, bne, Bool.not_not]
    cases hac : accB d with
    | true =>
      rw [show (if (true : Bool) = true then (3 : Int) else 48) = 3 from rfl, b3]
      revert hn
      cases hasU u 1 <;> cases hasU u 2 <;> cases hasU u 16 <;> cases hasU u 32 <;> simp
    | false =>
      rw [show (if (false : Bool) = true then (3 : Int) else 48) = 48 from rfl, b48]
      revert hn
      cases hasU u 1 <;> cases hasU u 2 <;> cases hasU u 16 <;> cases hasU u 32 <;> simp
  have ext : ∀ a b : De, a.va = b.va ∧ a.se = b.se → a.fl = b.fl → a = b := fun a b q r => by
    cases a; cases b; simp only at q r; obtain ⟨q1, q2⟩ := q; subst q1; subst q2; subst r; rfl
  exact ext _ _ hv hf

theorem may_same (o d : De) (ho : o.ok) (h0 : 0 ≤ d.fl) (h1 : d.fl ≤ 15) : mayD o d = rmayD o d := by
  obtain ⟨o0, o1, _⟩ := ho
  have k := may_all ⟨o.fl.toNat, by omega⟩ ⟨d.fl.toNat, by omega⟩
  rw [show (((⟨o.fl.toNat, by omega⟩ : Fin 16).val : Nat) : Int) = o.fl from by show ((o.fl.toNat : Nat) : Int) = o.fl; omega, show (((⟨d.fl.toNat, by omega⟩ : Fin 16).val : Nat) : Int) = d.fl from by show ((d.fl.toNat : Nat) : Int) = d.fl; omega] at k
  unfold mayD rmayD
  have hq : deqB d o = deqB o d := by
    unfold deqB
    rw [BEq.comm (a := d.va), BEq.comm (a := d.se), BEq.comm (a := d.fl)]
  rw [← k, hq]
  show (_ || _ || (!(bits .and .i64 o.fl 8 != 0) && _ && _)) = _
  generalize (bits .and .i64 o.fl 4 != 0) = a
  generalize deqB o d = b
  cases a <;> cases b <;> rfl

/-! ## The one object -/
/-- the heap's one object and the document's, of the name k at most -/
structure Sam (H : He) (x : So) (k : ByteArray) (ob : Ob) (m : Nat) : Prop where
  obs : H.obs = [ob]
  kd : ob.kind = 0
  sh : ob.shut = false
  hm : ob.hm = false
  nx : 0 ≤ ob.next ∧ ob.next ≤ m
  xk : x.kind = 0
  xs : x.shut = false
  ps : (ob.ps = [] ∧ x.nm = [] ∧ x.ds = []) ∨ ∃ p : Pr, ob.ps = [p] ∧ p.key = k ∧ x.nm = [k] ∧ x.ds = [p.de] ∧ p.de.ok ∧ 0 ≤ p.came ∧ p.came < ob.next

section
variable {H : He} {x : So} {k : ByteArray} {ob : Ob} {m : Nat}

theorem Sam.neat (h : Sam H x k ob m) : ob.neat := by
  have hn := h.nx
  have hm := h.hm
  rcases h.ps with ⟨e, _, _⟩ | ⟨p, e, _, _, _, _, c0, c1⟩
  · refine ⟨?_, ?_, ?_, ?_, fun q => by rw [hm] at q; cases q⟩
    · rw [e]; simp
    · rw [e]; simp
    · rw [e]; simp
    · rw [e]; simp; omega
  · refine ⟨?_, ?_, ?_, ?_, fun q => by rw [hm] at q; cases q⟩
    · rw [e]; simp
    · rw [e]; simp
    · rw [e]; simp; omega
    · rw [e]; simp; omega
theorem Sam.get (h : Sam H x k ob m) : getO ob k = getS x k ∧ ∀ d, getS x k = some d → d.ok := by
  rcases h.ps with ⟨e, f, g⟩ | ⟨p, e, e1, f, g, hok, _, _⟩
  · have h1 : getO ob k = none := by unfold getO plc; rw [e]; rfl
    have h2 : getS x k = none := by unfold getS plS; rw [f]; rfl
    rw [h1, h2]
    exact ⟨rfl, fun d q => by cases q⟩
  · have h1 : getO ob k = some p.de := by
      unfold getO plc
      rw [e]
      simp [e1]
    have h2 : getS x k = some p.de := by
      unfold getS plS
      rw [f, g]
      simp
    rw [h1, h2]
    exact ⟨rfl, fun d q => by injection q with q; rw [← q]; exact hok⟩
theorem Sam.own (h : Sam H x k ob m) : ownO ob k = getS x k := by
  unfold ownO
  rw [if_neg (by rw [h.kd]; decide)]
  exact h.get.1
theorem Sam.at (h : Sam H x k ob m) : obI H (objW 0) = some 0 := obI_of (i := 0) (by rw [h.obs]; exact Nat.one_pos) (by rw [h.obs]; show (1 : Nat) ≤ 65536; omega)
theorem Sam.here (h : Sam H x k ob m) : H.obs[0]? = some ob := by rw [h.obs]; rfl
theorem Sam.ownH (h : Sam H x k ob m) : ownH H (objW 0) k = getS x k := by
  unfold Hp.ownH obO
  rw [h.at]
  simp only [Option.bind_some, h.here]
  exact h.own
theorem Sam.gd (h : Sam H x k ob m) : H.gd m := by
  refine ⟨fun o ho => ?_, fun o ho _ => ?_, fun o ho => ?_⟩ <;> (rw [h.obs, List.mem_singleton] at ho; rw [ho])
  · exact h.neat
  · exact h.hm
  · exact h.nx.2

theorem Sam.put (h : Sam H x k ob m) (d : De) : ∃ ob', Sam (putH H 0 ob k d) (putS x k d) k ob' (m + 1) := by
  have hn := h.nx
  unfold putH putS
  rcases h.ps with ⟨e, f, g⟩ | ⟨p, e, e1, f, g, hok, c0, c1⟩
  · have hp : plc ob.ps k = none := by unfold plc; rw [e]; rfl
    have hs : plS x.nm k = none := by unfold plS; rw [f]; rfl
    rw [hp, hs]
    simp only
    have hnew : ∀ (sp : Int) (sd : Bool) (H' : He) (ob' : Ob), H'.obs = [ob'] → ob' = { ob.added k (keptD d) with shape := sp, shaped := sd } → Sam H' { x with nm := x.nm ++ [k], ds := x.ds ++ [keptD d] } k ob' (m + 1) := fun sp sd H' ob' q1 q2 => by
      subst q2
      refine ⟨q1, h.kd, h.sh, h.hm, ?_, h.xk, h.xs, Or.inr ⟨⟨k, ob.next, keptD d⟩, ?_, rfl, ?_, ?_, kept_ok d, hn.1, ?_⟩⟩
      · show 0 ≤ ob.next + 1 ∧ ob.next + 1 ≤ ((m + 1 : Nat) : Int)
        omega
      · show ob.ps ++ _ = _
        rw [e]; rfl
      · show x.nm ++ _ = _
        rw [f]; rfl
      · show x.ds ++ _ = _
        rw [g]; rfl
      · show ob.next < ob.next + 1
        omega
    split
    · refine ⟨_, hnew _ _ _ (layO (touchH H ob.cell) ob k (keptD d)) ?_ rfl⟩
      show H.obs.set 0 _ = _
      rw [h.obs]; rfl
    · refine ⟨_, hnew ob.shape ob.shaped _ (ob.bare k (keptD d)) ?_ ?_⟩
      · show H.obs.set 0 _ = _
        rw [h.obs]; rfl
      · unfold Ob.bare
        rw [if_neg (by rw [e]; decide)]
        unfold Ob.plus
        rw [if_neg (by rw [e, h.hm]; decide)]
        rfl
  · have hp : plc ob.ps k = some 0 := by unfold plc; rw [e]; simp [e1]
    have hs : plS x.nm k = some 0 := by unfold plS; rw [f]; simp
    rw [hp, hs]
    simp only
    have hpa : prAt ob.ps 0 = p := by unfold prAt; rw [e]; rfl
    rw [hpa]
    have hnew : ∀ (sp : Int) (sd : Bool) (H' : He) (ob' : Ob), H'.obs = [ob'] → ob' = { ob with ps := setD ob.ps 0 p (keptD d), shape := sp, shaped := sd } → Sam H' { x with ds := x.ds.set 0 (keptD d) } k ob' (m + 1) := fun sp sd H' ob' q1 q2 => by
      subst q2
      refine ⟨q1, h.kd, h.sh, h.hm, ?_, h.xk, h.xs, Or.inr ⟨⟨p.key, p.came, keptD d⟩, ?_, e1, f, ?_, kept_ok d, c0, c1⟩⟩
      · show 0 ≤ ob.next ∧ ob.next ≤ ((m + 1 : Nat) : Int)
        omega
      · show setD ob.ps 0 p (keptD d) = _
        rw [e]; rfl
      · show x.ds.set 0 _ = _
        rw [g]; rfl
    have hnew2 : ∀ H' : He, (∃ sp sd, H'.obs = [{ ob with ps := setD ob.ps 0 p (keptD d), shape := sp, shaped := sd }]) → ∃ ob', Sam H' { x with ds := x.ds.set 0 (keptD d) } k ob' (m + 1) := fun H' ⟨sp, sd, q⟩ => ⟨_, hnew sp sd H' _ q rfl⟩
    unfold replH
    split
    · refine hnew2 _ ⟨(Sp.changeD H.most H.L ob.shape p.key (keptD d).fl).2.1, (Sp.changeD H.most H.L ob.shape p.key (keptD d).fl).2.2, ?_⟩
      show H.obs.set 0 _ = _
      rw [h.obs]; rfl
    · refine hnew2 _ ⟨ob.shape, ob.shaped, ?_⟩
      show H.obs.set 0 _ = _
      rw [h.obs]; rfl

theorem Sam.mono (h : Sam H x k ob m) {m' : Nat} (hm : m ≤ m') : Sam H x k ob m' := ⟨h.obs, h.kd, h.sh, h.hm, ⟨h.nx.1, by have := h.nx.2; omega⟩, h.xk, h.xs, h.ps⟩

/-- Define: both do the same -/
theorem Sam.def (h : Sam H x k ob m) (u : Ws) : (defP H (objW 0) k u).1 = (rdefS x k u).1 ∧ ∃ ob', Sam (defP H (objW 0) k u).2 (rdefS x k u).2 k ob' (m + 1) := by
  have hstay : ∃ ob', Sam H x k ob' (m + 1) := ⟨ob, h.mono (by omega)⟩
  have hlay : ∀ d, layP H 0 ob k d = (true, putH H 0 ob k d) := fun d => by unfold layP; rw [if_neg (by rw [h.kd]; decide)]
  unfold defP rdefS
  rw [h.at]
  simp only
  rw [h.here]
  simp only
  have hno : ((bits .and .i64 u.has 48 != 0) = true ∧ (bits .and .i64 u.has 3 != 0) = true) ↔ rnoB u = true := by
    rw [has48, has3]
    unfold rnoB
    rw [Bool.and_eq_true]
  by_cases c : rnoB u = true
  · rw [if_pos (hno.2 c), if_pos c]
    exact ⟨rfl, hstay⟩
  · rw [if_neg (fun q => c (hno.1 q)), if_neg c]
    have c' : rnoB u = false := by simpa using c
    rw [h.own]
    have hok := h.get.2
    cases hg : getS x k with
    | none =>
      simp only
      rw [if_neg (by rw [h.sh]; decide), if_neg (by rw [h.xs]; decide), hlay, wish_same newD u new_ok c']
      exact ⟨rfl, h.put _⟩
    | some old =>
      simp only
      have ho := hok old hg
      have hf := wish_fl old u ho c'
      rw [may_same old _ ho hf.2.1 hf.2.2, wish_same old u ho c', hlay]
      split
      · exact ⟨rfl, h.put _⟩
      · exact ⟨rfl, hstay⟩
end

end Go.Proofs.YtahhionlbfhinaaGreatDoor.Hp
