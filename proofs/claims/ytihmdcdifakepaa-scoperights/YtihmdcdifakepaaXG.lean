/- The program's checker; rightHere. -/
import Derived.Test.YtihmdcdifakepaaXF
import Derived.Deep.RegionHeldLaw
namespace Go.Proofs.Ytihmdcdifakepaa.Sc
open Go.RowKit
set_option linter.unusedVariables false

structure Ck (B cb mu md : Nat) (w : World) (star : Bool) (U D : List Int) (m : Nat) : Prop where
  c0 : w.cell? ⟨cb, 0, none⟩ = some (.bool star)
  f0 : w.frozen? ⟨cb, 0, none⟩ = false
  c1 : w.cell? ⟨cb, 1, none⟩ = some (.map (some mu))
  c2 : w.cell? ⟨cb, 2, none⟩ = some (.map (some md))
  sU : SetAt w mu m U
  sD : SetAt w md m D
  n1 : cb ≠ mu
  n2 : cb ≠ md
  n3 : mu ≠ md
  bc : B ≤ cb
  bu : B ≤ mu
  bd : B ≤ md

def Cs (cb mu md k : Nat) : Prop := k = cb ∨ k = mu ∨ k = md

structure CkAt (B cb mu md : Nat) (w : World) (star : Bool) (st : St) (m : Nat) : Prop where
  mem : ∃ U D, st = (U.reverse, D.reverse) ∧ Ck B cb mu md w star U D m

theorem Ck.lts {B cb mu md : Nat} {w : World} {star : Bool} {U D : List Int} {m : Nat} (h : Ck B cb mu md w star U D m) : ∀ k, Cs cb mu md k → B ≤ k ∧ k < w.heap.size := by
  rintro k (rfl | rfl | rfl)
  · exact ⟨h.bc, World.block_lt_of_cell? w _ h.c0⟩
  · exact ⟨h.bu, h.sU.lt⟩
  · exact ⟨h.bd, h.sD.lt⟩
theorem CkAt.lts {B cb mu md : Nat} {w : World} {star : Bool} {st : St} {m : Nat} (h : CkAt B cb mu md w star st m) : ∀ k, Cs cb mu md k → B ≤ k ∧ k < w.heap.size := by
  obtain ⟨U, D, _, h1⟩ := h.mem
  exact h1.lts
theorem CkAt.size {B cb mu md : Nat} {w : World} {star : Bool} {st : St} {m : Nat} (h : CkAt B cb mu md w star st m) : B ≤ w.heap.size := by
  have := h.lts cb (Or.inl rfl)
  omega
theorem Ck.kept {B cb mu md : Nat} {w w' : World} {star : Bool} {U D : List Int} {m : Nat} {S : Nat → Prop} (h : Ck B cb mu md w star U D m) (hc : Chg S w w') (hs : ∀ k, Cs cb mu md k → ¬ S k) : Ck B cb mu md w' star U D m :=
  have hp : ¬ S cb := hs cb (Or.inl rfl)
  ⟨hc.cell h.c0 hp, (frozen_chg hc h.c0 hp).trans h.f0, hc.cell h.c1 hp, hc.cell h.c2 hp, h.sU.kept hc (hs mu (Or.inr (Or.inl rfl))), h.sD.kept hc (hs md (Or.inr (Or.inr rfl))), h.n1, h.n2, h.n3, h.bc, h.bu, h.bd⟩
theorem CkAt.new {B cb mu md : Nat} {w w' : World} {star : Bool} {st : St} {m : Nat} (h : CkAt B cb mu md w star st m) (hb : Below w.heap.size w w') : CkAt B cb mu md w' star st m := by
  obtain ⟨U, D, e, h1⟩ := h.mem
  exact ⟨U, D, e, h1.kept (S := fun _ => False) (Chg.of_below hb) (fun _ _ q => q)⟩
theorem CkAt.more {B cb mu md : Nat} {w : World} {star : Bool} {st : St} {m m' : Nat} (h : CkAt B cb mu md w star st m) (hm : m ≤ m') : CkAt B cb mu md w star st m' := by
  obtain ⟨U, D, e, h1⟩ := h.mem
  exact ⟨U, D, e, h1.c0, h1.f0, h1.c1, h1.c2, h1.sU.mono hm, h1.sD.mono hm, h1.n1, h1.n2, h1.n3, h1.bc, h1.bu, h1.bd⟩
theorem CkAt.cells {B cb mu md : Nat} {w : World} {star : Bool} {st : St} {m : Nat} (h : CkAt B cb mu md w star st m) :
    w.cell? ⟨cb, 0, none⟩ = some (.bool star) ∧ w.frozen? ⟨cb, 0, none⟩ = false ∧ w.cell? ⟨cb, 1, none⟩ = some (.map (some mu)) ∧ w.cell? ⟨cb, 2, none⟩ = some (.map (some md)) := by
  obtain ⟨U, D, e, h1⟩ := h.mem
  exact ⟨h1.c0, h1.f0, h1.c1, h1.c2⟩
/-- another star -/
theorem CkAt.star {B cb mu md : Nat} {w : World} {star : Bool} {st : St} {m : Nat} (h : CkAt B cb mu md w star st m) (b : Bool) : CkAt B cb mu md (w.setCell ⟨cb, 0, none⟩ (.bool b)) b st m ∧ Chg (Cs cb mu md) w (w.setCell ⟨cb, 0, none⟩ (.bool b)) := by
  obtain ⟨U, D, e, h1⟩ := h.mem
  have hc : Chg (fun k => k = cb) w (w.setCell ⟨cb, 0, none⟩ (.bool b)) := Chg.set w _ _ rfl
  refine ⟨⟨U, D, e, World.cell?_setCell_same _ _ _ h1.c0, by rw [World.frozen?_setCell]; exact h1.f0, ?_, ?_, h1.sU.kept hc (fun q => h1.n1 q.symm), h1.sD.kept hc (fun q => h1.n2 q.symm), h1.n1, h1.n2, h1.n3, h1.bc, h1.bu, h1.bd⟩, Chg.set w _ _ (Or.inl rfl)⟩
  · rw [World.cell?_setCell_other _ _ _ _ (by simp)]; exact h1.c1
  · rw [World.cell?_setCell_other _ _ _ _ (by simp)]; exact h1.c2

/-- what a call of the checker does -/
def PcPost (B cb mu md : Nat) (w : World) (star : Bool) (r : Option St) (m : Nat) (e : Ending) (w' : World) : Prop :=
  e = .returned (.bool r.isSome) ∧ Chg (Cs cb mu md) w w' ∧ ∀ st', r = some st' → CkAt B cb mu md w' star st' m

theorem takeU_ck {B cb mu md : Nat} {w : World} {star : Bool} {st : St} {m : Nat} (h : CkAt B cb mu md w star st m) (hm : m + 1 ≤ 1000000) (a : Int) (hwf : (Lit.int .i64 a).wf = true) :
    Calls Try.prog 39 #[.map (some mu), .int .i64 a] w fun e w' => PcPost B cb mu md w star (takeU st a) (m + 1) e w' ∧ w'.cell? ⟨cb, 1, none⟩ = some (.map (some mu)) ∧ w'.cell? ⟨cb, 2, none⟩ = some (.map (some md)) := by
  obtain ⟨U, D, rfl, h1⟩ := h.mem
  refine (take_any mu m U a w h1.sU (by omega) hwf).mono ?_
  rintro e w' ⟨rfl, h2, h3⟩
  refine ⟨⟨?_, ⟨h3.os, h3.tape, h3.output, h3.size, fun k hk hn => h3.block k hk (fun q => hn (Or.inr (Or.inl q)))⟩, ?_⟩, h3.cell h1.c1 h1.n1, h3.cell h1.c2 h1.n1⟩
  · unfold takeU
    by_cases c : a ∈ U
    · rw [if_pos (by simpa using c)]; simp [c]
    · rw [if_neg (by simpa using c)]; simp [c]
  · intro st' e'
    unfold takeU at e'
    by_cases c : a ∈ U
    · rw [if_pos (by simpa using c)] at e'; cases e'
    · rw [if_neg (by simpa using c)] at e'
      cases e'
      refine ⟨U ++ [a], D, by simp, h3.cell h1.c0 h1.n1, (frozen_chg h3 h1.c0 h1.n1).trans h1.f0, h3.cell h1.c1 h1.n1, h3.cell h1.c2 h1.n1, h2, (h1.sD.kept h3 (fun q => h1.n3 q.symm)).mono (by omega), h1.n1, h1.n2, h1.n3, h1.bc, h1.bu, h1.bd⟩
theorem takeD_ck {B cb mu md : Nat} {w : World} {star : Bool} {st : St} {m : Nat} (h : CkAt B cb mu md w star st m) (hm : m + 1 ≤ 1000000) (a : Int) (hwf : (Lit.int .i64 a).wf = true) :
    Calls Try.prog 39 #[.map (some md), .int .i64 a] w fun e w' => PcPost B cb mu md w star (takeD st a) (m + 1) e w' ∧ w'.cell? ⟨cb, 1, none⟩ = some (.map (some mu)) ∧ w'.cell? ⟨cb, 2, none⟩ = some (.map (some md)) := by
  obtain ⟨U, D, rfl, h1⟩ := h.mem
  refine (take_any md m D a w h1.sD (by omega) hwf).mono ?_
  rintro e w' ⟨rfl, h2, h3⟩
  refine ⟨⟨?_, ⟨h3.os, h3.tape, h3.output, h3.size, fun k hk hn => h3.block k hk (fun q => hn (Or.inr (Or.inr q)))⟩, ?_⟩, h3.cell h1.c1 h1.n2, h3.cell h1.c2 h1.n2⟩
  · unfold takeD
    by_cases c : a ∈ D
    · rw [if_pos (by simpa using c)]; simp [c]
    · rw [if_neg (by simpa using c)]; simp [c]
  · intro st' e'
    unfold takeD at e'
    by_cases c : a ∈ D
    · rw [if_pos (by simpa using c)] at e'; cases e'
    · rw [if_neg (by simpa using c)] at e'
      cases e'
      refine ⟨U, D ++ [a], by simp, h3.cell h1.c0 h1.n2, (frozen_chg h3 h1.c0 h1.n2).trans h1.f0, h3.cell h1.c1 h1.n2, h3.cell h1.c2 h1.n2, (h1.sU.kept h3 h1.n3).mono (by omega), h2, h1.n1, h1.n2, h1.n3, h1.bc, h1.bu, h1.bd⟩

/-- what comes back, given on -/
theorem PcPost.on {B cb mu md : Nat} {w w1 w2 : World} {star : Bool} {r : Option St} {m m' : Nat} {e : Ending} (h : PcPost B cb mu md w1 star r m e w2) (hc : Chg (Cs cb mu md) w w1) (hm : m ≤ m') : PcPost B cb mu md w star r m' e w2 :=
  ⟨h.1, hc.trans h.2.1 (fun _ _ q => q), fun st' q => (h.2.2 st' q).more hm⟩

theorem hereP_kd {n : Nat} (x : Nd) (xs : List (Tr n)) (star : Bool) (st : St) (q1 q2 : Int) (h1 : kd0 (kidT n) xs 1 = q1) (h2 : kd0 (kidT n) xs 2 = q2) : hereP (kidT n) x xs star st = if x.kind = 3 then takeU st x.pl
  else if x.kind = 17 then (if isS x.name preS || isS x.name postS then some st else none)
  else if x.kind = 22 then (if star then some st else none)
  else if x.kind = 43 ∧ q1 = 0 ∧ q2 = 0 then none
  else if declI x q1 = true then takeD st x.pl else some st := by
  subst h1; subst h2; rfl
end Go.Proofs.Ytihmdcdifakepaa.Sc
