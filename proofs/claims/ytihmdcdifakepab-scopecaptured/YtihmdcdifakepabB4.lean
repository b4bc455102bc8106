/- The document's places in memory; declared, used. -/
import Derived.Test.YtihmdcdifakepabB3
import Derived.Test.YtihmdcdifakepabProg
import Derived.Deep.Cut
import Derived.Deep.CutBlock
import Derived.Deep.RegionLaw
import Derived.Deep.LoopGhost
import Derived.Maps.OwnSet
import Derived.DeepKeys5
import Derived.WalkKit
import Derived.WalkSpells
import Derived.WalkLawsBesides
import Derived.BigQuiet
import Derived.Below
import Derived.Laws.Rows
import Derived.Laws.AppendOwn
import Derived.Deep.AppendLies
import Derived.Deep.DeepAppendWide
import Derived.Deep.RegionHeldLaw
import Derived.LaidMore
import Derived.Lib.RowBridge
namespace Go.Proofs.Ytihmdcdifakepab.Sc
open Go.RowKit
set_option linter.unusedVariables false

structure Pl (B pb : Nat) (w : World) (vU vV : Value) (U V : List Int) (bad : Bool) : Prop where
  c0 : w.cell? ⟨pb, 0, none⟩ = some vU
  c1 : w.cell? ⟨pb, 1, none⟩ = some vV
  c2 : w.cell? ⟨pb, 2, none⟩ = some (.bool bad)
  f0 : w.frozen? ⟨pb, 0, none⟩ = false
  f1 : w.frozen? ⟨pb, 1, none⟩ = false
  f2 : w.frozen? ⟨pb, 2, none⟩ = false
  oU : OwnI B w vU U
  oV : OwnI B w vV V
  sU : vU.ownBlock ≠ some pb
  sV : vV.ownBlock ≠ some pb
  sUV : ∀ k, vU.ownBlock = some k → vV.ownBlock ≠ some k
  pB : B ≤ pb

/-- what the places hold: their block, the two rows -/
def Own (pb : Nat) (vU vV : Value) (k : Nat) : Prop := k = pb ∨ vU.ownBlock = some k ∨ vV.ownBlock = some k

theorem Pl.own_B {B pb : Nat} {w : World} {vU vV : Value} {U V : List Int} {bad : Bool} (h : Pl B pb w vU vV U V bad) : ∀ k, Own pb vU vV k → B ≤ k := by
  rintro k (rfl | q | q)
  · exact h.pB
  · exact (h.oU.lt k q).1
  · exact (h.oV.lt k q).1
theorem Pl.size {B pb : Nat} {w : World} {vU vV : Value} {U V : List Int} {bad : Bool} (h : Pl B pb w vU vV U V bad) : B ≤ w.heap.size := by
  have := World.block_lt_of_cell? w _ h.c0
  have := h.pB
  simp at *
  omega

theorem frozen_chg {S : Nat → Prop} {w w' : World} (h : Chg S w w') {a : Addr} {u : Value} (hu : w.cell? a = some u) (hn : ¬ S a.block) : w'.frozen? a = w.frozen? a :=
  World.frozen?_of_block (w := w) (h.block a.block (World.block_lt_of_cell? w _ hu) hn)

/-- new blocks alone -/
theorem Pl.kept {B pb : Nat} {w w' : World} {vU vV : Value} {U V : List Int} {bad : Bool} {S : Nat → Prop} (h : Pl B pb w vU vV U V bad) (hc : Chg S w w') (hs : ∀ k, Own pb vU vV k → ¬ S k) : Pl B pb w' vU vV U V bad := by
  have hp : ¬ S pb := hs pb (Or.inl rfl)
  exact ⟨hc.cell h.c0 hp, hc.cell h.c1 hp, hc.cell h.c2 hp, (frozen_chg hc h.c0 hp).trans h.f0, (frozen_chg hc h.c1 hp).trans h.f1, (frozen_chg hc h.c2 hp).trans h.f2,
    h.oU.kept hc (fun k e => hs k (Or.inr (Or.inl e))), h.oV.kept hc (fun k e => hs k (Or.inr (Or.inr e))), h.sU, h.sV, h.sUV, h.pB⟩
theorem Pl.new {B pb : Nat} {w w' : World} {vU vV : Value} {U V : List Int} {bad : Bool} (h : Pl B pb w vU vV U V bad) (hc : Below w.heap.size w w') : Pl B pb w' vU vV U V bad :=
  h.kept (S := fun _ => False) (Chg.of_below hc) (fun _ _ q => q)

/-- the plain state -/
def Rs (st : RS) (U V : List Int) (bad : Bool) : Prop := match st with
  | none => bad = true
  | some s => bad = false ∧ s.1 = U.reverse ∧ s.2 = V.reverse

structure PlAt (B pb : Nat) (w : World) (st : RS) (m : Nat) (vU vV : Value) : Prop where
  mem : ∃ U V, Pl B pb w vU vV U V st.isNone ∧ Rs st U V st.isNone ∧ U.length ≤ m ∧ V.length ≤ m

/-- from here to there -/
structure Stp (pb : Nat) (w : World) (vU vV : Value) (w' : World) (vU' vV' : Value) : Prop where
  chg : Chg (Own pb vU vV) w w'
  own : ∀ k, Own pb vU' vV' k → k < w.heap.size → Own pb vU vV k

theorem Stp.refl (pb : Nat) (w : World) (vU vV : Value) : Stp pb w vU vV w vU vV := ⟨Chg.refl _ _, fun _ h _ => h⟩
theorem Stp.new {pb : Nat} {w w' : World} (vU vV : Value) (h : Below w.heap.size w w') : Stp pb w vU vV w' vU vV := ⟨Chg.of_below h, fun _ h _ => h⟩
theorem Stp.trans {pb : Nat} {a b c : World} {vU vV vU' vV' vU'' vV'' : Value} (h : Stp pb a vU vV b vU' vV') (k : Stp pb b vU' vV' c vU'' vV'') : Stp pb a vU vV c vU'' vV'' :=
  ⟨h.chg.trans k.chg (fun i hi q => h.own i q hi), fun i q hi => h.own i (k.own i q (Nat.lt_of_lt_of_le hi h.chg.size)) hi⟩

theorem PlAt.new {B pb : Nat} {w w' : World} {st : RS} {m : Nat} {vU vV : Value} (h : PlAt B pb w st m vU vV) (hc : Below w.heap.size w w') : PlAt B pb w' st m vU vV := by
  obtain ⟨U, V, h1, h2⟩ := h.mem
  exact ⟨U, V, h1.new hc, h2⟩
theorem PlAt.more {B pb : Nat} {w : World} {st : RS} {m m' : Nat} {vU vV : Value} (h : PlAt B pb w st m vU vV) (hm : m ≤ m') : PlAt B pb w st m' vU vV := by
  obtain ⟨U, V, h1, h2, h3, h4⟩ := h.mem
  exact ⟨U, V, h1, h2, by omega, by omega⟩
theorem PlAt.bad {B pb : Nat} {w : World} {st : RS} {m : Nat} {vU vV : Value} (h : PlAt B pb w st m vU vV) : w.cell? ⟨pb, 2, none⟩ = some (.bool st.isNone) ∧ w.frozen? ⟨pb, 2, none⟩ = false := by
  obtain ⟨U, V, h1, _⟩ := h.mem
  exact ⟨h1.c2, h1.f2⟩
theorem PlAt.own_B {B pb : Nat} {w : World} {st : RS} {m : Nat} {vU vV : Value} (h : PlAt B pb w st m vU vV) : ∀ k, Own pb vU vV k → B ≤ k := by
  obtain ⟨U, V, h1, _⟩ := h.mem
  exact h1.own_B
theorem PlAt.lt {B pb : Nat} {w : World} {st : RS} {m : Nat} {vU vV : Value} (h : PlAt B pb w st m vU vV) : ∀ k, Own pb vU vV k → k < w.heap.size := by
  obtain ⟨U, V, h1, _⟩ := h.mem
  rintro k (rfl | q | q)
  · exact World.block_lt_of_cell? w _ h1.c0
  · exact (h1.oU.lt k q).2
  · exact (h1.oV.lt k q).2
theorem PlAt.size {B pb : Nat} {w : World} {st : RS} {m : Nat} {vU vV : Value} (h : PlAt B pb w st m vU vV) : B ≤ w.heap.size := by
  obtain ⟨U, V, h1, _⟩ := h.mem
  exact h1.size
theorem PlAt.below {B pb : Nat} {W w w' : World} {st : RS} {m : Nat} {vU vV vU' vV' : Value} (h : PlAt B pb w st m vU vV) (hs : Stp pb w vU vV w' vU' vV') (hb : Below B W w) : Below B W w' :=
  hs.chg.below hb h.size h.own_B

/-- something is amiss: the mark is set -/
theorem PlAt.spoil {B pb : Nat} {w : World} {st : RS} {m : Nat} {vU vV : Value} (h : PlAt B pb w st m vU vV) : PlAt B pb (w.setCell ⟨pb, 2, none⟩ (.bool true)) none m vU vV ∧ Stp pb w vU vV (w.setCell ⟨pb, 2, none⟩ (.bool true)) vU vV := by
  obtain ⟨U, V, h1, h2, h3, h4⟩ := h.mem
  have hc : Chg (fun k => k = pb) w (w.setCell ⟨pb, 2, none⟩ (.bool true)) := Chg.set w _ _ rfl
  refine ⟨⟨U, V, ⟨?_, ?_, ?_, ?_, ?_, ?_, h1.oU.kept hc (fun k e q => h1.sU (q ▸ e)), h1.oV.kept hc (fun k e q => h1.sV (q ▸ e)), h1.sU, h1.sV, h1.sUV, h1.pB⟩, rfl, h3, h4⟩, ⟨Chg.set w _ _ (Or.inl rfl), fun _ q _ => q⟩⟩
  · rw [World.cell?_setCell_other _ _ _ _ (by simp)]; exact h1.c0
  · rw [World.cell?_setCell_other _ _ _ _ (by simp)]; exact h1.c1
  · rw [World.cell?_setCell_same _ _ _ h1.c2]; rfl
  · rw [World.frozen?_setCell]; exact h1.f0
  · rw [World.frozen?_setCell]; exact h1.f1
  · rw [World.frozen?_setCell]; exact h1.f2

theorem loc_ne {w w1 : World} {B pb : Nat} {v v' : Value} {V V' : List Int} (ho : OwnI B w1 v' V') (hs : v.ownBlock ≠ some pb) (hp : pb < w.heap.size) (hl : v'.ownBlock = v.ownBlock ∨ ∃ k, v'.ownBlock = some k ∧ w.heap.size ≤ k) : v'.ownBlock ≠ some pb := by
  rcases hl with q | ⟨k, q, r⟩
  · rw [q]; exact hs
  · rw [q]; intro e; cases e; omega

theorem Pl.putV {B pb : Nat} {w w1 : World} {vU vV v' : Value} {U V X' : List Int} {bad : Bool} (h : Pl B pb w vU vV U V bad) (ho : OwnI B w1 v' X') (hc : Chg (fun k => vV.ownBlock = some k) w w1)
    (hl : v'.ownBlock = vV.ownBlock ∨ ∃ k, v'.ownBlock = some k ∧ w.heap.size ≤ k) (b : Bool) :
    Pl B pb ((w1.setCell ⟨pb, 1, none⟩ v').setCell ⟨pb, 2, none⟩ (.bool b)) vU v' U X' b ∧ Stp pb w vU vV ((w1.setCell ⟨pb, 1, none⟩ v').setCell ⟨pb, 2, none⟩ (.bool b)) vU v' ∧
      (w1.cell? ⟨pb, 1, none⟩ = some vV ∧ w1.frozen? ⟨pb, 1, none⟩ = false ∧ w1.cell? ⟨pb, 2, none⟩ = some (.bool bad) ∧ w1.frozen? ⟨pb, 2, none⟩ = false) := by
  have hpb : pb < w.heap.size := World.block_lt_of_cell? w _ h.c0
  have n1 : ¬ (vV.ownBlock = some pb) := h.sV
  have c0 := hc.cell h.c0 n1
  have c1 := hc.cell h.c1 n1
  have c2 := hc.cell h.c2 n1
  have f0 := (frozen_chg hc h.c0 n1).trans h.f0
  have f1 := (frozen_chg hc h.c1 n1).trans h.f1
  have f2 := (frozen_chg hc h.c2 n1).trans h.f2
  have hv : v'.ownBlock ≠ some pb := loc_ne (V := X') ho h.sV hpb hl
  have hw : OwnI B w1 vU U := h.oU.kept hc (fun k e q => absurd q (h.sUV k e))
  have d1 : Chg (fun k => k = pb) w1 (w1.setCell ⟨pb, 1, none⟩ v') := Chg.set _ _ _ rfl
  have d2 : Chg (fun k => k = pb) (w1.setCell ⟨pb, 1, none⟩ v') ((w1.setCell ⟨pb, 1, none⟩ v').setCell ⟨pb, 2, none⟩ (.bool b)) := Chg.set _ _ _ rfl
  have d3 := d1.trans d2 (fun _ _ q => q)
  have osep : ∀ k, v'.ownBlock = some k → vU.ownBlock ≠ some k := by
    intro k e1 e2
    rcases hl with q | ⟨k', q, r⟩
    · rw [q] at e1; exact (h.sUV k e2 e1).elim
    · rw [q] at e1; cases e1
      have := (h.oU.lt k e2).2
      omega
  refine ⟨⟨?_, ?_, ?_, ?_, ?_, ?_, hw.kept d3 (fun k e q => h.sU (q ▸ e)), ho.kept d3 (fun k e q => hv (q ▸ e)), h.sU, hv, fun k e1 e2 => osep k e2 e1, h.pB⟩, ⟨⟨?_, ?_, ?_, ?_, ?_⟩, ?_⟩, c1, f1, c2, f2⟩
  · rw [World.cell?_setCell_other _ _ _ _ (by simp)]
    first
      | rw [World.cell?_setCell_same _ _ _ c0]
      | (rw [World.cell?_setCell_other _ _ _ _ (by simp)]; exact c0)
  · rw [World.cell?_setCell_other _ _ _ _ (by simp)]
    first
      | rw [World.cell?_setCell_same _ _ _ c1]
      | (rw [World.cell?_setCell_other _ _ _ _ (by simp)]; exact c1)
  · exact World.cell?_setCell_same _ _ _ (by rw [World.cell?_setCell_other _ _ _ _ (by simp)]; exact c2)
  · rw [World.frozen?_setCell, World.frozen?_setCell]; exact f0
  · rw [World.frozen?_setCell, World.frozen?_setCell]; exact f1
  · rw [World.frozen?_setCell, World.frozen?_setCell]; exact f2
  · exact hc.os
  · exact hc.tape
  · exact hc.output
  · have := hc.size; simp; exact this
  · intro k hk hn
    rw [d3.block k (Nat.lt_of_lt_of_le hk hc.size) (fun q => hn (Or.inl q))]
    exact hc.block k hk (fun q => hn (Or.inr (Or.inr q)))
  · intro k hk hlt
    rcases hk with q | q | q
    · exact Or.inl q
    · exact Or.inr (Or.inl q)
    · rcases hl with p | ⟨k', p, r⟩
      · rw [p] at q; exact Or.inr (Or.inr q)
      · rw [p] at q; cases q; omega

theorem Pl.putU {B pb : Nat} {w w1 : World} {vU vV v' : Value} {U V X' : List Int} {bad : Bool} (h : Pl B pb w vU vV U V bad) (ho : OwnI B w1 v' X') (hc : Chg (fun k => vU.ownBlock = some k) w w1)
    (hl : v'.ownBlock = vU.ownBlock ∨ ∃ k, v'.ownBlock = some k ∧ w.heap.size ≤ k) (b : Bool) :
    Pl B pb ((w1.setCell ⟨pb, 0, none⟩ v').setCell ⟨pb, 2, none⟩ (.bool b)) v' vV X' V b ∧ Stp pb w vU vV ((w1.setCell ⟨pb, 0, none⟩ v').setCell ⟨pb, 2, none⟩ (.bool b)) v' vV ∧
      (w1.cell? ⟨pb, 0, none⟩ = some vU ∧ w1.frozen? ⟨pb, 0, none⟩ = false ∧ w1.cell? ⟨pb, 2, none⟩ = some (.bool bad) ∧ w1.frozen? ⟨pb, 2, none⟩ = false) := by
  have hpb : pb < w.heap.size := World.block_lt_of_cell? w _ h.c0
  have n1 : ¬ (vU.ownBlock = some pb) := h.sU
  have c0 := hc.cell h.c0 n1
  have c1 := hc.cell h.c1 n1
  have c2 := hc.cell h.c2 n1
  have f0 := (frozen_chg hc h.c0 n1).trans h.f0
  have f1 := (frozen_chg hc h.c1 n1).trans h.f1
  have f2 := (frozen_chg hc h.c2 n1).trans h.f2
  have hv : v'.ownBlock ≠ some pb := loc_ne (V := X') ho h.sU hpb hl
  have hw : OwnI B w1 vV V := h.oV.kept hc (fun k e q => absurd e (h.sUV k q))
  have d1 : Chg (fun k => k = pb) w1 (w1.setCell ⟨pb, 0, none⟩ v') := Chg.set _ _ _ rfl
  have d2 : Chg (fun k => k = pb) (w1.setCell ⟨pb, 0, none⟩ v') ((w1.setCell ⟨pb, 0, none⟩ v').setCell ⟨pb, 2, none⟩ (.bool b)) := Chg.set _ _ _ rfl
  have d3 := d1.trans d2 (fun _ _ q => q)
  have osep : ∀ k, v'.ownBlock = some k → vV.ownBlock ≠ some k := by
    intro k e1 e2
    rcases hl with q | ⟨k', q, r⟩
    · rw [q] at e1; exact (h.sUV k e1 e2).elim
    · rw [q] at e1; cases e1
      have := (h.oV.lt k e2).2
      omega
  refine ⟨⟨?_, ?_, ?_, ?_, ?_, ?_, ho.kept d3 (fun k e q => hv (q ▸ e)), hw.kept d3 (fun k e q => h.sV (q ▸ e)), hv, h.sV, fun k e1 e2 => osep k e1 e2, h.pB⟩, ⟨⟨?_, ?_, ?_, ?_, ?_⟩, ?_⟩, c0, f0, c2, f2⟩
  · rw [World.cell?_setCell_other _ _ _ _ (by simp)]
    first
      | rw [World.cell?_setCell_same _ _ _ c0]
      | (rw [World.cell?_setCell_other _ _ _ _ (by simp)]; exact c0)
  · rw [World.cell?_setCell_other _ _ _ _ (by simp)]
    first
      | rw [World.cell?_setCell_same _ _ _ c1]
      | (rw [World.cell?_setCell_other _ _ _ _ (by simp)]; exact c1)
  · exact World.cell?_setCell_same _ _ _ (by rw [World.cell?_setCell_other _ _ _ _ (by simp)]; exact c2)
  · rw [World.frozen?_setCell, World.frozen?_setCell]; exact f0
  · rw [World.frozen?_setCell, World.frozen?_setCell]; exact f1
  · rw [World.frozen?_setCell, World.frozen?_setCell]; exact f2
  · exact hc.os
  · exact hc.tape
  · exact hc.output
  · have := hc.size; simp; exact this
  · intro k hk hn
    rw [d3.block k (Nat.lt_of_lt_of_le hk hc.size) (fun q => hn (Or.inl q))]
    exact hc.block k hk (fun q => hn (Or.inr (Or.inl q)))
  · intro k hk hlt
    rcases hk with q | q | q
    · exact Or.inl q
    · rcases hl with p | ⟨k', p, r⟩
      · rw [p] at q; exact Or.inr (Or.inl q)
      · rw [p] at q; cases q; omega
    · exact Or.inr (Or.inr q)
end Go.Proofs.Ytihmdcdifakepab.Sc

/- The document's kids, among, empty. -/
namespace Go.Proofs.Ytihmdcdifakepab.Sc
open Go.RowKit
set_option linter.unusedVariables false

/-- texts in memory -/
def StrsAt (w : World) (ad : Option Addr) (zs : List ByteArray) : Prop := zs ≠ [] → ∃ b off, ad = some ⟨b, off, none⟩ ∧ ∀ i z, zs[i]? = some z → w.cell? ⟨b, off + i, none⟩ = some (.string z)
end Go.Proofs.Ytihmdcdifakepab.Sc

/- How many nodes a tree has. -/
namespace Go.Proofs.Ytihmdcdifakepab.Sc
open Go.RowKit
set_option linter.unusedVariables false

def szT : (n : Nat) → Tr n → Nat
  | 0, t => nomatch (t : Empty)
  | n + 1, (_, s) => 1 + (s.xs.map (szT n)).sum
def szL {n : Nat} (xs : List (Tr n)) : Nat := (xs.map (szT n)).sum

theorem sz_pos (n : Nat) (t : Tr n) : 1 ≤ szT n t := by
  cases n with
  | zero => exact nomatch (t : Empty)
  | succ n => obtain ⟨x, s⟩ := t; rw [szT]; omega
theorem szL_cons {n : Nat} (k : Tr n) (ks : List (Tr n)) : szL (k :: ks) = szT n k + szL ks := by unfold szL; simp
theorem szL_nil {n : Nat} : szL ([] : List (Tr n)) = 0 := rfl

end Go.Proofs.Ytihmdcdifakepab.Sc

/- The resolver's walk: worlds, rows and slices. -/
namespace Go.Proofs.Ytihmdcdifakepab.Rv
open Go.RowKit Go.Proofs.Ytihmdcdifakepab.Sc
set_option linter.unusedVariables false

structure Chg (S : Nat → Prop) (w w' : World) : Prop where
  os : w'.os = w.os
  tape : w'.tape = w.tape
  output : w'.output = w.output
  size : w.heap.size ≤ w'.heap.size
  block : ∀ k, k < w.heap.size → ¬ S k → w'.heap[k]? = w.heap[k]?

theorem Chg.refl (S : Nat → Prop) (w : World) : Chg S w w := ⟨rfl, rfl, rfl, Nat.le_refl _, fun _ _ _ => rfl⟩
theorem Chg.trans {S S' : Nat → Prop} {a b c : World} (h : Chg S a b) (k : Chg S' b c) (hs : ∀ i, i < a.heap.size → S' i → S i) : Chg S a c :=
  ⟨k.os.trans h.os, k.tape.trans h.tape, k.output.trans h.output, Nat.le_trans h.size k.size, fun i hi hn => (k.block i (Nat.lt_of_lt_of_le hi h.size) (fun q => hn (hs i hi q))).trans (h.block i hi hn)⟩
theorem Chg.of_below {S : Nat → Prop} {w w' : World} (h : Below w.heap.size w w') : Chg S w w' := ⟨h.os, h.tape, h.output, h.size, fun k hk _ => h.block k hk⟩
theorem Chg.of_grown {S : Nat → Prop} {w w' : World} {row : Option Nat} (h : w.grownBy w' row) (hr : ∀ k, row = some k → S k) : Chg S w w' :=
  ⟨h.os, h.tape, h.output, h.size, fun k hk hn => h.block k hk (fun e => hn (hr k e.symm))⟩
theorem Chg.set {S : Nat → Prop} (w : World) (p : Addr) (v : Value) (hs : S p.block) : Chg S w (w.setCell p v) :=
  ⟨rfl, rfl, rfl, by simp, fun k hk hn => Below.heap_setCell w p v k (fun e => hn (e ▸ hs))⟩
theorem Chg.cell {S : Nat → Prop} {w w' : World} (h : Chg S w w') {a : Addr} {u : Value} (hu : w.cell? a = some u) (hn : ¬ S a.block) : w'.cell? a = some u := by
  rw [World.cell?_of_block (w := w) (h.block a.block (World.block_lt_of_cell? w _ hu) hn)]
  exact hu
theorem Chg.below {S : Nat → Prop} {B : Nat} {W w w' : World} (h : Chg S w w') (hb : Below B W w) (hB : B ≤ w.heap.size) (hs : ∀ k, S k → B ≤ k) : Below B W w' :=
  ⟨h.os.trans hb.os, h.tape.trans hb.tape, h.output.trans hb.output, Nat.le_trans hb.size h.size, fun k hk => (h.block k (by omega) (fun q => by have := hs k q; omega)).trans (hb.block k hk)⟩
theorem Chg.mono {S S' : Nat → Prop} {w w' : World} (h : Chg S w w') (hs : ∀ k, S k → S' k) : Chg S' w w' := ⟨h.os, h.tape, h.output, h.size, fun k hk hn => h.block k hk (fun q => hn (hs k q))⟩
theorem Chg.drew {S : Nat → Prop} {w w' : World} (h : Chg S w w') : Chg S w w'.drew := ⟨h.os, h.tape, h.output, h.size, h.block⟩
theorem Chg.new {S : Nat → Prop} {w w' : World} (h : Chg S w w') (o : Obj) : Chg S w (w'.alloc o) := h.trans (Chg.of_below (S := fun _ => False) ((Below.refl _ _).alloc (Nat.le_refl _) _)) (fun _ _ q => q.elim)
theorem below_new {B : Nat} {w w' : World} (h : Below B w w') (hB : B ≤ w'.heap.size) (o : Obj) : Below B w (w'.alloc o) := h.alloc hB o

theorem grown_of_below {w w' : World} (h : Below w.heap.size w w') : w.grownBy w' none := ⟨h.os, h.tape, h.output, h.size, fun k hk _ => h.block k hk⟩
theorem grown_undrew {w w' : World} {row : Option Nat} (h : w.drew.grownBy w' row) : w.grownBy w' row := ⟨h.1, h.2, h.3, h.4, h.5⟩
theorem below_grown {w w' : World} (h : w.grownBy w' none) : Below w.heap.size w w' := ⟨h.os, h.tape, h.output, h.size, fun k hk => h.block k hk (by simp)⟩

theorem size_new (w : World) (o : Obj) : (w.alloc o).heap.size = w.heap.size + 1 := by
  show (w.heap.push o).size = _
  exact Array.size_push _
theorem at_new (w : World) (o : Obj) : (w.alloc o).heap[w.heap.size]? = some o := by
  show (w.heap.push o)[w.heap.size]? = some o
  exact Array.getElem?_push_size
theorem at_old (w : World) (o : Obj) (b : Nat) (o' : Obj) (h : w.heap[b]? = some o') : (w.alloc o).heap[b]? = some o' := by
  show (w.heap.push o)[b]? = some o'
  rw [Array.getElem?_push]
  have := (Array.getElem?_eq_some_iff.1 h).1
  rw [if_neg (by omega)]
  exact h

/-- cells of a block that was just laid -/
theorem box_new (w : World) (cs : Array Value) (t : TypeId) (j : Nat) (u : Value) (h : cs[j]? = some u) : (w.alloc (.cells cs t)).cell? ⟨w.heap.size, j, none⟩ = some u := by
  rw [cell_of_row _ w.heap.size j cs t (0, 0) (at_new w _)]
  exact h

section
variable {β : Type} {enc : β → List Value} {k : Nat}

theorem flat_at (hk : ∀ y, (enc y).length = k) : ∀ (xs : List β) (i : Nat) (g : β), xs[i]? = some g → ∀ (j : Nat) (u : Value), (enc g)[j]? = some u → (xs.flatMap enc)[i * k + j]? = some u
  | [], i, g, h, _, _, _ => by simp at h
  | x :: xs, 0, g, h, j, u, hj => by
    simp at h
    subst h
    have jl : j < (enc x).length := (List.getElem?_eq_some_iff.1 hj).1
    rw [List.flatMap_cons, Nat.zero_mul, Nat.zero_add, List.getElem?_append_left jl]
    exact hj
  | x :: xs, i + 1, g, h, j, u, hj => by
    rw [List.flatMap_cons, List.getElem?_append_right (by rw [hk x, Nat.succ_mul]; omega)]
    have := flat_at hk xs i g (by simpa using h) j u hj
    rw [← this, hk x]
    congr 1
    rw [Nat.succ_mul]
    omega

theorem flat_len (hk : ∀ y, (enc y).length = k) : ∀ xs : List β, (xs.flatMap enc).length = xs.length * k
  | [] => by simp
  | x :: xs => by
    rw [List.flatMap_cons, List.length_append, flat_len hk xs, List.length_cons, hk x, Nat.succ_mul]
    omega

theorem flat_back (hk : ∀ y, (enc y).length = k) : ∀ (xs : List β) (n : Nat) (u : Value), (xs.flatMap enc)[n]? = some u → ∃ (i j : Nat) (g : β), xs[i]? = some g ∧ (enc g)[j]? = some u ∧ n = i * k + j
  | [], n, u, h => by simp at h
  | x :: xs, n, u, h => by
    rw [List.flatMap_cons] at h
    rcases Nat.lt_or_ge n k with c | c
    · rw [List.getElem?_append_left (by rw [hk x]; exact c)] at h
      exact ⟨0, n, x, rfl, h, by omega⟩
    · rw [List.getElem?_append_right (by rw [hk x]; exact c), hk x] at h
      obtain ⟨i, j, g, h1, h2, h3⟩ := flat_back hk xs (n - k) u h
      exact ⟨i + 1, j, g, by simpa using h1, h2, by rw [Nat.succ_mul]; omega⟩

/-- a row of the call's own -/
def OwnR (enc : β → List Value) (k : Nat) (e : TypeId) (B : Nat) (w : World) (v : Value) (xs : List β) : Prop := w.ownsRow B e k v xs.length (xs.flatMap enc)

variable {e : TypeId} {B : Nat} {w w' : World} {v : Value} {xs : List β}

theorem OwnR.nil (B : Nat) (w : World) : OwnR enc k e B w (.slice none 0 0) [] := ⟨by simp, Or.inl ⟨rfl, rfl⟩⟩

theorem OwnR.lt (h : OwnR enc k e B w v xs) : ∀ b, v.ownBlock = some b → B ≤ b ∧ b < w.heap.size := by
  intro b hk
  rcases h.2 with ⟨rfl, _⟩ | ⟨g, cap, cur, rfl, hb, hg, _⟩
  · simp [Value.ownBlock] at hk
  · simp [Value.ownBlock] at hk
    subst hk
    exact ⟨hb, (Array.getElem?_eq_some_iff.1 hg).1⟩

theorem OwnR.kept {S : Nat → Prop} (h : OwnR enc k e B w v xs) (hb : Chg S w w') (hs : ∀ b, v.ownBlock = some b → ¬ S b) : OwnR enc k e B w' v xs := by
  have hl := h.lt
  rcases h.2 with ⟨rfl, h0⟩ | ⟨g, cap, cur, rfl, hbg, hg, h3⟩
  · exact ⟨h.1, Or.inl ⟨rfl, h0⟩⟩
  · exact ⟨h.1, Or.inr ⟨g, cap, cur, rfl, hbg, by rw [hb.block g (hl g rfl).2 (hs g rfl)]; exact hg, h3⟩⟩

theorem OwnR.below (h : OwnR enc k e B w v xs) (hb : Below w.heap.size w w') : OwnR enc k e B w' v xs := h.kept (S := fun _ => False) (Chg.of_below hb) (fun _ _ q => q)

theorem OwnR.low {B' : Nat} (h : OwnR enc k e B w v xs) (hB : B' ≤ B) : OwnR enc k e B' w v xs := by
  refine ⟨h.1, ?_⟩
  rcases h.2 with h0 | ⟨g, cap, cur, h1, hb, h2⟩
  · exact Or.inl h0
  · exact Or.inr ⟨g, cap, cur, h1, by omega, h2⟩

/-- such a row, read -/
theorem OwnR.sl (hk : ∀ y, (enc y).length = k) (h : OwnR enc k e B w v xs) : ∃ s : Sli β, v = s.val ∧ s.xs = xs ∧ s.ok enc k w ∧ (∀ b off, s.at' = some ⟨b, off, none⟩ → v.ownBlock = some b) := by
  rcases h.2 with ⟨rfl, hn⟩ | ⟨g, cap, cur, rfl, hb, hg, hnc, hcm, hcs, ht⟩
  · have := List.length_eq_zero_iff.1 hn
    subst this
    exact ⟨⟨none, 0, []⟩, rfl, rfl, ⟨Nat.le_refl _, Nat.zero_le _, fun h => absurd rfl h⟩, fun b off q => by cases q⟩
  · refine ⟨⟨some ⟨g, 0, none⟩, cap, xs⟩, rfl, rfl, ⟨hnc, hcm, fun h0 => ⟨g, 0, rfl, ?_⟩⟩, fun b off q => by cases q; rfl⟩
    intro i y hi j u hj
    have hf := flat_at hk xs i y hi j u hj
    rw [cell_of_row w g _ cur e (0, 0) hg, Nat.zero_add]
    have hl := (List.getElem?_eq_some_iff.1 hf).1
    rw [flat_len hk] at hl
    have e : (cur.toList.take (xs.length * k))[i * k + j]? = some u := by rw [ht]; exact hf
    rw [List.getElem?_take_of_lt hl] at e
    simpa using e

theorem OwnR.set (h : OwnR enc k e B w v xs) {a : Addr} (ha : ∀ b, v.ownBlock = some b → b ≠ a.block) (u : Value) : OwnR enc k e B (w.setCell a u) v xs :=
  h.kept (S := fun b => b = a.block) (Chg.set w a u rfl) ha

theorem info_parts {P : Program} {t : TypeId} {z : Value} {s b : Nat} (h : (P.info? t).map (fun i => (i.zero, i.size, i.bytes)) = some (some z, s, b)) : ∃ i, P.info? t = some i ∧ i.zero = some z ∧ i.size = s ∧ i.bytes = b := by
  obtain ⟨i, hi, h2⟩ := Option.map_eq_some_iff.1 h
  simp only [Prod.mk.injEq] at h2
  exact ⟨i, hi, h2.1, h2.2.1, h2.2.2⟩

theorem news_of {b off : Nat} {ys : List β} (hk : ∀ y, (enc y).length = k) (hg : ∀ (i : Nat) (y : β), ys[i]? = some y → ∀ (j : Nat) (u : Value), (enc y)[j]? = some u → w.cell? ⟨b, off + i * k + j, none⟩ = some u) :
    ∀ (j : Nat) (u : Value), (ys.flatMap enc)[j]? = some u → w.cell? ((⟨b, off, none⟩ : Addr).add j) = some u := by
  intro n u hn
  obtain ⟨i, j, g, h1, h2, rfl⟩ := flat_back hk ys n u hn
  have := hg i g h1 j u h2
  rw [Nat.add_assoc] at this
  generalize i * k + j = q at *
  by_cases c : q = 0
  · subst c; simpa [Addr.add] using this
  · simpa [Addr.add, c] using this

end

end Go.Proofs.Ytihmdcdifakepab.Rv
