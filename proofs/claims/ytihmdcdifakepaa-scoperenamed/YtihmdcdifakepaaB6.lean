/- The document's tree: what a call on places does; empty. -/
import Derived.Test.YtihmdcdifakepaaWF
import Derived.Test.YtihmdcdifakepaaProg
import Derived.Test.YtihmdcdifakepaaB4
import Derived.Deep.Cut
import Derived.Deep.CutBlock
import Derived.Deep.RegionLaw
import Derived.Deep.LoopGhost
import Derived.Maps.OwnSet
import Derived.DeepKeys5
import Derived.WalkKit
import Derived.WalkSpells
import Derived.WalkLawsBesides
import Derived.BigQuiet
import Derived.Below
import Derived.Laws.Rows
import Derived.Laws.AppendOwn
import Derived.Deep.AppendLies
import Derived.Deep.DeepAppendWide
import Derived.Deep.RegionHeldLaw
import Derived.LaidMore
import Derived.Lib.RowBridge
namespace Go.Proofs.Ytihmdcdifakepaa.Sc
open Go.RowKit
set_option linter.unusedVariables false

def szT : (n : Nat) → Tr n → Nat
  | 0, t => nomatch (t : Empty)
  | n + 1, (_, s) => 1 + (s.xs.map (szT n)).sum
def szL {n : Nat} (xs : List (Tr n)) : Nat := (xs.map (szT n)).sum

theorem sz_pos (n : Nat) (t : Tr n) : 1 ≤ szT n t := by
  cases n with
  | zero => exact nomatch (t : Empty)
  | succ n => obtain ⟨x, s⟩ := t; rw [szT]; omega
theorem szL_cons {n : Nat} (k : Tr n) (ks : List (Tr n)) : szL (k :: ks) = szT n k + szL ks := by unfold szL; simp
theorem szL_nil {n : Nat} : szL ([] : List (Tr n)) = 0 := rfl

/-- what a call on the places at pb does: f; so many places more at most -/
def RC (B pb : Nat) (W0 : World) (F : Nat) (args : Array Value) (f : RS → RS) (sz : Nat) : Prop :=
  ∀ (w : World) (vU vV : Value) (st : RS) (m : Nat), Below B W0 w → PlAt B pb w st m vU vV → m + sz ≤ 1000000 →
    Calls Try.prog F args w fun e w' => e = .returned (.tuple #[]) ∧ ∃ vU' vV', PlAt B pb w' (f st) (m + sz) vU' vV' ∧ Stp pb w vU vV w' vU' vV' ∧ Below B W0 w'

theorem declared_rc (B pb : Nat) (W0 : World) (x : Int) : RC B pb W0 32 #[.pointer (some ⟨pb, 0, none⟩), .int .i64 x] (decR x) 1 := by
  intro w vU vV st m hb hp hm
  refine (declared_any B pb x w vU vV st m hp hm).mono ?_
  rintro e w' ⟨he, vU', vV', h1, h2⟩
  exact ⟨he, vU', vV', h1, h2, hp.below h2 hb⟩
theorem used_rc (B pb : Nat) (W0 : World) (x : Int) : RC B pb W0 49 #[.pointer (some ⟨pb, 0, none⟩), .int .i64 x] (useR x) 1 := by
  intro w vU vV st m hb hp hm
  refine (used_any B pb x w vU vV st m hp hm).mono ?_
  rintro e w' ⟨he, vU', vV', h1, h2⟩
  exact ⟨he, vU', vV', h1, h2, hp.below h2 hb⟩

/-- where a function stands: the world at its beginning, its box -/
structure Fr (B pb : Nat) (W0 w0 : World) (vU0 vV0 : Value) (bk : Nat) (box : Array Value) (w : World) (vU vV : Value) (st : RS) (m : Nat) : Prop where
  bel : Below B W0 w
  pl : PlAt B pb w st m vU vV
  stp : Stp pb w0 vU0 vV0 w vU vV
  box : ∀ i v, box[i]? = some v → w.cell? ⟨bk, i, none⟩ = some v
  lt : bk < w.heap.size
  sep : ¬ Own pb vU vV bk

theorem Fr.start {B pb : Nat} {W0 w : World} {vU vV : Value} {st : RS} {m : Nat} (hb : Below B W0 w) (hp : PlAt B pb w st m vU vV) (box : Array Value) (ty : TypeId) : Fr B pb W0 w vU vV w.heap.size box (w.alloc (.cells box ty)) vU vV st m :=
  have h : Below w.heap.size w (w.alloc (.cells box ty)) := (Below.refl _ _).alloc (Nat.le_refl _) _
  ⟨hb.alloc hp.size _, hp.new h, Stp.new _ _ h, box_new w box ty, by simp, fun q => by have := hp.lt _ q; omega⟩

theorem Fr.call {B pb : Nat} {W0 w0 : World} {vU0 vV0 : Value} {bk : Nat} {box : Array Value} {w : World} {vU vV : Value} {st : RS} {m : Nat} (h : Fr B pb W0 w0 vU0 vV0 bk box w vU vV st m)
    {w' : World} {vU' vV' : Value} {st' : RS} {m' : Nat} (hp : PlAt B pb w' st' m' vU' vV') (hs : Stp pb w vU vV w' vU' vV') (hb : Below B W0 w') : Fr B pb W0 w0 vU0 vV0 bk box w' vU' vV' st' m' :=
  ⟨hb, hp, h.stp.trans hs, fun i v q => hs.chg.cell (h.box i v q) h.sep, Nat.lt_of_lt_of_le h.lt hs.chg.size, fun q => h.sep (hs.own _ q h.lt)⟩

theorem Fr.new {B pb : Nat} {W0 w0 : World} {vU0 vV0 : Value} {bk : Nat} {box : Array Value} {w w' : World} {vU vV : Value} {st : RS} {m : Nat} (h : Fr B pb W0 w0 vU0 vV0 bk box w vU vV st m) (hb : Below w.heap.size w w') : Fr B pb W0 w0 vU0 vV0 bk box w' vU vV st m :=
  h.call (h.pl.new hb) (Stp.new _ _ hb) (h.bel.trans (hb.mono h.pl.size))

theorem Fr.spoil {B pb : Nat} {W0 w0 : World} {vU0 vV0 : Value} {bk : Nat} {box : Array Value} {w : World} {vU vV : Value} {st : RS} {m : Nat} (h : Fr B pb W0 w0 vU0 vV0 bk box w vU vV st m) : Fr B pb W0 w0 vU0 vV0 bk box (w.setCell ⟨pb, 2, none⟩ (.bool true)) vU vV none m := by
  obtain ⟨h1, h2⟩ := h.pl.spoil
  exact h.call h1 h2 (h.pl.below h2 h.bel)

/-- the mark set right behind the box -/
theorem Fr.atOnce {B pb : Nat} {W0 w : World} {vU vV : Value} {st : RS} {m : Nat} (hb : Below B W0 w) (hp : PlAt B pb w st m vU vV) (box : Array Value) (ty : TypeId) (m' : Nat) (hm : m ≤ m') :
    ∃ vU' vV', PlAt B pb ((w.setCell ⟨pb, 2, none⟩ (.bool true)).alloc (.cells box ty)) none m' vU' vV' ∧ Stp pb w vU vV ((w.setCell ⟨pb, 2, none⟩ (.bool true)).alloc (.cells box ty)) vU' vV' ∧ Below B W0 ((w.setCell ⟨pb, 2, none⟩ (.bool true)).alloc (.cells box ty)) := by
  obtain ⟨h1, h2⟩ := hp.spoil
  have hb1 := hp.below h2 hb
  have h : Below (w.setCell ⟨pb, 2, none⟩ (.bool true)).heap.size (w.setCell ⟨pb, 2, none⟩ (.bool true)) ((w.setCell ⟨pb, 2, none⟩ (.bool true)).alloc (.cells box ty)) := (Below.refl _ _).alloc (Nat.le_refl _) _
  exact ⟨vU, vV, (h1.new h).more hm, h2.trans (Stp.new _ _ h), hb1.alloc h1.size _⟩
/-- .. and where it stays -/
theorem Fr.stays {B pb : Nat} {W0 w : World} {vU vV : Value} {st : RS} {m : Nat} (hb : Below B W0 w) (hp : PlAt B pb w st m vU vV) (box : Array Value) (ty : TypeId) (m' : Nat) (hm : m ≤ m') (u : Value) (hu : u = .bool st.isNone) :
    ∃ vU' vV', PlAt B pb ((w.setCell ⟨pb, 2, none⟩ u).alloc (.cells box ty)) st m' vU' vV' ∧ Stp pb w vU vV ((w.setCell ⟨pb, 2, none⟩ u).alloc (.cells box ty)) vU' vV' ∧ Below B W0 ((w.setCell ⟨pb, 2, none⟩ u).alloc (.cells box ty)) := by
  subst hu
  obtain ⟨U, V, h1, h2, h3, h4⟩ := hp.mem
  have hc : Chg (fun k => k = pb) w (w.setCell ⟨pb, 2, none⟩ (.bool st.isNone)) := Chg.set w _ _ rfl
  have hq : PlAt B pb (w.setCell ⟨pb, 2, none⟩ (.bool st.isNone)) st m vU vV := by
    refine ⟨U, V, ⟨?_, ?_, ?_, ?_, ?_, ?_, h1.oU.kept hc (fun k e q => h1.sU (q ▸ e)), h1.oV.kept hc (fun k e q => h1.sV (q ▸ e)), h1.sU, h1.sV, h1.sUV, h1.pB⟩, h2, h3, h4⟩
    · rw [World.cell?_setCell_other _ _ _ _ (by simp)]; exact h1.c0
    · rw [World.cell?_setCell_other _ _ _ _ (by simp)]; exact h1.c1
    · exact World.cell?_setCell_same _ _ _ h1.c2
    · rw [World.frozen?_setCell]; exact h1.f0
    · rw [World.frozen?_setCell]; exact h1.f1
    · rw [World.frozen?_setCell]; exact h1.f2
  have hs : Stp pb w vU vV (w.setCell ⟨pb, 2, none⟩ (.bool st.isNone)) vU vV := ⟨Chg.set w _ _ (Or.inl rfl), fun _ q _ => q⟩
  have h : Below (w.setCell ⟨pb, 2, none⟩ (.bool st.isNone)).heap.size (w.setCell ⟨pb, 2, none⟩ (.bool st.isNone)) ((w.setCell ⟨pb, 2, none⟩ (.bool st.isNone)).alloc (.cells box ty)) := (Below.refl _ _).alloc (Nat.le_refl _) _
  exact ⟨vU, vV, (hq.new h).more hm, hs.trans (Stp.new _ _ h), (hp.below hs hb).alloc hq.size _⟩

/-- the end -/
theorem Fr.done {B pb : Nat} {W0 w0 : World} {vU0 vV0 : Value} {bk : Nat} {box : Array Value} {w : World} {vU vV : Value} {st st' : RS} {m m' : Nat} (h : Fr B pb W0 w0 vU0 vV0 bk box w vU vV st m) (hs : st' = st) (hm : m ≤ m') :
    ∃ vU' vV', PlAt B pb w st' m' vU' vV' ∧ Stp pb w0 vU0 vV0 w vU' vV' ∧ Below B W0 w := ⟨vU, vV, hs ▸ h.pl.more hm, h.stp, h.bel⟩

/-- a kid's six cells -/
def Six (w : World) (b off : Nat) (x : Nd) (v : Value) : Prop :=
  w.cell? ⟨b, off, none⟩ = some (.int .i64 x.kind) ∧ w.cell? ⟨b, off + 1, none⟩ = some (.int .i64 x.pl) ∧ w.cell? ⟨b, off + 2, none⟩ = some (.string x.name) ∧
    w.cell? ⟨b, off + 3, none⟩ = some (.int .u64 x.num) ∧ w.cell? ⟨b, off + 4, none⟩ = some (.string x.op) ∧ w.cell? ⟨b, off + 5, none⟩ = some v

/-- the kids of a node in whatever world above W0 -/
theorem kid_six {n : Nat} {W0 : World} {s : Sli (Tr n)} (h : s.ok (encT n) 6 W0) {k : Nat} {y : Tr n} (hk : s.xs[k]? = some y) :
    ∃ (b off : Nat), s.at' = some ⟨b, off, none⟩ ∧ ∀ (B : Nat) (w : World), B = W0.heap.size → Below B W0 w → Six w b (off + k * 6) (ndT n y) (.slice (atT n y) (nkT n y) (capT n y)) := by
  obtain ⟨b, off, h1, h2⟩ := h.cells (by intro e; rw [e] at hk; simp at hk)
  refine ⟨b, off, h1, fun B w hB hb => ?_⟩
  subst hB
  have g := h2 k _ hk
  have c := cells_below hb
  exact ⟨c _ _ (g 0 _ rfl), c _ _ (g 1 _ rfl), c _ _ (g 2 _ rfl), c _ _ (g 3 _ rfl), c _ _ (g 4 _ rfl), c _ _ (g 5 _ rfl)⟩

set_option maxRecDepth 100000 in
theorem empty_rc (B pb : Nat) (W0 : World) (x : Nd) (ad : Option Addr) (len cap : Nat) (hl : len ≤ maxLen) :
    RC B pb W0 44 #[.pointer (some ⟨pb, 0, none⟩), .agg #[.int .i64 x.kind, .int .i64 x.pl, .string x.name, .int .u64 x.num, .string x.op, .slice ad len cap]] (fun st => if 0 < len then none else st) 0 := by
  intro w vU vV st m hb hp hm
  obtain ⟨kind, pl, name, num, op⟩ := x
  simp only
  unfold maxLen at hl
  have HB : Hid (Below B W0 w ∧ PlAt B pb w st m vU vV) := ⟨hb, hp⟩
  obtain ⟨c2, f2⟩ := hp.bad
  have pbl : pb < w.heap.size := hp.lt pb (Or.inl rfl)
  clear hb hp
  obtain ⟨R, hR⟩ : ∃ R : RS, R = if 0 < len then none else st := ⟨_, rfl⟩
  rw [← hR]
  have HR : Hid (R = if 0 < len then none else st) := hR
  clear hR
  cases st with
  | none =>
    simp only [Option.isNone_none] at c2
    go_enter Try.func44, Try.ntmps44
    go_wp2_with fail
    go_end0
    refine ⟨rfl, ?_⟩
    have e : R = none := by rw [HR.out]; split <;> rfl
    rw [e]
    exact Fr.atOnce HB.out.1 HB.out.2 _ _ _ (by omega)
  | some s =>
    simp only [Option.isNone_some] at c2
    rcases Nat.eq_zero_or_pos len with c | c
    · subst c
      have e : R = some s := by rw [HR.out]; rfl
      rw [e]
      clear HR e
      go_enter Try.func44, Try.ntmps44
      go_wp2_with fail
      go_end0
      exact ⟨rfl, Fr.stays HB.out.1 HB.out.2 _ _ _ (by omega) _ rfl⟩
    · have e : R = none := by rw [HR.out, if_pos c]
      rw [e]
      clear HR e
      go_enter Try.func44, Try.ntmps44
      go_wp2_with fail
      go_end0
      exact ⟨rfl, Fr.atOnce HB.out.1 HB.out.2 _ _ _ (by omega)⟩
end Go.Proofs.Ytihmdcdifakepaa.Sc

/- The resolver's walk: worlds, rows and slices. -/
namespace Go.Proofs.Ytihmdcdifakepaa.Rv
open Go.RowKit Go.Proofs.Ytihmdcdifakepaa.Sc
set_option linter.unusedVariables false

structure Chg (S : Nat → Prop) (w w' : World) : Prop where
  os : w'.os = w.os
  tape : w'.tape = w.tape
  output : w'.output = w.output
  size : w.heap.size ≤ w'.heap.size
  block : ∀ k, k < w.heap.size → ¬ S k → w'.heap[k]? = w.heap[k]?

theorem Chg.refl (S : Nat → Prop) (w : World) : Chg S w w := ⟨rfl, rfl, rfl, Nat.le_refl _, fun _ _ _ => rfl⟩
theorem Chg.trans {S S' : Nat → Prop} {a b c : World} (h : Chg S a b) (k : Chg S' b c) (hs : ∀ i, i < a.heap.size → S' i → S i) : Chg S a c :=
  ⟨k.os.trans h.os, k.tape.trans h.tape, k.output.trans h.output, Nat.le_trans h.size k.size, fun i hi hn => (k.block i (Nat.lt_of_lt_of_le hi h.size) (fun q => hn (hs i hi q))).trans (h.block i hi hn)⟩
theorem Chg.of_below {S : Nat → Prop} {w w' : World} (h : Below w.heap.size w w') : Chg S w w' := ⟨h.os, h.tape, h.output, h.size, fun k hk _ => h.block k hk⟩
theorem Chg.of_grown {S : Nat → Prop} {w w' : World} {row : Option Nat} (h : w.grownBy w' row) (hr : ∀ k, row = some k → S k) : Chg S w w' :=
  ⟨h.os, h.tape, h.output, h.size, fun k hk hn => h.block k hk (fun e => hn (hr k e.symm))⟩
theorem Chg.set {S : Nat → Prop} (w : World) (p : Addr) (v : Value) (hs : S p.block) : Chg S w (w.setCell p v) :=
  ⟨rfl, rfl, rfl, by simp, fun k hk hn => Below.heap_setCell w p v k (fun e => hn (e ▸ hs))⟩
theorem Chg.cell {S : Nat → Prop} {w w' : World} (h : Chg S w w') {a : Addr} {u : Value} (hu : w.cell? a = some u) (hn : ¬ S a.block) : w'.cell? a = some u := by
  rw [World.cell?_of_block (w := w) (h.block a.block (World.block_lt_of_cell? w _ hu) hn)]
  exact hu
theorem Chg.below {S : Nat → Prop} {B : Nat} {W w w' : World} (h : Chg S w w') (hb : Below B W w) (hB : B ≤ w.heap.size) (hs : ∀ k, S k → B ≤ k) : Below B W w' :=
  ⟨h.os.trans hb.os, h.tape.trans hb.tape, h.output.trans hb.output, Nat.le_trans hb.size h.size, fun k hk => (h.block k (by omega) (fun q => by have := hs k q; omega)).trans (hb.block k hk)⟩
theorem Chg.mono {S S' : Nat → Prop} {w w' : World} (h : Chg S w w') (hs : ∀ k, S k → S' k) : Chg S' w w' := ⟨h.os, h.tape, h.output, h.size, fun k hk hn => h.block k hk (fun q => hn (hs k q))⟩
theorem Chg.drew {S : Nat → Prop} {w w' : World} (h : Chg S w w') : Chg S w w'.drew := ⟨h.os, h.tape, h.output, h.size, h.block⟩
theorem Chg.new {S : Nat → Prop} {w w' : World} (h : Chg S w w') (o : Obj) : Chg S w (w'.alloc o) := h.trans (Chg.of_below (S := fun _ => False) ((Below.refl _ _).alloc (Nat.le_refl _) _)) (fun _ _ q => q.elim)
theorem below_new {B : Nat} {w w' : World} (h : Below B w w') (hB : B ≤ w'.heap.size) (o : Obj) : Below B w (w'.alloc o) := h.alloc hB o

theorem grown_of_below {w w' : World} (h : Below w.heap.size w w') : w.grownBy w' none := ⟨h.os, h.tape, h.output, h.size, fun k hk _ => h.block k hk⟩
theorem grown_undrew {w w' : World} {row : Option Nat} (h : w.drew.grownBy w' row) : w.grownBy w' row := ⟨h.1, h.2, h.3, h.4, h.5⟩
theorem below_grown {w w' : World} (h : w.grownBy w' none) : Below w.heap.size w w' := ⟨h.os, h.tape, h.output, h.size, fun k hk => h.block k hk (by simp)⟩

theorem size_new (w : World) (o : Obj) : (w.alloc o).heap.size = w.heap.size + 1 := by
  show (w.heap.push o).size = _
  exact Array.size_push _
theorem at_new (w : World) (o : Obj) : (w.alloc o).heap[w.heap.size]? = some o := by
  show (w.heap.push o)[w.heap.size]? = some o
  exact Array.getElem?_push_size
theorem at_old (w : World) (o : Obj) (b : Nat) (o' : Obj) (h : w.heap[b]? = some o') : (w.alloc o).heap[b]? = some o' := by
  show (w.heap.push o)[b]? = some o'
  rw [Array.getElem?_push]
  have := (Array.getElem?_eq_some_iff.1 h).1
  rw [if_neg (by omega)]
  exact h

/-- cells of a block that was just laid -/
theorem box_new (w : World) (cs : Array Value) (t : TypeId) (j : Nat) (u : Value) (h : cs[j]? = some u) : (w.alloc (.cells cs t)).cell? ⟨w.heap.size, j, none⟩ = some u := by
  rw [cell_of_row _ w.heap.size j cs t (0, 0) (at_new w _)]
  exact h

section
variable {β : Type} {enc : β → List Value} {k : Nat}

theorem flat_at (hk : ∀ y, (enc y).length = k) : ∀ (xs : List β) (i : Nat) (g : β), xs[i]? = some g → ∀ (j : Nat) (u : Value), (enc g)[j]? = some u → (xs.flatMap enc)[i * k + j]? = some u
  | [], i, g, h, _, _, _ => by simp at h
  | x :: xs, 0, g, h, j, u, hj => by
    simp at h
    subst h
    have jl : j < (enc x).length := (List.getElem?_eq_some_iff.1 hj).1
    rw [List.flatMap_cons, Nat.zero_mul, Nat.zero_add, List.getElem?_append_left jl]
    exact hj
  | x :: xs, i + 1, g, h, j, u, hj => by
    rw [List.flatMap_cons, List.getElem?_append_right (by rw [hk x, Nat.succ_mul]; omega)]
    have := flat_at hk xs i g (by simpa using h) j u hj
    rw [← this, hk x]
    congr 1
    rw [Nat.succ_mul]
    omega

theorem flat_len (hk : ∀ y, (enc y).length = k) : ∀ xs : List β, (xs.flatMap enc).length = xs.length * k
  | [] => by simp
  | x :: xs => by
    rw [List.flatMap_cons, List.length_append, flat_len hk xs, List.length_cons, hk x, Nat.succ_mul]
    omega

theorem flat_back (hk : ∀ y, (enc y).length = k) : ∀ (xs : List β) (n : Nat) (u : Value), (xs.flatMap enc)[n]? = some u → ∃ (i j : Nat) (g : β), xs[i]? = some g ∧ (enc g)[j]? = some u ∧ n = i * k + j
  | [], n, u, h => by simp at h
  | x :: xs, n, u, h => by
    rw [List.flatMap_cons] at h
    rcases Nat.lt_or_ge n k with c | c
    · rw [List.getElem?_append_left (by rw [hk x]; exact c)] at h
      exact ⟨0, n, x, rfl, h, by omega⟩
    · rw [List.getElem?_append_right (by rw [hk x]; exact c), hk x] at h
      obtain ⟨i, j, g, h1, h2, h3⟩ := flat_back hk xs (n - k) u h
      exact ⟨i + 1, j, g, by simpa using h1, h2, by rw [Nat.succ_mul]; omega⟩

/-- a row of the call's own -/
def OwnR (enc : β → List Value) (k : Nat) (e : TypeId) (B : Nat) (w : World) (v : Value) (xs : List β) : Prop := w.ownsRow B e k v xs.length (xs.flatMap enc)

variable {e : TypeId} {B : Nat} {w w' : World} {v : Value} {xs : List β}

theorem OwnR.nil (B : Nat) (w : World) : OwnR enc k e B w (.slice none 0 0) [] := ⟨by simp, Or.inl ⟨rfl, rfl⟩⟩

theorem OwnR.lt (h : OwnR enc k e B w v xs) : ∀ b, v.ownBlock = some b → B ≤ b ∧ b < w.heap.size := by
  intro b hk
  rcases h.2 with ⟨rfl, _⟩ | ⟨g, cap, cur, rfl, hb, hg, _⟩
  · simp [Value.ownBlock] at hk
  · simp [Value.ownBlock] at hk
    subst hk
    exact ⟨hb, (Array.getElem?_eq_some_iff.1 hg).1⟩

theorem OwnR.kept {S : Nat → Prop} (h : OwnR enc k e B w v xs) (hb : Chg S w w') (hs : ∀ b, v.ownBlock = some b → ¬ S b) : OwnR enc k e B w' v xs := by
  have hl := h.lt
  rcases h.2 with ⟨rfl, h0⟩ | ⟨g, cap, cur, rfl, hbg, hg, h3⟩
  · exact ⟨h.1, Or.inl ⟨rfl, h0⟩⟩
  · exact ⟨h.1, Or.inr ⟨g, cap, cur, rfl, hbg, by rw [hb.block g (hl g rfl).2 (hs g rfl)]; exact hg, h3⟩⟩

theorem OwnR.below (h : OwnR enc k e B w v xs) (hb : Below w.heap.size w w') : OwnR enc k e B w' v xs := h.kept (S := fun _ => False) (Chg.of_below hb) (fun _ _ q => q)

theorem OwnR.low {B' : Nat} (h : OwnR enc k e B w v xs) (hB : B' ≤ B) : OwnR enc k e B' w v xs := by
  refine ⟨h.1, ?_⟩
  rcases h.2 with h0 | ⟨g, cap, cur, h1, hb, h2⟩
  · exact Or.inl h0
  · exact Or.inr ⟨g, cap, cur, h1, by omega, h2⟩

/-- such a row, read -/
theorem OwnR.sl (hk : ∀ y, (enc y).length = k) (h : OwnR enc k e B w v xs) : ∃ s : Sli β, v = s.val ∧ s.xs = xs ∧ s.ok enc k w ∧ (∀ b off, s.at' = some ⟨b, off, none⟩ → v.ownBlock = some b) := by
  rcases h.2 with ⟨rfl, hn⟩ | ⟨g, cap, cur, rfl, hb, hg, hnc, hcm, hcs, ht⟩
  · have := List.length_eq_zero_iff.1 hn
    subst this
    exact ⟨⟨none, 0, []⟩, rfl, rfl, ⟨Nat.le_refl _, Nat.zero_le _, fun h => absurd rfl h⟩, fun b off q => by cases q⟩
  · refine ⟨⟨some ⟨g, 0, none⟩, cap, xs⟩, rfl, rfl, ⟨hnc, hcm, fun h0 => ⟨g, 0, rfl, ?_⟩⟩, fun b off q => by cases q; rfl⟩
    intro i y hi j u hj
    have hf := flat_at hk xs i y hi j u hj
    rw [cell_of_row w g _ cur e (0, 0) hg, Nat.zero_add]
    have hl := (List.getElem?_eq_some_iff.1 hf).1
    rw [flat_len hk] at hl
    have e : (cur.toList.take (xs.length * k))[i * k + j]? = some u := by rw [ht]; exact hf
    rw [List.getElem?_take_of_lt hl] at e
    simpa using e

theorem OwnR.set (h : OwnR enc k e B w v xs) {a : Addr} (ha : ∀ b, v.ownBlock = some b → b ≠ a.block) (u : Value) : OwnR enc k e B (w.setCell a u) v xs :=
  h.kept (S := fun b => b = a.block) (Chg.set w a u rfl) ha

theorem info_parts {P : Program} {t : TypeId} {z : Value} {s b : Nat} (h : (P.info? t).map (fun i => (i.zero, i.size, i.bytes)) = some (some z, s, b)) : ∃ i, P.info? t = some i ∧ i.zero = some z ∧ i.size = s ∧ i.bytes = b := by
  obtain ⟨i, hi, h2⟩ := Option.map_eq_some_iff.1 h
  simp only [Prod.mk.injEq] at h2
  exact ⟨i, hi, h2.1, h2.2.1, h2.2.2⟩

theorem news_of {b off : Nat} {ys : List β} (hk : ∀ y, (enc y).length = k) (hg : ∀ (i : Nat) (y : β), ys[i]? = some y → ∀ (j : Nat) (u : Value), (enc y)[j]? = some u → w.cell? ⟨b, off + i * k + j, none⟩ = some u) :
    ∀ (j : Nat) (u : Value), (ys.flatMap enc)[j]? = some u → w.cell? ((⟨b, off, none⟩ : Addr).add j) = some u := by
  intro n u hn
  obtain ⟨i, j, g, h1, h2, rfl⟩ := flat_back hk ys n u hn
  have := hg i g h1 j u h2
  rw [Nat.add_assoc] at this
  generalize i * k + j = q at *
  by_cases c : q = 0
  · subst c; simpa [Addr.add] using this
  · simpa [Addr.add, c] using this

end

end Go.Proofs.Ytihmdcdifakepaa.Rv
