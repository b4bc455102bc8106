/- Worlds, rows and slices. -/
import Derived.Test.YtfhdmglfpkmjbaaProg
import Derived.Maps.OwnSet
import Derived.DeepKeys5
import Derived.Deep.RegionLaw
import Derived.Deep.Cut
import Derived.Deep.LoopGhost
import Derived.StringKeys
import Derived.WalkKit
import Derived.WalkSpells
import Derived.WalkLawsBesides
import Derived.BigQuiet
import Derived.Below
import Derived.Laws.Rows
import Derived.Laws.AppendOwn
import Derived.Deep.AppendLies
import Derived.Deep.DeepAppendWide
import Derived.Deep.RegionHeldLaw
import Derived.LaidMore
import Derived.Lib.RowBridge
namespace Go.Proofs.Ytfhdmglfpkmjbaa.Hp
open Go.RowKit
set_option linter.unusedVariables false

structure Chg (S : Nat → Prop) (w w' : World) : Prop where
  os : w'.os = w.os
  tape : w'.tape = w.tape
  output : w'.output = w.output
  size : w.heap.size ≤ w'.heap.size
  block : ∀ k, k < w.heap.size → ¬ S k → w'.heap[k]? = w.heap[k]?

theorem Chg.refl (S : Nat → Prop) (w : World) : Chg S w w := ⟨rfl, rfl, rfl, Nat.le_refl _, fun _ _ _ => rfl⟩
theorem Chg.trans {S S' : Nat → Prop} {a b c : World} (h : Chg S a b) (k : Chg S' b c) (hs : ∀ i, i < a.heap.size → S' i → S i) : Chg S a c :=
  ⟨k.os.trans h.os, k.tape.trans h.tape, k.output.trans h.output, Nat.le_trans h.size k.size, fun i hi hn => (k.block i (Nat.lt_of_lt_of_le hi h.size) (fun q => hn (hs i hi q))).trans (h.block i hi hn)⟩
theorem Chg.of_below {S : Nat → Prop} {w w' : World} (h : Below w.heap.size w w') : Chg S w w' := ⟨h.os, h.tape, h.output, h.size, fun k hk _ => h.block k hk⟩
theorem Chg.of_grown {S : Nat → Prop} {w w' : World} {row : Option Nat} (h : w.grownBy w' row) (hr : ∀ k, row = some k → S k) : Chg S w w' :=
  ⟨h.os, h.tape, h.output, h.size, fun k hk hn => h.block k hk (fun e => hn (hr k e.symm))⟩
theorem Chg.set {S : Nat → Prop} (w : World) (p : Addr) (v : Value) (hs : S p.block) : Chg S w (w.setCell p v) :=
  ⟨rfl, rfl, rfl, by simp, fun k hk hn => Below.heap_setCell w p v k (fun e => hn (e ▸ hs))⟩
theorem Chg.cell {S : Nat → Prop} {w w' : World} (h : Chg S w w') {a : Addr} {u : Value} (hu : w.cell? a = some u) (hn : ¬ S a.block) : w'.cell? a = some u := by
  rw [World.cell?_of_block (w := w) (h.block a.block (World.block_lt_of_cell? w _ hu) hn)]
  exact hu
theorem Chg.below {S : Nat → Prop} {B : Nat} {W w w' : World} (h : Chg S w w') (hb : Below B W w) (hB : B ≤ w.heap.size) (hs : ∀ k, S k → B ≤ k) : Below B W w' :=
  ⟨h.os.trans hb.os, h.tape.trans hb.tape, h.output.trans hb.output, Nat.le_trans hb.size h.size, fun k hk => (h.block k (by omega) (fun q => by have := hs k q; omega)).trans (hb.block k hk)⟩
theorem Chg.mono {S S' : Nat → Prop} {w w' : World} (h : Chg S w w') (hs : ∀ k, S k → S' k) : Chg S' w w' := ⟨h.os, h.tape, h.output, h.size, fun k hk hn => h.block k hk (fun q => hn (hs k q))⟩
theorem Chg.drew {S : Nat → Prop} {w w' : World} (h : Chg S w w') : Chg S w w'.drew := ⟨h.os, h.tape, h.output, h.size, h.block⟩
theorem Chg.new {S : Nat → Prop} {w w' : World} (h : Chg S w w') (o : Obj) : Chg S w (w'.alloc o) := h.trans (Chg.of_below (S := fun _ => False) ((Below.refl _ _).alloc (Nat.le_refl _) _)) (fun _ _ q => q.elim)
theorem below_new {B : Nat} {w w' : World} (h : Below B w w') (hB : B ≤ w'.heap.size) (o : Obj) : Below B w (w'.alloc o) := h.alloc hB o

theorem grown_of_below {w w' : World} (h : Below w.heap.size w w') : w.grownBy w' none := ⟨h.os, h.tape, h.output, h.size, fun k hk _ => h.block k hk⟩
theorem grown_undrew {w w' : World} {row : Option Nat} (h : w.drew.grownBy w' row) : w.grownBy w' row := ⟨h.1, h.2, h.3, h.4, h.5⟩
theorem below_grown {w w' : World} (h : w.grownBy w' none) : Below w.heap.size w w' := ⟨h.os, h.tape, h.output, h.size, fun k hk => h.block k hk (by simp)⟩

theorem cells_below {w w' : World} (h : Below w.heap.size w w') : ∀ a u, w.cell? a = some u → w'.cell? a = some u := by
  intro a u hu
  rw [h.cell (World.block_lt_of_cell? w _ hu)]
  exact hu

theorem size_new (w : World) (o : Obj) : (w.alloc o).heap.size = w.heap.size + 1 := by
  show (w.heap.push o).size = _
  exact Array.size_push _
theorem at_new (w : World) (o : Obj) : (w.alloc o).heap[w.heap.size]? = some o := by
  show (w.heap.push o)[w.heap.size]? = some o
  exact Array.getElem?_push_size
theorem at_old (w : World) (o : Obj) (b : Nat) (o' : Obj) (h : w.heap[b]? = some o') : (w.alloc o).heap[b]? = some o' := by
  show (w.heap.push o)[b]? = some o'
  rw [Array.getElem?_push]
  have := (Array.getElem?_eq_some_iff.1 h).1
  rw [if_neg (by omega)]
  exact h

/-- cells of a block that was just laid -/
theorem box_new (w : World) (cs : Array Value) (t : TypeId) (j : Nat) (u : Value) (h : cs[j]? = some u) : (w.alloc (.cells cs t)).cell? ⟨w.heap.size, j, none⟩ = some u := by
  rw [cell_of_row _ w.heap.size j cs t (0, 0) (at_new w _)]
  exact h

/-- a slice: where it lies, its room, what is in it -/
structure Sli (β : Type) where
  at' : Option Addr
  cap : Nat
  xs : List β

def Sli.val {β : Type} (s : Sli β) : Value := .slice s.at' s.xs.length s.cap

/-- it lies in memory, k cells an element -/
structure Sli.ok {β : Type} (enc : β → List Value) (k : Nat) (w : World) (s : Sli β) : Prop where
  len : s.xs.length ≤ s.cap
  cap : s.cap ≤ maxLen
  cells : s.xs ≠ [] → ∃ b off, s.at' = some ⟨b, off, none⟩ ∧ ∀ (i : Nat) (y : β), s.xs[i]? = some y → ∀ (j : Nat) (u : Value), (enc y)[j]? = some u → w.cell? ⟨b, off + i * k + j, none⟩ = some u

theorem Sli.ok.kept {β : Type} {enc : β → List Value} {k : Nat} {w w' : World} {s : Sli β} (h : s.ok enc k w) (hc : ∀ a u, w.cell? a = some u → w'.cell? a = some u) : s.ok enc k w' := by
  refine ⟨h.len, h.cap, fun h0 => ?_⟩
  obtain ⟨b, off, h1, h2⟩ := h.cells h0
  exact ⟨b, off, h1, fun i y hi j u hj => hc _ _ (h2 i y hi j u hj)⟩

section
variable {β : Type} {enc : β → List Value} {k : Nat}

theorem flat_at (hk : ∀ y, (enc y).length = k) : ∀ (xs : List β) (i : Nat) (g : β), xs[i]? = some g → ∀ (j : Nat) (u : Value), (enc g)[j]? = some u → (xs.flatMap enc)[i * k + j]? = some u
  | [], i, g, h, _, _, _ => by simp at h
  | x :: xs, 0, g, h, j, u, hj => by
    simp at h
    subst h
    have jl : j < (enc x).length := (List.getElem?_eq_some_iff.1 hj).1
    rw [List.flatMap_cons, Nat.zero_mul, Nat.zero_add, List.getElem?_append_left jl]
    exact hj
  | x :: xs, i + 1, g, h, j, u, hj => by
    rw [List.flatMap_cons, List.getElem?_append_right (by rw [hk x, Nat.succ_mul]; omega)]
    have := flat_at hk xs i g (by simpa using h) j u hj
    rw [← this, hk x]
    congr 1
    rw [Nat.succ_mul]
    omega

theorem flat_len (hk : ∀ y, (enc y).length = k) : ∀ xs : List β, (xs.flatMap enc).length = xs.length * k
  | [] => by simp
  | x :: xs => by
    rw [List.flatMap_cons, List.length_append, flat_len hk xs, List.length_cons, hk x, Nat.succ_mul]
    omega

theorem flat_back (hk : ∀ y, (enc y).length = k) : ∀ (xs : List β) (n : Nat) (u : Value), (xs.flatMap enc)[n]? = some u → ∃ (i j : Nat) (g : β), xs[i]? = some g ∧ (enc g)[j]? = some u ∧ n = i * k + j
  | [], n, u, h => by simp at h
  | x :: xs, n, u, h => by
    rw [List.flatMap_cons] at h
    rcases Nat.lt_or_ge n k with c | c
    · rw [List.getElem?_append_left (by rw [hk x]; exact c)] at h
      exact ⟨0, n, x, rfl, h, by omega⟩
    · rw [List.getElem?_append_right (by rw [hk x]; exact c), hk x] at h
      obtain ⟨i, j, g, h1, h2, h3⟩ := flat_back hk xs (n - k) u h
      exact ⟨i + 1, j, g, by simpa using h1, h2, by rw [Nat.succ_mul]; omega⟩

/-- a row of the call's own -/
def OwnR (enc : β → List Value) (k : Nat) (e : TypeId) (B : Nat) (w : World) (v : Value) (xs : List β) : Prop := w.ownsRow B e k v xs.length (xs.flatMap enc)

variable {e : TypeId} {B : Nat} {w w' : World} {v : Value} {xs : List β}

theorem OwnR.nil (B : Nat) (w : World) : OwnR enc k e B w (.slice none 0 0) [] := ⟨by simp, Or.inl ⟨rfl, rfl⟩⟩

theorem OwnR.lt (h : OwnR enc k e B w v xs) : ∀ b, v.ownBlock = some b → B ≤ b ∧ b < w.heap.size := by
  intro b hk
  rcases h.2 with ⟨rfl, _⟩ | ⟨g, cap, cur, rfl, hb, hg, _⟩
  · simp [Value.ownBlock] at hk
  · simp [Value.ownBlock] at hk
    subst hk
    exact ⟨hb, (Array.getElem?_eq_some_iff.1 hg).1⟩

theorem OwnR.kept {S : Nat → Prop} (h : OwnR enc k e B w v xs) (hb : Chg S w w') (hs : ∀ b, v.ownBlock = some b → ¬ S b) : OwnR enc k e B w' v xs := by
  have hl := h.lt
  rcases h.2 with ⟨rfl, h0⟩ | ⟨g, cap, cur, rfl, hbg, hg, h3⟩
  · exact ⟨h.1, Or.inl ⟨rfl, h0⟩⟩
  · exact ⟨h.1, Or.inr ⟨g, cap, cur, rfl, hbg, by rw [hb.block g (hl g rfl).2 (hs g rfl)]; exact hg, h3⟩⟩

theorem OwnR.below (h : OwnR enc k e B w v xs) (hb : Below w.heap.size w w') : OwnR enc k e B w' v xs := h.kept (S := fun _ => False) (Chg.of_below hb) (fun _ _ q => q)

theorem OwnR.low {B' : Nat} (h : OwnR enc k e B w v xs) (hB : B' ≤ B) : OwnR enc k e B' w v xs := by
  refine ⟨h.1, ?_⟩
  rcases h.2 with h0 | ⟨g, cap, cur, h1, hb, h2⟩
  · exact Or.inl h0
  · exact Or.inr ⟨g, cap, cur, h1, by omega, h2⟩

/-- such a row, read -/
theorem OwnR.sl (hk : ∀ y, (enc y).length = k) (h : OwnR enc k e B w v xs) : ∃ s : Sli β, v = s.val ∧ s.xs = xs ∧ s.ok enc k w ∧ (∀ b off, s.at' = some ⟨b, off, none⟩ → v.ownBlock = some b) := by
  rcases h.2 with ⟨rfl, hn⟩ | ⟨g, cap, cur, rfl, hb, hg, hnc, hcm, hcs, ht⟩
  · have := List.length_eq_zero_iff.1 hn
    subst this
    exact ⟨⟨none, 0, []⟩, rfl, rfl, ⟨Nat.le_refl _, Nat.zero_le _, fun h => absurd rfl h⟩, fun b off q => by cases q⟩
  · refine ⟨⟨some ⟨g, 0, none⟩, cap, xs⟩, rfl, rfl, ⟨hnc, hcm, fun h0 => ⟨g, 0, rfl, ?_⟩⟩, fun b off q => by cases q; rfl⟩
    intro i y hi j u hj
    have hf := flat_at hk xs i y hi j u hj
    rw [cell_of_row w g _ cur e (0, 0) hg, Nat.zero_add]
    have hl := (List.getElem?_eq_some_iff.1 hf).1
    rw [flat_len hk] at hl
    have e : (cur.toList.take (xs.length * k))[i * k + j]? = some u := by rw [ht]; exact hf
    rw [List.getElem?_take_of_lt hl] at e
    simpa using e

theorem OwnR.set (h : OwnR enc k e B w v xs) {a : Addr} (ha : ∀ b, v.ownBlock = some b → b ≠ a.block) (u : Value) : OwnR enc k e B (w.setCell a u) v xs :=
  h.kept (S := fun b => b = a.block) (Chg.set w a u rfl) ha

theorem info_parts {P : Program} {t : TypeId} {z : Value} {s b : Nat} (h : (P.info? t).map (fun i => (i.zero, i.size, i.bytes)) = some (some z, s, b)) : ∃ i, P.info? t = some i ∧ i.zero = some z ∧ i.size = s ∧ i.bytes = b := by
  obtain ⟨i, hi, h2⟩ := Option.map_eq_some_iff.1 h
  simp only [Prod.mk.injEq] at h2
  exact ⟨i, hi, h2.1, h2.2.1, h2.2.2⟩

theorem news_of {b off : Nat} {ys : List β} (hk : ∀ y, (enc y).length = k) (hg : ∀ (i : Nat) (y : β), ys[i]? = some y → ∀ (j : Nat) (u : Value), (enc y)[j]? = some u → w.cell? ⟨b, off + i * k + j, none⟩ = some u) :
    ∀ (j : Nat) (u : Value), (ys.flatMap enc)[j]? = some u → w.cell? ((⟨b, off, none⟩ : Addr).add j) = some u := by
  intro n u hn
  obtain ⟨i, j, g, h1, h2, rfl⟩ := flat_back hk ys n u hn
  have := hg i g h1 j u h2
  rw [Nat.add_assoc] at this
  generalize i * k + j = q at *
  by_cases c : q = 0
  · subst c; simpa [Addr.add] using this
  · simpa [Addr.add, c] using this

end
theorem take_at {α : Type} (l : List α) (k : Nat) (y : α) (h : l[k]? = some y) : l.take (k + 1) = l.take k ++ [y] := by
  rw [List.take_add_one, h]
  rfl

theorem B2 (w : World) (o1 o2 : Obj) : Below w.heap.size w ((w.alloc o1).alloc o2) := below_new (below_new (Below.refl _ _) (Nat.le_refl _) _) (by rw [size_new]; omega) _
theorem at_two (w : World) (o1 o2 : Obj) : ((w.alloc o1).alloc o2).heap[w.heap.size + 1]? = some o2 := by
  have := at_new (w.alloc o1) o2
  rw [size_new] at this
  exact this

end Go.Proofs.Ytfhdmglfpkmjbaa.Hp
