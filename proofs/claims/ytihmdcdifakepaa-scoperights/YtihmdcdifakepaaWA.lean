/- Trees as they lie in memory; how many nodes (the document's count, the program's holds). -/
import Derived.Test.YtihmdcdifakepaaProg
import Derived.Test.YtihmdcdifakepaaSD
import Derived.WalkKit
import Derived.WalkSpells
import Derived.WalkLawsBesides
import Derived.BigQuiet
import Derived.Below
import Derived.Laws.Rows
namespace Go.Proofs.Ytihmdcdifakepaa.Sc
open Go.RowKit
set_option linter.unusedVariables false

def Sli.val {β : Type} (s : Sli β) : Value := .slice s.at' s.xs.length s.cap

/-- it lies in memory, k cells an element -/
structure Sli.ok {β : Type} (enc : β → List Value) (k : Nat) (w : World) (s : Sli β) : Prop where
  len : s.xs.length ≤ s.cap
  cap : s.cap ≤ maxLen
  cells : s.xs ≠ [] → ∃ b off, s.at' = some ⟨b, off, none⟩ ∧ ∀ i y, s.xs[i]? = some y → ∀ j u, (enc y)[j]? = some u → w.cell? ⟨b, off + i * k + j, none⟩ = some u

theorem Sli.ok.kept {β : Type} {enc : β → List Value} {k : Nat} {w w' : World} {s : Sli β} (h : s.ok enc k w) (hc : ∀ a u, w.cell? a = some u → w'.cell? a = some u) : s.ok enc k w' := by
  refine ⟨h.len, h.cap, fun h0 => ?_⟩
  obtain ⟨b, off, h1, h2⟩ := h.cells h0
  exact ⟨b, off, h1, fun i y hi j u hj => hc _ _ (h2 i y hi j u hj)⟩

theorem cells_below {w w' : World} (h : Below w.heap.size w w') : ∀ a u, w.cell? a = some u → w'.cell? a = some u := by
  intro a u hu
  rw [h.cell (World.block_lt_of_cell? w _ hu)]
  exact hu

def ndT : (n : Nat) → Tr n → Nd
  | 0, t => nomatch (t : Empty)
  | _ + 1, (x, _) => x
def atT : (n : Nat) → Tr n → Option Addr
  | 0, t => nomatch (t : Empty)
  | _ + 1, (_, s) => s.at'
def capT : (n : Nat) → Tr n → Nat
  | 0, t => nomatch (t : Empty)
  | _ + 1, (_, s) => s.cap

theorem kd_nd (n : Nat) (t : Tr n) : kdT n t = (ndT n t).kind := by
  cases n with
  | zero => exact nomatch (t : Empty)
  | succ n => rfl
theorem pl_nd (n : Nat) (t : Tr n) : plT n t = (ndT n t).pl := by
  cases n with
  | zero => exact nomatch (t : Empty)
  | succ n => rfl

structure Nd.wf (x : Nd) : Prop where
  pl : (Lit.int .i64 x.pl).wf = true
  name : x.name.size ≤ maxLen
  op : x.op.size ≤ maxLen

def encT (n : Nat) (t : Tr n) : List Value := [.int .i64 (ndT n t).kind, .int .i64 (ndT n t).pl, .string (ndT n t).name, .int .u64 (ndT n t).num, .string (ndT n t).op, .slice (atT n t) (nkT n t) (capT n t)]
def valT (n : Nat) (t : Tr n) : Value := .agg #[.int .i64 (ndT n t).kind, .int .i64 (ndT n t).pl, .string (ndT n t).name, .int .u64 (ndT n t).num, .string (ndT n t).op, .slice (atT n t) (nkT n t) (capT n t)]

def okT : (n : Nat) → World → Tr n → Prop
  | 0, _, t => nomatch (t : Empty)
  | n + 1, w, (x, s) => x.wf ∧ s.ok (encT n) 6 w ∧ ∀ y ∈ s.xs, okT n w y

theorem okT_kept {n : Nat} {w w' : World} {t : Tr n} (h : okT n w t) (hc : ∀ a u, w.cell? a = some u → w'.cell? a = some u) : okT n w' t := by
  induction n with
  | zero => exact nomatch (t : Empty)
  | succ n ih =>
    obtain ⟨x, s⟩ := t
    exact ⟨h.1, h.2.1.kept hc, fun y hy => ih (h.2.2 y hy)⟩

theorem val_succ (n : Nat) (x : Nd) (s : Sli (Tr n)) : valT (n + 1) ((x, s) : Nd × Sli (Tr n)) = .agg #[.int .i64 x.kind, .int .i64 x.pl, .string x.name, .int .u64 x.num, .string x.op, .slice s.at' s.xs.length s.cap] := rfl

/-- the kid at a place -/
theorem kid_at {n : Nat} {w : World} {s : Sli (Tr n)} (h : s.ok (encT n) 6 w) {k : Nat} (hk : k < s.xs.length) :
    ∃ (y : Tr n) (b off : Nat), s.at' = some ⟨b, off, none⟩ ∧ s.xs[k]? = some y ∧
      w.cell? ⟨b, off + k * 6, none⟩ = some (.int .i64 (ndT n y).kind) ∧ w.cell? ⟨b, off + k * 6 + 1, none⟩ = some (.int .i64 (ndT n y).pl) ∧ w.cell? ⟨b, off + k * 6 + 2, none⟩ = some (.string (ndT n y).name) ∧
      w.cell? ⟨b, off + k * 6 + 3, none⟩ = some (.int .u64 (ndT n y).num) ∧ w.cell? ⟨b, off + k * 6 + 4, none⟩ = some (.string (ndT n y).op) ∧ w.cell? ⟨b, off + k * 6 + 5, none⟩ = some (.slice (atT n y) (nkT n y) (capT n y)) := by
  obtain ⟨b, off, h1, h2⟩ := h.cells (by intro e; rw [e] at hk; simp at hk)
  have hy := List.getElem?_eq_getElem hk
  have g := h2 k _ hy
  exact ⟨s.xs[k], b, off, h1, hy, g 0 _ rfl, g 1 _ rfl, g 2 _ rfl, g 3 _ rfl, g 4 _ rfl, g 5 _ rfl⟩
end Go.Proofs.Ytihmdcdifakepaa.Sc
