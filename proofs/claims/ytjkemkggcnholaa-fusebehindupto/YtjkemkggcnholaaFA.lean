/- Functions as they lie in memory; code.jump. -/
import Derived.Test.YtjkemkggcnholaaProg
import Derived.WalkKit
import Derived.WalkSpells
import Derived.WalkLawsBesides
import Derived.BigQuiet
import Derived.Below
import Derived.Laws.Rows
import Derived.Laws.AppendOwn
namespace Go.Proofs.Ytjkemkggcnholaa.Fu
open Go.RowKit
set_option linter.unusedVariables false

/-- an instruction -/
structure Ins where
  op : Int
  a : Int
  b : Int
  c : Int

def insC (i : Ins) : List Value := [.int .i64 i.op, .int .i64 i.a, .int .i64 i.b, .int .i64 i.c]
def insV (i : Ins) : Value := .agg #[.int .i64 i.op, .int .i64 i.a, .int .i64 i.b, .int .i64 i.c]

/-- where an instruction jumps -/
def jumpI (i : Ins) : Int × Bool := if i.op = 57 then (i.a, true) else if i.op = 58 ∨ i.op = 59 then (i.b, true) else (0, false)

theorem jump_any (i : Ins) (w : World) : Calls Try.prog 20 #[insV i] w fun e w' => e = .returned (.tuple #[.int .i64 (jumpI i).1, .bool (jumpI i).2]) ∧ Below w.heap.size w w' := by
  obtain ⟨op, a, b, c⟩ := i
  have B0 : Hid (Below w.heap.size w (w.alloc (.cells #[.int .i64 op, .int .i64 a, .int .i64 b, .int .i64 c] 41))) := (Below.refl w.heap.size w).alloc (Nat.le_refl _) _
  unfold jumpI insV
  by_cases h1 : op = 57
  · subst h1
    rw [if_pos rfl]
    go_enter Try.func20, Try.ntmps20
    go_wp2
    go_ret2
    exact ⟨rfl, B0.out⟩
  by_cases h2 : op = 58
  · subst h2
    rw [if_neg (by simp), if_pos (by simp)]
    go_enter Try.func20, Try.ntmps20
    go_wp2
    go_ret2
    exact ⟨rfl, B0.out⟩
  by_cases h3 : op = 59
  · subst h3
    rw [if_neg (by simp), if_pos (by simp)]
    go_enter Try.func20, Try.ntmps20
    go_wp2
    go_ret2
    exact ⟨rfl, B0.out⟩
  rw [if_neg h1, if_neg (by simp [h2, h3])]
  go_enter Try.func20, Try.ntmps20
  go_wp2
  go_ret2
  exact ⟨rfl, B0.out⟩

/-- a slice: where it lies, its room, what is in it -/
structure Sli (β : Type) where
  at' : Option Addr
  cap : Nat
  xs : List β

def Sli.val {β : Type} (s : Sli β) : Value := .slice s.at' s.xs.length s.cap

/-- it lies in memory, k cells an element -/
structure Sli.ok {β : Type} (enc : β → List Value) (k : Nat) (w : World) (s : Sli β) : Prop where
  len : s.xs.length ≤ s.cap
  cap : s.cap ≤ maxLen
  cells : s.xs ≠ [] → ∃ b off, s.at' = some ⟨b, off, none⟩ ∧ ∀ i y, s.xs[i]? = some y → ∀ j u, (enc y)[j]? = some u → w.cell? ⟨b, off + i * k + j, none⟩ = some u

theorem Sli.ok.kept {β : Type} {enc : β → List Value} {k : Nat} {w w' : World} {s : Sli β} (h : s.ok enc k w) (hc : ∀ a u, w.cell? a = some u → w'.cell? a = some u) : s.ok enc k w' := by
  refine ⟨h.len, h.cap, fun h0 => ?_⟩
  obtain ⟨b, off, h1, h2⟩ := h.cells h0
  exact ⟨b, off, h1, fun i y hi j u hj => hc _ _ (h2 i y hi j u hj)⟩

theorem cells_below {w w' : World} (h : Below w.heap.size w w') : ∀ a u, w.cell? a = some u → w'.cell? a = some u := by
  intro a u hu
  rw [h.cell (World.block_lt_of_cell? w _ hu)]
  exact hu

structure Cst where
  isText : Bool
  bits : Int
  text : ByteArray
structure Cap where
  free : Bool
  idx : Int
structure Hnd where
  fr : Int
  to : Int
  target : Int

def cstC (c : Cst) : List Value := [.bool c.isText, .int .u64 c.bits, .string c.text]
def capC (c : Cap) : List Value := [.bool c.free, .int .i64 c.idx]
def hndC (h : Hnd) : List Value := [.int .i64 h.fr, .int .i64 h.to, .int .i64 h.target]
def hndV (h : Hnd) : Value := .agg #[.int .i64 h.fr, .int .i64 h.to, .int .i64 h.target]

structure Fn where
  name : ByteArray
  params : Int
  regs : Int
  gen : Bool
  code : Sli Ins
  consts : Sli Cst
  caps : Sli Cap
  hnds : Sli Hnd

def fnC (f : Fn) : List Value := [.string f.name, .int .i64 f.params, .int .i64 f.regs, .bool f.gen, f.code.val, f.consts.val, f.caps.val, f.hnds.val]
def fnV (f : Fn) : Value := .agg #[.string f.name, .int .i64 f.params, .int .i64 f.regs, .bool f.gen, f.code.val, f.consts.val, f.caps.val, f.hnds.val]

structure Fn.ok (w : World) (f : Fn) : Prop where
  code : f.code.ok insC 4 w
  consts : f.consts.ok cstC 3 w
  caps : f.caps.ok capC 2 w
  hnds : f.hnds.ok hndC 3 w

theorem Fn.ok.kept {w w' : World} {f : Fn} (h : f.ok w) (hc : ∀ a u, w.cell? a = some u → w'.cell? a = some u) : f.ok w' :=
  ⟨h.code.kept hc, h.consts.kept hc, h.caps.kept hc, h.hnds.kept hc⟩


end Go.Proofs.Ytjkemkggcnholaa.Fu
