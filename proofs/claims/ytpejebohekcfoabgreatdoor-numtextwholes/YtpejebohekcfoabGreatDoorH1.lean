/- The walks of layout: its closures, and where the point stands ahead. -/
import Derived.Test.YtpejebohekcfoabGreatDoorG1
import Derived.Test.YtpejebohekcfoabGreatDoorBB
namespace Go.Proofs.YtpejebohekcfoabGreatDoor
open Go.RowKit
set_option linter.unusedVariables false

def putV (bt : Nat) : Value := .func (Fn.func 39) #[] #[.pointer (some ⟨bt, 0, none⟩)]

/-- the state of layout -/
structure Lt (w0 wr : World) (B bt bp : Nat) (l : List UInt8) : Prop where
  bd : Lib.IsBuilder 65 5 B bt (Lib.byteCells l) wr
  put : wr.heap[bp]? = some (.cells #[putV bt] 70 (0, 0))
  below : Below B w0 wr
  lt : B ≤ wr.heap.size

theorem bs_list (l : List UInt8) : (bs l).data.toList = l := by simp [bs]

theorem Lt.other {w0 wr w' : World} {B bt bp : Nat} {l l' : List UInt8} (h : Lt w0 wr B bt bp l) (b : Lib.BuilderAt 65 5 B bt (.pointer (some ⟨bt, 0, none⟩)) (Lib.byteCells l') w') (bl : Below B wr w') (ok : Lib.OthersKept 5 (some bt) wr w') : Lt w0 w' B bt bp l' := by
  refine ⟨Or.inr b, ?_, h.below.trans bl, Nat.le_trans h.lt bl.size⟩
  refine ok bp _ h.put ?_ (by intro c fz e; simp at e)
  intro e
  simp at e
  subst e
  have k : ∀ p, Lib.BuilderAt 65 5 B bp p (Lib.byteCells l) wr → False := by
    rintro p ⟨_, v, hb, _⟩
    have := h.put
    rw [hb] at this
    simp at this
  rcases h.bd with h' | h'
  · exact k _ h'
  · exact k _ h'

theorem lt_put {w0 wr : World} {B bt bp : Nat} {l : List UInt8} (s : List UInt8) (h : Lt w0 wr B bt bp l) (hl : l.length + s.length ≤ 100000000) :
    Calls Tryz.prog 39 #[.string (bs s), .pointer (some ⟨bt, 0, none⟩)] wr fun e w' => e = .returned (.tuple #[]) ∧ Hid (Lt w0 w' B bt bp (l ++ s)) := by
  refine (put57_any B bt _ (bs s) wr h.bd (by rw [Lib.byteCells_length, bs_size]; omega) h.lt).mono ?_
  rintro e w' ⟨rfl, b, bl, ok⟩
  rw [Lib.strCells_eq, bs_list, ← Lib.byteCells_append] at b
  exact ⟨rfl, h.other b bl ok⟩

theorem lt_str {w0 wr : World} {B bt bp : Nat} {l : List UInt8} (h : Lt w0 wr B bt bp l) :
    Calls Tryz.prog 43 #[.pointer (some ⟨bt, 0, none⟩)] wr fun e w' => e = .returned (.string (bs l)) ∧ Below B w0 w' := by
  refine (Tryz.Builder_String_any B bt l wr h.bd h.lt).mono ?_
  rintro e w' ⟨rfl, b⟩
  exact ⟨rfl, h.below.trans b⟩

def NoughtAt (w0 wr : World) (B bt bp : Nat) (l : List UInt8) (n : Nat) (v : Value) : Prop :=
  ∃ k : Nat, v = .int .i64 (k : Int) ∧ k ≤ n ∧ Lt w0 wr B bt bp (l ++ List.replicate k 48)

set_option maxHeartbeats 1000000 in
theorem lt_noughts {w0 wr : World} {B bt bp : Nat} {l : List UInt8} (n : Nat) (hn : n ≤ 10000000) (hl : l.length ≤ 10000000) (h : Lt w0 wr B bt bp l) :
    Calls Tryz.prog 41 #[.int .i64 (n : Int), .pointer (some ⟨bp, 0, none⟩)] wr fun e w' => e = .returned (.tuple #[]) ∧ Hid (Lt w0 w' B bt bp (l ++ List.replicate n 48)) := by
  go_enter Tryz.func41, Tryz.ntmps41
  go_wp2_with fail
  go_loopw [4] (fun v wr => NoughtAt w0 wr B bt bp l n v) (fun v _ => ((n : Int) - intOf v).toNat)
  case atStart => exact ⟨0, rfl, by omega, by simpa using h⟩
  case round =>
    obtain ⟨k, rfl, hk, st⟩ := hrel
    clear h
    rcases Nat.lt_or_ge k n with c | c
    · have c0 : wr.cell? ⟨bp, 0, none⟩ = some (.func (Fn.func 39) #[] #[.pointer (some ⟨bt, 0, none⟩)]) := cell_of_row wr bp 0 _ 70 (0, 0) st.put
      have pt := lt_put [48] st (by simp; omega)
      have nx : ∀ w1, Hid (Lt w0 w1 B bt bp (l ++ List.replicate k 48 ++ [48])) → NoughtAt w0 w1 B bt bp l n (.int .i64 ((k : Int) + 1)) := by
        intro w1 h1
        refine ⟨k + 1, by congr 1, by omega, ?_⟩
        rw [List.replicate_succ', ← List.append_assoc]
        exact h1.out
      clear st
      go_wp2_with fail
      refine pt.mono ?_
      rintro e w1 ⟨rfl, H1⟩
      have NX := nx w1 H1
      go_wp2_with fail
      refine ⟨NX, ?_⟩
      simp [intOf]
      omega
    · have e : k = n := by omega
      subst e
      have HS : Hid (Lt w0 wr B bt bp (l ++ List.replicate k 48)) := st
      clear st
      go_wp2
      go_end0
      exact ⟨rfl, HS⟩

end Go.Proofs.YtpejebohekcfoabGreatDoor
