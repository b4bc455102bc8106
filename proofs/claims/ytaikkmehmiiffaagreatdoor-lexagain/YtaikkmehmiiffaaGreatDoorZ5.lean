/- Package lex: upToStarSlash, blank, blanks. -/
import Derived.Test.YtaikkmehmiiffaaGreatDoorZ4
namespace Go.Proofs.YtaikkmehmiiffaaGreatDoor.Lx
open Go.RowKit
set_option linter.unusedVariables false

theorem below_drewN {B : Nat} {a w : World} (h : Below B a w) (n : Nat) : Below B a (w.drewN n) := by
  induction n with
  | zero => exact h
  | succ n ih => exact ih.drew

theorem star_ended_walk (c : Int) (E T : Nat) (w : World) (c0 : w.cell? ⟨E, 0, none⟩ = some (.bool true)) :
    Calls Tryz.prog 65 #[.int .i32 c, .pointer (some ⟨E, 0, none⟩), .pointer (some ⟨T, 0, none⟩)] w fun e w' => e = .returned (.bool false) ∧ w' = w := by
  go_enter Tryz.func65, Tryz.ntmps65
  go_wp2_with fail
  go_ret
  exact ⟨rfl, rfl⟩

theorem star_walk (c : Nat) (E T : Nat) (star b1 b2 b3 : Bool) (w : World) (c0 : w.cell? ⟨E, 0, none⟩ = some (.bool false)) (f0 : w.frozen? ⟨E, 0, none⟩ = false)
    (c1 : w.cell? ⟨T, 0, none⟩ = some (.bool star)) (h1 : ((c : Int) == 47) = b1) (h2 : ((c : Int) == 42) = b2) (h3 : (star && b1) = b3)
    (f1 : (w.setCell ⟨E, 0, none⟩ (.bool b3)).frozen? ⟨T, 0, none⟩ = false) (c2 : (w.setCell ⟨E, 0, none⟩ (.bool b3)).cell? ⟨T, 0, none⟩ = some (.bool star)) :
    Calls Tryz.prog 65 #[.int .i32 (c : Int), .pointer (some ⟨E, 0, none⟩), .pointer (some ⟨T, 0, none⟩)] w fun e w' => e = .returned (.bool true) ∧ w' = (w.setCell ⟨E, 0, none⟩ (.bool b3)).setCell ⟨T, 0, none⟩ (.bool b2) := by
  cases star <;> cases b1 <;> cases b2 <;> (simp at h3; subst h3) <;>
  · go_enter Tryz.func65, Tryz.ntmps65
    go_wp2_with fail
    go_ret
    exact ⟨rfl, rfl⟩

/-- upToStarSlash's variables: star, ended -/
def starV (st : Bool × Bool) : List (TypeId × Value) := [(4, .bool st.1), (4, .bool st.2)]

theorem star_clo (w0 : World) : Clo (w0.heap.size + 2) (fun st w => Bx w0 (starV st) w) starG 65 #[.pointer (some ⟨w0.heap.size + 1, 0, none⟩), .pointer (some ⟨w0.heap.size, 0, none⟩)] := by
  refine clo_box w0 2 starV (fun _ => rfl) _ 65 _ (ent_of Tryz.func65 rfl rfl) ?_
  rintro ⟨star, ended⟩ c w hb
  have r1 := hb.cell (i := 1) (t := 4) (v := .bool ended) rfl
  have q1 := hb.frozen (i := 1) (t := 4) (v := .bool ended) rfl
  have r0 := hb.cell (i := 0) (t := 4) (v := .bool star) rfl
  show Calls Tryz.prog 65 #[.int .i32 (c : Int), .pointer (some ⟨w0.heap.size + 1, 0, none⟩), .pointer (some ⟨w0.heap.size, 0, none⟩)] w _
  cases ended with
  | true =>
    refine (star_ended_walk c (w0.heap.size + 1) w0.heap.size w r1).mono ?_
    rintro e w' ⟨rfl, rfl⟩
    exact ⟨rfl, hb, Nat.le_refl _, fun _ _ _ => rfl⟩
  | false =>
    have S1 := hb.set (i := 1) (t := 4) (v := .bool false) rfl (.bool (star && ((c : Int) == 47)))
    have S2 := S1.set (i := 0) (t := 4) (v := .bool star) rfl (.bool ((c : Int) == 42))
    refine (star_walk c (w0.heap.size + 1) w0.heap.size star _ _ _ w r1 q1 r0 rfl rfl rfl (S1.frozen (i := 0) (t := 4) (v := .bool star) rfl) (S1.cell (i := 0) (t := 4) (v := .bool star) rfl)).mono ?_
    rintro e w' ⟨rfl, rfl⟩
    have e1 : ((c : Int) == 47) = (c == 47) := by rw [Bool.eq_iff_iff]; simp; omega
    have e2 : ((c : Int) == 42) = (c == 42) := by rw [Bool.eq_iff_iff]; simp; omega
    refine ⟨rfl, ?_, ?_, ?_⟩
    · rw [e1, e2] at S2
      rw [e1, e2]
      exact S2
    · rw [World.size_setCell, World.size_setCell]; exact Nat.le_refl _
    · intro k hk _
      rw [setCell_kept _ _ _ (w0.heap.size + 2) k (by show w0.heap.size < _; omega) hk, setCell_kept _ _ _ (w0.heap.size + 2) k (by show w0.heap.size + 1 < _; omega) hk]

theorem star_any (l : List UInt8) (w : World) (hl : l.length ≤ 1000000) (ha : asc l) :
    Calls Tryz.prog 45 #[.string (bs l)] w fun e w' => e = .returned (.tuple #[.int .i64 (((starI l).1 : Nat) : Int), .bool (starI l).2]) ∧ Below w.heap.size w w' := by
  have hmf : ∀ (fn : Fn) (first cap : Array Value) (w : World), (Instr.makeFunc fn first cap).run Tryz.prog w = .ok (.func fn first cap) w := fun _ _ _ _ => rfl
  have B1 := bx_new (bx_nil w) rfl 4 (.bool false)
  have B2 := bx_new B1 (bx_new_size (vs := []) rfl 4 _) 4 (.bool false)
  have R := run_any (w.heap.size + 2) _ _ 65 _ (star_clo w) (bs l) (false, false) _ hl B2.big B2 (Or.inl ha)
  have R' : Calls Tryz.prog 15 #[.string (bs l), .func (Fn.func 65) #[] #[.pointer (some ⟨w.heap.size + 1, 0, none⟩), .pointer (some ⟨w.heap.size, 0, none⟩)]] ((w.alloc (.cells #[.bool false] 4)).alloc (.cells #[.bool false] 4)) fun e w' => e = .returned (.int .i64 (((starI l).1 : Nat) : Int)) ∧ w'.cell? ⟨w.heap.size + 1, 0, none⟩ = some (.bool (starI l).2) ∧ Below w.heap.size w w' := by
    refine R.mono ?_
    rintro e w' ⟨rfl, hb⟩
    exact ⟨rfl, hb.cell (i := 1) (t := 4) rfl, hb.bel⟩
  clear R B1 B2 ha
  generalize (starI l).1 = N at *
  generalize (starI l).2 = B at *
  go_enter Tryz.func45, Tryz.ntmps45
  go_wp2_with fail
  refine R'.mono ?_
  rintro e w' ⟨rfl, hc, hb⟩
  go_wp2_with fail
  go_quiet (fail)
  go_wp2
  go_ret2
  exact ⟨rfl, below_drewN hb _⟩

end Go.Proofs.YtaikkmehmiiffaaGreatDoor.Lx
