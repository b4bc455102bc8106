/- Package lex: closures that keep something in variables; one. -/
import Derived.Test.YtaikkmehmiiffaaGreatDoorZ3
import Derived.Laws.Rows
namespace Go.Proofs.YtaikkmehmiiffaaGreatDoor.Lx
open Go.RowKit
set_option linter.unusedVariables false

/-- variables of one cell each, laid one behind the other on top of w0 -/
structure Bx (w0 : World) (vs : List (TypeId × Value)) (w : World) : Prop where
  bel : Below w0.heap.size w0 w
  big : w0.heap.size + vs.length ≤ w.heap.size
  row : ∀ i t v, vs[i]? = some (t, v) → w.heap[w0.heap.size + i]? = some (.cells #[v] t (0, 0))

theorem bx_nil (w0 : World) : Bx w0 [] w0 := ⟨Below.refl _ _, Nat.le_refl _, fun i t v h => by simp at h⟩

theorem bx_new {w0 w : World} {vs : List (TypeId × Value)} (h : Bx w0 vs w) (hs : w.heap.size = w0.heap.size + vs.length) (t : TypeId) (v : Value) : Bx w0 (vs ++ [(t, v)]) (w.alloc (.cells #[v] t)) := by
  refine ⟨h.bel.alloc (by omega) _, ?_, ?_⟩
  · show _ ≤ (w.heap.push _).size
    simp
    omega
  · intro i t' v' hi
    show (w.heap.push _)[w0.heap.size + i]? = _
    rcases Nat.lt_trichotomy i vs.length with k | k | k
    · rw [List.getElem?_append_left k] at hi
      rw [Array.getElem?_push_lt (by omega), ← h.row i t' v' hi, Array.getElem?_eq_getElem (by omega)]
    · subst k
      rw [List.getElem?_append_right (Nat.le_refl _)] at hi
      simp at hi
      obtain ⟨rfl, rfl⟩ := hi
      rw [← hs, Array.getElem?_push_size]
    · rw [List.getElem?_append_right (by omega)] at hi
      have : 1 ≤ i - vs.length := by omega
      rw [List.getElem?_eq_none (by simpa using this)] at hi
      exact absurd hi (by simp)

theorem bx_new_size {w0 w : World} {vs : List (TypeId × Value)} (hs : w.heap.size = w0.heap.size + vs.length) (t : TypeId) (v : Value) : (w.alloc (.cells #[v] t)).heap.size = w0.heap.size + (vs ++ [(t, v)]).length := by
  show (w.heap.push _).size = _
  simp
  omega

theorem Bx.cell {w0 w : World} {vs : List (TypeId × Value)} (h : Bx w0 vs w) {i : Nat} {t : TypeId} {v : Value} (hi : vs[i]? = some (t, v)) : w.cell? ⟨w0.heap.size + i, 0, none⟩ = some v := by
  rw [cell_of_row w _ 0 #[v] t (0, 0) (h.row i t v hi)]
  rfl

theorem Bx.frozen {w0 w : World} {vs : List (TypeId × Value)} (h : Bx w0 vs w) {i : Nat} {t : TypeId} {v : Value} (hi : vs[i]? = some (t, v)) : w.frozen? ⟨w0.heap.size + i, 0, none⟩ = false :=
  frozen_of_row w _ 0 #[v] t (h.row i t v hi)

theorem Bx.set {w0 w : World} {vs : List (TypeId × Value)} (h : Bx w0 vs w) {i : Nat} {t : TypeId} {v : Value} (hi : vs[i]? = some (t, v)) (u : Value) :
    Bx w0 (vs.set i (t, u)) (w.setCell ⟨w0.heap.size + i, 0, none⟩ u) := by
  have li : i < vs.length := by
    rcases Nat.lt_or_ge i vs.length with k | k
    · exact k
    · rw [List.getElem?_eq_none k] at hi; exact absurd hi (by simp)
  refine ⟨h.bel.setCell (by show _ ≤ w0.heap.size + i; omega) _, ?_, ?_⟩
  · rw [List.length_set, World.size_setCell]
    exact h.big
  · intro j t' v' hj
    by_cases k : j = i
    · subst k
      rw [List.getElem?_set_self li] at hj
      simp at hj
      obtain ⟨rfl, rfl⟩ := hj
      rw [heap_setCell_same w _ 0 #[v] t u (h.row j t v hi)]
      rfl
    · rw [List.getElem?_set_ne (fun e => k e.symm)] at hj
      rw [heap_setCell_other w _ _ _ (by show w0.heap.size + j ≠ w0.heap.size + i; omega)]
      exact h.row j t' v' hj

theorem Bx.it {w0 w : World} {vs : List (TypeId × Value)} (h : Bx w0 vs w) (b : Nat) (s : ByteArray) (pos : Nat) (hb : w0.heap.size + vs.length ≤ b) : Bx w0 vs (setIt w b s pos) := by
  refine ⟨below_setIt h.bel (by omega), by rw [setIt_size]; exact h.big, ?_⟩
  intro i t v hi
  have li : i < vs.length := by
    rcases Nat.lt_or_ge i vs.length with k | k
    · exact k
    · rw [List.getElem?_eq_none k] at hi; exact absurd hi (by simp)
  rw [setIt_other _ _ _ _ _ (by omega)]
  exact h.row i t v hi

theorem Bx.iter {w0 w : World} {vs : List (TypeId × Value)} (h : Bx w0 vs w) (s : ByteArray) : Bx w0 vs (w.iter s 0) := by
  have hb := h.big
  refine ⟨below_iter h.bel (Nat.le_refl _), ?_, ?_⟩
  · show _ ≤ (w.heap.push _).size
    simp; omega
  · intro i t v hi
    have li : i < vs.length := by
      rcases Nat.lt_or_ge i vs.length with k | k
      · exact k
      · rw [List.getElem?_eq_none k] at hi; exact absurd hi (by simp)
    show (w.heap.push _)[w0.heap.size + i]? = _
    rw [Array.getElem?_push_lt (by omega), ← h.row i t v hi, Array.getElem?_eq_getElem (by omega)]

theorem clo_box {σ : Type} (w0 : World) (n : Nat) (vs : σ → List (TypeId × Value)) (hlen : ∀ st, (vs st).length = n) (g : σ → Nat → σ × Bool) (f : Nat) (cap : Array Value)
    (ent : ∀ args w, (callFunc f args).run Tryz.prog w = .ok (.enter f args) w)
    (call : ∀ st (c : Nat) w, Bx w0 (vs st) w → Calls Tryz.prog f (#[.int .i32 (c : Int)] ++ cap) w fun e w' => e = .returned (.bool (g st c).2) ∧ Bx w0 (vs (g st c).1) w' ∧ w.heap.size ≤ w'.heap.size ∧ ∀ k, w0.heap.size + n ≤ k → k < w.heap.size → w'.heap[k]? = w.heap[k]?) :
    Clo (w0.heap.size + n) (fun st w => Bx w0 (vs st) w) g f cap := by
  refine ⟨?_, ent, ?_, ?_, ?_⟩
  · intro st c w _ hb _
    exact call st c w hb
  · intro st w b s pos hb h
    exact h.it b s pos (by rw [hlen]; exact hb)
  · intro st w s h
    exact h.iter s
  · intro st w h
    exact ⟨h.bel.drew, h.big, h.row⟩

theorem setCell_kept (w : World) (a : Addr) (u : Value) (N k : Nat) (ha : a.block < N) (hk : N ≤ k) : (w.setCell a u).heap[k]? = w.heap[k]? := heap_setCell_other w a k u (by omega)

theorem one_clo_met (c : Int) (M I : Nat) (w : World) (c0 : w.cell? ⟨M, 0, none⟩ = some (.bool true)) (f0 : w.frozen? ⟨M, 0, none⟩ = false) :
    Calls Tryz.prog 47 #[.int .i32 c, .pointer (some ⟨M, 0, none⟩), .pointer (some ⟨I, 0, none⟩)] w fun e w' => e = .returned (.bool false) ∧ w' = w.setCell ⟨M, 0, none⟩ (.bool true) := by
  go_enter Tryz.func47, Tryz.ntmps47
  go_wp2_with fail
  go_ret
  exact ⟨rfl, rfl⟩

theorem one_clo_new (c : Nat) (M I : Nat) (f : Nat) (b : Bool) (w : World) (hc : ∀ w, Calls Tryz.prog f #[.int .i32 (c : Int)] w fun e w' => e = .returned (.bool b) ∧ w' = w)
    (ent : ∀ args w, (callFunc f args).run Tryz.prog w = .ok (.enter f args) w) (c0 : w.cell? ⟨M, 0, none⟩ = some (.bool false)) (f0 : w.frozen? ⟨M, 0, none⟩ = false)
    (c1 : (w.setCell ⟨M, 0, none⟩ (.bool true)).cell? ⟨I, 0, none⟩ = some (.func (Fn.func f) #[] #[])) :
    Calls Tryz.prog 47 #[.int .i32 (c : Int), .pointer (some ⟨M, 0, none⟩), .pointer (some ⟨I, 0, none⟩)] w fun e w' => e = .returned (.bool b) ∧ w' = w.setCell ⟨M, 0, none⟩ (.bool true) := by
  go_enter Tryz.func47, Tryz.ntmps47
  go_wp2_with fail
  refine (hc _).mono ?_
  rintro e w1 ⟨rfl, rfl⟩
  go_wp2_with fail
  go_ret
  exact ⟨rfl, rfl⟩

/-- one's variables: in, met -/
def oneV (f : Nat) (met : Bool) : List (TypeId × Value) := [(41, .func (Fn.func f) #[] #[]), (4, .bool met)]

theorem one_clo (p : Nat → Bool) (f : Nat) (h : Pure p f) (w0 : World) : Clo (w0.heap.size + 2) (fun met w => Bx w0 (oneV f met) w) (oneG p) 47 #[.pointer (some ⟨w0.heap.size + 1, 0, none⟩), .pointer (some ⟨w0.heap.size, 0, none⟩)] := by
  refine clo_box w0 2 (oneV f) (fun _ => rfl) _ 47 _ (ent_of Tryz.func47 rfl rfl) ?_
  intro met c w hb
  have r1 := hb.cell (i := 1) (t := 4) (v := .bool met) rfl
  have q1 := hb.frozen (i := 1) (t := 4) (v := .bool met) rfl
  have st := hb.set (i := 1) (t := 4) (v := .bool met) rfl (.bool true)
  have r0 := st.cell (i := 0) (t := 41) (v := .func (Fn.func f) #[] #[]) rfl
  have fin : ∀ w', w' = w.setCell ⟨w0.heap.size + 1, 0, none⟩ (.bool true) → Bx w0 (oneV f true) w' ∧ w.heap.size ≤ w'.heap.size ∧ ∀ k, w0.heap.size + 2 ≤ k → k < w.heap.size → w'.heap[k]? = w.heap[k]? := by
    rintro w' rfl
    exact ⟨st, by rw [World.size_setCell]; exact Nat.le_refl _, fun k hk _ => setCell_kept w _ _ (w0.heap.size + 2) k (by show w0.heap.size + 1 < _; omega) hk⟩
  show Calls Tryz.prog 47 #[.int .i32 (c : Int), .pointer (some ⟨w0.heap.size + 1, 0, none⟩), .pointer (some ⟨w0.heap.size, 0, none⟩)] w _
  cases met with
  | true =>
    refine (one_clo_met c (w0.heap.size + 1) w0.heap.size w r1 q1).mono ?_
    rintro e w' ⟨rfl, hw⟩
    exact ⟨rfl, fin w' hw⟩
  | false =>
    refine (one_clo_new c (w0.heap.size + 1) w0.heap.size f (p c) w (fun w => h.call c w) h.ent r1 q1 r0).mono ?_
    rintro e w' ⟨rfl, hw⟩
    exact ⟨by simp [oneG], fin w' hw⟩

theorem one_any (p : Nat → Bool) (f : Nat) (h : Pure p f) (l : List UInt8) (w : World) (hl : l.length ≤ 1000000) (ha : asc l) :
    Calls Tryz.prog 25 #[.string (bs l), .func (Fn.func f) #[] #[]] w fun e w' => e = .returned (.int .i64 ((oneP p l : Nat) : Int)) ∧ Below w.heap.size w w' := by
  have hmf : ∀ (fn : Fn) (first cap : Array Value) (w : World), (Instr.makeFunc fn first cap).run Tryz.prog w = .ok (.func fn first cap) w := fun _ _ _ _ => rfl
  have B1 := bx_new (bx_nil w) rfl 41 (.func (Fn.func f) #[] #[])
  have B2 := bx_new B1 (bx_new_size (vs := []) rfl 41 _) 4 (.bool false)
  have R := run_any (w.heap.size + 2) _ _ 47 _ (one_clo p f h w) (bs l) false _ hl B2.big B2 (Or.inl ha)
  have R' : Calls Tryz.prog 15 #[.string (bs l), .func (Fn.func 47) #[] #[.pointer (some ⟨w.heap.size + 1, 0, none⟩), .pointer (some ⟨w.heap.size, 0, none⟩)]] ((w.alloc (.cells #[.func (Fn.func f) #[] #[]] 41)).alloc (.cells #[.bool false] 4)) fun e w' => e = .returned (.int .i64 ((oneP p l : Nat) : Int)) ∧ Below w.heap.size w w' := by
    refine R.mono ?_
    rintro e w' ⟨rfl, hb⟩
    refine ⟨?_, hb.bel⟩
    rw [show (bs l).data.toList = l from rfl, goOn_one]
  clear R B1 B2 ha h
  go_enter Tryz.func25, Tryz.ntmps25
  go_wp2_with fail
  refine R'.mono ?_
  rintro e w' ⟨rfl, hb⟩
  go_wp2_with fail
  go_ret
  exact ⟨rfl, hb⟩

end Go.Proofs.YtaikkmehmiiffaaGreatDoor.Lx
