/- Package lex: withinQuotes. -/
import Derived.Test.YtaikkmehmiiffaaGreatDoorZ10
import Derived.RegionTactic
import Derived.ChangeAlike
import Derived.BigRegion
namespace Go.Proofs.YtaikkmehmiiffaaGreatDoor.Lx
open Go.RowKit
set_option linter.unusedVariables false

/-- a round of the closure: q: is it the quote; h: is it an escape; l: is it a new line -/
theorem quo_walk (c q : Int) (Q E D : Nat) (esc end0 bq bs92 nl e1 d1 r : Bool) (w : World)
    (c0 : w.cell? ⟨Q, 0, none⟩ = some (.int .i32 q)) (c1 : w.cell? ⟨E, 0, none⟩ = some (.bool esc)) (c2 : w.cell? ⟨D, 0, none⟩ = some (.bool end0))
    (f1 : w.frozen? ⟨E, 0, none⟩ = false) (f2 : w.frozen? ⟨D, 0, none⟩ = false)
    (hq : (c == q) = bq) (h92 : (c == 92) = bs92) (h10 : (c != 10) = nl)
    (hd : (bq && !esc) = d1) (he : (bs92 && !esc) = e1) (hr : (!d1 && nl) = r)
    (k1 : (w.setCell ⟨D, 0, none⟩ (.bool d1)).cell? ⟨E, 0, none⟩ = some (.bool esc)) (k2 : (w.setCell ⟨D, 0, none⟩ (.bool d1)).frozen? ⟨E, 0, none⟩ = false)
    (k3 : ((w.setCell ⟨D, 0, none⟩ (.bool d1)).setCell ⟨E, 0, none⟩ (.bool e1)).cell? ⟨D, 0, none⟩ = some (.bool d1)) :
    Calls Tryz.prog 75 #[.int .i32 c, .pointer (some ⟨Q, 0, none⟩), .pointer (some ⟨E, 0, none⟩), .pointer (some ⟨D, 0, none⟩)] w fun e w' => e = .returned (.bool r) ∧ w' = (w.setCell ⟨D, 0, none⟩ (.bool d1)).setCell ⟨E, 0, none⟩ (.bool e1) := by
  cases esc <;> cases bq <;> cases bs92 <;> cases nl <;> (simp at hd he; subst hd he; simp at hr; subst hr) <;>
  · go_enter Tryz.func75, Tryz.ntmps75
    go_wp2_with fail
    go_ret
    exact ⟨rfl, rfl⟩

/-- withinQuotes's variables: quote, escaped, ended -/
def quoV (q : Nat) (st : Bool × Bool) : List (TypeId × Value) := [(21, .int .i32 (q : Int)), (4, .bool st.1), (4, .bool st.2)]

theorem quo_clo (w0 : World) (q : Nat) : Clo (w0.heap.size + 3) (fun st w => Bx w0 (quoV q st) w) (quoG q) 75 #[.pointer (some ⟨w0.heap.size, 0, none⟩), .pointer (some ⟨w0.heap.size + 1, 0, none⟩), .pointer (some ⟨w0.heap.size + 2, 0, none⟩)] := by
  refine clo_box w0 3 (quoV q) (fun _ => rfl) _ 75 _ (ent_of Tryz.func75 rfl rfl) ?_
  rintro ⟨esc, ended⟩ c w hb
  show Calls Tryz.prog 75 #[.int .i32 (c : Int), .pointer (some ⟨w0.heap.size, 0, none⟩), .pointer (some ⟨w0.heap.size + 1, 0, none⟩), .pointer (some ⟨w0.heap.size + 2, 0, none⟩)] w _
  have q0 := hb.cell (i := 0) (t := 21) (v := .int .i32 (q : Int)) rfl
  have q1 := hb.cell (i := 1) (t := 4) (v := .bool esc) rfl
  have q2 := hb.cell (i := 2) (t := 4) (v := .bool ended) rfl
  have g1 := hb.frozen (i := 1) (t := 4) (v := .bool esc) rfl
  have g2 := hb.frozen (i := 2) (t := 4) (v := .bool ended) rfl
  have e1 : ((c : Int) == (q : Int)) = (c == q) := by rw [Bool.eq_iff_iff]; simp; omega
  have e2 : ((c : Int) == 92) = (c == 92) := by rw [Bool.eq_iff_iff]; simp; omega
  have e3 : ((c : Int) != 10) = (c != 10) := by rw [Bool.eq_iff_iff]; simp; omega
  have S1 := hb.set (i := 2) (t := 4) (v := .bool ended) rfl (.bool (c == q && !esc))
  have S2 := S1.set (i := 1) (t := 4) (v := .bool esc) rfl (.bool (c == 92 && !esc))
  refine (quo_walk c q w0.heap.size (w0.heap.size + 1) (w0.heap.size + 2) esc ended _ _ _ _ _ _ w q0 q1 q2 g1 g2 e1 e2 e3 rfl rfl rfl (S1.cell (i := 1) (t := 4) (v := .bool esc) rfl) (S1.frozen (i := 1) (t := 4) (v := .bool esc) rfl) (S2.cell (i := 2) (t := 4) (v := .bool (c == q && !esc)) rfl)).mono ?_
  rintro e w' ⟨rfl, rfl⟩
  refine ⟨rfl, S2, ?_, ?_⟩
  · rw [World.size_setCell, World.size_setCell]; exact Nat.le_refl _
  · intro k hk _
    rw [setCell_kept _ _ _ (w0.heap.size + 3) k (by show w0.heap.size + 1 < _; omega) hk, setCell_kept _ _ _ (w0.heap.size + 3) k (by show w0.heap.size + 2 < _; omega) hk]

theorem within_walk (s s1 T : ByteArray) (q N : Nat) (D : Bool) (w : World) (hz : 0 < s.size) (hz2 : (N : Int) ≤ s1.size) (hz3 : s1.size ≤ 1000000) (hz4 : s.size ≤ 1000000) (e3 : (s[0]'hz).toNat = q) (q256 : q < 256)
    (e1 : s.extract 1 s.size = s1) (e2 : s1.extract 0 N = T)
    (R : Calls Tryz.prog 15 #[.string s1, .func (Fn.func 75) #[] #[.pointer (some ⟨w.heap.size, 0, none⟩), .pointer (some ⟨w.heap.size + 1, 0, none⟩), .pointer (some ⟨w.heap.size + 1 + 1, 0, none⟩)]] (((w.alloc (.cells #[.int .i32 (q : Int)] 21)).alloc (.cells #[.bool false] 4)).alloc (.cells #[.bool false] 4)).drew fun e w' => e = .returned (.int .i64 (N : Int)) ∧ w'.cell? ⟨w.heap.size + 1 + 1, 0, none⟩ = some (.bool D) ∧ Below w.heap.size w w') :
    Calls Tryz.prog 51 #[.string s] w fun e w' => e = .returned (.tuple #[.string T, .bool D]) ∧ Below w.heap.size w w' := by
  have hmf : ∀ (fn : Fn) (first cap : Array Value) (w : World), (Instr.makeFunc fn first cap).run Tryz.prog w = .ok (.func fn first cap) w := fun _ _ _ _ => rfl
  go_enter Tryz.func51, Tryz.ntmps51
  go_wp2_with fail
  go_region
  go_wp2_with fail
  refine R.mono ?_
  rintro e w' ⟨rfl, hc, hb⟩
  go_wp2_with fail
  go_quiet (fail)
  go_wp2
  go_ret2
  exact ⟨rfl, below_drewN hb _⟩

theorem within_any (c : UInt8) (l : List UInt8) (w : World) (hl : l.length ≤ 900000) (ha : asc l) :
    Calls Tryz.prog 51 #[.string (bs (c :: l))] w fun e w' => e = .returned (.tuple #[.string (bs (bodyI c.toNat l).1), .bool (bodyI c.toNat l).2]) ∧ Below w.heap.size w w' := by
  have B1 := bx_new (bx_nil w) rfl 21 (.int .i32 (c.toNat : Int))
  have B2 := bx_new B1 (bx_new_size (vs := []) rfl 21 _) 4 (.bool false)
  have B3 := bx_new B2 (bx_new_size (vs := [(21, .int .i32 (c.toNat : Int))]) (bx_new_size (vs := []) rfl 21 _) 4 _) 4 (.bool false)
  have B4 : Bx w (quoV c.toNat (false, false)) (((w.alloc (.cells #[.int .i32 (c.toNat : Int)] 21)).alloc (.cells #[.bool false] 4)).alloc (.cells #[.bool false] 4)).drew := ⟨B3.bel.drew, B3.big, B3.row⟩
  have R := run_any (w.heap.size + 3) _ _ 75 _ (quo_clo w c.toNat) (bs l) (false, false) _ (by rw [bs_size]; omega) B4.big B4 (Or.inl ha)
  have gl := goOn_le (quoG c.toNat) (false, false) l
  have c256 : c.toNat < 256 := c.toNat_lt
  unfold bodyI
  refine within_walk (bs (c :: l)) (bs l) (bs (l.take (goOn (quoG c.toNat) (false, false) l).1)) c.toNat (goOn (quoG c.toNat) (false, false) l).1 _ w (by rw [bs_size]; simp) (by rw [bs_size]; omega) (by rw [bs_size]; omega) (by rw [bs_size]; simp; omega) rfl c256 (by rw [bs_drop]; rfl) (bs_take l _) ?_
  refine R.mono ?_
  rintro e w' ⟨rfl, hb⟩
  exact ⟨rfl, hb.cell (i := 2) (t := 4) rfl, hb.bel⟩

end Go.Proofs.YtaikkmehmiiffaaGreatDoor.Lx
