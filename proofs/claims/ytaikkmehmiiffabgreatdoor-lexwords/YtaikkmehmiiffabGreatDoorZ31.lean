/- LexWords: the law's walk. -/
import Derived.Test.YtaikkmehmiiffabGreatDoorZ30
import Derived.Deep.RegionHeldLaw
namespace Go.Proofs.YtaikkmehmiiffabGreatDoor.Lx
open Go.RowKit
set_option linter.unusedVariables false

abbrev AliveC (w : World) : Prop := ∀ w1, Below w.heap.size w w1 → Calls Tryz.prog 5 #[] w1 fun e w' => e = .returned (.bool true) ∧ Below w1.heap.size w1 w'

set_option maxRecDepth 100000 in
theorem words_err (s : ByteArray) (X : List Tok × Nat × Nat) (w : World) (al : AliveC w) (he : X.2.2 ≠ 0) (c1 : Calls Tryz.prog 4 #[.string s] w (ScanPost w X)) :
    Calls Tryz.prog 3 #[.string s] w fun e w' => e = .returned (.bool true) ∧ Below w.heap.size w w' := by
  have en : ((X.2.2 : Int) != 0) = true := by simp; exact he
  clear he
  go_enter Tryz.func3, Tryz.ntmps3
  go_wp2_with fail
  refine c1.mono ?_
  rintro e w1 ⟨v, rfl, ho, b1⟩
  clear ho
  go_wp2_with fail
  refine (al _ b1).mono ?_
  rintro e w2 ⟨rfl, b2⟩
  go_wp2_with fail
  go_ret
  exact ⟨rfl, b1.trans (b2.mono b1.size)⟩

set_option maxRecDepth 100000 in
theorem words_len (s : ByteArray) (ts : List Tok) (w : World) (al : AliveC w) (hl : ts.length ≠ 2) (h0 : ts ≠ []) (c1 : Calls Tryz.prog 4 #[.string s] w (ScanPost w (ts, 0, 0))) :
    Calls Tryz.prog 3 #[.string s] w fun e w' => e = .returned (.bool true) ∧ Below w.heap.size w w' := by
  have en : ((ts.length : Int) != 2) = true := by simp; omega
  go_enter Tryz.func3, Tryz.ntmps3
  go_wp2_with fail
  refine c1.mono ?_
  rintro e w1 ⟨v, rfl, ho, b1⟩
  obtain ⟨g, cap, rfl, hcap, hmax, hBg, hgw, hcell⟩ := TokSl.cells ho h0
  clear ho hcell hcap hmax hBg hgw hl h0
  generalize ((ts, 0, 0) : List Tok × Nat × Nat).1.length = n at *
  go_wp2_with fail
  refine (al _ b1).mono ?_
  rintro e w2 ⟨rfl, b2⟩
  go_wp2_with fail
  go_ret
  exact ⟨rfl, b1.trans (b2.mono b1.size)⟩

set_option maxRecDepth 100000 in
theorem words_kind (s : ByteArray) (t t' : Tok) (w : World) (al : AliveC w) (hk : t.kind ≠ 2) (c1 : Calls Tryz.prog 4 #[.string s] w (ScanPost w ([t, t'], 0, 0))) :
    Calls Tryz.prog 3 #[.string s] w fun e w' => e = .returned (.bool true) ∧ Below w.heap.size w w' := by
  have en : ((t.kind : Int) != 2) = true := by simp; omega
  go_enter Tryz.func3, Tryz.ntmps3
  go_wp2_with fail
  refine c1.mono ?_
  rintro e w1 ⟨v, rfl, ho, b1⟩
  obtain ⟨g, cap, rfl, hcap, hmax, hBg, hgw, hcell⟩ := TokSl.cells ho (by simp)
  have a0 : w1.cell? ⟨g, 0, none⟩ = some (.int .i64 (t.kind : Int)) := hcell 0 _ rfl 0 _ rfl
  clear ho hcell hcap hmax hBg hgw hk
  generalize t.kind = kd at *
  go_wp2_with fail
  refine (al _ b1).mono ?_
  rintro e w2 ⟨rfl, b2⟩
  go_wp2_with fail
  go_ret
  exact ⟨rfl, b1.trans (b2.mono b1.size)⟩

theorem add_run (T T2 : ByteArray) (W : World) (hs : T.size ≤ 100) (h : T ++ ⟨#[95]⟩ = T2) : (binOp .add 9 (.string T) (.string ⟨#[95]⟩)).run Tryz.prog W = .ok (.string T2) W := by
  have z : (⟨#[95]⟩ : ByteArray).size = 1 := rfl
  simp [go_sem, binOp, h, z]
  omega

set_option maxHeartbeats 4000000 in
set_option maxRecDepth 100000 in
theorem words_yes (s T T2 : ByteArray) (t t' : Tok) (n : Nat) (x : List UInt8) (w : World) (al : AliveC w) (hk : t.kind = 2) (hT : bs t.text = T) (hTs : T.size ≤ 100) (hcat : T ++ ⟨#[95]⟩ = T2) (hx : bs x = T2)
    (c1 : Calls Tryz.prog 4 #[.string s] w (ScanPost w ([t, t'], 0, 0))) (c2 : ∀ w1, Below w.heap.size w w1 → Calls Tryz.prog 4 #[.string T2] w1 (ScanPost w1 ([⟨1, 0, x, 0⟩, ⟨0, n, [], 0⟩], 0, 0)))
    (c3 : ∀ w1, Calls Tryz.prog 6 #[.string T] w1 fun e w' => e = .returned (.bool true) ∧ Below w1.heap.size w1 w') :
    Calls Tryz.prog 3 #[.string s] w fun e w' => e = .returned (.bool true) ∧ Below w.heap.size w w' := by
  have HX : Hid (bs x = T2) := hx
  clear hx
  have hcc : ∀ W, (binOp .add 9 (.string T) (.string ⟨#[95]⟩)).run Tryz.prog W = .ok (.string T2) W := fun W => add_run T T2 W hTs hcat
  go_enter Tryz.func3, Tryz.ntmps3
  go_wp2_with fail
  refine c1.mono ?_
  rintro e w1 ⟨v, rfl, ho, b1⟩
  obtain ⟨g, cap, rfl, hcap, hmax, hBg, hgw, hcell⟩ := TokSl.cells ho (by simp)
  have a0 : w1.cell? ⟨g, 0, none⟩ = some (.int .i64 2) := by rw [show (2 : Int) = ((2 : Nat) : Int) from rfl, ← hk]; exact hcell 0 _ rfl 0 _ rfl
  have a2 : w1.cell? ⟨g, 2, none⟩ = some (.string T) := by rw [← hT]; exact hcell 0 _ rfl 2 _ rfl
  clear ho hcell hcap hmax hBg hk hT
  go_wp2_with fail
  refine (c2 _ b1).mono ?_
  rintro e w2 ⟨v2, rfl, ho2, b2⟩
  obtain ⟨g2, cap2, rfl, hcap2, hmax2, hBg2, hgw2, hcell2⟩ := TokSl.cells ho2 (by simp)
  have d0 : w2.cell? ⟨g2, 0, none⟩ = some (.int .i64 1) := hcell2 0 _ rfl 0 _ rfl
  have d2 : w2.cell? ⟨g2, 2, none⟩ = some (.string T2) := by rw [← HX.out]; exact hcell2 0 _ rfl 2 _ rfl
  have d1 : w2.cell? ⟨g, 2, none⟩ = some (.string T) := by rw [b2.cell (p := ⟨g, 2, none⟩) hgw]; exact a2
  have gw : g < w2.heap.size := by have := b2.size; omega
  have B2 := b1.trans (b2.mono b1.size)
  have al2 : ∀ w3, w3 = w2.drew → Calls Tryz.prog 5 #[] w3 fun e w' => e = .returned (.bool true) ∧ Below w2.heap.size w2 w' := by
    rintro w3 rfl
    refine (al _ B2.drew).mono ?_
    rintro e w' ⟨rfl, b⟩
    exact ⟨rfl, (Below.refl w2.heap.size w2).drew.trans b⟩
  clear ho2 hcell2 hcap2 hmax2 hBg2 a0 a2 b1 b2 hgw c1 c2 al
  go_wp2_with fail
  go_region_held_law (fun w' => w'.cell? ⟨g, 2, none⟩ = some (.string T) ∧ w'.cell? ⟨g2, 0, none⟩ = some (.int .i64 1) ∧ w'.cell? ⟨g2, 2, none⟩ = some (.string T2)) (first | go_keep | (go_split_ands; refine ⟨?_, ?_, ?_⟩ <;> (rw [b3.cell (by simp <;> omega)]; assumption)) | (go_split_ands; refine ⟨?_, ?_, ?_⟩ <;> (rw [b4.cell (by have := b3.size; simp <;> omega)]; assumption))) (first | (go_at_call 5; refine (al2 _ rfl).mono ?_; rintro e w3 ⟨rfl, b3⟩) | (go_at_call 6; refine (c3 _).mono ?_; rintro e w4 ⟨rfl, b4⟩))
  have B3 := B2.trans (b3.mono B2.size)
  have B4 := B3.trans (b4.mono B3.size)
  clear b3 b4
  go_wp2_with fail
  go_ret
  exact ⟨rfl, B4⟩

theorem kept_short : ∀ T ∈ keptL, T.length ≤ 100 := by decide

theorem words_walk (l : List UInt8) (w : World) (hG : Glob w) : Calls Tryz.prog 3 #[.string (bs l)] w fun e w' => e = .returned (.bool true) ∧ Below w.heap.size w w' := by
  have al : AliveC w := fun w1 (h : Below w.heap.size w w1) => alive_any w1 (hG.below h)
  have c1 := scan_any l w hG
  by_cases e : (scI l).2.2 = 0
  · obtain ⟨ch, z, hl, _⟩ := scan_chain litN l e
    have r : scI l = ((scI l).1, 0, 0) := Prod.ext rfl (Prod.ext z e)
    rw [r] at c1
    have n0 : (scI l).1 ≠ [] := by
      intro q
      have ch' : Chain litN l (scI l).1 := ch
      rw [q] at ch'
      exact ch'
    by_cases h2 : (scI l).1.length = 2
    · have W := scanI_word litN l
      generalize hts : (scI l).1 = ts at *
      match ts, h2 with
      | [t, t'], _ =>
        by_cases hk : t.kind = 2
        · have hT : t.text ∈ keptL := W t [t'] hts hk
          have c2 := fun w1 (h : Below w.heap.size w w1) => scan_any (t.text ++ [95]) w1 (hG.below h)
          unfold scI at c2
          rw [words_plain litN t.text hT] at c2
          have hcat : bs t.text ++ ⟨#[95]⟩ = bs (t.text ++ [95]) := by
            apply ByteArray.ext
            unfold bs
            simp
          exact words_yes (bs l) (bs t.text) (bs (t.text ++ [95])) t t' _ _ w al hk rfl (by rw [bs_size]; exact kept_short _ hT) hcat rfl c1 c2 (fun w1 => kept_mem t.text hT w1)
        · exact words_kind (bs l) t t' w al hk c1
    · exact words_len (bs l) (scI l).1 w al h2 n0 c1
  · exact words_err (bs l) (scI l) w al e c1

end Go.Proofs.YtaikkmehmiiffabGreatDoor.Lx
