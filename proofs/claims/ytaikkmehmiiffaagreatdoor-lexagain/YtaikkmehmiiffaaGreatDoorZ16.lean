/- Package lex: Scan. -/
import Derived.Test.YtaikkmehmiiffaaGreatDoorZ15
import Derived.Test.YtaikkmehmiiffaaGreatDoorLX
namespace Go.Proofs.YtaikkmehmiiffaaGreatDoor.Lx
open Go.RowKit
set_option linter.unusedVariables false

/-- a token's cells -/
def tokC (t : Tok) : List Value := [.int .i64 (t.kind : Int), .int .i64 (t.pl : Int), .string (bs t.text), .int .u64 (t.num : Int)]

def joinS (a : List Tok) (r : List Tok × Nat × Nat) : List Tok × Nat × Nat := if r.2.2 = 0 then (a ++ r.1, r.2) else ([], r.2)

theorem scan_step (lit : List UInt8 → Nat × Bool) (l : List UInt8) (p : Nat) (hp : p ≤ l.length) :
    scanF lit (l.length + 1) p (l.drop p) =
      if (blanksI (l.drop p)).2 = false then ([], p + (blanksI (l.drop p)).1, 52)
      else if (l.drop (p + (blanksI (l.drop p)).1)) = [] then ([⟨0, p + (blanksI (l.drop p)).1, [], 0⟩], 0, 0)
      else if (tokI lit (l.drop (p + (blanksI (l.drop p)).1))).2.2 ≠ 0 then ([], p + (blanksI (l.drop p)).1, (tokI lit (l.drop (p + (blanksI (l.drop p)).1))).2.2)
      else joinS [{ (tokI lit (l.drop (p + (blanksI (l.drop p)).1))).1 with pl := p + (blanksI (l.drop p)).1 }] (scanF lit (l.length + 1) (p + (blanksI (l.drop p)).1 + (tokI lit (l.drop (p + (blanksI (l.drop p)).1))).2.1) (l.drop (p + (blanksI (l.drop p)).1 + (tokI lit (l.drop (p + (blanksI (l.drop p)).1))).2.1))) := by
  have le := blanksI_le (l.drop p)
  rw [List.length_drop] at le
  conv => lhs; rw [scanF]
  rw [List.drop_drop]
  by_cases a : (blanksI (l.drop p)).2 = false
  · rw [if_pos a, if_pos a]
  · rw [if_neg a, if_neg a]
    by_cases b : l.drop (p + (blanksI (l.drop p)).1) = []
    · rw [if_pos b, if_pos b]
    · rw [if_neg b, if_neg b]
      by_cases c : (tokI lit (l.drop (p + (blanksI (l.drop p)).1))).2.2 ≠ 0
      · rw [if_pos c, if_pos c]
      · rw [if_neg c, if_neg c]
        have c' : (tokI lit (l.drop (p + (blanksI (l.drop p)).1))).2.2 = 0 := by simpa using c
        have T := tok_ok lit _ c'
        have tp := T.pos
        have tl := T.le
        rw [List.length_drop] at tl
        generalize hB : (blanksI (l.drop p)).1 = B at *
        generalize hT : tokI lit (l.drop (p + B)) = T0 at *
        rw [List.drop_drop, show p + (B + T0.2.1) = p + B + T0.2.1 from by omega]
        rw [scanF_more lit l.length (l.length + 1) (p + B + T0.2.1) (l.drop (p + B + T0.2.1)) (by rw [List.length_drop]; omega) (by rw [List.length_drop]; omega)]
        have E := scanF_err lit l (l.length + 1) (p + B + T0.2.1) (by omega)
        have C2 : (scanF lit (l.length + 1) (p + B + T0.2.1) (l.drop (p + B + T0.2.1))).2.2 = 0 → (scanF lit (l.length + 1) (p + B + T0.2.1) (l.drop (p + B + T0.2.1))).2.1 = 0 := by
          intro z
          clear E
          generalize l.drop (p + B + T0.2.1) = r at *
          generalize p + B + T0.2.1 = q at *
          cases hl : l.length + 1 with
          | zero => omega
          | succ k =>
            rw [hl, scanF] at z
            rw [scanF]
            split at z
            · simp at z
            · rename_i a1
              rw [if_neg a1]
              split at z
              · rename_i a2
                rw [if_pos a2]
              · rename_i a2
                rw [if_neg a2]
                split at z
                · rename_i a3; exact absurd z a3
                · rename_i a3
                  rw [if_neg a3]
                  split at z
                  · rename_i a4
                    rw [if_pos a4]
                  · rename_i a4; exact absurd z a4
        generalize scanF lit (l.length + 1) (p + B + T0.2.1) (l.drop (p + B + T0.2.1)) = R at *
        unfold joinS
        by_cases e : R.2.2 = 0
        · rw [if_pos e, if_pos e]
          refine Prod.ext rfl (Prod.ext ?_ ?_)
          · exact (C2 e).symm
          · exact e.symm
        · rw [if_neg e, if_neg e]

/-- Scan, with so many tokens gathered, at a place -/
structure ScAt (lit : List UInt8 → Nat × Bool) (l : List UInt8) (w0 wr : World) (v : Value) (p : Nat) (ts : List Tok) : Prop where
  le : p ≤ l.length
  val : scanF lit (l.length + 1) 0 l = joinS ts (scanF lit (l.length + 1) p (l.drop p))
  own : wr.ownsRow w0.heap.size 31 4 v ts.length (ts.flatMap tokC)
  bel : Below w0.heap.size w0 wr
  cnt : ts.length ≤ p

theorem scan_long (s : ByteArray) (w : World) (h : 65536 < s.size) :
    Calls Tryz.prog 10 #[.string s] w fun e w' => e = .returned (.tuple #[.slice none 0 0, .int .i64 0, .int .i64 50]) ∧ w' = w := by
  go_enter Tryz.func10, Tryz.ntmps10
  go_wp2_with fail
  refine bodyPost_ret (v := .tuple #[.slice none 0 0, .int .i64 0, .int .i64 50]) (by simp [results, Tryz.results10, go_sem]) rfl ?_
  exact ⟨rfl, rfl⟩

theorem scan_byte (s : ByteArray) (n : Nat) (w : World) (h : s.size ≤ 65536) (hn : n < s.size)
    (c1 : ∀ w : World, Calls Tryz.prog 15 #[.string s, .func (Fn.func 16) #[] #[]] w fun e w' => e = .returned (.int .i64 (n : Int)) ∧ Below w.heap.size w w') :
    Calls Tryz.prog 10 #[.string s] w fun e w' => e = .returned (.tuple #[.slice none 0 0, .int .i64 (n : Int), .int .i64 51]) ∧ Below w.heap.size w w' := by
  go_enter Tryz.func10, Tryz.ntmps10
  go_wp2_with (go_at_call 15; refine (c1 _).mono ?_; rintro e w1 ⟨rfl, hb⟩)
  refine bodyPost_ret (v := .tuple #[.slice none 0 0, .int .i64 (n : Int), .int .i64 51]) (by simp [results, Tryz.results10, go_sem]) rfl ?_
  exact ⟨rfl, hb⟩

end Go.Proofs.YtaikkmehmiiffaaGreatDoor.Lx
