/- Package lex: run with closures that have no state; one. -/
import Derived.Test.YtaikkmehmiiffaaGreatDoorZ2
namespace Go.Proofs.YtaikkmehmiiffaaGreatDoor.Lx
open Go.RowKit
set_option linter.unusedVariables false

/-- a function that says p of a byte, and nothing else -/
structure Pure (p : Nat → Bool) (f : Nat) : Prop where
  call : ∀ (c : Nat) w, Calls Tryz.prog f #[.int .i32 (c : Int)] w fun e w' => e = .returned (.bool (p c)) ∧ w' = w
  ent : ∀ args w, (callFunc f args).run Tryz.prog w = .ok (.enter f args) w
  high : ∀ c, 128 ≤ c → p c = p 128

/-- all bytes are ASCII -/
def asc (l : List UInt8) : Prop := ∀ c ∈ l, c.toNat < 128

theorem run_pure (p : Nat → Bool) (f : Nat) (h : Pure p f) (l : List UInt8) (w : World) (hl : l.length ≤ 1000000) (ha : asc l ∨ p 128 = false) :
    Calls Tryz.prog 15 #[.string (bs l), .func (Fn.func f) #[] #[]] w fun e w' => e = .returned (.int .i64 ((cntP p l : Nat) : Int)) ∧ Below w.heap.size w w' := by
  have C := clo_pure w.heap.size w p f (Nat.le_refl _) h.ent h.call
  have R := run_any w.heap.size _ _ f #[] C (bs l) () w hl (Nat.le_refl _) (Below.refl _ _) (by
    rcases ha with ha | ha
    · exact Or.inl ha
    · refine Or.inr (fun st c c' h1 h2 => ?_)
      rw [h.high c h1, h.high c' h2, ha]
      exact ⟨rfl, rfl⟩)
  refine R.mono ?_
  rintro e w' ⟨rfl, hb⟩
  refine ⟨?_, hb⟩
  rw [show (bs l).data.toList = l from rfl, goOn_pure]

theorem ent_of {f : FuncId} {fn : Func} {c : Code} (hf : Tryz.prog.funcs[f]? = some fn) (hname : (fn.name == "runtime.NumGoroutine") = false) (hb : fn.body = some c) : ∀ args w, (callFunc f args).run Tryz.prog w = .ok (.enter f args) w := fun args w => enters hf hname hb args w

theorem pure_prog : Pure pProg 16 := ⟨prog_call, ent_of Tryz.func16 rfl rfl, by intro c hc; unfold pProg; simp; omega⟩
theorem pure_dig : Pure pDig 26 := ⟨dig_call, ent_of Tryz.func26 rfl rfl, by intro c hc; unfold pDig; simp; omega⟩
theorem pure_small : Pure pSmall 28 := ⟨small_call, ent_of Tryz.func28 rfl rfl, by intro c hc; unfold pSmall pDig; simp; omega⟩
theorem pure_line : Pure pLine 44 := ⟨line_call, ent_of Tryz.func44 rfl rfl, by intro c hc; unfold pLine; simp; omega⟩
theorem pure_blank : Pure pBlank 46 := ⟨blank_call, ent_of Tryz.func46 rfl rfl, by intro c hc; unfold pBlank; simp; omega⟩
theorem pure_hex : Pure pHex 66 := ⟨hex_call, ent_of Tryz.func66 rfl rfl, by intro c hc; unfold pHex pDig; simp; omega⟩
theorem pure_dot : Pure pDot 67 := ⟨dot_call, ent_of Tryz.func67 rfl rfl, by intro c hc; unfold pDot; simp; omega⟩
theorem pure_exp : Pure pExp 68 := ⟨exp_call, ent_of Tryz.func68 rfl rfl, by intro c hc; unfold pExp; simp; omega⟩
theorem pure_sig : Pure pSig 69 := ⟨sig_call, ent_of Tryz.func69 rfl rfl, by intro c hc; unfold pSig; simp; omega⟩
theorem pure_raw : Pure pRaw 76 := ⟨raw_call, ent_of Tryz.func76 rfl rfl, by intro c hc; unfold pRaw; simp; omega⟩

end Go.Proofs.YtaikkmehmiiffaaGreatDoor.Lx
