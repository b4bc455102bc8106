/- CodeMore: the two appends of a round, as steps of a drawn region. -/
import Derived.Test.YtkoamenfbnpdbaaDoorDD
import Derived.Deep.RegionLaw
import Derived.Deep.AppendLies
namespace Go.Proofs.YtkoamenfbnpdbaaDoor.Cd
open Go.RowKit Go.Deep
set_option linter.unusedVariables false

theorem info46 : (Tryd.prog.info? 46).map (fun i => (i.zero, i.size, i.bytes)) = some (some (.agg #[.bool false, .int .u64 0, .string ⟨#[]⟩]), 3, 32) := by kernel_rfl

/-- an append of nothing to an empty row -/
theorem step_zero {ops : Array Oper} {o : Oper} {a : Act} {w : World} {K : Act → World → Prop} {Q : Exit → Act → World → Prop} {E : Prop} (hgd : o.guard = none) (s x : Operand)
    (ho : o.op = .call { callee := .builtin .append, args := #[s, x], argTypes := #[32, 32] }) (g kc : Nat) (ka : Option Addr)
    (hs : a.eval s = .slice (some ⟨g, 0, none⟩) 0 0) (hx : a.eval x = .slice ka 0 kc) (hK : K (a.put o.dst (.slice (some ⟨g, 0, none⟩) 0 0)) w) :
    if Region.wanted o (yielded ops a.tmps) = true then Oper.wp Tryd.prog o a w K Q else E := by
  have hw : Region.wanted o (yielded ops a.tmps) = true := by simp [Region.wanted, hgd]
  rw [if_pos hw]
  have hrun := app_zero g ka kc o.type w
  unfold Oper.wp
  simp [execOp, ho, resolve, invoke, builtin, hs, hx, hrun, Result.andThen]
  exact hK

/-- the constants, put behind an empty row -/
theorem stepA {ops : Array Oper} {o : Oper} {a : Act} {W : World} {K : Act → World → Prop} {Q : Exit → Act → World → Prop} {E : Prop} (wa : World) (kx : List Cst) (ka : Option Addr) (kc : Nat)
    (hk : kx.length ≤ 65536) (hsl : (⟨ka, kc, kx⟩ : Sli Cst).ok cstC 3 wa) (g : Nat)
    (hgd : o.guard = none) (s x : Operand) (ho : o.op = .call { callee := .builtin .append, args := #[s, x], argTypes := #[32, 32] })
    (hs : a.eval s = .slice (some ⟨g, 0, none⟩) 0 0) (hx : a.eval x = .slice ka kx.length kc)
    (hB : Below wa.heap.size wa W) (hg : W.heap[g]? = some (.cells #[] 46 (0, 0))) (hgb : wa.heap.size ≤ g)
    (h : ∀ g1 cap1 w', Below wa.heap.size wa w' → w'.ownsRow wa.heap.size 46 3 (.slice (some ⟨g1, 0, none⟩) kx.length cap1) kx.length (kx.flatMap cstC) → (∀ (b : Nat) o', b ≠ g → W.heap[b]? = some o' → w'.heap[b]? = some o') → W.heap.size ≤ w'.heap.size → K (a.put o.dst (.slice (some ⟨g1, 0, none⟩) kx.length cap1)) w') :
    if Region.wanted o (yielded ops a.tmps) = true then Oper.wp Tryd.prog o a W K Q else E := by
  by_cases hke : kx = []
  · subst hke
    have := h g 0 W hB (by
      have := empty_own hg hgb
      exact this) (fun b o' _ hb => hb) (Nat.le_refl _)
    exact step_zero hgd s x ho g kc ka hs hx this
  · obtain ⟨kb, ko, kad, kcell⟩ := hsl.cells (by intro e; exact hke (by simpa using e))
    simp only at kad
    subst kad
    obtain ⟨i46, hi46, hz46, hs46, hb46⟩ := info_parts info46
    have kpos : 0 < kx.length := List.length_pos_iff.2 hke
    refine step_append_lies _ hgd s x 32 ho wa.heap.size 46 i46 _ 3 32 Tryd.underlying32 hi46 hz46 hs46 hb46 rfl (by decide) _ 0 [] hs (empty_own hg hgb) ⟨kb, ko, none⟩ kx.length kc (kx.flatMap cstC) hx (flat_cst_len kx) (cst_news (fun i y hi j u hj => cells_below hB _ _ (kcell i y hi j u hj))) (cst_one kx) kpos (by unfold maxLen; omega) (by omega) hB.size _ rfl ?_
    intro g1 cap1 w' hown hgr hat hlt
    simp only [Nat.zero_add, List.nil_append] at hown ⊢
    refine h g1 cap1 w' (hB.grown hgr hB.size (fun k e => by simp [Value.ownBlock] at e; omega)) hown (fun b o' hne hb => ?_) hgr.size
    rw [← hb]
    exact hgr.block b ((Array.getElem?_eq_some_iff.1 hb).1) (by simp [Value.ownBlock]; omega)

/-- one constant more, put behind a row -/
theorem stepB {ops : Array Oper} {o : Oper} {a : Act} {W : World} {K : Act → World → Prop} {Q : Exit → Act → World → Prop} {E : Prop} (wa : World) (kx : List Cst) (mt : Bool) (mb : Int) (ms : ByteArray)
    (hk : kx.length ≤ 65536) (g1 cap1 cb : Nat)
    (hgd : o.guard = none) (s x : Operand) (ho : o.op = .call { callee := .builtin .append, args := #[s, x], argTypes := #[32, 32] })
    (hs : a.eval s = .slice (some ⟨g1, 0, none⟩) kx.length cap1) (hx : a.eval x = .slice (some ⟨cb, 0, none⟩) 1 1)
    (hB : Below wa.heap.size wa W) (hown : W.ownsRow wa.heap.size 46 3 (.slice (some ⟨g1, 0, none⟩) kx.length cap1) kx.length (kx.flatMap cstC))
    (hc : W.heap[cb]? = some (.cells #[.bool mt, .int .u64 mb, .string ms] 46 (0, 0)))
    (h : ∀ g2 cap2 w', Below wa.heap.size wa w' → w'.ownsRow wa.heap.size 46 3 (.slice (some ⟨g2, 0, none⟩) (kx.length + 1) cap2) (kx.length + 1) (kx.flatMap cstC ++ [.bool mt, .int .u64 mb, .string ms]) → K (a.put o.dst (.slice (some ⟨g2, 0, none⟩) (kx.length + 1) cap2)) w') :
    if Region.wanted o (yielded ops a.tmps) = true then Oper.wp Tryd.prog o a W K Q else E := by
  obtain ⟨i46, hi46, hz46, hs46, hb46⟩ := info_parts info46
  refine step_append_lies _ hgd s x 32 ho wa.heap.size 46 i46 _ 3 32 Tryd.underlying32 hi46 hz46 hs46 hb46 rfl (by decide) _ kx.length (kx.flatMap cstC) hs hown ⟨cb, 0, none⟩ 1 1 [.bool mt, .int .u64 mb, .string ms] hx rfl (World.news_of_block (cs := #[.bool mt, .int .u64 mb, .string ms]) (t := 46) (fr := (0, 0)) hc) (cst_one [⟨mt, mb, ms⟩]) (by decide) (by unfold maxLen; omega) (by omega) hB.size _ rfl ?_
  intro g2 cap2 w' hown2 hgr hat hlt
  refine h g2 cap2 w' (hB.grown hgr hB.size (fun k e => (own_blk hown k e).1)) hown2

end Go.Proofs.YtkoamenfbnpdbaaDoor.Cd
