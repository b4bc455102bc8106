/- alive. -/
import Derived.Test.YtihmdcdifakepaaB24
import Derived.Test.YtihmdcdifakepaaRows
import Derived.ProofKit
import Derived.OpenShut
import Derived.Deep.Slices
namespace Go.Proofs.Ytihmdcdifakepaa.Sc
open Go.RowKit
set_option linter.unusedVariables false
set_option linter.unusedSimpArgs false

def prB : ByteArray := ⟨#[112, 114, 105, 110, 116]⟩
def noB : ByteArray := ⟨#[]⟩
/-- print; -/
def trP (n : Nat) : Tr 3 := ((⟨47, 0, noB, 0, noB⟩, ⟨some ⟨n + 1, 0, none⟩, 1, [((⟨46, 0, noB, 0, noB⟩, ⟨some ⟨n, 0, none⟩, 1, [((⟨3, 3, prB, 0, noB⟩, ⟨none, 0, []⟩) : Nd × Sli (Tr 0))]⟩) : Nd × Sli (Tr 1))]⟩) : Nd × Sli (Tr 2))

structure TreeP (w : World) (n : Nat) : Prop where
  k1 : OneAt w n 0 3 3 prB 0 noB (.slice none 0 0)
  k2 : OneAt w (n + 1) 0 46 0 noB 0 noB (.slice (some ⟨n, 0, none⟩) 1 1)

theorem OneAt.kept {w w' : World} {kb ko : Nat} {k p : Int} {name : ByteArray} {num : Int} {op : ByteArray} {kv : Value} (h : OneAt w kb ko k p name num op kv) (hb : Below w.heap.size w w') : OneAt w' kb ko k p name num op kv :=
  ⟨cells_below hb _ _ h.x0, cells_below hb _ _ h.x1, cells_below hb _ _ h.x2, cells_below hb _ _ h.x3, cells_below hb _ _ h.x4, cells_below hb _ _ h.x5⟩
theorem TreeP.kept {w w' : World} {n : Nat} (h : TreeP w n) (hb : Below w.heap.size w w') : TreeP w' n := ⟨h.k1.kept hb, h.k2.kept hb⟩

theorem one_ok {β : Type} {enc : β → List Value} {w : World} {b : Nat} {y : β} (h : ∀ j u, (enc y)[j]? = some u → w.cell? ⟨b, j, none⟩ = some u) : Sli.ok enc 6 w ⟨some ⟨b, 0, none⟩, 1, [y]⟩ := by
  refine ⟨Nat.le_refl _, by simp [maxLen], fun _ => ⟨b, 0, rfl, fun i x hi j u hj => ?_⟩⟩
  cases i with
  | zero =>
    simp at hi
    subst hi
    simpa using h j u hj
  | succ i => simp at hi

theorem nd_wf (k p n : Int) (a b : ByteArray) (hp : (Lit.int .i64 p).wf = true) (ha : a.size ≤ maxLen) (hb : b.size ≤ maxLen) : (⟨k, p, a, n, b⟩ : Nd).wf := ⟨hp, ha, hb⟩

theorem TreeP.ok {w : World} {n : Nat} (h : TreeP w n) : okT 3 w (trP n) := by
  have e0 : noB.size ≤ maxLen := by decide
  have e1 : prB.size ≤ maxLen := by decide
  refine ⟨nd_wf _ _ _ _ _ (by decide) e0 e0, one_ok ?_, ?_⟩
  · intro j u hj
    have := h.k2
    match j with
    | 0 => cases hj; exact this.x0
    | 1 => cases hj; exact this.x1
    | 2 => cases hj; exact this.x2
    | 3 => cases hj; exact this.x3
    | 4 => cases hj; exact this.x4
    | 5 => cases hj; exact this.x5
    | j + 6 => simp [encT] at hj
  · intro y hy
    have hy := List.mem_singleton.1 hy
    subst hy
    refine ⟨nd_wf _ _ _ _ _ (by decide) e0 e0, one_ok ?_, ?_⟩
    · intro j u hj
      have := h.k1
      match j with
      | 0 => cases hj; exact this.x0
      | 1 => cases hj; exact this.x1
      | 2 => cases hj; exact this.x2
      | 3 => cases hj; exact this.x3
      | 4 => cases hj; exact this.x4
      | 5 => cases hj; exact this.x5
      | j + 6 => simp [encT] at hj
    · intro y hy
      have hy := List.mem_singleton.1 hy
      subst hy
      exact ⟨nd_wf _ _ _ _ _ (by decide) e1 e0, ⟨Nat.le_refl _, by simp, fun q => absurd rfl q⟩, fun y hy => by cases hy⟩

theorem root_print (n : Nat) : rootP 3 (trP n) = true := by rfl
theorem idx_print : 0 ≤ idxI prB := by decide

theorem items_print (n rb b cap : Nat) (sc : Value) (w : World) (h : TreeP w n) (ha : Ahead w rb b cap sc) :
    Calls Try.prog 52 #[.pointer (some ⟨rb, 0, none⟩), .slice (some ⟨n + 1, 0, none⟩) 1 1] w fun e w' => e = .returned (.tuple #[]) ∧ Used rb b cap sc 3 w w' := by
  refine items_one rb b cap sc 3 (n + 1) 0 1 0 noB 0 noB (some ⟨n, 0, none⟩) 1 1 w h.k2 (fun w2 hb2 => ?_)
  have h2 := h.kept hb2
  have a2 := ha.kept hb2
  refine each_one rb b cap sc 3 (n + 1) 0 1 46 0 noB 0 noB (some ⟨n, 0, none⟩) 1 1 w2 h2.k2 (fun w3 hb3 => ?_)
  have h3 := h2.kept hb3
  have a3 := a2.kept hb3
  refine node_each rb b cap sc 3 0 0 noB noB _ w3 (fun w4 hb4 => ?_)
  have h4 := h3.kept hb4
  have a4 := a3.kept hb4
  refine each_one rb b cap sc 3 n 0 1 3 3 prB 0 noB none 0 0 w4 h4.k1 (fun w5 hb5 => ?_)
  exact node_name rb b cap sc 3 0 prB noB _ w5 (a4.kept hb5) (by decide) idx_print

theorem right_print (n : Nat) (w : World) (h : TreeP w n) : Calls Try.prog 9 #[.agg #[.int .i64 47, .int .i64 0, .string noB, .int .u64 0, .string noB, .slice (some ⟨n + 1, 0, none⟩) 1 1]] w fun e w' => e = .returned (.bool true) ∧ Below w.heap.size w w' := by
  have := Right_any 3 (trP n) w h.ok
  rw [root_print] at this
  exact this

theorem resolve_print (n : Nat) (w : World) (h : TreeP w n) : Calls Try.prog 15 #[.agg #[.int .i64 47, .int .i64 0, .string noB, .int .u64 0, .string noB, .slice (some ⟨n + 1, 0, none⟩) 1 1]] w fun e w' => (∃ sb u c, e = .returned (.tuple #[.agg #[.slice (some ⟨sb, 0, none⟩) 1 1, .slice none 0 0, .slice (some ⟨u, 0, none⟩) 1 c], .int .i64 0, .int .i64 0]) ∧ w'.cell? ⟨u, 1, none⟩ = some (.int .i64 (-1))) ∧ Below w.heap.size w w' :=
  resolve_one 3 0 0 noB noB _ w (fun w1 hb => right_print n w1 (h.kept hb)) (fun rb b cap sc w1 ha hb => items_print n rb b cap sc w1 (h.kept hb) ha)

theorem TreeP.made (w : World) : TreeP (((w.alloc (.cells #[.int .i64 3, .int .i64 3, .string prB, .int .u64 0, .string noB, .slice none 0 0] 25)).alloc (.cells #[.int .i64 46, .int .i64 0, .string noB, .int .u64 0, .string noB, .slice (some ⟨w.heap.size, 0, none⟩) 1 1] 25)).alloc (.cells #[.int .i64 47, .int .i64 0, .string noB, .int .u64 0, .string noB, .slice (some ⟨w.heap.size + 1, 0, none⟩) 1 1] 25)) w.heap.size := by
  constructor <;> constructor <;> simp [go_sem]

set_option maxRecDepth 100000 in
set_option maxHeartbeats 2000000 in
theorem alive_any (w : World) : Calls Try.prog 8 #[] w fun e w' => e = .returned (.bool true) ∧ Below w.heap.size w w' := by
  obtain ⟨w3, hw3⟩ : ∃ w3, w3 = ((w.alloc (.cells #[.int .i64 3, .int .i64 3, .string prB, .int .u64 0, .string noB, .slice none 0 0] 25)).alloc (.cells #[.int .i64 46, .int .i64 0, .string noB, .int .u64 0, .string noB, .slice (some ⟨w.heap.size, 0, none⟩) 1 1] 25)).alloc (.cells #[.int .i64 47, .int .i64 0, .string noB, .int .u64 0, .string noB, .slice (some ⟨w.heap.size + 1, 0, none⟩) 1 1] 25) := ⟨_, rfl⟩
  have hT : TreeP w3 w.heap.size := by rw [hw3]; exact TreeP.made w
  have hB : Below w.heap.size w w3 := by rw [hw3]; exact (((Below.refl w.heap.size w).alloc (Nat.le_refl _) _).alloc (by simp) _).alloc (by simp; omega) _
  have hres := resolve_print _ _ hT
  have HT : Hid (TreeP w3 w.heap.size) := hT
  have HB : Hid (Below w.heap.size w w3) := hB
  have d0 : w3.cell? ⟨w.heap.size + 1 + 1, 0, none⟩ = some (.int .i64 47) := by rw [hw3]; simp [go_sem]
  have d1 : w3.cell? ⟨w.heap.size + 1 + 1, 1, none⟩ = some (.int .i64 0) := by rw [hw3]; simp [go_sem]
  have d2 : w3.cell? ⟨w.heap.size + 1 + 1, 2, none⟩ = some (.string noB) := by rw [hw3]; simp [go_sem]
  have d3 : w3.cell? ⟨w.heap.size + 1 + 1, 3, none⟩ = some (.int .u64 0) := by rw [hw3]; simp [go_sem]
  have d4 : w3.cell? ⟨w.heap.size + 1 + 1, 4, none⟩ = some (.string noB) := by rw [hw3]; simp [go_sem]
  have d5 : w3.cell? ⟨w.heap.size + 1 + 1, 5, none⟩ = some (.slice (some ⟨w.heap.size + 1, 0, none⟩) 1 1) := by rw [hw3]; simp [go_sem]
  have HD : Hid (w3.cell? ⟨w.heap.size + 1 + 1, 0, none⟩ = some (.int .i64 47) ∧ w3.cell? ⟨w.heap.size + 1 + 1, 1, none⟩ = some (.int .i64 0) ∧ w3.cell? ⟨w.heap.size + 1 + 1, 2, none⟩ = some (.string noB) ∧ w3.cell? ⟨w.heap.size + 1 + 1, 3, none⟩ = some (.int .u64 0) ∧ w3.cell? ⟨w.heap.size + 1 + 1, 4, none⟩ = some (.string noB) ∧ w3.cell? ⟨w.heap.size + 1 + 1, 5, none⟩ = some (.slice (some ⟨w.heap.size + 1, 0, none⟩) 1 1)) := ⟨d0, d1, d2, d3, d4, d5⟩
  have HF : Hid (w3 = ((w.alloc (.cells #[.int .i64 3, .int .i64 3, .string prB, .int .u64 0, .string noB, .slice none 0 0] 25)).alloc (.cells #[.int .i64 46, .int .i64 0, .string noB, .int .u64 0, .string noB, .slice (some ⟨w.heap.size, 0, none⟩) 1 1] 25)).alloc (.cells #[.int .i64 47, .int .i64 0, .string noB, .int .u64 0, .string noB, .slice (some ⟨w.heap.size + 1, 0, none⟩) 1 1] 25)) := hw3
  have HRES : Hid (Calls Try.prog 15 #[.agg #[.int .i64 47, .int .i64 0, .string noB, .int .u64 0, .string noB, .slice (some ⟨w.heap.size + 1, 0, none⟩) 1 1]] w3 fun e w' => (∃ sb u c, e = .returned (.tuple #[.agg #[.slice (some ⟨sb, 0, none⟩) 1 1, .slice none 0 0, .slice (some ⟨u, 0, none⟩) 1 c], .int .i64 0, .int .i64 0]) ∧ w'.cell? ⟨u, 1, none⟩ = some (.int .i64 (-1))) ∧ Below w3.heap.size w3 w') := hres
  clear hT hB hres d0 d1 d2 d3 d4 d5 hw3
  go_enter Try.func8, Try.ntmps8
  go_wp2_with fail
  unfold prB noB at HF
  rw [← HF.out]
  refine HRES.out.mono ?_
  rintro e w4 ⟨⟨sb, u, c, rfl, hu⟩, hb4⟩
  obtain ⟨w5, hw5⟩ : ∃ w5, w5 = w4.alloc (.cells #[.slice (some ⟨sb, 0, none⟩) 1 1, .slice none 0 0, .slice (some ⟨u, 0, none⟩) 1 c] 37) := ⟨_, rfl⟩
  have hb5 : Below w4.heap.size w4 w5 := by rw [hw5]; exact (Below.refl _ _).alloc (Nat.le_refl _) _
  have hb35 : Below w3.heap.size w3 w5 := hb4.trans (hb5.mono hb4.size)
  have H5 : Hid (Below w.heap.size w w5) := HB.out.trans (hb35.mono HB.out.size)
  have hri := right_print w.heap.size w5 (HT.out.kept hb35)
  obtain ⟨q0, q1, q2, q3, q4, q5⟩ := HD.out
  have d0 := cells_below hb35 _ _ q0
  have d1 := cells_below hb35 _ _ q1
  have d2 := cells_below hb35 _ _ q2
  have d3 := cells_below hb35 _ _ q3
  have d4 := cells_below hb35 _ _ q4
  have d5 := cells_below hb35 _ _ q5
  have HU : Hid (w5.cell? ⟨u, 1, none⟩ = some (.int .i64 (-1))) := cells_below hb5 _ _ hu
  have HS : Hid (w5.cell? ⟨w4.heap.size, 0, none⟩ = some (.slice (some ⟨sb, 0, none⟩) 1 1) ∧ w5.cell? ⟨w4.heap.size, 2, none⟩ = some (.slice (some ⟨u, 0, none⟩) 1 c)) := by rw [hw5]; exact ⟨box_new w4 _ _ 0 _ rfl, box_new w4 _ _ 2 _ rfl⟩
  have HRI : Hid (Calls Try.prog 9 #[.agg #[.int .i64 47, .int .i64 0, .string noB, .int .u64 0, .string noB, .slice (some ⟨w.heap.size + 1, 0, none⟩) 1 1]] w5 fun e w' => e = .returned (.bool true) ∧ Below w5.heap.size w5 w') := hri
  clear hu hb4 hb5 hb35 hri q0 q1 q2 q3 q4 q5 HD HF HRES HT HB
  go_upto_region 3 with fail
  rw [← hw5]
  clear hw5
  go_wp2_with fail
  refine HRI.out.mono ?_
  rintro e w6 ⟨rfl, hb6⟩
  have u6 := cells_below hb6 _ _ HU.out
  have s0 := cells_below hb6 _ _ HS.out.1
  have s2 := cells_below hb6 _ _ HS.out.2
  have H6 : Hid (Below w.heap.size w w6) := H5.out.trans (hb6.mono H5.out.size)
  have hbu := builtins_any w6
  clear hb6 HU HS HRI H5 d0 d1 d2 d3 d4 d5
  go_wp2_with (go_at_call 11; refine hbu.mono ?_; rintro e w7 ⟨rfl, _, hb7⟩; clear hbu; have H7 : Hid (Below w.heap.size w w7) := H6.out.trans (hb7.mono H6.out.size); clear hb7)
  go_ret
  exact ⟨rfl, H7.out⟩
end Go.Proofs.Ytihmdcdifakepaa.Sc

/- ScopeRights: the walk. -/
namespace Go.Proofs.Ytihmdcdifakepaa.Sc
open Go.RowKit
set_option linter.unusedVariables false
set_option linter.unusedSimpArgs false

set_option maxRecDepth 100000 in
set_option maxHeartbeats 2000000 in
theorem rights_walk (n : Nat) (t : Tr n) (w : World) (hok : okT n w t) : Calls Try.prog 3 #[valT n t] w fun e w' => e = .returned (.bool true) ∧ Below w.heap.size w w' := by
  cases n with
  | zero => exact nomatch (t : Empty)
  | succ n =>
    obtain ⟨⟨kind, pl, name, num, op⟩, ⟨ad, cap, xs⟩⟩ := t
    obtain ⟨R, hR⟩ : ∃ R, R = rootP (n + 1) ((⟨kind, pl, name, num, op⟩, ⟨ad, cap, xs⟩) : Nd × Sli (Tr n)) := ⟨_, rfl⟩
    have HP : Hid (∀ w1, Below w.heap.size w w1 → Calls Try.prog 9 #[.agg #[.int .i64 kind, .int .i64 pl, .string name, .int .u64 num, .string op, .slice ad xs.length cap]] w1 fun e w' => e = .returned (.bool R) ∧ Below w1.heap.size w1 w') := by
      intro w1 hb
      rw [hR]
      exact Right_any (n + 1) _ w1 (okT_kept hok (cells_below hb))
    have HQ : Hid (∀ w1, Below w.heap.size w w1 → Calls Try.prog 10 #[.agg #[.int .i64 kind, .int .i64 pl, .string name, .int .u64 num, .string op, .slice ad xs.length cap]] w1 fun e w' => e = .returned (.bool R) ∧ Below w1.heap.size w1 w') := by
      intro w1 hb
      rw [hR.trans (root_same (n + 1) _)]
      exact refRight_any (n + 1) _ w1 (okT_kept hok (cells_below hb))
    show Calls Try.prog 3 #[.agg #[.int .i64 kind, .int .i64 pl, .string name, .int .u64 num, .string op, .slice ad xs.length cap]] w fun e w' => e = .returned (.bool true) ∧ Below w.heap.size w w'
    obtain ⟨wb, hwb⟩ : ∃ wb, wb = w.alloc (.cells #[.int .i64 kind, .int .i64 pl, .string name, .int .u64 num, .string op, .slice ad xs.length cap] 25) := ⟨_, rfl⟩
    have hbl : Below w.heap.size w wb := by rw [hwb]; exact (Below.refl _ _).alloc (Nat.le_refl _) _
    have HB : Hid (Below w.heap.size w wb) := hbl
    have b0 : wb.cell? ⟨w.heap.size, 0, none⟩ = some (.int .i64 kind) := by rw [hwb]; exact box_new w _ _ 0 _ rfl
    have b1 : wb.cell? ⟨w.heap.size, 1, none⟩ = some (.int .i64 pl) := by rw [hwb]; exact box_new w _ _ 1 _ rfl
    have b2 : wb.cell? ⟨w.heap.size, 2, none⟩ = some (.string name) := by rw [hwb]; exact box_new w _ _ 2 _ rfl
    have b3 : wb.cell? ⟨w.heap.size, 3, none⟩ = some (.int .u64 num) := by rw [hwb]; exact box_new w _ _ 3 _ rfl
    have b4 : wb.cell? ⟨w.heap.size, 4, none⟩ = some (.string op) := by rw [hwb]; exact box_new w _ _ 4 _ rfl
    have b5 : wb.cell? ⟨w.heap.size, 5, none⟩ = some (.slice ad xs.length cap) := by rw [hwb]; exact box_new w _ _ 5 _ rfl
    have hal := alive_any wb.drew
    have HDR : Hid (Below wb.heap.size wb wb.drew) := (Below.refl wb.heap.size wb).drew
    clear hR hok hbl
    go_enter Try.func3, Try.ntmps3
    go_upto_region 1 with fail
    rw [← hwb]
    clear hwb
    go_wp2_with fail
    go_region_held_law (fun w' => w'.cell? ⟨w.heap.size, 0, none⟩ = some (.int .i64 kind) ∧ w'.cell? ⟨w.heap.size, 1, none⟩ = some (.int .i64 pl) ∧ w'.cell? ⟨w.heap.size, 2, none⟩ = some (.string name) ∧ w'.cell? ⟨w.heap.size, 3, none⟩ = some (.int .u64 num) ∧ w'.cell? ⟨w.heap.size, 4, none⟩ = some (.string op) ∧ w'.cell? ⟨w.heap.size, 5, none⟩ = some (.slice ad xs.length cap)) (first | exact kk3 | exact kk2 | exact kk1 | go_keep)
      ((first
        | (go_at_call 8; refine hal.mono ?_; rintro e w1 ⟨rfl, hb1⟩; have g1 : Below wb.heap.size wb w1 := HDR.out.trans (hb1.mono HDR.out.size); have kk1 := And.intro (cells_below g1 _ _ b0) (And.intro (cells_below g1 _ _ b1) (And.intro (cells_below g1 _ _ b2) (And.intro (cells_below g1 _ _ b3) (And.intro (cells_below g1 _ _ b4) (cells_below g1 _ _ b5))))); have h1 := HP.out w1 (HB.out.trans (g1.mono HB.out.size)))
        | (go_at_call 9; refine h1.mono ?_; rintro e w2 ⟨rfl, hb2⟩; have g2 : Below wb.heap.size wb w2 := g1.trans (hb2.mono g1.size); have kk2 := And.intro (cells_below g2 _ _ b0) (And.intro (cells_below g2 _ _ b1) (And.intro (cells_below g2 _ _ b2) (And.intro (cells_below g2 _ _ b3) (And.intro (cells_below g2 _ _ b4) (cells_below g2 _ _ b5))))); have h2 := HQ.out w2 (HB.out.trans (g2.mono HB.out.size)))
        | (go_at_call 10; refine h2.mono ?_; rintro e w3 ⟨rfl, hb3⟩; have g3 : Below wb.heap.size wb w3 := g2.trans (hb3.mono g2.size); have kk3 := And.intro (cells_below g3 _ _ b0) (And.intro (cells_below g3 _ _ b1) (And.intro (cells_below g3 _ _ b2) (And.intro (cells_below g3 _ _ b3) (And.intro (cells_below g3 _ _ b4) (cells_below g3 _ _ b5))))))))
    all_goals
      go_wp2
      go_ret
    all_goals exact ⟨rfl, HB.out.trans (g3.mono HB.out.size)⟩
end Go.Proofs.Ytihmdcdifakepaa.Sc

/- The law's argument: a tree, as it lies in memory. -/
namespace Go.Proofs.Ytihmdcdifakepaa.Sc
open Go.RowKit Go.ChangeShapes Go.WideShapes
set_option linter.unusedVariables false
set_option maxRecDepth 100000

section
variable {H : Type} {enc : TypeId × Value → H} {w : World} {base : Nat} {spare : Nat → Bool} {held : Bool}

/-- a slice, whatever lies in it -/
theorem open_sl {α : Type} {t e : TypeId} {k fuel : Nat} {cs : List Value} {x : DataW H × List MemPlace} (enc' : α → List Value) (good : α → Prop)
    (ht : Try.prog.underlying t = some (.slice e)) (hk : Try.prog.cellsOf e = k) (hk0 : 0 < k) (hlen : ∀ y, (enc' y).length = k)
    (elem : ∀ cs' x', DataW.trod enc Try.prog w base spare held fuel e cs' = some x' → ∃ y, cs' = enc' y ∧ good y)
    (h : DataW.trod enc Try.prog w base spare held (fuel + 1) t cs = some x) :
    ∃ s : Sli α, cs = [s.val] ∧ s.ok enc' k w ∧ (∀ y ∈ s.xs, good y) := by
  rcases DataW.trod_slice ht h with ⟨rfl, rfl⟩ | ⟨a, len, cap, elems, rest, n, hn, rfl, rfl, hb, hl, hm, hel0, hel, _, _⟩
  · exact ⟨⟨none, 0, []⟩, rfl, ⟨Nat.le_refl _, Nat.zero_le _, fun h => absurd rfl h⟩, (fun y hy => by cases hy)⟩
  · obtain rfl : fuel = n := by omega
    have hall : ∀ i : Fin len, ∃ y, good y ∧ ∀ j, j < k → w.cell? ((a.add (i.val * k)).add j) = (enc' y)[j]? := by
      intro i
      have h0 := hel i.val i.isLt
      have h1 : elems[i.val]? = some (elems[i.val]'(by rw [hel0]; exact i.isLt)) := List.getElem?_eq_getElem _
      rw [h1] at h0
      obtain ⟨cs', h2, h3⟩ := Option.bind_eq_some_iff.1 h0
      obtain ⟨y, rfl, hg⟩ := elem cs' _ h3
      rw [hk] at h2
      obtain ⟨_, _, hcell⟩ := World.cells?_some h2
      exact ⟨y, hg, hcell⟩
    let f : Fin len → α := fun i => Classical.choose (hall i)
    have hf : ∀ i, good (f i) ∧ ∀ j, j < k → w.cell? ((a.add (i.val * k)).add j) = (enc' (f i))[j]? := fun i => Classical.choose_spec (hall i)
    refine ⟨⟨some a, cap, List.ofFn f⟩, by simp [Sli.val], ⟨by simpa using hl, hm, fun h0 => ?_⟩, ?_⟩
    · have lpos : 0 < len := by
        rcases Nat.eq_zero_or_pos len with c | c
        · subst c
          exact absurd (by simp) h0
        · exact c
      have h1 := (hf ⟨0, lpos⟩).2 0 hk0
      have hsp : a.spot = none := by
        have h2 : (enc' (f ⟨0, lpos⟩))[0]? = some ((enc' (f ⟨0, lpos⟩))[0]'(by rw [hlen]; exact hk0)) := List.getElem?_eq_getElem _
        rw [h2] at h1
        have e1 : (a.add (0 * k)).add 0 = a := by simp [Addr.add]
        rw [show ((⟨0, lpos⟩ : Fin len).val * k) = 0 * k from rfl, e1] at h1
        exact World.cell?_spot h1
      obtain ⟨b, off, sp⟩ := a
      simp only at hsp
      subst hsp
      refine ⟨b, off, rfl, ?_⟩
      intro i y hi j u hj
      simp only [List.getElem?_ofFn] at hi
      split at hi
      · rename_i c
        obtain rfl := Option.some.inj hi
        have jl : j < k := by
          rcases Nat.lt_or_ge j k with d | d
          · exact d
          · rw [List.getElem?_eq_none (by rw [hlen]; exact d)] at hj; cases hj
        have h3 := (hf ⟨i, c⟩).2 j jl
        rw [hj] at h3
        rw [← h3]
        congr 1
        have ea : ∀ (p n : Nat), (⟨b, p, none⟩ : Addr).add n = ⟨b, p + n, none⟩ := by
          intro p n
          unfold Addr.add
          by_cases hn : n = 0
          · subst hn; simp
          · simp [hn]
        rw [ea, ea]
      · cases hi
    · intro y hy
      simp only [List.mem_ofFn] at hy
      obtain ⟨i, rfl⟩ := hy
      exact (hf i).1

theorem enc_len (n : Nat) (t : Tr n) : (encT n t).length = 6 := rfl

theorem node_six {k : Nat} {v0 v1 v2 v3 v4 v5 : Value} {y0 y1 y2 y3 y4 y5 : DataW H × List MemPlace} (g0 : DataW.trod enc Try.prog w base spare held k 3 [v0] = some y0) (g1 : DataW.trod enc Try.prog w base spare held k 3 [v1] = some y1)
    (g2 : DataW.trod enc Try.prog w base spare held k 9 [v2] = some y2) (g3 : DataW.trod enc Try.prog w base spare held k 22 [v3] = some y3) (g4 : DataW.trod enc Try.prog w base spare held k 9 [v4] = some y4) :
    ∃ x : Nd, x.wf ∧ v0 = .int .i64 x.kind ∧ v1 = .int .i64 x.pl ∧ v2 = .string x.name ∧ v3 = .int .u64 x.num ∧ v4 = .string x.op := by
  obtain ⟨a0, e0, _, _⟩ := DataW.trod_int Try.underlying3 g0
  obtain ⟨a1, e1, _, wf1⟩ := DataW.trod_int Try.underlying3 g1
  obtain ⟨a2, e2, _, wf2⟩ := DataW.trod_string Try.underlying9 g2
  obtain ⟨a3, e3, _, _⟩ := DataW.trod_int Try.underlying22 g3
  obtain ⟨a4, e4, _, wf4⟩ := DataW.trod_string Try.underlying9 g4
  exact ⟨⟨a0, a1, a2, a3, a4⟩, ⟨wf1, wf2, wf4⟩, by simpa using e0, by simpa using e1, by simpa using e2, by simpa using e3, by simpa using e4⟩

theorem open_tree : ∀ (m fuel : Nat) (cs : List Value) (x : DataW H × List MemPlace), fuel ≤ 2 * m → DataW.trod enc Try.prog w base spare held fuel 25 cs = some x → ∃ t : Tr m, cs = encT m t ∧ okT m w t := by
  intro m
  induction m with
  | zero =>
    intro fuel cs x hf h
    obtain rfl : fuel = 0 := by omega
    simp [DataW.trod] at h
  | succ m ih =>
    intro fuel cs x hfu h
    obtain ⟨xs, k, hk, hxy, hlen, hxl, hf⟩ := DataW.trod_struct Try.underlying25 h
    rw [show Try.prog.cellsOf 25 = 6 by kernel_rfl] at hlen
    have hxl : xs.length = 6 := hxl
    match cs, hlen, xs, hxl with
    | [v0, v1, v2, v3, v4, v5], _, [y0, y1, y2, y3, y4, y5], _ =>
      have g0 : DataW.trod enc Try.prog w base spare held k 3 [v0] = some y0 := hf 0 _ rfl
      have g1 : DataW.trod enc Try.prog w base spare held k 3 [v1] = some y1 := hf 1 _ rfl
      have g2 : DataW.trod enc Try.prog w base spare held k 9 [v2] = some y2 := hf 2 _ rfl
      have g3 : DataW.trod enc Try.prog w base spare held k 22 [v3] = some y3 := hf 3 _ rfl
      have g4 : DataW.trod enc Try.prog w base spare held k 9 [v4] = some y4 := hf 4 _ rfl
      have g5 : DataW.trod enc Try.prog w base spare held k 23 [v5] = some y5 := hf 5 _ rfl
      obtain ⟨x, hw, rfl, rfl, rfl, rfl, rfl⟩ := node_six (v5 := v5) (y5 := y5) g0 g1 g2 g3 g4
      cases k with
      | zero => simp [DataW.trod] at g5
      | succ k =>
        obtain ⟨s, e5, ok5, good5⟩ := open_sl (encT m) (okT m w) Try.underlying23 (show Try.prog.cellsOf 25 = 6 by kernel_rfl) (by omega) (enc_len m) (fun cs' x' h' => ih k cs' x' (by omega) h') g5
        obtain rfl : v5 = s.val := by simpa using e5
        exact ⟨((x, s) : Nd × Sli (Tr m)), rfl, hw, ok5, good5⟩

theorem agg_node {W : World} {base : Nat} {v : Value} {n : Nat} {t : Tr n} (h : Value.okWide Try.prog W .any base 25 v) (hs : v.cells.toList = encT n t) : v = valT n t := by
  obtain ⟨cs, rfl, _⟩ := okWide_struct Try.underlying25 h
  have : cs.toList = encT n t := hs
  unfold valT
  unfold encT at this
  rw [show cs = #[.int .i64 (ndT n t).kind, .int .i64 (ndT n t).pl, .string (ndT n t).name, .int .u64 (ndT n t).num, .string (ndT n t).op, .slice (atT n t) (nkT n t) (capT n t)] from Array.toList_inj.1 this]
end
end Go.Proofs.Ytihmdcdifakepaa.Sc
