/- alive. -/
import Derived.Test.YtihmdcdifakepabNQ
namespace Go.Proofs.Ytihmdcdifakepab.Rv
open Go.RowKit Go.Proofs.Ytihmdcdifakepab.Sc Go.Proofs.Ytihmdcdifakepab.Rz
set_option linter.unusedVariables false
set_option linter.unusedSimpArgs false

structure OneAt (w : World) (kb ko : Nat) (k p : Int) (name : ByteArray) (num : Int) (op : ByteArray) (kv : Value) : Prop where
  x0 : w.cell? ⟨kb, ko, none⟩ = some (.int .i64 k)
  x1 : w.cell? ⟨kb, ko + 1, none⟩ = some (.int .i64 p)
  x2 : w.cell? ⟨kb, ko + 2, none⟩ = some (.string name)
  x3 : w.cell? ⟨kb, ko + 3, none⟩ = some (.int .u64 num)
  x4 : w.cell? ⟨kb, ko + 4, none⟩ = some (.string op)
  x5 : w.cell? ⟨kb, ko + 5, none⟩ = some kv

def prB : ByteArray := ⟨#[112, 114, 105, 110, 116]⟩
def noB : ByteArray := ⟨#[]⟩
/-- print; -/
def trP (n : Nat) : Tr 3 := ((⟨47, 0, noB, 0, noB⟩, ⟨some ⟨n + 1, 0, none⟩, 1, [((⟨46, 0, noB, 0, noB⟩, ⟨some ⟨n, 0, none⟩, 1, [((⟨3, 3, prB, 0, noB⟩, ⟨none, 0, []⟩) : Nd × Sli (Tr 0))]⟩) : Nd × Sli (Tr 1))]⟩) : Nd × Sli (Tr 2))

structure TreeP (w : World) (n : Nat) : Prop where
  k1 : OneAt w n 0 3 3 prB 0 noB (.slice none 0 0)
  k2 : OneAt w (n + 1) 0 46 0 noB 0 noB (.slice (some ⟨n, 0, none⟩) 1 1)

theorem OneAt.kept {w w' : World} {kb ko : Nat} {k p : Int} {name : ByteArray} {num : Int} {op : ByteArray} {kv : Value} (h : OneAt w kb ko k p name num op kv) (hb : Below w.heap.size w w') : OneAt w' kb ko k p name num op kv :=
  ⟨Sc.cells_below hb _ _ h.x0, Sc.cells_below hb _ _ h.x1, Sc.cells_below hb _ _ h.x2, Sc.cells_below hb _ _ h.x3, Sc.cells_below hb _ _ h.x4, Sc.cells_below hb _ _ h.x5⟩
theorem TreeP.kept {w w' : World} {n : Nat} (h : TreeP w n) (hb : Below w.heap.size w w') : TreeP w' n := ⟨h.k1.kept hb, h.k2.kept hb⟩

theorem one_ok {β : Type} {enc : β → List Value} {w : World} {b : Nat} {y : β} (h : ∀ j u, (enc y)[j]? = some u → w.cell? ⟨b, j, none⟩ = some u) : Sli.ok enc 6 w ⟨some ⟨b, 0, none⟩, 1, [y]⟩ := by
  refine ⟨Nat.le_refl _, by simp [maxLen], fun _ => ⟨b, 0, rfl, fun i x hi j u hj => ?_⟩⟩
  cases i with
  | zero =>
    simp at hi
    subst hi
    simpa using h j u hj
  | succ i => simp at hi

theorem nd_wf (k p n : Int) (a b : ByteArray) (hp : (Lit.int .i64 p).wf = true) (ha : a.size ≤ maxLen) (hb : b.size ≤ maxLen) : (⟨k, p, a, n, b⟩ : Nd).wf := ⟨hp, ha, hb⟩

theorem TreeP.ok {w : World} {n : Nat} (h : TreeP w n) : okT 3 w (trP n) := by
  have e0 : noB.size ≤ maxLen := by decide
  have e1 : prB.size ≤ maxLen := by decide
  refine ⟨nd_wf _ _ _ _ _ (by decide) e0 e0, one_ok ?_, ?_⟩
  · intro j u hj
    have := h.k2
    match j with
    | 0 => cases hj; exact this.x0
    | 1 => cases hj; exact this.x1
    | 2 => cases hj; exact this.x2
    | 3 => cases hj; exact this.x3
    | 4 => cases hj; exact this.x4
    | 5 => cases hj; exact this.x5
    | j + 6 => simp [encT] at hj
  · intro y hy
    have hy := List.mem_singleton.1 hy
    subst hy
    refine ⟨nd_wf _ _ _ _ _ (by decide) e0 e0, one_ok ?_, ?_⟩
    · intro j u hj
      have := h.k1
      match j with
      | 0 => cases hj; exact this.x0
      | 1 => cases hj; exact this.x1
      | 2 => cases hj; exact this.x2
      | 3 => cases hj; exact this.x3
      | 4 => cases hj; exact this.x4
      | 5 => cases hj; exact this.x5
      | j + 6 => simp [encT] at hj
    · intro y hy
      have hy := List.mem_singleton.1 hy
      subst hy
      exact ⟨nd_wf _ _ _ _ _ (by decide) e1 e0, ⟨Nat.le_refl _, by simp, fun q => absurd rfl q⟩, fun y hy => by cases hy⟩

theorem root_print (n : Nat) : rootP 3 (trP n) = true := by rfl
theorem right_print (n : Nat) (w : World) (h : TreeP w n) : Calls Try.prog 8 #[.agg #[.int .i64 47, .int .i64 0, .string noB, .int .u64 0, .string noB, .slice (some ⟨n + 1, 0, none⟩) 1 1]] w fun e w' => e = .returned (.bool true) ∧ Below w.heap.size w w' := by
  have := Right_any 3 (trP n) w h.ok
  rw [root_print] at this
  exact this

theorem root_sizeA {n : Nat} {x : Nd} {s : Sli (Tr n)} (h : rootP (n + 1) ((x, s) : Nd × Sli (Tr n)) = true) : szT (n + 1) ((x, s) : Nd × Sli (Tr n)) ≤ 131072 := by
  have h' : (x.kind == 47 && (holdsT (n + 1) 300 ((x, s) : Nd × Sli (Tr n)) 131072).1 && (rightP (kidT n) (partP n) x s.xs false ([], [])).isSome) = true := h
  simp only [Bool.and_eq_true] at h'
  obtain ⟨⟨_, h2⟩, _⟩ := h'
  have h5 := (holds_count (n + 1) ((x, s) : Nd × Sli (Tr n)) 131072 300).symm.trans h2
  have h6 := of_decide_eq_true h5
  have h7 := count_sz (n + 1) 300 _ _ h6
  rw [h7] at h6
  omega

theorem res_print (n : Nat) : ∃ s, resolveP bi 3 (trP n) = .ok s ∧ s.scopes.length = 1 ∧ s.vars = [] ∧ s.uses = [⟨3, -1⟩] := ⟨_, rfl, rfl, rfl, rfl⟩

def PrO (w : World) (e : Ending) (w' : World) : Prop := (∃ p0 c0 p1 c1 u c, e = .returned (.tuple #[.agg #[.slice p0 1 c0, .slice p1 0 c1, .slice (some ⟨u, 0, none⟩) 1 c], .int .i64 0, .int .i64 0]) ∧ w'.cell? ⟨u, 1, none⟩ = some (.int .i64 (-1))) ∧ Below w.heap.size w w'

theorem resolve_print (n : Nat) (w : World) (h : TreeP w n) : Calls Try.prog 4 #[.agg #[.int .i64 47, .int .i64 0, .string noB, .int .u64 0, .string noB, .slice (some ⟨n + 1, 0, none⟩) 1 1]] w (PrO w) := by
  refine (resolve_right w 2 _ _ h.ok (root_print n) (root_sizeA (root_print n)) (by omega)).mono ?_
  rintro e w' ⟨hb, he⟩
  obtain ⟨s, h1, h2, h3, h4⟩ := res_print n
  have h1' : resolveP bi (2 + 1) (((⟨47, 0, noB, 0, noB⟩, ⟨some ⟨n + 1, 0, none⟩, 1, [((⟨46, 0, noB, 0, noB⟩, ⟨some ⟨n, 0, none⟩, 1, [((⟨3, 3, prB, 0, noB⟩, ⟨none, 0, []⟩) : Nd × Sli (Tr 0))]⟩) : Nd × Sli (Tr 1))]⟩) : Nd × Sli (Tr 2))) = .ok s := h1
  rw [h1'] at he
  obtain ⟨v0, v1, v2, rfl, r0, r1, r2, _⟩ := he
  rw [h3] at r1
  rw [h4] at r2
  obtain ⟨p0, c0, e0, _⟩ := own_slice r0
  obtain ⟨p1, c1, e1, _⟩ := own_slice r1
  obtain ⟨p2, c2, e2, _, _, hg⟩ := own_slice r2
  obtain ⟨g, rfl⟩ := hg (by simp)
  rw [h2] at e0
  subst e0 e1 e2
  obtain ⟨_, _, _, _, _, rr, _⟩ := r2.read (fun y => (rfl : (usC y).length = 2))
  exact ⟨⟨p0, c0, p1, c1, g, c2, rfl, rr 0 _ rfl 1 _ rfl⟩, hb⟩

theorem TreeP.made (w : World) : TreeP (((w.alloc (.cells #[.int .i64 3, .int .i64 3, .string prB, .int .u64 0, .string noB, .slice none 0 0] 25)).alloc (.cells #[.int .i64 46, .int .i64 0, .string noB, .int .u64 0, .string noB, .slice (some ⟨w.heap.size, 0, none⟩) 1 1] 25)).alloc (.cells #[.int .i64 47, .int .i64 0, .string noB, .int .u64 0, .string noB, .slice (some ⟨w.heap.size + 1, 0, none⟩) 1 1] 25)) w.heap.size := by
  constructor <;> constructor <;> simp [go_sem]

set_option maxRecDepth 100000 in
set_option maxHeartbeats 2000000 in
theorem alive_any (w : World) : Calls Try.prog 5 #[] w fun e w' => e = .returned (.bool true) ∧ Below w.heap.size w w' := by
  obtain ⟨w3, hw3⟩ : ∃ w3, w3 = ((w.alloc (.cells #[.int .i64 3, .int .i64 3, .string prB, .int .u64 0, .string noB, .slice none 0 0] 25)).alloc (.cells #[.int .i64 46, .int .i64 0, .string noB, .int .u64 0, .string noB, .slice (some ⟨w.heap.size, 0, none⟩) 1 1] 25)).alloc (.cells #[.int .i64 47, .int .i64 0, .string noB, .int .u64 0, .string noB, .slice (some ⟨w.heap.size + 1, 0, none⟩) 1 1] 25) := ⟨_, rfl⟩
  have hT : TreeP w3 w.heap.size := by rw [hw3]; exact TreeP.made w
  have hB : Below w.heap.size w w3 := by rw [hw3]; exact (((Below.refl w.heap.size w).alloc (Nat.le_refl _) _).alloc (by simp) _).alloc (by simp; omega) _
  have hres := resolve_print _ _ hT
  have HT : Hid (TreeP w3 w.heap.size) := hT
  have HB : Hid (Below w.heap.size w w3) := hB
  have d0 : w3.cell? ⟨w.heap.size + 1 + 1, 0, none⟩ = some (.int .i64 47) := by rw [hw3]; simp [go_sem]
  have d1 : w3.cell? ⟨w.heap.size + 1 + 1, 1, none⟩ = some (.int .i64 0) := by rw [hw3]; simp [go_sem]
  have d2 : w3.cell? ⟨w.heap.size + 1 + 1, 2, none⟩ = some (.string noB) := by rw [hw3]; simp [go_sem]
  have d3 : w3.cell? ⟨w.heap.size + 1 + 1, 3, none⟩ = some (.int .u64 0) := by rw [hw3]; simp [go_sem]
  have d4 : w3.cell? ⟨w.heap.size + 1 + 1, 4, none⟩ = some (.string noB) := by rw [hw3]; simp [go_sem]
  have d5 : w3.cell? ⟨w.heap.size + 1 + 1, 5, none⟩ = some (.slice (some ⟨w.heap.size + 1, 0, none⟩) 1 1) := by rw [hw3]; simp [go_sem]
  have HD : Hid (w3.cell? ⟨w.heap.size + 1 + 1, 0, none⟩ = some (.int .i64 47) ∧ w3.cell? ⟨w.heap.size + 1 + 1, 1, none⟩ = some (.int .i64 0) ∧ w3.cell? ⟨w.heap.size + 1 + 1, 2, none⟩ = some (.string noB) ∧ w3.cell? ⟨w.heap.size + 1 + 1, 3, none⟩ = some (.int .u64 0) ∧ w3.cell? ⟨w.heap.size + 1 + 1, 4, none⟩ = some (.string noB) ∧ w3.cell? ⟨w.heap.size + 1 + 1, 5, none⟩ = some (.slice (some ⟨w.heap.size + 1, 0, none⟩) 1 1)) := ⟨d0, d1, d2, d3, d4, d5⟩
  have HF : Hid (w3 = ((w.alloc (.cells #[.int .i64 3, .int .i64 3, .string prB, .int .u64 0, .string noB, .slice none 0 0] 25)).alloc (.cells #[.int .i64 46, .int .i64 0, .string noB, .int .u64 0, .string noB, .slice (some ⟨w.heap.size, 0, none⟩) 1 1] 25)).alloc (.cells #[.int .i64 47, .int .i64 0, .string noB, .int .u64 0, .string noB, .slice (some ⟨w.heap.size + 1, 0, none⟩) 1 1] 25)) := hw3
  have HRES : Hid (Calls Try.prog 4 #[.agg #[.int .i64 47, .int .i64 0, .string noB, .int .u64 0, .string noB, .slice (some ⟨w.heap.size + 1, 0, none⟩) 1 1]] w3 (PrO w3)) := hres
  clear hT hB hres d0 d1 d2 d3 d4 d5 hw3
  go_enter Try.func5, Try.ntmps5
  go_wp2_with fail
  unfold prB noB at HF
  rw [← HF.out]
  refine HRES.out.mono ?_
  rintro e w4 ⟨⟨p0, c0, p1, c1, u, c, rfl, hu⟩, hb4⟩
  obtain ⟨w5, hw5⟩ : ∃ w5, w5 = w4.alloc (.cells #[.slice p0 1 c0, .slice p1 0 c1, .slice (some ⟨u, 0, none⟩) 1 c] 30) := ⟨_, rfl⟩
  have hb5 : Below w4.heap.size w4 w5 := by rw [hw5]; exact (Below.refl _ _).alloc (Nat.le_refl _) _
  have hb35 : Below w3.heap.size w3 w5 := hb4.trans (hb5.mono hb4.size)
  have H5 : Hid (Below w.heap.size w w5) := HB.out.trans (hb35.mono HB.out.size)
  have hri := right_print w.heap.size w5 (HT.out.kept hb35)
  obtain ⟨q0, q1, q2, q3, q4, q5⟩ := HD.out
  have d0 := Sc.cells_below hb35 _ _ q0
  have d1 := Sc.cells_below hb35 _ _ q1
  have d2 := Sc.cells_below hb35 _ _ q2
  have d3 := Sc.cells_below hb35 _ _ q3
  have d4 := Sc.cells_below hb35 _ _ q4
  have d5 := Sc.cells_below hb35 _ _ q5
  have HU : Hid (w5.cell? ⟨u, 1, none⟩ = some (.int .i64 (-1))) := Sc.cells_below hb5 _ _ hu
  have HS : Hid (w5.cell? ⟨w4.heap.size, 0, none⟩ = some (.slice p0 1 c0) ∧ w5.cell? ⟨w4.heap.size, 2, none⟩ = some (.slice (some ⟨u, 0, none⟩) 1 c)) := by rw [hw5]; exact ⟨box_new w4 _ _ 0 _ rfl, box_new w4 _ _ 2 _ rfl⟩
  have HRI : Hid (Calls Try.prog 8 #[.agg #[.int .i64 47, .int .i64 0, .string noB, .int .u64 0, .string noB, .slice (some ⟨w.heap.size + 1, 0, none⟩) 1 1]] w5 fun e w' => e = .returned (.bool true) ∧ Below w5.heap.size w5 w') := hri
  clear hu hb4 hb5 hb35 hri q0 q1 q2 q3 q4 q5 HD HF HRES HT HB
  go_upto_region 3 with fail
  rw [← hw5]
  clear hw5
  go_wp2_with fail
  refine HRI.out.mono ?_
  rintro e w6 ⟨rfl, hb6⟩
  have u6 := Sc.cells_below hb6 _ _ HU.out
  have s0 := Sc.cells_below hb6 _ _ HS.out.1
  have s2 := Sc.cells_below hb6 _ _ HS.out.2
  have H6 : Hid (Below w.heap.size w w6) := H5.out.trans (hb6.mono H5.out.size)
  have hbu := builtins_any w6
  clear hb6 HU HS HRI H5 d0 d1 d2 d3 d4 d5
  go_wp2_with (go_at_call 10; refine hbu.mono ?_; rintro e w7 ⟨rfl, _, hb7⟩; clear hbu; have H7 : Hid (Below w.heap.size w w7) := H6.out.trans (hb7.mono H6.out.size); clear hb7)
  go_ret
  exact ⟨rfl, H7.out⟩
end Go.Proofs.Ytihmdcdifakepab.Rv
