/- The law's alive. -/
import Derived.Test.YtaikkmehmiiffaaGreatDoorZ18
namespace Go.Proofs.YtaikkmehmiiffaaGreatDoor.Lx
open Go.RowKit
set_option linter.unusedVariables false

/-- tokens in memory -/
def TokSl (B : Nat) (w : World) (v : Value) (ts : List Tok) : Prop := w.ownsRow B 31 4 v ts.length (ts.flatMap tokC)

theorem flat_at (ts : List Tok) (i j : Nat) (hj : j < 4) (t : Tok) (h : ts[i]? = some t) : (ts.flatMap tokC)[i * 4 + j]? = (tokC t)[j]? := by
  induction ts generalizing i with
  | nil => simp at h
  | cons a r ih =>
    rw [List.flatMap_cons]
    have l4 : (tokC a).length = 4 := rfl
    cases i with
    | zero =>
      simp at h
      subst h
      rw [List.getElem?_append_left (by omega)]
      congr 1
      omega
    | succ i =>
      rw [List.getElem?_append_right (by omega), l4, show (i + 1) * 4 + j - 4 = i * 4 + j from by omega]
      exact ih i (by simpa using h)

theorem TokSl.cells {B : Nat} {w : World} {v : Value} {ts : List Tok} (h : TokSl B w v ts) (h0 : ts ≠ []) :
    ∃ g cap, v = .slice (some ⟨g, 0, none⟩) ts.length cap ∧ ts.length ≤ cap ∧ cap ≤ maxLen ∧ B ≤ g ∧ g < w.heap.size ∧ ∀ i t, ts[i]? = some t → ∀ j u, (tokC t)[j]? = some u → w.cell? ⟨g, i * 4 + j, none⟩ = some u := by
  rcases h.2 with ⟨_, hn⟩ | ⟨g, cap, cur, rfl, hb, hg, hnc, hcm, hcs, ht⟩
  · exact absurd (List.length_eq_zero_iff.1 hn) h0
  · refine ⟨g, cap, rfl, hnc, hcm, hb, (Array.getElem?_eq_some_iff.1 hg).1, ?_⟩
    intro i t hi j u hj
    rw [cell_of_row w g _ cur 31 (0, 0) hg]
    have j4 : j < 4 := by
      rcases Nat.lt_or_ge j 4 with k | k
      · exact k
      · rw [List.getElem?_eq_none (by exact k)] at hj
        exact absurd hj (by simp)
    have il : i < ts.length := by
      rcases Nat.lt_or_ge i ts.length with k | k
      · exact k
      · rw [List.getElem?_eq_none k] at hi
        exact absurd hi (by simp)
    have e := flat_at ts i j j4 t hi
    rw [← ht, List.getElem?_take_of_lt (by omega), hj] at e
    simpa using e

theorem TokSl.kept {B : Nat} {w w' : World} {v : Value} {ts : List Tok} (h : TokSl B w v ts) (hb : Below w.heap.size w w') : TokSl B w' v ts :=
  World.ownsRow.kept h (grown_of_below hb) (by cases hv : v.ownBlock <;> simp)

theorem alive_one : scI [97, 62, 62, 62, 61, 48, 120, 49, 70, 59] = ([⟨1, 0, [97], 0⟩, ⟨5, 1, [62, 62, 62, 61], 0⟩, ⟨3, 5, [], 4629418941960159232⟩, ⟨5, 9, [59], 0⟩, ⟨0, 10, [], 0⟩], 0, 0) := by
  have hl : litN [48, 120, 49, 70] = (4629418941960159232, true) := by unfold litN; rw [lit_1F]; rfl
  unfold scI
  generalize litN = f at *
  unfold scanI
  rw [if_neg (by decide), if_neg (by decide)]
  have k1 : tokI f [48, 120, 49, 70, 59] = (⟨3, 0, [], 4629418941960159232⟩, 4, 0) := by
    unfold tokI
    rw [if_pos (by decide)]
    unfold numI
    have : numLen [48, 120, 49, 70, 59] = 4 := by decide
    rw [this, show ([48, 120, 49, 70, 59] : List UInt8).take 4 = [48, 120, 49, 70] from rfl, hl]
    rfl
  have k2 : tokI f [97, 62, 62, 62, 61, 48, 120, 49, 70, 59] = (⟨1, 0, [97], 0⟩, 1, 0) := rfl
  have k3 : tokI f [62, 62, 62, 61, 48, 120, 49, 70, 59] = (⟨5, 0, [62, 62, 62, 61], 0⟩, 4, 0) := rfl
  have k4 : tokI f [59] = (⟨5, 0, [59], 0⟩, 1, 0) := rfl
  have b1 : blanksI [97, 62, 62, 62, 61, 48, 120, 49, 70, 59] = (0, true) := rfl
  have b2 : blanksI [62, 62, 62, 61, 48, 120, 49, 70, 59] = (0, true) := rfl
  have b3 : blanksI [48, 120, 49, 70, 59] = (0, true) := rfl
  have b4 : blanksI [59] = (0, true) := rfl
  have b5 : blanksI [] = (0, true) := rfl
  simp [scanF, b1, b2, b3, b4, b5, k1, k2, k3, k4]

theorem alive_two : scI [97, 32, 47, 42, 32, 98] = ([], 2, 52) := by
  unfold scI
  generalize litN = f
  rfl

set_option maxRecDepth 100000 in
set_option maxHeartbeats 2000000 in
theorem alive_any (w : World) (hG : Glob w) : Calls Tryz.prog 9 #[] w fun e w' => e = .returned (.bool true) ∧ Below w.heap.size w w' := by
  have c1 := scan_any [97, 62, 62, 62, 61, 48, 120, 49, 70, 59] w hG
  rw [alive_one] at c1
  have c2 : ∀ w1, Below w.heap.size w w1 → Calls Tryz.prog 10 #[.string (bs [97, 32, 47, 42, 32, 98])] w1 (ScanPost w1 ([], 2, 52)) := fun w1 h => by
    have := scan_any [97, 32, 47, 42, 32, 98] w1 (hG.below h)
    rw [alive_two] at this
    exact this
  go_enter Tryz.func9, Tryz.ntmps9
  go_wp2_with fail
  refine c1.mono ?_
  rintro e w1 ⟨v, rfl, ho, b1⟩
  obtain ⟨g, cap, rfl, hcap, hmax, hBg, hgw, hcell⟩ := TokSl.cells ho (by simp)
  go_wp2_with fail
  refine (c2 _ b1).mono ?_
  rintro e w2 ⟨v2, rfl, ho2, b2⟩
  have kc : ∀ j, w2.cell? ⟨g, j, none⟩ = w1.cell? ⟨g, j, none⟩ := fun j => b2.cell (p := ⟨g, j, none⟩) hgw
  have a10 : w2.cell? ⟨g, 4, none⟩ = some (.int .i64 5) := by rw [kc]; exact hcell 1 _ rfl 0 _ rfl
  have a11 : w2.cell? ⟨g, 5, none⟩ = some (.int .i64 1) := by rw [kc]; exact hcell 1 _ rfl 1 _ rfl
  have a12 : w2.cell? ⟨g, 6, none⟩ = some (.string ⟨#[62, 62, 62, 61]⟩) := by rw [kc]; exact hcell 1 _ rfl 2 _ rfl
  have a13 : w2.cell? ⟨g, 7, none⟩ = some (.int .u64 0) := by rw [kc]; exact hcell 1 _ rfl 3 _ rfl
  have a20 : w2.cell? ⟨g, 8, none⟩ = some (.int .i64 3) := by rw [kc]; exact hcell 2 _ rfl 0 _ rfl
  have a21 : w2.cell? ⟨g, 9, none⟩ = some (.int .i64 5) := by rw [kc]; exact hcell 2 _ rfl 1 _ rfl
  have a22 : w2.cell? ⟨g, 10, none⟩ = some (.string ⟨#[]⟩) := by rw [kc]; exact hcell 2 _ rfl 2 _ rfl
  have a23 : w2.cell? ⟨g, 11, none⟩ = some (.int .u64 4629418941960159232) := by rw [kc]; exact hcell 2 _ rfl 3 _ rfl
  have HB : Hid (Below w.heap.size w w2) := b1.trans (b2.mono b1.size)
  clear c1 c2 hcell kc ho ho2 b1 b2 hcap hmax hBg hgw
  go_wp2_with fail
  go_ret
  exact ⟨rfl, HB.out⟩

end Go.Proofs.YtaikkmehmiiffaaGreatDoor.Lx
