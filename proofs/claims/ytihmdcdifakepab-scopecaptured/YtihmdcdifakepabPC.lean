/- ScopeCaptured: what is captured, plain, and rows of truths. -/
import Derived.Test.YtihmdcdifakepabPB
import Derived.Test.YtihmdcdifakepabNQ
import Derived.Test.YtihmdcdifakepabOC
import Derived.Test.YtihmdcdifakepabOA
import Derived.Deep.OwnRows
namespace Go.Proofs.Ytihmdcdifakepab.Rv
open Go.RowKit Go.Proofs.Ytihmdcdifakepab.Sc Go.Proofs.Ytihmdcdifakepab.Rz
set_option linter.unusedVariables false
set_option linter.unusedSimpArgs false

/-- a row of truths in a block -/
structure SnAt (wq : World) (sb : Nat) (bs : List Bool) (wr : World) : Prop where
  ch : Chg (fun b => b = sb) wq wr
  bx : wr.heap[sb]? = some (.cells (bs.map Value.bool).toArray 4 (0, 0))

theorem SnAt.below {wq wr wb : World} {sb : Nat} {bs : List Bool} (h : SnAt wq sb bs wr) (hb : Below wr.heap.size wr wb) : SnAt wq sb bs wb :=
  ⟨h.ch.trans (Chg.of_below hb) (fun _ _ (q : _ = sb) => q), (hb.block sb (Array.getElem?_eq_some_iff.1 h.bx).1).trans h.bx⟩
theorem SnAt.read {wq wr : World} {sb : Nat} {bs : List Bool} (h : SnAt wq sb bs wr) {j : Nat} {b : Bool} (hj : bs[j]? = some b) : wr.cell? ⟨sb, j, none⟩ = some (.bool b) ∧ wr.frozen? ⟨sb, j, none⟩ = false := by
  refine ⟨?_, frozen_of_row wr sb j _ 4 h.bx⟩
  rw [cell_of_row wr sb j _ 4 (0, 0) h.bx]
  simp [hj]
theorem SnAt.put {wq wr : World} {sb : Nat} {bs : List Bool} (h : SnAt wq sb bs wr) (j : Nat) (b : Bool) : SnAt wq sb (bs.set j b) (wr.setCell ⟨sb, j, none⟩ (.bool b)) := by
  refine ⟨h.ch.trans (Chg.set (S := fun b => b = sb) wr ⟨sb, j, none⟩ _ rfl) (fun _ _ q => q), ?_⟩
  rw [heap_setCell_same wr sb j _ 4 (.bool b) h.bx]
  simp [List.map_set]

/-- a variable that holds what was told -/
theorem row_cells {β : Type} {enc : β → List Value} {k : Nat} {e : TypeId} {B : Nat} {w : World} {p : Option Addr} {m q : Nat} {xs : List β} (hk : ∀ y, (enc y).length = k) (h : OwnR enc k e B w (.slice p m q) xs) {i : Nat} {y : β} (hi : xs[i]? = some y) :
    ∃ g, p = some ⟨g, 0, none⟩ ∧ ∀ (W : World), Below w.heap.size w W → ∀ (j : Nat) (u : Value), (enc y)[j]? = some u → W.cell? ⟨g, i * k + j, none⟩ = some u := by
  obtain ⟨ad, cap, e1, l1, l2, hg⟩ := own_slice h
  cases e1
  obtain ⟨g, rfl⟩ := hg (fun e => by rw [e] at hi; simp at hi)
  obtain ⟨_, _, hlt, _, _, r6, _⟩ := h.read hk
  exact ⟨g, rfl, fun W hW j u hu => Sc.cells_below hW _ _ (r6 i y hi j u hu)⟩

theorem made_rep (v : Value) (n : Nat) : madeCells #[v] n = (List.replicate n v).toArray := by
  apply Array.ext
  · simp [madeCells]
  · intro i h1 h2
    simp [madeCells, Nat.mod_one]


/-- does the use at i make a variable of another function one that is free? -/
def hitB (us : List Rz.Us) (own : List Nat) (vr : List Rz.Vr) (v i : Nat) : Bool := match us[i]?, own[i]?, vr[v]? with
  | some u, some o, some x => decide (u.var = (v : Int)) && o != x.fn
  | _, _, _ => false
def frB (us : List Rz.Us) (own : List Nat) (vr : List Rz.Vr) (k : Nat) : List Bool := (List.range vr.length).map (fun v => (List.range k).any (hitB us own vr v))

theorem fr_len (us : List Rz.Us) (own : List Nat) (vr : List Rz.Vr) (k : Nat) : (frB us own vr k).length = vr.length := by unfold frB; simp
theorem fr_get (us : List Rz.Us) (own : List Nat) {vr : List Rz.Vr} (k : Nat) {v : Nat} (h : v < vr.length) : (frB us own vr k)[v]? = some ((List.range k).any (hitB us own vr v)) := by
  unfold frB
  rw [List.getElem?_map, List.getElem?_range h]
  rfl
theorem fr_zero (us : List Rz.Us) (own : List Nat) (vr : List Rz.Vr) : frB us own vr 0 = List.replicate vr.length false := by
  apply List.ext_getElem?
  intro v
  rcases Nat.lt_or_ge v vr.length with c | c
  · rw [fr_get us own 0 c, List.getElem?_replicate, if_pos c]
    rfl
  · rw [List.getElem?_eq_none (by rw [fr_len]; exact c), List.getElem?_eq_none (by simpa using c)]

/-- nothing more is free -/
theorem fr_skip {us : List Rz.Us} {own : List Nat} {vr : List Rz.Vr} {k : Nat} (h : ∀ v, hitB us own vr v k = false) : frB us own vr (k + 1) = frB us own vr k := by
  apply List.ext_getElem?
  intro v
  rcases Nat.lt_or_ge v vr.length with c | c
  · rw [fr_get us own _ c, fr_get us own _ c, List.range_succ, List.any_append]
    simp [h v]
  · rw [List.getElem?_eq_none (by rw [fr_len]; exact c), List.getElem?_eq_none (by rw [fr_len]; exact c)]
/-- one more is free -/
theorem fr_set {us : List Rz.Us} {own : List Nat} {vr : List Rz.Vr} {k v0 : Nat} (hv : v0 < vr.length) (h : ∀ v, hitB us own vr v k = decide (v = v0)) : frB us own vr (k + 1) = (frB us own vr k).set v0 true := by
  apply List.ext_getElem?
  intro v
  rcases Nat.lt_or_ge v vr.length with c | c
  · rw [fr_get us own _ c, List.getElem?_set, fr_len, fr_get us own _ c, List.range_succ, List.any_append]
    by_cases d : v0 = v
    · subst d
      rw [if_pos rfl, if_pos c]
      simp [h v0]
    · rw [if_neg d]
      simp [h v, Ne.symm d]
  · rw [List.getElem?_eq_none (by rw [fr_len]; exact c), List.getElem?_eq_none (by rw [List.length_set, fr_len]; exact c)]

theorem fr_end {s : Rz.RS} {own : List Nat} (h : Cp s own) {k : Nat} (hk : s.uses.length ≤ k) {v : Nat} {x : Rz.Vr} (hx : s.vars[v]? = some x) : (frB s.uses own s.vars k)[v]? = some x.cap := by
  have hl : v < s.vars.length := (List.getElem?_eq_some_iff.1 hx).1
  rw [fr_get s.uses own k hl]
  congr 1
  rw [Bool.eq_iff_iff, h.cap v x hx, List.any_eq_true]
  refine ⟨?_, ?_⟩
  · rintro ⟨j, _, hj⟩
    unfold hitB at hj
    rw [hx] at hj
    cases hu : s.uses[j]? with
    | none => rw [hu] at hj; cases hj
    | some u =>
      cases ho : own[j]? with
      | none => rw [hu, ho] at hj; cases hj
      | some o =>
        rw [hu, ho] at hj
        simp at hj
        exact ⟨j, u, o, hu, ho, hj.1, hj.2⟩
  · rintro ⟨j, u, o, hu, ho, h1, h2⟩
    refine ⟨j, List.mem_range.2 (Nat.lt_of_lt_of_le (List.getElem?_eq_some_iff.1 hu).1 hk), ?_⟩
    unfold hitB
    rw [hx, hu, ho]
    simp [h1, h2]

theorem cap_of {n : Nat} {x : Nd} {sl : Sli (Tr n)} {s : Rz.RS} (hr : rootP (n + 1) ((x, sl) : Nd × Sli (Tr n)) = true) (hR : resolveP bi (n + 1) ((x, sl) : Nd × Sli (Tr n)) = .ok s) : Cp s (ownersT (n + 1) ((x, sl) : Nd × Sli (Tr n)) 0 0).1 := by
  obtain ⟨h1, h2, h3⟩ := root_parts hr
  exact captured_plain bi n ((x, sl) : Nd × Sli (Tr n)) s h1 h2 h3 hR

theorem res_bound3 {n : Nat} {x : Nd} {sl : Sli (Tr n)} {s : Rz.RS} (hsz : szT (n + 1) ((x, sl) : Nd × Sli (Tr n)) ≤ 131072) (hR : resolveP bi (n + 1) ((x, sl) : Nd × Sli (Tr n)) = .ok s) : s.scopes.length ≤ 2000000 ∧ s.vars.length ≤ 2000000 ∧ s.uses.length ≤ 2000000 := by
  have hcr : cr s ≤ 1 + 8 * (sl.xs.map (szT n)).sum := by
    have := cr_block (ndR n) (szT n) (cr_res bi n).1 sl.xs (startP x.pl) s hR
    have e1 : cr (startP x.pl) = 1 := rfl
    omega
  have hsum : szT (n + 1) ((x, sl) : Nd × Sli (Tr n)) = 1 + (sl.xs.map (szT n)).sum := rfl
  have hc2 : cr s ≤ 1048577 := by omega
  unfold cr at hc2
  exact ⟨by omega, by omega, by omega⟩
end Go.Proofs.Ytihmdcdifakepab.Rv
