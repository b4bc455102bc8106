/- Plain: groups of instructions. -/
import Derived.Test.YtjkemkggcnholaaGA
import Derived.Test.YtjkemkggcnholaaGB
namespace Go.Proofs.Ytjkemkggcnholaa.Fu
open Go.RowKit
set_option linter.unusedVariables false

/-- a group: its place, how many, its kind -/
structure Grp where
  p : Nat
  n : Nat
  k : Int

def grpC (g : Grp) : List Value := [.int .i64 g.p, .int .i64 g.n, .int .i64 g.k]

/-- the instructions from a place up to the next start -/
def segI (cx : List Ins) (st : List Int) (p : Nat) : List Ins := (cx.drop p).take ((endI cx.length (behindI p st)).toNat - p)

def grps (cx : List Ins) (st : List Int) : Nat → Nat → List Grp
  | 0, _ => []
  | f + 1, p => if p < cx.length then ⟨p, (firstI (segI cx st p)).2, (firstI (segI cx st p)).1⟩ :: grps cx st f (p + (firstI (segI cx st p)).2) else []

/-- the groups of some code -/
def groupsI (cx : List Ins) (st : List Int) : List Grp := grps cx st cx.length 0

theorem behind_behind (x y : Int) (h : x ≤ y) : ∀ l, behindI y (behindI x l) = behindI y l
  | [] => rfl
  | z :: l => by
    by_cases c : z ≤ x
    · have e : behindI x (z :: l) = behindI x l := List.dropWhile_cons_of_pos (by simpa using c)
      have e2 : behindI y (z :: l) = behindI y l := List.dropWhile_cons_of_pos (by simp; omega)
      rw [e, e2, behind_behind x y h l]
    · have e : behindI x (z :: l) = z :: l := List.dropWhile_cons_of_neg (by simpa using c)
      rw [e]

theorem first_pos (l : List Ins) : 1 ≤ (firstI l).2 := by
  unfold firstI
  repeat' split
  all_goals simp

theorem first_len (l : List Ins) (h : l ≠ []) : (firstI l).2 ≤ l.length := by
  rcases l with _ | ⟨a, _ | ⟨b, _ | ⟨c, r⟩⟩⟩
  · exact absurd rfl h
  · simp [firstI, arithB, testB, freeB, movesB]
  · have e : arithB [a, b] = false := rfl
    unfold firstI
    rw [e]
    rw [if_neg (by simp)]
    repeat' split
    all_goals simp
  · unfold firstI
    repeat' split
    all_goals simp

theorem first_kind (l : List Ins) : 0 ≤ (firstI l).1 ∧ (firstI l).1 ≤ 4 ∧ (firstI l).2 ≤ 3 ∧ ((firstI l).1 = 0 ↔ (firstI l).2 = 1) := by
  unfold firstI
  repeat' split
  all_goals simp

theorem first_three (l : List Ins) : firstI (l.take 3) = firstI l := by
  rcases l with _ | ⟨a, _ | ⟨b, _ | ⟨c, r⟩⟩⟩ <;> rfl

theorem behind_spec (x : Int) : ∀ l : List Int, l.Pairwise (· < ·) → (∀ z ∈ behindI x l, z ∈ l ∧ x < z) ∧ (∀ z ∈ l, x < z → z ∈ behindI x l) ∧ (behindI x l).Pairwise (· < ·)
  | [], _ => ⟨by simp [behindI], by simp, by simp [behindI]⟩
  | y :: l, h => by
    have h' := List.pairwise_cons.1 h
    obtain ⟨i1, i2, i3⟩ := behind_spec x l h'.2
    by_cases c : y ≤ x
    · have e : behindI x (y :: l) = behindI x l := List.dropWhile_cons_of_pos (by simpa using c)
      rw [e]
      refine ⟨fun z hz => ⟨List.mem_cons_of_mem _ (i1 z hz).1, (i1 z hz).2⟩, fun z hz hx => ?_, i3⟩
      rcases List.mem_cons.1 hz with rfl | hz
      · omega
      · exact i2 z hz hx
    · have e : behindI x (y :: l) = y :: l := List.dropWhile_cons_of_neg (by simpa using c)
      rw [e]
      refine ⟨fun z hz => ⟨hz, ?_⟩, fun z hz _ => hz, h⟩
      rcases List.mem_cons.1 hz with rfl | hz
      · omega
      · have := h'.1 z hz; omega

/-- what lies between a place and the end of the group there -/
theorem end_spec (n p : Nat) (st : List Int) (hs : st.Pairwise (· < ·)) (h : p < n) :
    ∃ e : Nat, endI n (behindI p st) = e ∧ p < e ∧ e ≤ n ∧ (e < n → (e : Int) ∈ st) ∧ ∀ z ∈ st, (p : Int) < z → (e : Int) ≤ z := by
  obtain ⟨i1, i2, i3⟩ := behind_spec p st hs
  cases hb : behindI p st with
  | nil =>
    refine ⟨n, rfl, h, Nat.le_refl _, fun c => absurd c (Nat.lt_irrefl _), fun z hz hp => ?_⟩
    have := i2 z hz hp
    rw [hb] at this
    cases this
  | cons y r =>
    rw [hb] at i1 i2 i3
    have hy := i1 y (by simp)
    rw [endI]
    by_cases c : y < n
    · rw [if_pos c]
      refine ⟨y.toNat, by omega, by omega, by omega, fun _ => ?_, fun z hz hp => ?_⟩
      · rw [show ((y.toNat : Nat) : Int) = y by omega]; exact hy.1
      · have := i2 z hz hp
        rcases List.mem_cons.1 this with rfl | hz'
        · omega
        · have := (List.pairwise_cons.1 i3).1 z hz'; omega
    · rw [if_neg c]
      refine ⟨n, rfl, h, Nat.le_refl _, fun c => absurd c (Nat.lt_irrefl _), fun z hz hp => ?_⟩
      have := i2 z hz hp
      rcases List.mem_cons.1 this with rfl | hz'
      · omega
      · have := (List.pairwise_cons.1 i3).1 z hz'; omega

theorem seg_len (cx : List Ins) (st : List Int) (p e : Nat) (he : endI cx.length (behindI p st) = e) (h2 : e ≤ cx.length) : (segI cx st p).length = e - p := by
  unfold segI
  rw [he, List.length_take, List.length_drop, Int.toNat_natCast]
  omega

/-- a group ends where it must -/
theorem step_in (cx : List Ins) (st : List Int) (p : Nat) (hs : st.Pairwise (· < ·)) (h : p < cx.length) :
    p + (firstI (segI cx st p)).2 ≤ cx.length ∧ ∀ k : Nat, 1 ≤ k → k < (firstI (segI cx st p)).2 → ((p + k : Nat) : Int) ∉ st := by
  obtain ⟨e, he, h1, h2, h3, h4⟩ := end_spec cx.length p st hs h
  have hl := seg_len cx st p e he h2
  have hf := first_len (segI cx st p) (by intro c; rw [c] at hl; simp at hl; omega)
  refine ⟨by omega, fun k k1 k2 hm => ?_⟩
  have := h4 _ hm (by omega)
  omega

theorem grps_same (cx : List Ins) (st : List Int) : ∀ f f' p, cx.length ≤ p + f → cx.length ≤ p + f' → grps cx st f p = grps cx st f' p
  | 0, 0, p, h, h' => rfl
  | 0, f' + 1, p, h, h' => by rw [grps, grps, if_neg (by omega)]
  | f + 1, 0, p, h, h' => by rw [grps, grps, if_neg (by omega)]
  | f + 1, f' + 1, p, h, h' => by
    have h1 := first_pos (segI cx st p)
    rw [grps, grps, grps_same cx st f f' _ (by omega) (by omega)]

theorem grps_fuel (cx : List Ins) (st : List Int) (f p : Nat) (h : cx.length ≤ p + f) : grps cx st f p = grps cx st (cx.length - p) p := grps_same cx st _ _ p h (by omega)

/-- the groups from a place on -/
def from' (cx : List Ins) (st : List Int) (p : Nat) : List Grp := grps cx st (cx.length - p) p

theorem from_end (cx : List Ins) (st : List Int) (p : Nat) (h : cx.length ≤ p) : from' cx st p = [] := by
  unfold from'
  rw [show cx.length - p = 0 by omega, grps]

theorem from_step (cx : List Ins) (st : List Int) (p : Nat) (h : p < cx.length) :
    from' cx st p = ⟨p, (firstI (segI cx st p)).2, (firstI (segI cx st p)).1⟩ :: from' cx st (p + (firstI (segI cx st p)).2) := by
  unfold from'
  obtain ⟨m, hm⟩ : ∃ m, cx.length - p = m + 1 := ⟨cx.length - p - 1, by omega⟩
  have h1 := first_pos (segI cx st p)
  rw [hm, grps, if_pos h, grps_fuel cx st m _ (by omega)]

theorem groups_from (cx : List Ins) (st : List Int) : groupsI cx st = from' cx st 0 := rfl

/-- how many instructions there are up to the next start, of three -/
def roomI (n : Nat) (st : List Int) (p : Nat) : Nat := if p + 1 < n ∧ ((p + 1 : Nat) : Int) ∉ st then (if p + 2 < n ∧ ((p + 2 : Nat) : Int) ∉ st then 3 else 2) else 1

theorem room_min (n : Nat) (st : List Int) (p e : Nat) (h1 : p < e) (h2 : e ≤ n) (h3 : e < n → (e : Int) ∈ st) (h4 : ∀ z ∈ st, (p : Int) < z → (e : Int) ≤ z) : roomI n st p = min 3 (e - p) := by
  unfold roomI
  by_cases c1 : e = p + 1
  · rw [if_neg (fun h => ?_)]
    · omega
    · exact h.2 (c1 ▸ h3 (by omega))
  · rw [if_pos ⟨by omega, fun hm => by have := h4 _ hm (by omega); omega⟩]
    by_cases c2 : e = p + 2
    · rw [if_neg (fun h => ?_)]
      · omega
      · exact h.2 (c2 ▸ h3 (by omega))
    · rw [if_pos ⟨by omega, fun hm => by have := h4 _ hm (by omega); omega⟩]
      omega

theorem first_room (cx : List Ins) (st : List Int) (p : Nat) (hs : st.Pairwise (· < ·)) (h : p < cx.length) : firstI (segI cx st p) = firstI ((cx.drop p).take (roomI cx.length st p)) := by
  obtain ⟨e, he, h1, h2, h3, h4⟩ := end_spec cx.length p st hs h
  rw [room_min cx.length st p e h1 h2 h3 h4, ← first_three]
  unfold segI
  rw [he, Int.toNat_natCast, List.take_take]

end Go.Proofs.Ytjkemkggcnholaa.Fu
