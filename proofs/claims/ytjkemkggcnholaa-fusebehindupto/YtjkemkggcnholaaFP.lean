/- Plain: a list that is sorted and compacted is the list that is put together number by number, rising, each once. -/
import Derived.Lib.SlicesCompact
import Derived.Lib.RowBridge
namespace Go.Proofs.Ytjkemkggcnholaa.Fu
open Go Go.Lib

set_option linter.unusedVariables false

/-- Two rising lists of the same numbers are one. -/
theorem rise_eq : ∀ {a b : List Int}, a.Pairwise (· < ·) → b.Pairwise (· < ·) → (∀ x, x ∈ a ↔ x ∈ b) → a = b
  | [], [], _, _, _ => rfl
  | [], y :: b, _, _, h => by have := (h y).2 (by simp); simp at this
  | x :: a, [], _, _, h => by have := (h x).1 (by simp); simp at this
  | x :: a, y :: b, ha, hb, h => by
    rw [List.pairwise_cons] at ha hb
    have e : x = y := by
      have h1 := (h x).1 (by simp)
      have h2 := (h y).2 (by simp)
      rw [List.mem_cons] at h1 h2
      rcases h1 with e | h1
      · exact e
      · rcases h2 with e | h2
        · exact e.symm
        · have := ha.1 y h2; have := hb.1 x h1; omega
    subst e
    congr 1
    refine rise_eq ha.2 hb.2 fun z => ?_
    constructor
    · intro hz
      have := (h z).1 (by simp [hz])
      rw [List.mem_cons] at this
      rcases this with e | h1
      · have := ha.1 z hz; omega
      · exact h1
    · intro hz
      have := (h z).2 (by simp [hz])
      rw [List.mem_cons] at this
      rcases this with e | h1
      · have := hb.1 z hz; omega
      · exact h1

theorem upto_mem (d : Array Int) (x : Int) : ∀ m, x ∈ compactUpTo d m ↔ ∃ j, j < m ∧ d[j]! = x
  | 0 => by simp [compactUpTo]
  | m + 1 => by
    rw [compactUpTo_succ, List.mem_append, upto_mem d x m]
    constructor
    · rintro (⟨j, h, e⟩ | h)
      · exact ⟨j, by omega, e⟩
      · by_cases k : keeps d m = true
        · rw [if_pos k] at h
          exact ⟨m, by omega, (List.mem_singleton.1 h).symm⟩
        · rw [if_neg k] at h; simp at h
    · rintro ⟨j, h, e⟩
      by_cases hj : j < m
      · exact .inl ⟨j, hj, e⟩
      · have : j = m := by omega
        subst this
        by_cases k : keeps d j = true
        · right; rw [if_pos k, e]; simp
        · left
          simp only [keeps, decide_eq_true_eq, not_or, ne_eq, Decidable.not_not] at k
          exact ⟨j - 1, by omega, by rw [← k.2]; exact e⟩

theorem upto_rise (d : Array Int) (hs : ∀ i j, i ≤ j → j < d.size → d[i]! ≤ d[j]!) : ∀ m, m ≤ d.size → (compactUpTo d m).Pairwise (· < ·)
  | 0, _ => by simp [compactUpTo]
  | m + 1, h => by
    rw [compactUpTo_succ, List.pairwise_append]
    refine ⟨upto_rise d hs m (by omega), ?_, ?_⟩
    · split <;> simp
    · intro a ha b hb
      obtain ⟨j, hj, rfl⟩ := (upto_mem d a m).1 ha
      by_cases k : keeps d m = true
      · rw [if_pos k] at hb
        have hb := List.mem_singleton.1 hb
        subst hb
        simp only [keeps, decide_eq_true_eq] at k
        have h1 := hs j (m - 1) (by omega) (by omega)
        have h2 := hs (m - 1) m (by omega) (by omega)
        rcases k with k | k
        · omega
        · have : d[m - 1]! ≠ d[m]! := fun e => k e.symm
          omega
      · rw [if_neg k] at hb; simp at hb

theorem compact_mem (zs : List Int) (x : Int) : x ∈ compact zs ↔ x ∈ zs := by
  unfold compact
  rw [upto_mem]
  constructor
  · rintro ⟨j, h, e⟩
    rw [← e]
    have : (zs.toArray[j]! : Int) = zs[j] := by simp [getElem!_pos, h]
    rw [this]; exact List.getElem_mem h
  · intro h
    obtain ⟨j, hj, e⟩ := List.getElem_of_mem h
    exact ⟨j, hj, by simp [getElem!_pos, hj, e]⟩

/-- The sorted numbers, each once. -/
def risen (zs : List Int) : List Int := compact (zs.mergeSort fun x y => decide (x ≤ y))

theorem risen_mem (zs : List Int) (x : Int) : x ∈ risen zs ↔ x ∈ zs := by
  unfold risen; rw [compact_mem, List.mem_mergeSort]

theorem risen_rise (zs : List Int) : (risen zs).Pairwise (· < ·) := by
  unfold risen compact
  have hp : (zs.mergeSort fun x y => decide (x ≤ y)).Pairwise fun x y => decide (x ≤ y) = true :=
    List.pairwise_mergeSort (fun a b c h1 h2 => by simp at *; omega) (fun a b => by simp; omega) zs
  generalize zs.mergeSort (fun x y => decide (x ≤ y)) = l at hp
  refine upto_rise _ ?_ _ (by simp)
  intro i j h1 h2
  have hj : j < l.length := by simpa using h2
  have hi : i < l.length := by omega
  rw [show (l.toArray[i]! : Int) = l[i] by simp [getElem!_pos, hi], show (l.toArray[j]! : Int) = l[j] by simp [getElem!_pos, hj]]
  rcases Nat.lt_or_ge i j with h | h
  · have := List.pairwise_iff_getElem.1 hp i j hi hj h
    simpa using this
  · have : i = j := by omega
    subst this; omega

/-- A number more, as the document's list is put together: of the rest of the list, whether it was put already. -/
def putF (n : Int) : Bool → List Int → List Int
  | d, [] => if d then [] else [n]
  | d, x :: l => (if !d && decide (n ≤ x) then [n] else []) ++ (if x != n then [x] else []) ++ putF n (d || decide (n ≤ x)) l

theorem putF_true (n : Int) : ∀ l, putF n true l = l.filter (· != n)
  | [] => rfl
  | x :: l => by
    rw [putF, Bool.true_or, putF_true n l, List.filter_cons]
    by_cases h : (x != n) = true <;> simp [h]

theorem putF_ok (n : Int) : ∀ l : List Int, l.Pairwise (· < ·) → (putF n false l).Pairwise (· < ·) ∧ ∀ x, x ∈ putF n false l ↔ x = n ∨ x ∈ l
  | [], _ => by simp [putF]
  | y :: l, h => by
    rw [List.pairwise_cons] at h
    obtain ⟨i1, i2⟩ := putF_ok n l h.2
    by_cases c : n ≤ y
    · have e : putF n false (y :: l) = n :: ((y :: l).filter (· != n)) := by
        rw [putF]; simp only [c, decide_true, Bool.not_false, Bool.and_self, if_true, Bool.or_true, putF_true, List.filter_cons]
        by_cases h : (y != n) = true <;> simp [h]
      rw [e]
      constructor
      · rw [List.pairwise_cons]
        constructor
        · intro a ha
          rw [List.mem_filter] at ha
          have h1 : a ≠ n := by simpa using ha.2
          have h2 : y ≤ a := by
            rcases List.mem_cons.1 ha.1 with e | e
            · omega
            · have := h.1 a e; omega
          omega
        · exact List.Pairwise.filter _ (List.pairwise_cons.2 h)
      · intro x
        rw [List.mem_cons, List.mem_filter]
        by_cases e : x = n
        · simp [e]
        · simp [e]
    · have e : putF n false (y :: l) = y :: putF n false l := by
        rw [putF]
        have : (y != n) = true := by simp; omega
        simp [c, this]
      rw [e]
      constructor
      · rw [List.pairwise_cons]
        refine ⟨fun a ha => ?_, i1⟩
        rcases (i2 a).1 ha with e | e
        · omega
        · exact h.1 a e
      · intro x
        rw [List.mem_cons, List.mem_cons, i2]
        constructor
        · rintro (e | e | e)
          · exact .inr (.inl e)
          · exact .inl e
          · exact .inr (.inr e)
        · rintro (e | e | e)
          · exact .inr (.inl e)
          · exact .inl e
          · exact .inr (.inr e)

/-- The document's list of some numbers. -/
def putAll (zs : List Int) : List Int := zs.foldl (fun l n => putF n false l) []

theorem putAll_go : ∀ (zs l : List Int), l.Pairwise (· < ·) → (zs.foldl (fun l n => putF n false l) l).Pairwise (· < ·) ∧ ∀ x, x ∈ zs.foldl (fun l n => putF n false l) l ↔ x ∈ l ∨ x ∈ zs
  | [], l, h => ⟨h, by simp⟩
  | n :: zs, l, h => by
    obtain ⟨p1, p2⟩ := putF_ok n l h
    obtain ⟨q1, q2⟩ := putAll_go zs _ p1
    refine ⟨q1, fun x => ?_⟩
    rw [List.foldl_cons, q2, p2, List.mem_cons]
    constructor
    · rintro ((e | e) | e)
      · exact .inr (.inl e)
      · exact .inl e
      · exact .inr (.inr e)
    · rintro (e | e | e)
      · exact .inl (.inr e)
      · exact .inl (.inl e)
      · exact .inr e

theorem risen_put (zs : List Int) : risen zs = putAll zs := by
  obtain ⟨q1, q2⟩ := putAll_go zs [] List.Pairwise.nil
  refine rise_eq (risen_rise zs) q1 fun x => ?_
  unfold putAll; rw [risen_mem, q2]; simp

theorem risen_length (zs : List Int) : (risen zs).length ≤ zs.length := by
  unfold risen
  have := compact_length_le (zs.mergeSort fun x y => decide (x ≤ y))
  simpa using this

end Go.Proofs.Ytjkemkggcnholaa.Fu
