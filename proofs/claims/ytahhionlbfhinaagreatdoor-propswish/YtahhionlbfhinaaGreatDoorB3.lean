/- New. -/
import Derived.Test.YtahhionlbfhinaaGreatDoorPH
import Derived.Below
namespace Go.Proofs.YtahhionlbfhinaaGreatDoor.Sp
open Go.RowKit Go.Proofs.YtahhionlbfhinaaGreatDoor.Hp
set_option linter.unusedVariables false

set_option maxRecDepth 100000 in
theorem new_any (w : World) (most : Int) :
    Calls Tryz.prog 79 #[.int .i64 most] w fun e w' => ∃ tb O, e = .returned (.pointer (some ⟨tb, 0, none⟩)) ∧ Tree w' w.heap.size tb O most [] ∧ Below w.heap.size w w' := by
  have HM : Hid (∀ w' , w' = (w.alloc (.map #[] 0)).alloc (.cells #[.int .i64 most, .slice none 0 0, .map (some w.heap.size)] 167) → Tree w' w.heap.size (w.heap.size + 1) (fun b => b = w.heap.size + 1 ∨ b = w.heap.size ∨ (Value.slice none 0 0).ownBlock = some b) most [] ∧ Below w.heap.size w w') := by
    rintro w' rfl
    refine ⟨⟨[], .slice none 0 0, w.heap.size, ⟨at_two _ _ _, OwnR.nil _ _, ⟨#[], 0, at_old _ _ _ _ (at_new _ _), rfl⟩, ⟨rfl, fun i l s h => by simp at h, fun i j a b h => by simp at h⟩, fun x hx => by simp at hx, by simp, by omega, by omega, by omega, by simp [Value.ownBlock], by simp [Value.ownBlock], fun b => Iff.rfl⟩⟩, B2 _ _ _⟩
  have hmm : (Instr.makeMap 165 none).run Tryz.prog w = .ok (.map (some w.heap.size)) (w.alloc (.map #[] 0)) := rfl
  go_enter Tryz.func79, Tryz.ntmps79
  go_wp2_with fail
  go_ret
  obtain ⟨h1, h2⟩ := HM.out _ rfl
  exact ⟨_, _, rfl, h1, h2⟩

end Go.Proofs.YtahhionlbfhinaaGreatDoor.Sp

/- Cells, plain: the document's Make and Break, and what Break does: a cell is hit if its way down comes to the broken one. -/
namespace Go.Proofs.YtahhionlbfhinaaGreatDoor.Ce
set_option linter.unusedVariables false

/-- a cell: is it valid, on which does it stand -/
structure Cel where
  ok : Bool
  on : Int

def validOn (l : List Cel) (on : Int) : Bool := decide (on = -1) || (decide (0 ≤ on) && ((l[on.toNat]?).map Cel.ok).getD false)

def makeD (l : List Cel) (on : Int) : List Cel := l ++ [⟨validOn l on, on⟩]

/-- one round of the document's loop, at place i -/
def roundD (i : Nat) (r : List Cel × Nat) : List Cel × Nat :=
  match r.1[i]? with
  | none => r
  | some c => if c.ok = true ∧ 0 ≤ c.on ∧ c.on < (i : Int) ∧ ((r.1[c.on.toNat]?).map Cel.ok).getD true = false then (r.1.set i ⟨false, c.on⟩, r.2 + 1) else r

def roundsD : Nat → Nat → List Cel × Nat → List Cel × Nat
  | _, 0, r => r
  | i, n + 1, r => roundsD (i + 1) n (roundD i r)

def okAt (l : List Cel) (n : Nat) : Bool := ((l[n]?).map Cel.ok).getD false

def breakD (l : List Cel) (n : Int) : List Cel × Nat :=
  if 0 ≤ n ∧ okAt l n.toNat = true then
    match l[n.toNat]? with
    | some c => roundsD (n.toNat + 1) (l.length - (n.toNat + 1)) (l.set n.toNat ⟨false, c.on⟩, 1)
    | none => (l, 0)
  else (l, 0)

/-- does the way down from i come to n? (fuel: more than i is enough) -/
def hitF (l : List Cel) (n : Nat) : Nat → Nat → Bool
  | 0, i => decide (i = n)
  | f + 1, i => decide (i = n) || (match l[i]? with
    | none => false
    | some c => decide (0 ≤ c.on ∧ c.on < (i : Int)) && hitF l n f c.on.toNat)

def hit (l : List Cel) (n i : Nat) : Bool := hitF l n (i + 1) i

theorem hitF_more (l : List Cel) (n : Nat) : ∀ (f g i : Nat), i < f → i < g → hitF l n f i = hitF l n g i
  | 0, g, i, h, _ => by omega
  | f + 1, 0, i, _, h => by omega
  | f + 1, g + 1, i, h1, h2 => by
    unfold hitF
    cases l[i]? with
    | none => rfl
    | some c =>
      simp only
      by_cases q : 0 ≤ c.on ∧ c.on < (i : Int)
      · rw [hitF_more l n f g c.on.toNat (by omega) (by omega)]
      · rw [decide_eq_false q, Bool.false_and, Bool.false_and]

theorem hit_eq (l : List Cel) (n i : Nat) : hit l n i = (decide (i = n) || (match l[i]? with
    | none => false
    | some c => decide (0 ≤ c.on ∧ c.on < (i : Int)) && hit l n c.on.toNat)) := by
  unfold hit
  rw [hitF]
  cases l[i]? with
  | none => rfl
  | some c =>
    simp only
    by_cases q : 0 ≤ c.on ∧ c.on < (i : Int)
    · rw [hitF_more l n i (c.on.toNat + 1) c.on.toNat (by omega) (by omega)]
    · rw [decide_eq_false q, Bool.false_and, Bool.false_and]

/-- nothing below n is hit -/
theorem hit_low (l : List Cel) (n : Nat) : ∀ m i, i < m → i < n → hit l n i = false := by
  intro m
  induction m with
  | zero => intro i h; omega
  | succ m ih =>
    intro i h1 h2
    rw [hit_eq, decide_eq_false (by omega), Bool.false_or]
    cases l[i]? with
    | none => rfl
    | some c =>
      simp only
      by_cases q : 0 ≤ c.on ∧ c.on < (i : Int)
      · rw [ih c.on.toNat (by omega) (by omega), Bool.and_false]
      · rw [decide_eq_false q, Bool.false_and]

/-- a valid cell stands on nothing, or on a valid one below it -/
def Inv (l : List Cel) : Prop := ∀ (i : Nat) (c : Cel), l[i]? = some c → c.ok = true → c.on = -1 ∨ (0 ≤ c.on ∧ c.on < (i : Int) ∧ okAt l c.on.toNat = true)

theorem inv_make {l : List Cel} (h : Inv l) (on : Int) : Inv (makeD l on) := by
  intro i c hc hok
  unfold makeD at hc ⊢
  rcases Nat.lt_or_ge i l.length with q | q
  · rw [List.getElem?_append_left q] at hc
    rcases h i c hc hok with e | ⟨e1, e2, e3⟩
    · exact Or.inl e
    · refine Or.inr ⟨e1, e2, ?_⟩
      unfold okAt at *
      rw [List.getElem?_append_left (by omega)]
      exact e3
  · rw [List.getElem?_append_right q, List.getElem?_singleton] at hc
    split at hc
    · cases hc
      simp only at hok ⊢
      unfold validOn at hok
      rw [Bool.or_eq_true, Bool.and_eq_true] at hok
      rcases hok with e | ⟨e1, e2⟩
      · exact Or.inl (of_decide_eq_true e)
      · have e1 := of_decide_eq_true e1
        have hl : on.toNat < l.length := by
          rcases Nat.lt_or_ge on.toNat l.length with q2 | q2
          · exact q2
          · rw [List.getElem?_eq_none q2] at e2; cases e2
        refine Or.inr ⟨e1, by omega, ?_⟩
        unfold okAt
        rw [List.getElem?_append_left hl]
        exact e2
    · cases hc

/-- the document's loop, where it has come to i: those below are as they must be -/
structure Way (l : List Cel) (n i : Nat) (r : List Cel × Nat) : Prop where
  len : r.1.length = l.length
  at' : ∀ (k : Nat) (c : Cel), l[k]? = some c → r.1[k]? = some ⟨c.ok && !(decide (k < i) && hit l n k), c.on⟩

theorem way_round {l : List Cel} (hI : Inv l) {n i : Nat} {r : List Cel × Nat} (h : Way l n i r) (hi : n < i) : Way l n (i + 1) (roundD i r) ∧ (roundD i r).2 = r.2 + (if okAt l i = true ∧ hit l n i = true then 1 else 0) := by
  have key : ∀ k, k ≠ i → (decide (k < i + 1) = decide (k < i)) := fun k hk => by
    by_cases q : k < i
    · rw [decide_eq_true q, decide_eq_true (by omega)]
    · rw [decide_eq_false q, decide_eq_false (by omega)]
  cases hc : l[i]? with
  | none =>
    have hr : r.1[i]? = none := List.getElem?_eq_none (by rw [h.len]; exact List.getElem?_eq_none_iff.1 hc)
    have e : roundD i r = r := by unfold roundD; rw [hr]
    rw [e]
    refine ⟨⟨h.len, fun k c hk => ?_⟩, ?_⟩
    · rw [h.at' k c hk, key k (fun q => by rw [q, hc] at hk; cases hk)]
    · unfold okAt
      rw [hc]
      simp
  | some c =>
    have hr := h.at' i c hc
    rw [decide_eq_false (show ¬ i < i by omega), Bool.false_and, Bool.not_false, Bool.and_true] at hr
    have hok : okAt l i = c.ok := by unfold okAt; rw [hc]; rfl
    have hhit : hit l n i = (decide (0 ≤ c.on ∧ c.on < (i : Int)) && hit l n c.on.toNat) := by
      rw [hit_eq, decide_eq_false (show ¬ i = n by omega), Bool.false_or, hc]
    rw [hok]
    by_cases q : c.ok = true ∧ hit l n i = true
    · have q2 := q.2
      rw [hhit, Bool.and_eq_true] at q2
      have q3 := of_decide_eq_true q2.1
      have hlt : c.on.toNat < i := by omega
      have hil : i < l.length := (List.getElem?_eq_some_iff.1 hc).1
      have hex : ∃ d, l[c.on.toNat]? = some d := ⟨_, List.getElem?_eq_getElem (by omega)⟩
      obtain ⟨d, hd⟩ := hex
      have hrd := h.at' _ d hd
      rw [decide_eq_true hlt, Bool.true_and, q2.2] at hrd
      have e : roundD i r = (r.1.set i ⟨false, c.on⟩, r.2 + 1) := by
        unfold roundD
        rw [hr]
        simp only
        rw [if_pos ⟨q.1, q3.1, q3.2, by rw [hrd]; simp⟩]
      rw [e, if_pos q]
      refine ⟨⟨by rw [List.length_set]; exact h.len, fun k c' hk => ?_⟩, rfl⟩
      by_cases e5 : k = i
      · subst e5
        rw [hc] at hk
        cases hk
        rw [List.getElem?_set_self (by rw [h.len]; exact hil), decide_eq_true (by omega), Bool.true_and, q.2]
        simp
      · rw [List.getElem?_set_ne (fun e6 => e5 e6.symm), h.at' k c' hk, key k e5]
    · have e : roundD i r = r := by
        unfold roundD
        rw [hr]
        simp only
        rw [if_neg ?_]
        rintro ⟨a1, a2, a3, a4⟩
        apply q
        refine ⟨a1, ?_⟩
        rw [hhit, decide_eq_true ⟨a2, a3⟩, Bool.true_and]
        rcases hI i c hc a1 with b | ⟨b1, b2, b3⟩
        · omega
        · have hex : ∃ d, l[c.on.toNat]? = some d := by
            unfold okAt at b3
            cases hd : l[c.on.toNat]? with
            | none => rw [hd] at b3; cases b3
            | some d => exact ⟨d, rfl⟩
          obtain ⟨d, hd⟩ := hex
          rw [h.at' _ d hd, decide_eq_true (show c.on.toNat < i by omega), Bool.true_and] at a4
          have hdk : d.ok = true := by unfold okAt at b3; rw [hd] at b3; exact b3
          simp only [Option.map_some, Option.getD_some, hdk, Bool.true_and] at a4
          simpa using a4
      rw [e, if_neg q]
      refine ⟨⟨h.len, fun k c' hk => ?_⟩, rfl⟩
      by_cases e5 : k = i
      · subst e5
        rw [hc] at hk
        cases hk
        rw [hr, decide_eq_true (show k < k + 1 by omega), Bool.true_and]
        congr 2
        cases ho : c.ok with
        | false => rfl
        | true =>
          have : hit l n k = false := by
            cases hh : hit l n k with
            | false => rfl
            | true => exact absurd ⟨ho, hh⟩ q
          rw [this]
          rfl
      · rw [h.at' k c' hk, key k e5]

end Go.Proofs.YtahhionlbfhinaaGreatDoor.Ce
