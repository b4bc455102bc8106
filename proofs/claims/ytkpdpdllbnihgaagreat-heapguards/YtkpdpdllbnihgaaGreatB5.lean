/- PO, CA, CB, CC, CD -/
import Derived.Test.YtkpdpdllbnihgaaGreatB4
import Derived.Below
set_option linter.unusedVariables false
set_option linter.unusedSimpArgs false
set_option maxRecDepth 100000
set_option maxHeartbeats 40000000
/- New. -/
namespace Go.Proofs.YtkpdpdllbnihgaaGreat.Sp
open Go.RowKit Go.Proofs.YtkpdpdllbnihgaaGreat.Hp
set_option maxRecDepth 100000 in
theorem new_any (w : World) (most : Int) :
    Calls Tryz.prog 62 #[.int .i64 most] w fun e w' => ∃ tb O, e = .returned (.pointer (some ⟨tb, 0, none⟩)) ∧ Tree w' w.heap.size tb O most [] ∧ Below w.heap.size w w' := by
  have HM : Hid (∀ w' , w' = (w.alloc (.map #[] 0)).alloc (.cells #[.int .i64 most, .slice none 0 0, .map (some w.heap.size)] 139) → Tree w' w.heap.size (w.heap.size + 1) (fun b => b = w.heap.size + 1 ∨ b = w.heap.size ∨ (Value.slice none 0 0).ownBlock = some b) most [] ∧ Below w.heap.size w w') := by
    rintro w' rfl
    refine ⟨⟨[], .slice none 0 0, w.heap.size, ⟨at_two _ _ _, OwnR.nil _ _, ⟨#[], 0, at_old _ _ _ _ (at_new _ _), rfl⟩, ⟨rfl, fun i l s h => by simp at h, fun i j a b h => by simp at h⟩, fun x hx => by simp at hx, by simp, by omega, by omega, by omega, by simp [Value.ownBlock], by simp [Value.ownBlock], fun b => Iff.rfl⟩⟩, B2 _ _ _⟩
  have hmm : (Instr.makeMap 137 none).run Tryz.prog w = .ok (.map (some w.heap.size)) (w.alloc (.map #[] 0)) := rfl
  go_enter Tryz.func62, Tryz.ntmps62
  go_wp2_with fail
  go_ret
  obtain ⟨h1, h2⟩ := HM.out _ rfl
  exact ⟨_, _, rfl, h1, h2⟩
end Go.Proofs.YtkpdpdllbnihgaaGreat.Sp
/- Cells, plain: the document's Make and Break, and what Break does: a cell is hit if its way down comes to the broken one. -/
namespace Go.Proofs.YtkpdpdllbnihgaaGreat.Ce
/-- a cell: is it valid, on which does it stand -/
structure Cel where
  ok : Bool
  on : Int
def validOn (l : List Cel) (on : Int) : Bool := decide (on = -1) || (decide (0 ≤ on) && ((l[on.toNat]?).map Cel.ok).getD false)
def makeD (l : List Cel) (on : Int) : List Cel := l ++ [⟨validOn l on, on⟩]
/-- one round of the document's loop, at place i -/
def roundD (i : Nat) (r : List Cel × Nat) : List Cel × Nat :=
  match r.1[i]? with
  | none => r
  | some c => if c.ok = true ∧ 0 ≤ c.on ∧ c.on < (i : Int) ∧ ((r.1[c.on.toNat]?).map Cel.ok).getD true = false then (r.1.set i ⟨false, c.on⟩, r.2 + 1) else r
def roundsD : Nat → Nat → List Cel × Nat → List Cel × Nat
  | _, 0, r => r
  | i, n + 1, r => roundsD (i + 1) n (roundD i r)
def okAt (l : List Cel) (n : Nat) : Bool := ((l[n]?).map Cel.ok).getD false
def breakD (l : List Cel) (n : Int) : List Cel × Nat :=
  if 0 ≤ n ∧ okAt l n.toNat = true then
    match l[n.toNat]? with
    | some c => roundsD (n.toNat + 1) (l.length - (n.toNat + 1)) (l.set n.toNat ⟨false, c.on⟩, 1)
    | none => (l, 0)
  else (l, 0)
/-- does the way down from i come to n? (fuel: more than i is enough) -/
def hitF (l : List Cel) (n : Nat) : Nat → Nat → Bool
  | 0, i => decide (i = n)
  | f + 1, i => decide (i = n) || (match l[i]? with
    | none => false
    | some c => decide (0 ≤ c.on ∧ c.on < (i : Int)) && hitF l n f c.on.toNat)
def hit (l : List Cel) (n i : Nat) : Bool := hitF l n (i + 1) i
theorem hitF_more (l : List Cel) (n : Nat) : ∀ (f g i : Nat), i < f → i < g → hitF l n f i = hitF l n g i
  | 0, g, i, h, _ => by omega
  | f + 1, 0, i, _, h => by omega
  | f + 1, g + 1, i, h1, h2 => by
    unfold hitF
    cases l[i]? with
    | none => rfl
    | some c =>
      simp only
      by_cases q : 0 ≤ c.on ∧ c.on < (i : Int)
      · rw [hitF_more l n f g c.on.toNat (by omega) (by omega)]
      · rw [decide_eq_false q, Bool.false_and, Bool.false_and]
theorem hit_eq (l : List Cel) (n i : Nat) : hit l n i = (decide (i = n) || (match l[i]? with
    | none => false
    | some c => decide (0 ≤ c.on ∧ c.on < (i : Int)) && hit l n c.on.toNat)) := by
  unfold hit
  rw [hitF]
  cases l[i]? with
  | none => rfl
  | some c =>
    simp only
    by_cases q : 0 ≤ c.on ∧ c.on < (i : Int)
    · rw [hitF_more l n i (c.on.toNat + 1) c.on.toNat (by omega) (by omega)]
    · rw [decide_eq_false q, Bool.false_and, Bool.false_and]
/-- nothing below n is hit -/
theorem hit_low (l : List Cel) (n : Nat) : ∀ m i, i < m → i < n → hit l n i = false := by
  intro m
  induction m with
  | zero => intro i h; omega
  | succ m ih =>
    intro i h1 h2
    rw [hit_eq, decide_eq_false (by omega), Bool.false_or]
    cases l[i]? with
    | none => rfl
    | some c =>
      simp only
      by_cases q : 0 ≤ c.on ∧ c.on < (i : Int)
      · rw [ih c.on.toNat (by omega) (by omega), Bool.and_false]
      · rw [decide_eq_false q, Bool.false_and]
/-- a valid cell stands on nothing, or on a valid one below it -/
def Inv (l : List Cel) : Prop := ∀ (i : Nat) (c : Cel), l[i]? = some c → c.ok = true → c.on = -1 ∨ (0 ≤ c.on ∧ c.on < (i : Int) ∧ okAt l c.on.toNat = true)
theorem inv_make {l : List Cel} (h : Inv l) (on : Int) : Inv (makeD l on) := by
  intro i c hc hok
  unfold makeD at hc ⊢
  rcases Nat.lt_or_ge i l.length with q | q
  · rw [List.getElem?_append_left q] at hc
    rcases h i c hc hok with e | ⟨e1, e2, e3⟩
    · exact Or.inl e
    · refine Or.inr ⟨e1, e2, ?_⟩
      unfold okAt at *
      rw [List.getElem?_append_left (by omega)]
      exact e3
  · rw [List.getElem?_append_right q, List.getElem?_singleton] at hc
    split at hc
    · cases hc
      simp only at hok ⊢
      unfold validOn at hok
      rw [Bool.or_eq_true, Bool.and_eq_true] at hok
      rcases hok with e | ⟨e1, e2⟩
      · exact Or.inl (of_decide_eq_true e)
      · have e1 := of_decide_eq_true e1
        have hl : on.toNat < l.length := by
          rcases Nat.lt_or_ge on.toNat l.length with q2 | q2
          · exact q2
          · rw [List.getElem?_eq_none q2] at e2; cases e2
        refine Or.inr ⟨e1, by omega, ?_⟩
        unfold okAt
        rw [List.getElem?_append_left hl]
        exact e2
    · cases hc
/-- the document's loop, where it has come to i: those below are as they must be -/
structure Way (l : List Cel) (n i : Nat) (r : List Cel × Nat) : Prop where
  len : r.1.length = l.length
  at' : ∀ (k : Nat) (c : Cel), l[k]? = some c → r.1[k]? = some ⟨c.ok && !(decide (k < i) && hit l n k), c.on⟩
theorem way_round {l : List Cel} (hI : Inv l) {n i : Nat} {r : List Cel × Nat} (h : Way l n i r) (hi : n < i) : Way l n (i + 1) (roundD i r) ∧ (roundD i r).2 = r.2 + (if okAt l i = true ∧ hit l n i = true then 1 else 0) := by
  have key : ∀ k, k ≠ i → (decide (k < i + 1) = decide (k < i)) := fun k hk => by
    by_cases q : k < i
    · rw [decide_eq_true q, decide_eq_true (by omega)]
    · rw [decide_eq_false q, decide_eq_false (by omega)]
  cases hc : l[i]? with
  | none =>
    have hr : r.1[i]? = none := List.getElem?_eq_none (by rw [h.len]; exact List.getElem?_eq_none_iff.1 hc)
    have e : roundD i r = r := by unfold roundD; rw [hr]
    rw [e]
    refine ⟨⟨h.len, fun k c hk => ?_⟩, ?_⟩
    · rw [h.at' k c hk, key k (fun q => by rw [q, hc] at hk; cases hk)]
    · unfold okAt
      rw [hc]
      simp
  | some c =>
    have hr := h.at' i c hc
    rw [decide_eq_false (show ¬ i < i by omega), Bool.false_and, Bool.not_false, Bool.and_true] at hr
    have hok : okAt l i = c.ok := by unfold okAt; rw [hc]; rfl
    have hhit : hit l n i = (decide (0 ≤ c.on ∧ c.on < (i : Int)) && hit l n c.on.toNat) := by
      rw [hit_eq, decide_eq_false (show ¬ i = n by omega), Bool.false_or, hc]
    rw [hok]
    by_cases q : c.ok = true ∧ hit l n i = true
    · have q2 := q.2
      rw [hhit, Bool.and_eq_true] at q2
      have q3 := of_decide_eq_true q2.1
      have hlt : c.on.toNat < i := by omega
      have hil : i < l.length := (List.getElem?_eq_some_iff.1 hc).1
      have hex : ∃ d, l[c.on.toNat]? = some d := ⟨_, List.getElem?_eq_getElem (by omega)⟩
      obtain ⟨d, hd⟩ := hex
      have hrd := h.at' _ d hd
      rw [decide_eq_true hlt, Bool.true_and, q2.2] at hrd
      have e : roundD i r = (r.1.set i ⟨false, c.on⟩, r.2 + 1) := by
        unfold roundD
        rw [hr]
        simp only
        rw [if_pos ⟨q.1, q3.1, q3.2, by rw [hrd]; simp⟩]
      rw [e, if_pos q]
      refine ⟨⟨by rw [List.length_set]; exact h.len, fun k c' hk => ?_⟩, rfl⟩
      by_cases e5 : k = i
      · subst e5
        rw [hc] at hk
        cases hk
        rw [List.getElem?_set_self (by rw [h.len]; exact hil), decide_eq_true (by omega), Bool.true_and, q.2]
        simp
      · rw [List.getElem?_set_ne (fun e6 => e5 e6.symm), h.at' k c' hk, key k e5]
    · have e : roundD i r = r := by
        unfold roundD
        rw [hr]
        simp only
        rw [if_neg ?_]
        rintro ⟨a1, a2, a3, a4⟩
        apply q
        refine ⟨a1, ?_⟩
        rw [hhit, decide_eq_true ⟨a2, a3⟩, Bool.true_and]
        rcases hI i c hc a1 with b | ⟨b1, b2, b3⟩
        · omega
        · have hex : ∃ d, l[c.on.toNat]? = some d := by
            unfold okAt at b3
            cases hd : l[c.on.toNat]? with
            | none => rw [hd] at b3; cases b3
            | some d => exact ⟨d, rfl⟩
          obtain ⟨d, hd⟩ := hex
          rw [h.at' _ d hd, decide_eq_true (show c.on.toNat < i by omega), Bool.true_and] at a4
          have hdk : d.ok = true := by unfold okAt at b3; rw [hd] at b3; exact b3
          simp only [Option.map_some, Option.getD_some, hdk, Bool.true_and] at a4
          simpa using a4
      rw [e, if_neg q]
      refine ⟨⟨h.len, fun k c' hk => ?_⟩, rfl⟩
      by_cases e5 : k = i
      · subst e5
        rw [hc] at hk
        cases hk
        rw [hr, decide_eq_true (show k < k + 1 by omega), Bool.true_and]
        congr 2
        cases ho : c.ok with
        | false => rfl
        | true =>
          have : hit l n k = false := by
            cases hh : hit l n k with
            | false => rfl
            | true => exact absurd ⟨ho, hh⟩ q
          rw [this]
          rfl
      · rw [h.at' k c' hk, key k e5]
end Go.Proofs.YtkpdpdllbnihgaaGreat.Ce
/- Cells, plain: what the document's Break comes to. -/
namespace Go.Proofs.YtkpdpdllbnihgaaGreat.Ce
/-- how many valid ones below i are hit -/
def cnt (l : List Cel) (n : Nat) : Nat → Nat
  | 0 => 0
  | i + 1 => cnt l n i + (if okAt l i = true ∧ hit l n i = true then 1 else 0)
theorem cnt_low (l : List Cel) (n : Nat) : ∀ i, i ≤ n → cnt l n i = 0
  | 0, _ => rfl
  | i + 1, h => by
    rw [cnt, cnt_low l n i (by omega), if_neg]
    rintro ⟨_, q⟩
    rw [hit_low l n (i + 1) i (by omega) (by omega)] at q
    cases q
theorem hit_self (l : List Cel) (n : Nat) : hit l n n = true := by rw [hit_eq, decide_eq_true rfl, Bool.true_or]
theorem way_start {l : List Cel} {n : Nat} {c : Cel} (hc : l[n]? = some c) : Way l n (n + 1) (l.set n ⟨false, c.on⟩, 1) := by
  refine ⟨by simp, fun k d hk => ?_⟩
  by_cases e : k = n
  · subst e
    rw [hc] at hk
    cases hk
    rw [List.getElem?_set_self (List.getElem?_eq_some_iff.1 hc).1, decide_eq_true (by omega), Bool.true_and, hit_self]
    simp
  · rw [List.getElem?_set_ne (fun q => e q.symm), hk]
    congr 1
    by_cases q : k < n
    · rw [hit_low l n (k + 1) k (by omega) q, Bool.and_false, Bool.not_false, Bool.and_true]
    · rw [decide_eq_false (by omega), Bool.false_and, Bool.not_false, Bool.and_true]
theorem way_rounds {l : List Cel} (hI : Inv l) {n : Nat} : ∀ (m i : Nat) (r : List Cel × Nat), n < i → Way l n i r → r.2 = cnt l n i → Way l n (i + m) (roundsD i m r) ∧ (roundsD i m r).2 = cnt l n (i + m)
  | 0, i, r, _, h, hc => ⟨h, hc⟩
  | m + 1, i, r, hi, h, hc => by
    obtain ⟨h1, h2⟩ := way_round hI h hi
    have := way_rounds hI m (i + 1) (roundD i r) (by omega) h1 (by rw [h2, hc, cnt])
    rw [roundsD, show i + (m + 1) = i + 1 + m by omega]
    exact this
/-- Break, in one sentence: of each cell whether it stays valid; how many do not -/
theorem break_spec {l : List Cel} (hI : Inv l) {n : Nat} (hn : okAt l n = true) : (breakD l n).2 = cnt l n l.length ∧ (breakD l n).1.length = l.length ∧ ∀ (k : Nat) (c : Cel), l[k]? = some c → (breakD l n).1[k]? = some ⟨c.ok && !hit l n k, c.on⟩ := by
  have hex : ∃ c, l[n]? = some c := by
    unfold okAt at hn
    cases hc : l[n]? with
    | none => rw [hc] at hn; cases hn
    | some c => exact ⟨c, rfl⟩
  obtain ⟨c, hc⟩ := hex
  have hl := (List.getElem?_eq_some_iff.1 hc).1
  have e : breakD l n = roundsD (n + 1) (l.length - (n + 1)) (l.set n ⟨false, c.on⟩, 1) := by
    unfold breakD
    rw [if_pos ⟨by omega, by rw [Int.toNat_natCast]; exact hn⟩, Int.toNat_natCast, hc]
  rw [e]
  have h0 : (1 : Nat) = cnt l n (n + 1) := by
    rw [cnt, cnt_low l n n (Nat.le_refl _), if_pos ⟨hn, hit_self l n⟩]
  obtain ⟨h1, h2⟩ := way_rounds hI (l.length - (n + 1)) (n + 1) _ (by omega) (way_start hc) h0
  rw [show n + 1 + (l.length - (n + 1)) = l.length by omega] at h1 h2
  refine ⟨h2, h1.len, fun k d hk => ?_⟩
  rw [h1.at' k d hk, decide_eq_true (List.getElem?_eq_some_iff.1 hk).1, Bool.true_and]
theorem break_none {l : List Cel} {n : Int} (h : ¬ (0 ≤ n ∧ okAt l n.toNat = true)) : breakD l n = (l, 0) := by
  unfold breakD
  rw [if_neg h]
theorem inv_break {l : List Cel} (hI : Inv l) (n : Int) : Inv (breakD l n).1 := by
  by_cases h : 0 ≤ n ∧ okAt l n.toNat = true
  · obtain ⟨m, rfl⟩ : ∃ m : Nat, n = m := ⟨n.toNat, by omega⟩
    rw [Int.toNat_natCast] at h
    obtain ⟨_, hl, hk⟩ := break_spec hI h.2
    intro i c hc hok
    have hil : i < l.length := by rw [← hl]; exact (List.getElem?_eq_some_iff.1 hc).1
    have h1 := hk i _ (List.getElem?_eq_getElem hil)
    rw [hc] at h1
    have h2 := Option.some.inj h1
    rw [h2] at hok ⊢
    simp only [Bool.and_eq_true] at hok
    rcases hI i _ (List.getElem?_eq_getElem hil) hok.1 with q | ⟨q1, q2, q3⟩
    · exact Or.inl q
    · refine Or.inr ⟨q1, q2, ?_⟩
      have hex : ∃ d, l[(l[i]).on.toNat]? = some d := by
        unfold okAt at q3
        cases hd : l[(l[i]).on.toNat]? with
        | none => rw [hd] at q3; cases q3
        | some d => exact ⟨d, rfl⟩
      obtain ⟨d, hd⟩ := hex
      have hdk : d.ok = true := by unfold okAt at q3; rw [hd] at q3; exact q3
      unfold okAt
      simp only
      rw [hk _ d hd]
      simp only [Option.map_some, Option.getD_some, hdk, Bool.true_and]
      have hh := hok.2
      rw [hit_eq, List.getElem?_eq_getElem hil] at hh
      simp only [decide_eq_true (show 0 ≤ (l[i]).on ∧ (l[i]).on < (i : Int) from ⟨q1, q2⟩), Bool.true_and] at hh
      cases hx : hit l m (l[i]).on.toNat with
      | false => rfl
      | true => rw [hx, Bool.or_true] at hh; cases hh
  · rw [break_none h]
    exact hI
theorem inv_nil : Inv [] := fun i c h => by simp at h
end Go.Proofs.YtkpdpdllbnihgaaGreat.Ce
/- Cells, plain: going through those on top by a stack comes to what is hit. -/
namespace Go.Proofs.YtkpdpdllbnihgaaGreat.Ce
/-- k stands on j -/
def Child (l : List Cel) (j k : Nat) : Prop := ∃ c, l[k]? = some c ∧ c.on = (j : Int) ∧ j < k
theorem hit_child {l : List Cel} {n j k : Nat} (h : Child l j k) (hh : hit l n j = true) : hit l n k = true := by
  obtain ⟨c, h1, h2, h3⟩ := h
  rw [hit_eq, h1]
  simp only
  rw [h2, Int.toNat_natCast, hh, decide_eq_true (show (0 : Int) ≤ (j : Int) ∧ (j : Int) < (k : Int) by omega)]
  simp
theorem hit_back {l : List Cel} {n k : Nat} (hh : hit l n k = true) (hk : k ≠ n) : ∃ j, Child l j k ∧ hit l n j = true := by
  rw [hit_eq, decide_eq_false hk, Bool.false_or] at hh
  cases hc : l[k]? with
  | none => rw [hc] at hh; cases hh
  | some c =>
    rw [hc] at hh
    simp only [Bool.and_eq_true] at hh
    have h1 := of_decide_eq_true hh.1
    exact ⟨c.on.toNat, ⟨c, hc, by omega, by omega⟩, hh.2⟩
theorem ok_child {l : List Cel} (hI : Inv l) {j k : Nat} (h : Child l j k) (hk : okAt l k = true) : okAt l j = true := by
  obtain ⟨c, h1, h2, h3⟩ := h
  have hck : c.ok = true := by unfold okAt at hk; rw [h1] at hk; exact hk
  rcases hI k c h1 hck with q | ⟨_, _, q⟩
  · omega
  · rw [h2, Int.toNat_natCast] at q
    exact q
/-- D: those that were broken; S: those on the stack -/
structure Stk (l : List Cel) (n : Nat) (D S : Nat → Prop) : Prop where
  done : ∀ i, D i → okAt l i = true ∧ hit l n i = true
  on : ∀ i, S i → hit l n i = true
  left : ∀ k, okAt l k = true → hit l n k = true → ¬ D k → S k ∨ ∃ j, Child l j k ∧ hit l n j = true ∧ ¬ D j
theorem stk_start (l : List Cel) (n : Nat) : Stk l n (fun _ => False) (fun i => i = n) := by
  refine ⟨fun i h => h.elim, fun i h => by rw [h]; exact hit_self l n, fun k h1 h2 _ => ?_⟩
  by_cases e : k = n
  · exact Or.inl e
  · obtain ⟨j, a, b⟩ := hit_back h2 e
    exact Or.inr ⟨j, a, b, id⟩
/-- one that is broken already, or never was valid, is taken off -/
theorem stk_skip {l : List Cel} {n : Nat} {D S S' : Nat → Prop} (h : Stk l n D S) (i : Nat) (hi : okAt l i = true → D i) (h1 : ∀ k, S' k → S k) (h2 : ∀ k, S k → k = i ∨ S' k) : Stk l n D S' := by
  refine ⟨h.done, fun k q => h.on k (h1 k q), fun k a b c => ?_⟩
  rcases h.left k a b c with q | q
  · rcases h2 k q with e | e
    · subst e
      exact absurd (hi a) c
    · exact Or.inl e
  · exact Or.inr q
/-- one is broken, those on top of it are laid on the stack -/
theorem stk_mark {l : List Cel} (hI : Inv l) {n : Nat} {D S S' : Nat → Prop} (h : Stk l n D S) (i : Nat) (hi : okAt l i = true) (hS : S i) (h1 : ∀ k, S' k → S k ∨ Child l i k) (h2 : ∀ k, S k → k = i ∨ S' k) (h3 : ∀ k, Child l i k → okAt l k = true → ¬ D k → k ≠ i → S' k) : Stk l n (fun k => D k ∨ k = i) S' := by
  have hh := h.on i hS
  refine ⟨fun k q => q.elim (h.done k) (fun e => by rw [e]; exact ⟨hi, hh⟩), fun k q => (h1 k q).elim (h.on k) (fun e => hit_child e hh), fun k a b c => ?_⟩
  have c1 : ¬ D k := fun q => c (Or.inl q)
  have c2 : k ≠ i := fun q => c (Or.inr q)
  rcases h.left k a b c1 with q | ⟨j, q1, q2, q3⟩
  · exact Or.inl ((h2 k q).resolve_left c2)
  · by_cases e : j = i
    · subst e
      exact Or.inl (h3 k q1 a c1 c2)
    · exact Or.inr ⟨j, q1, q2, fun q => q.elim q3 e⟩
/-- at the end all that is hit was broken, and nothing else -/
theorem stk_end {l : List Cel} (hI : Inv l) {n : Nat} {D S : Nat → Prop} (h : Stk l n D S) (hS : ∀ k, ¬ S k) : ∀ k, okAt l k = true → (D k ↔ hit l n k = true) := by
  have key : ∀ m k, k < m → okAt l k = true → hit l n k = true → D k := by
    intro m
    induction m with
    | zero => intro k hk; omega
    | succ m ih =>
      intro k hk h1 h2
      refine Classical.byContradiction fun h3 => ?_
      rcases h.left k h1 h2 h3 with q | ⟨j, q1, q2, q3⟩
      · exact hS k q
      · have hjk : j < k := by obtain ⟨_, _, _, q⟩ := q1; exact q
        exact q3 (ih j (by omega) (ok_child hI q1 h1) q2)
  exact fun k hk => ⟨fun q => (h.done k q).2, fun q => key (k + 1) k (by omega) hk q⟩
/-- how many below i are in D -/
def cntD (D : Nat → Bool) : Nat → Nat
  | 0 => 0
  | i + 1 => cntD D i + (if D i = true then 1 else 0)
theorem cntD_put {D : Nat → Bool} {i : Nat} (hi : D i = false) : ∀ m, cntD (fun k => D k || decide (k = i)) m = cntD D m + (if i < m then 1 else 0)
  | 0 => by simp [cntD]
  | m + 1 => by
    rw [cntD, cntD, cntD_put hi m]
    by_cases e : m = i
    · subst e
      rw [hi]
      simp
    · by_cases q : i < m
      · rw [if_pos q, if_pos (show i < m + 1 by omega)]
        simp [e]
        omega
      · rw [if_neg q, if_neg (show ¬ i < m + 1 by omega)]
        simp [e]
theorem cntD_hit {l : List Cel} {n : Nat} {D : Nat → Bool} (h1 : ∀ k, D k = true → okAt l k = true) (h2 : ∀ k, okAt l k = true → (D k = true ↔ hit l n k = true)) : ∀ m, cntD D m = cnt l n m
  | 0 => rfl
  | m + 1 => by
    rw [cntD, cnt, cntD_hit h1 h2 m]
    congr 1
    by_cases q : D m = true
    · rw [if_pos q, if_pos ⟨h1 m q, (h2 m (h1 m q)).1 q⟩]
    · rw [if_neg q, if_neg (fun e => q ((h2 m e.1).2 e.2))]
end Go.Proofs.YtkpdpdllbnihgaaGreat.Ce
/- Cells, plain: cells that stand one on the other. -/
namespace Go.Proofs.YtkpdpdllbnihgaaGreat.Ce
/-- m cells, one on the other -/
def chain : Nat → List Cel
  | 0 => []
  | m + 1 => chain m ++ [⟨true, (m : Int) - 1⟩]
theorem chain_len : ∀ m, (chain m).length = m
  | 0 => rfl
  | m + 1 => by rw [chain, List.length_append, chain_len m]; rfl
theorem chain_at : ∀ (m i : Nat), i < m → (chain m)[i]? = some ⟨true, (i : Int) - 1⟩
  | 0, i, h => by omega
  | m + 1, i, h => by
    rw [chain]
    by_cases e : i = m
    · subst e
      rw [List.getElem?_append_right (by rw [chain_len]; exact Nat.le_refl _), chain_len]
      simp
    · rw [List.getElem?_append_left (by rw [chain_len]; omega)]
      exact chain_at m i (by omega)
theorem chain_ok (m i : Nat) : okAt (chain m) i = decide (i < m) := by
  unfold okAt
  by_cases h : i < m
  · rw [chain_at m i h, decide_eq_true h]; rfl
  · rw [List.getElem?_eq_none (by rw [chain_len]; omega), decide_eq_false h]; rfl
/-- one more on top of the last -/
theorem chain_make (m : Nat) : makeD (chain m) ((m : Int) - 1) = chain (m + 1) := by
  unfold makeD
  rw [chain]
  congr 2
  unfold validOn
  cases m with
  | zero => rfl
  | succ m =>
    have := chain_ok (m + 1) m
    unfold okAt at this
    rw [show ((m + 1 : Nat) : Int) - 1 = (m : Int) by omega, Int.toNat_natCast, this]
    simp
theorem chain_inv : ∀ m, Inv (chain m)
  | 0 => inv_nil
  | m + 1 => by rw [← chain_make]; exact inv_make (chain_inv m) _
theorem chain_hit (m n : Nat) : ∀ b k, k < b → k < m → hit (chain m) n k = decide (n ≤ k) := by
  intro b
  induction b with
  | zero => intro k h; omega
  | succ b ih =>
    intro k h1 h2
    rw [hit_eq, chain_at m k h2]
    simp only
    by_cases e : k = n
    · rw [decide_eq_true e, Bool.true_or, decide_eq_true (by omega)]
    · rw [decide_eq_false e, Bool.false_or]
      cases k with
      | zero =>
        rw [decide_eq_false (by omega), Bool.false_and, decide_eq_false (by omega)]
      | succ k =>
        rw [show (((k + 1 : Nat) : Int) - 1) = (k : Int) by omega, Int.toNat_natCast, ih k (by omega) (by omega), decide_eq_true (by omega), Bool.true_and]
        by_cases q : n ≤ k
        · rw [decide_eq_true q, decide_eq_true (by omega)]
        · rw [decide_eq_false q, decide_eq_false (by omega)]
theorem chain_cnt (m n : Nat) (hn : n ≤ m) : ∀ i, i ≤ m → cnt (chain m) n i = i - n
  | 0, _ => by simp [cnt]
  | i + 1, h => by
    rw [cnt, chain_cnt m n hn i (by omega), chain_ok, decide_eq_true (show i < m by omega), chain_hit m n (i + 1) i (by omega) (by omega)]
    by_cases q : n ≤ i
    · rw [decide_eq_true q, if_pos ⟨rfl, rfl⟩]
      omega
    · rw [decide_eq_false q, if_neg (by simp)]
      omega
/-- breaking one breaks it and all above, and none below -/
theorem chain_break (m n : Nat) (hn : n < m) : (breakD (chain m) n).2 = m - n ∧ ∀ k, k < m → okAt (breakD (chain m) n).1 k = decide (k < n) := by
  obtain ⟨h1, h2, h3⟩ := break_spec (chain_inv m) (n := n) (by rw [chain_ok]; exact decide_eq_true hn)
  rw [chain_len, chain_cnt m n (by omega) m (Nat.le_refl _)] at h1
  refine ⟨h1, fun k hk => ?_⟩
  unfold okAt
  rw [h3 k _ (chain_at m k hk), chain_hit m n (k + 1) k (by omega) hk]
  by_cases q : n ≤ k
  · rw [decide_eq_true q, decide_eq_false (by omega)]; rfl
  · rw [decide_eq_false q, decide_eq_true (by omega)]; rfl
end Go.Proofs.YtkpdpdllbnihgaaGreat.Ce
