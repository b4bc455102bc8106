/- CellsNever, plain, and what lies in memory. -/
import Derived.Test.YtjahkjkkjccmgaaCU
namespace Go.Proofs.Ytjahkjkkjccmgaa.Ce
open Go.RowKit
set_option linter.unusedVariables false

/-- the law's way down, of whatever number -/
def hitZ (l : List Cel) (N : Int) (i : Nat) : Bool := decide (0 ≤ N) && hit l N.toNat i

theorem hit_ok {l : List Cel} (hI : Inv l) {n : Nat} : ∀ m i, i < m → okAt l i = true → hit l n i = true → okAt l n = true := by
  intro m
  induction m with
  | zero => intro i h; omega
  | succ m ih =>
    intro i hi ho hh
    by_cases c : i = n
    · rw [← c]; exact ho
    · obtain ⟨j, q1, q2⟩ := hit_back hh c
      exact ih j (by have := (child_lt q1).2; omega) (ok_child hI q1 ho) q2

theorem never_plain {l : List Cel} (hI : Inv l) (N : Int) {i : Nat} (hi : i < l.length) : validD (breakD l N).1 (i : Int) = (okAt l i && !hitZ l N i) := by
  unfold validD
  rw [Int.toNat_natCast, decide_eq_true (by omega), Bool.true_and]
  by_cases c : 0 ≤ N ∧ okAt l N.toNat = true
  · obtain ⟨n, rfl⟩ : ∃ n : Nat, N = n := ⟨N.toNat, by omega⟩
    rw [Int.toNat_natCast] at c
    obtain ⟨_, _, h3⟩ := break_spec hI c.2
    have h4 := h3 i _ (List.getElem?_eq_getElem hi)
    unfold hitZ
    rw [Int.toNat_natCast, decide_eq_true (by omega), Bool.true_and]
    unfold okAt
    rw [h4, List.getElem?_eq_getElem hi]
    rfl
  · rw [break_none c]
    cases ho : okAt l i with
    | false => rfl
    | true =>
      simp only [Bool.true_and]
      cases hh : hitZ l N i with
      | false => rfl
      | true =>
        unfold hitZ at hh
        rw [Bool.and_eq_true] at hh
        exact absurd ⟨of_decide_eq_true hh.1, hit_ok hI (i + 1) i (by omega) ho hh.2⟩ c

/-- one step of the way down -/
theorem hitZ_step {l : List Cel} {N : Int} {i : Nat} {c : Cel} (hc : l[i]? = some c) : hitZ l N i = (((i : Int) == N) || (decide (0 ≤ c.on ∧ c.on < (i : Int)) && hitZ l N c.on.toNat)) := by
  unfold hitZ
  rw [hit_eq, hc]
  simp only
  by_cases h0 : 0 ≤ N
  · rw [decide_eq_true h0, Bool.true_and, Bool.true_and]
    congr 1
    by_cases h1 : (i : Int) = N
    · rw [decide_eq_true (by omega)]
      simp [h1]
    · rw [decide_eq_false (by omega)]
      simp [h1]
  · rw [decide_eq_false h0]
    simp
    omega

def hitR (l : List Cel) (N bel : Int) : Bool := decide (0 ≤ bel) && hitZ l N bel.toNat

theorem hitR_low {l : List Cel} {N bel : Int} (h : bel < 0) : hitR l N bel = false := by
  unfold hitR
  rw [decide_eq_false (by omega)]
  rfl

theorem hitR_up {l : List Cel} {N : Int} {i : Nat} {c : Cel} (hc : l[i]? = some c) (h : (i : Int) ≤ c.on) : hitR l N i = ((i : Int) == N) := by
  unfold hitR
  rw [Int.toNat_natCast, hitZ_step hc, decide_eq_true (by omega), decide_eq_false (by omega)]
  simp

theorem hitR_down {l : List Cel} {N : Int} {i : Nat} {c : Cel} (hc : l[i]? = some c) (h : c.on < (i : Int)) : hitR l N i = (((i : Int) == N) || hitR l N c.on) := by
  unfold hitR
  rw [Int.toNat_natCast, hitZ_step hc, decide_eq_true (show (0 : Int) ≤ (i : Int) by omega), Bool.true_and]
  congr 1
  by_cases q : 0 ≤ c.on
  · rw [decide_eq_true q, decide_eq_true ⟨q, h⟩]
  · rw [decide_eq_false q, decide_eq_false (by omega)]

/-- which were valid, of the first q -/
def wasL (l : List Cel) (q : Nat) : List Bool := (List.range q).map (okAt l)

theorem wasL_len (l : List Cel) (q : Nat) : (wasL l q).length = q := by unfold wasL; simp
theorem wasL_next (l : List Cel) (q : Nat) : wasL l q ++ [okAt l q] = wasL l (q + 1) := by unfold wasL; rw [List.range_succ]; simp
theorem wasL_at (l : List Cel) {q i : Nat} (h : i < q) : (wasL l q)[i]? = some (okAt l i) := by unfold wasL; simp [h]

def onsL (l : List Cel) : List Int := l.map Cel.on
theorem onsL_len (l : List Cel) : (onsL l).length = l.length := by unfold onsL; simp
theorem onsL_make (l : List Cel) (n : Int) : onsL (makeD l n) = onsL l ++ [n] := by unfold onsL makeD; simp
theorem onsL_break {l : List Cel} (hI : Inv l) (n : Int) : onsL (breakD l n).1 = onsL l := by
  unfold onsL
  apply List.ext_getElem?
  intro k
  rw [List.getElem?_map, List.getElem?_map]
  exact break_on hI n k
theorem onsL_at {l : List Cel} {i : Nat} {c : Cel} (h : l[i]? = some c) : (onsL l)[i]? = some c.on := by unfold onsL; rw [List.getElem?_map, h]; rfl

theorem CsX.inv {X : Nat → Prop} {W w : World} {cb : Nat} {l : List Cel} (h : CsX X W w cb l) : Inv l := by
  obtain ⟨O, ⟨E, v, h1, h2, h3, h4⟩, _⟩ := h
  exact h3

/-- ahead of a call of the script -/
structure NvAt (w wr : World) (cb i : Nat) (l : List Cel) (v : Value) : Prop where
  cs : CsX (fun b => v.ownBlock = some b) w wr cb l
  own : OwnR intC 1 3 w.heap.size wr v (onsL l)
  len : l.length ≤ i

theorem NvAt.start {w w2 : World} {cb : Nat} (h : CsX NoX w w2 cb []) : NvAt w w2 cb 0 [] (.slice none 0 0) :=
  ⟨h.mono (Below.refl _ _) (fun b q => by simp [Value.ownBlock] at q), OwnR.nil _ _, Nat.le_refl _⟩

/-- in a call: the call in a block; what was valid, in u -/
structure NwAt (w wt : World) (cb ob : Nat) (lc l : List Cel) (v u : Value) (kd n : Int) (us : List Bool) : Prop where
  cs : CsX (fun b => (v.ownBlock = some b ∨ b = ob) ∨ u.ownBlock = some b) w wt cb lc
  own : OwnR intC 1 3 w.heap.size wt v (onsL l)
  was : OwnR boolC 1 4 w.heap.size wt u us
  box : wt.heap[ob]? = some (.cells #[.int .i64 kd, .int .i64 n] 28 (0, 0))
  lo : w.heap.size ≤ ob
  ne : v.ownBlock ≠ some ob
  ne2 : u.ownBlock ≠ some ob
  ne3 : ∀ b, u.ownBlock = some b → v.ownBlock ≠ some b

theorem NvAt.box {w wr : World} {cb i : Nat} {l : List Cel} {v : Value} (h : NvAt w wr cb i l v) (kd n : Int) : NwAt w (wr.alloc (.cells #[.int .i64 kd, .int .i64 n] 28)) cb wr.heap.size l l v (.slice none 0 0) kd n [] := by
  have hb : Below wr.heap.size wr (wr.alloc (.cells #[.int .i64 kd, .int .i64 n] 28)) := below_new (Below.refl _ _) (Nat.le_refl _) _
  refine ⟨h.cs.mono hb (fun b q => ?_), h.own.below hb, OwnR.nil _ _, at_new _ _, h.cs.bel.size, fun q => ?_, fun q => by simp [Value.ownBlock] at q, fun b q => by simp [Value.ownBlock] at q⟩
  · rcases q with (q | q) | q
    · exact Or.inl q
    · exact Or.inr (by omega)
    · simp [Value.ownBlock] at q
  · have := (h.own.lt _ q).2
    omega

theorem NwAt.below {w wt w' : World} {cb ob : Nat} {lc l : List Cel} {v u : Value} {kd n : Int} {us : List Bool} (h : NwAt w wt cb ob lc l v u kd n us) (hb : Below wt.heap.size wt w') : NwAt w w' cb ob lc l v u kd n us :=
  ⟨h.cs.below hb, h.own.below hb, h.was.below hb, (hb.block ob (Array.getElem?_eq_some_iff.1 h.box).1).trans h.box, h.lo, h.ne, h.ne2, h.ne3⟩

theorem NwAt.lt {w wt : World} {cb ob : Nat} {lc l : List Cel} {v u : Value} {kd n : Int} {us : List Bool} (h : NwAt w wt cb ob lc l v u kd n us) : ∀ b, ((v.ownBlock = some b ∨ b = ob) ∨ u.ownBlock = some b) → b < wt.heap.size := by
  rintro b ((q | q) | q)
  · exact (h.own.lt b q).2
  · rw [q]; exact (Array.getElem?_eq_some_iff.1 h.box).1
  · exact (h.was.lt b q).2

theorem rows_same {β : Type} {enc : β → List Value} {k w0 : Nat} {e : TypeId} {w w' : World} {v : Value} {l : List β} (h : OwnR enc k e w0 w v l) (hk : ∀ b, v.ownBlock = some b → w'.heap[b]? = w.heap[b]?) : OwnR enc k e w0 w' v l := by
  rcases h.2 with ⟨rfl, h0⟩ | ⟨g, cap, cur, rfl, hb, hg, h3⟩
  · exact ⟨h.1, Or.inl ⟨rfl, h0⟩⟩
  · exact ⟨h.1, Or.inr ⟨g, cap, cur, rfl, hb, by rw [hk g rfl]; exact hg, h3⟩⟩

theorem NwAt.make {w wt : World} {cb ob : Nat} {l : List Cel} {v u : Value} {kd n : Int} {us : List Bool} (h : NwAt w wt cb ob l l v u kd n us) (ht : l.length + 1 ≤ top) :
    Calls Try.prog 9 #[.pointer (some ⟨cb, 0, none⟩), .int .i64 n] wt fun e w' => e = .returned (.int .i64 (l.length : Int)) ∧ NwAt w w' cb ob (makeD l n) l v u kd n us := by
  refine (h.cs.make h.lt ht n).mono ?_
  rintro e w' ⟨rfl, g1, g2, g3⟩
  exact ⟨rfl, g1, rows_same h.own (fun b q => g2 b (Or.inl (Or.inl q))), rows_same h.was (fun b q => g2 b (Or.inr q)), (g2 ob (Or.inl (Or.inr rfl))).trans h.box, h.lo, h.ne, h.ne2, h.ne3⟩

theorem NwAt.brk {w wt : World} {cb ob : Nat} {l : List Cel} {v u : Value} {kd n : Int} {us : List Bool} (h : NwAt w wt cb ob l l v u kd n us) :
    Calls Try.prog 12 #[.pointer (some ⟨cb, 0, none⟩), .int .i64 n] wt fun e w' => e = .returned (.int .i64 ((breakD l n).2 : Int)) ∧ NwAt w w' cb ob (breakD l n).1 l v u kd n us := by
  refine (h.cs.break' h.lt n).mono ?_
  rintro e w' ⟨rfl, g1, g2, g3⟩
  exact ⟨rfl, g1, rows_same h.own (fun b q => g2 b (Or.inl (Or.inl q))), rows_same h.was (fun b q => g2 b (Or.inr q)), (g2 ob (Or.inl (Or.inr rfl))).trans h.box, h.lo, h.ne, h.ne2, h.ne3⟩

/-- one more of what was valid -/
theorem NwAt.push {w wt wa w' : World} {cb ob : Nat} {lc l : List Cel} {v u u' : Value} {kd n : Int} {us us' : List Bool} (h : NwAt w wt cb ob lc l v u kd n us) (ha : Below wt.heap.size wt wa) (hg : wa.grownBy w' u.ownBlock) (ho : OwnR boolC 1 4 w.heap.size w' u' us') (hat : u'.ownBlock = u.ownBlock ∨ u'.ownBlock = some wa.heap.size) : NwAt w w' cb ob lc l v u' kd n us' := by
  have h1 := h.below ha
  have hc : Chg (fun b => u.ownBlock = some b) wa w' := Chg.of_grown hg (fun b q => q)
  have hob := (Array.getElem?_eq_some_iff.1 h1.box).1
  have hlow : ∀ b, u.ownBlock = some b → w.heap.size ≤ b := fun b q => (h.was.lt b q).1
  refine ⟨?_, h1.own.kept hc (fun b q r => h.ne3 b r q), ho, (hc.block ob hob (fun q => h.ne2 q)).trans h1.box, h.lo, h.ne, ?_, ?_⟩
  · obtain ⟨O, c1, c2, c3⟩ := h1.cs
    have hlt := c1.lt
    refine ⟨O, c1.kept hc (fun b q r => c2 b q (Or.inr r)), fun b q r => ?_, hc.below c3 c3.size hlow⟩
    rcases r with r | r
    · exact c2 b q (Or.inl r)
    · rcases hat with e | e
      · exact c2 b q (Or.inr (e ▸ r))
      · rw [e] at r
        cases r
        have := (hlt _ q).2
        omega
  · rcases hat with e | e
    · rw [e]; exact h.ne2
    · rw [e]
      intro q
      cases q
      omega
  · intro b q
    rcases hat with e | e
    · exact h.ne3 b (e ▸ q)
    · rw [e] at q
      cases q
      intro r
      have := (h1.own.lt _ r).2
      omega

/-- one more on the list of what stands on what -/
theorem NwAt.next {w wt wa w' : World} {cb ob i : Nat} {lc l : List Cel} {v v' u : Value} {kd n : Int} {us : List Bool} (h : NwAt w wt cb ob lc l v u kd n us) (ha : Below wt.heap.size wt wa) (hg : wa.grownBy w' v.ownBlock) (ho : OwnR intC 1 3 w.heap.size w' v' (onsL lc)) (hat : v'.ownBlock = v.ownBlock ∨ v'.ownBlock = some wa.heap.size) (hl : lc.length ≤ i) : NvAt w w' cb i lc v' := by
  have h1 := h.below ha
  have hc : Chg (fun b => v.ownBlock = some b) wa w' := Chg.of_grown hg (fun b q => q)
  have hlow : ∀ b, v.ownBlock = some b → w.heap.size ≤ b := fun b q => (h.own.lt b q).1
  refine ⟨?_, ho, hl⟩
  obtain ⟨O, c1, c2, c3⟩ := h1.cs
  have hlt := c1.lt
  refine ⟨O, c1.kept hc (fun b q r => c2 b q (Or.inl (Or.inl r))), fun b q r => ?_, hc.below c3 c3.size hlow⟩
  rcases hat with e | e
  · exact c2 b q (Or.inl (Or.inl (e ▸ r)))
  · rw [e] at r
    cases r
    have := (hlt _ q).2
    omega

/-- .. or none -/
theorem NwAt.same {w wt : World} {cb ob i : Nat} {lc l : List Cel} {v u : Value} {kd n : Int} {us : List Bool} (h : NwAt w wt cb ob lc l v u kd n us) (he : onsL lc = onsL l) (hl : lc.length ≤ i) : NvAt w wt cb i lc v :=
  ⟨h.cs.mono (Below.refl _ _) (fun b q => Or.inl (Or.inl (Or.inl q))), by rw [he]; exact h.own, hl⟩

end Go.Proofs.Ytjahkjkkjccmgaa.Ce
