/- Make. -/
import Derived.Test.YtahhionlbfhinaaGreatDoorB6
import Derived.Deep.RegionLaw
import Derived.Deep.Cut
import Derived.Deep.LoopGhost
namespace Go.Proofs.YtahhionlbfhinaaGreatDoor.Ce
open Go.RowKit Go.Proofs.YtahhionlbfhinaaGreatDoor.Hp
set_option linter.unusedVariables false

/-- what a call leaves: cells, and all else that was there -/
def Went (w : World) (B cb : Nat) (O : Nat → Prop) (l : List Cel) (w' : World) : Prop := ∃ O', Cs w' B cb O' l ∧ Chg O w w' ∧ ∀ b, O' b → O b ∨ w.heap.size ≤ b

theorem Went.same {w w' : World} {B cb : Nat} {O : Nat → Prop} {l : List Cel} (h : Cs w B cb O l) (hb : Below w.heap.size w w') : Went w B cb O l w' :=
  ⟨O, h.below hb, Chg.of_below hb, fun b q => Or.inl q⟩

theorem Went.drew {w w' : World} {B cb : Nat} {O : Nat → Prop} {l : List Cel} (h : Went w B cb O l w') : Went w B cb O l w'.drew := by
  obtain ⟨O', h1, h2, h3⟩ := h
  exact ⟨O', h1.below ((Below.refl _ _).drew), h2.drew, h3⟩

/-- the cells with an entry more -/
theorem cs_push {w w5 : World} {B cb : Nat} {O : Nat → Prop} {E : List En} {v v5 : Value} (h : CsAt w B cb O E v) {x : En} (ho : OwnR enC 3 176 B w5 v5 (E ++ [x])) (hc : Chg (fun b => v.ownBlock = some b) w w5) (hv5 : ∀ b, v5.ownBlock = some b → v.ownBlock = some b ∨ w.heap.size ≤ b) :
    ∃ O', CsAt (w5.setCell ⟨cb, 0, none⟩ v5) B cb O' (E ++ [x]) v5 ∧ Chg O w (w5.setCell ⟨cb, 0, none⟩ v5) ∧ ∀ b, O' b → O b ∨ w.heap.size ≤ b := by
  have hcb : cb < w.heap.size := (Array.getElem?_eq_some_iff.1 h.box).1
  have hbox5 : w5.heap[cb]? = some (.cells #[v] 132 (0, 0)) := by rw [hc.block cb hcb (fun q => h.n2 q)]; exact h.box
  have hne : ∀ b, v5.ownBlock = some b → b ≠ cb := fun b hb e => by
    subst e
    rcases hv5 b hb with q | q
    · exact h.n2 q
    · omega
  refine ⟨fun b => b = cb ∨ v5.ownBlock = some b, ⟨heap_setCell_same w5 cb 0 _ 132 v5 hbox5, ho.set (a := ⟨cb, 0, none⟩) hne v5, h.b1, fun q => hne cb q rfl, fun b => Iff.rfl⟩, ?_, ?_⟩
  · refine (hc.mono (S' := O) (fun k q => (h.os k).2 (Or.inr q))).trans (Chg.set (S := fun b => b = cb) w5 ⟨cb, 0, none⟩ v5 rfl) (fun i _ q => (h.os i).2 (Or.inl q))
  · intro b q
    rcases q with q | q
    · exact Or.inl ((h.os b).2 (Or.inl q))
    · rcases hv5 b q with c | c
      · exact Or.inl ((h.os b).2 (Or.inr c))
      · exact Or.inr c

/-- from the entries' world on -/
theorem went_push {w wc w5 : World} {B cb mb : Nat} {O : Nat → Prop} {E : List En} {l : List Cel} {ad : Option Addr} {cap : Nat} (h : CsAt wc B cb O E (.slice ad E.length cap)) (hw : Chg O w wc) {x : En} (hr : Rl (E ++ [x]) l) (hi : Inv l) (ht : l.length ≤ top)
    {g cap5 : Nat} (ho : OwnR enC 3 176 B w5 (.slice (some ⟨g, 0, none⟩) (E.length + 1) cap5) (E ++ [x])) (hc : Chg (fun b => (Value.slice ad E.length cap).ownBlock = some b) wc w5) (hg : (Value.slice ad E.length cap).ownBlock = some g ∨ wc.heap.size ≤ g) :
    Went w B cb O l (w5.setCell ⟨cb, 0, none⟩ (.slice (some ⟨g, 0, none⟩) (E.length + 1) cap5)) := by
  obtain ⟨O', h1, h2, h3⟩ := cs_push h ho hc (fun b hb => by
    simp [Value.ownBlock] at hb
    subst hb
    exact hg)
  exact ⟨O', ⟨_, _, h1, hr, hi, ht⟩, hw.trans h2 (fun _ _ q => q), fun b q => (h3 b q).imp id (fun q => Nat.le_trans hw.size q)⟩



end Go.Proofs.YtahhionlbfhinaaGreatDoor.Ce

/- Break. -/
namespace Go.Proofs.YtahhionlbfhinaaGreatDoor.Ce
open Go.RowKit Go.Proofs.YtahhionlbfhinaaGreatDoor.Hp
set_option linter.unusedVariables false

def liftE (E : List En) (j : Nat) (e : En) : List En := if e.top = 0 then E else E.set j ⟨e.ok, ((E[e.top.toNat]?).map En.bes).getD 0, e.bes⟩

theorem lift_any (w : World) (B cb : Nat) (O : Nat → Prop) (E : List En) (v : Value) (h : CsAt w B cb O E v) (l : List Cel) (D : Nat → Bool) (hb : Bk E l D) (j : Nat) (e : En) (he : E[j]? = some e) :
    Calls Tryz.prog 119 #[.pointer (some ⟨cb, 0, none⟩), .int .i64 (j : Int)] w fun ex w' => ex = .returned (.int .i64 e.top) ∧ CsAt w' B cb O (liftE E j e) v ∧ Chg O w w' := by
  by_cases h0 : e.top = 0
  · refine (lift_none w B cb O E v h j e he h0).mono ?_
    rintro ex w' ⟨rfl, rfl⟩
    unfold liftE
    rw [if_pos h0, h0]
    exact ⟨rfl, h, Chg.refl _ _⟩
  · obtain ⟨k, x, k1, k2, _⟩ := bk_lift hb j e he h0
    refine (lift_some w B cb O E v h j k e x he k1 k2 (by omega)).mono ?_
    rintro ex w' ⟨rfl, g1, g2⟩
    unfold liftE
    rw [if_neg h0, k1, Int.toNat_natCast, k2]
    exact ⟨rfl, g1, g2⟩

/-- a row without its last ones -/
theorem _root_.Go.Proofs.YtahhionlbfhinaaGreatDoor.Hp.OwnR.cut {β : Type} {enc : β → List Value} {k : Nat} {e : TypeId} {B : Nat} {w : World} {g n cap : Nat} {xs ys : List β} (hk : ∀ y, (enc y).length = k) (h : OwnR enc k e B w (.slice (some ⟨g, 0, none⟩) n cap) (xs ++ ys)) : OwnR enc k e B w (.slice (some ⟨g, 0, none⟩) xs.length cap) xs := by
  rcases h.2 with ⟨h1, h0⟩ | ⟨g', cap', cur, h1, hb, hg, hn, hc, hs, ht⟩
  · cases h1
  · cases h1
    rw [List.length_append] at hn ht
    refine ⟨flat_len hk xs, Or.inr ⟨g, cap, cur, rfl, hb, hg, by omega, hc, hs, ?_⟩⟩
    have h2 : (cur.toList.take ((xs.length + ys.length) * k)).take (xs.length * k) = ((xs ++ ys).flatMap enc).take (xs.length * k) := by rw [ht]
    have h3 : (xs.flatMap enc).take (xs.length * k) = xs.flatMap enc := List.take_of_length_le (by rw [flat_len hk]; exact Nat.le_refl _)
    rw [List.take_take, List.flatMap_append, List.take_append_of_le_length (by rw [flat_len hk]; exact Nat.le_refl _), h3] at h2
    rw [← h2]
    congr 1
    rw [Nat.add_mul]
    omega

/-- the last of a row -/
theorem _root_.Go.Proofs.YtahhionlbfhinaaGreatDoor.Hp.OwnR.last {B : Nat} {w : World} {v : Value} {S : List Nat} {j : Nat} (h : OwnR natC 1 3 B w v (S ++ [j])) : ∃ g cap, v = .slice (some ⟨g, 0, none⟩) (S.length + 1) cap ∧ B ≤ g ∧ g < w.heap.size ∧ w.cell? ⟨g, S.length, none⟩ = some (.int .i64 (j : Int)) ∧ S.length + 1 ≤ cap ∧ cap ≤ maxLen := by
  rcases h.2 with ⟨h1, h0⟩ | ⟨g, cap, cur, rfl, hb, hg, hn, hc, hs, ht⟩
  · rw [List.length_append] at h0
    simp at h0
  · rw [List.length_append, List.length_singleton] at hn ht
    refine ⟨g, cap, by rw [List.length_append, List.length_singleton], hb, (Array.getElem?_eq_some_iff.1 hg).1, ?_, hn, hc⟩
    have hf := flat_at rtNat.len (S ++ [j]) S.length j (by simp) 0 _ rfl
    rw [cell_of_row w g _ cur 3 (0, 0) hg]
    have e1 : (cur.toList.take ((S.length + 1) * 1))[S.length * 1 + 0]? = some (.int .i64 (j : Int)) := by rw [ht]; exact hf
    rw [List.getElem?_take_of_lt (by omega)] at e1
    simpa using e1

/-- ahead of a round of Break -/
structure BrAt (w : World) (B cb : Nat) (O : Nat → Prop) (l : List Cel) (n : Nat) (v : Value) (wx : World) (E : List En) (D : Nat → Bool) (S : List Nat) (s6 : Value) : Prop where
  pile : Pile E l n D S
  cs : CsAt wx B cb O E v
  chg : Chg O w wx
  stk : OwnR natC 1 3 w.heap.size wx s6 S

/-- in a round: the last one on top of j was taken off -/
structure BiAt (w : World) (B cb : Nat) (O : Nat → Prop) (l : List Cel) (n : Nat) (v : Value) (wx : World) (E : List En) (D : Nat → Bool) (S : List Nat) (j : Nat) (e : En) (s6 : Value) : Prop where
  pile : Pile E l n D (S ++ [j])
  ej : E[j]? = some e
  cs : CsAt wx B cb O (liftE E j e) v
  chg : Chg O w wx
  stk : OwnR natC 1 3 w.heap.size wx s6 (S ++ [j])

theorem BrAt.bound {w : World} {B cb : Nat} {O : Nat → Prop} {l : List Cel} {n : Nat} {v : Value} {wx : World} {E : List En} {D : Nat → Bool} {S : List Nat} {s6 : Value} (h : BrAt w B cb O l n v wx E D S s6) (ht : l.length ≤ top) : cntD D l.length ≤ 8796093022208 ∧ S.length ≤ cntD D l.length := by
  have := cntD_le D l.length
  unfold top at ht
  exact ⟨by omega, h.pile.len⟩

/-- the entry of one on the stack -/
theorem BrAt.entry {w : World} {B cb : Nat} {O : Nat → Prop} {l : List Cel} {n : Nat} {v : Value} {wx : World} {E : List En} {D : Nat → Bool} {S : List Nat} {j : Nat} {s6 : Value} (h : BrAt w B cb O l n v wx E D (S ++ [j]) s6) : ∃ e, E[j]? = some e := by
  have h1 := h.pile.on j (by simp)
  have h2 := ok_lt (h.pile.done j h1).1
  exact ⟨_, List.getElem?_eq_getElem (by rw [h.pile.bk.len]; exact h2)⟩

theorem stk_kept {w wx wy : World} {O : Nat → Prop} {s6 : Value} {S : List Nat} (hO : ∀ b, O b → b < w.heap.size) (h : OwnR natC 1 3 w.heap.size wx s6 S) (hc : Chg O wx wy) : OwnR natC 1 3 w.heap.size wy s6 S :=
  h.kept hc (fun b hb q => by have := (h.lt b hb).1; have := hO b q; omega)

/-- one is taken off -/
theorem BrAt.lift {w : World} {B cb : Nat} {O : Nat → Prop} {l : List Cel} {n : Nat} {v : Value} {wx : World} {E : List En} {D : Nat → Bool} {S : List Nat} {j : Nat} {s6 : Value} (hO : ∀ b, O b → b < w.heap.size) (h : BrAt w B cb O l n v wx E D (S ++ [j]) s6) (e : En) (he : E[j]? = some e) :
    Calls Tryz.prog 119 #[.pointer (some ⟨cb, 0, none⟩), .int .i64 (j : Int)] wx fun ex w' => ex = .returned (.int .i64 e.top) ∧ BiAt w B cb O l n v w' E D S j e s6 := by
  refine (lift_any wx B cb O E v h.cs l D h.pile.bk j e he).mono ?_
  rintro ex w' ⟨rfl, g1, g2⟩
  exact ⟨rfl, h.pile, he, g1, h.chg.trans g2 (fun _ _ q => q), stk_kept hO h.stk g2⟩

/-- nothing was left: the last one goes off the stack -/
theorem BiAt.pop {w : World} {B cb : Nat} {O : Nat → Prop} {l : List Cel} {n : Nat} {v : Value} {wx : World} {E : List En} {D : Nat → Bool} {S : List Nat} {j : Nat} {e : En} {g cap : Nat} (h : BiAt w B cb O l n v wx E D S j e (.slice (some ⟨g, 0, none⟩) (S.length + 1) cap)) (h0 : e.top = 0) : BrAt w B cb O l n v wx E D S (.slice (some ⟨g, 0, none⟩) S.length cap) := by
  have hc := h.cs
  unfold liftE at hc
  rw [if_pos h0] at hc
  exact ⟨h.pile.pop e h.ej h0, hc, h.chg, h.stk.cut rtNat.len⟩

/-- the one that was taken off -/
theorem BiAt.took {w : World} {B cb : Nat} {O : Nat → Prop} {l : List Cel} {n : Nat} {v : Value} {wx : World} {E : List En} {D : Nat → Bool} {S : List Nat} {j : Nat} {e : En} {s6 : Value} (h : BiAt w B cb O l n v wx E D S j e s6) (h0 : e.top ≠ 0) :
    ∃ (k : Nat) (x : En), e.top = (k : Int) ∧ 0 < k ∧ x.bes < (k : Int) ∧ 0 ≤ x.bes ∧ (liftE E j e)[k]? = some x ∧ k < l.length ∧
      (x.ok = false → BrAt w B cb O l n v wx (liftE E j e) D (S ++ [j]) s6 ∧ (liftE E j e)[j]? = some ⟨e.ok, x.bes, e.bes⟩) ∧
      (x.ok = true → D k = false ∧ okAt l k = true ∧ Pile ((liftE E j e).set k ⟨false, x.top, x.bes⟩) l n (put D k) (S ++ [j] ++ [k]) ∧ cntD (put D k) l.length = cntD D l.length + 1) := by
  obtain ⟨k, x, k1, k2, k3, k4, k5, k6, k7, k8⟩ := bk_lift h.pile.bk j e h.ej h0
  have hj := (List.getElem?_eq_some_iff.1 h.ej).1
  have hE : liftE E j e = E.set j ⟨e.ok, x.bes, e.bes⟩ := by
    unfold liftE
    rw [if_neg h0, k1, Int.toNat_natCast, k2]
    rfl
  have hcs := h.cs
  rw [hE] at hcs
  rw [hE]
  refine ⟨k, x, k1, by omega, k4, k5, by rw [List.getElem?_set_ne (fun q => k6 q.symm)]; exact k2, (child_lt k3).1, fun hf => ?_, fun ht => ?_⟩
  · exact ⟨⟨h.pile.skip (k7 hf), hcs, h.chg, h.stk⟩, List.getElem?_set_self hj⟩
  · obtain ⟨a1, a2, a3⟩ := k8 ht
    obtain ⟨b1, b2⟩ := h.pile.push (j := j) (by simp) k3 a1 a2 a3
    exact ⟨a1, a2, b1, b2⟩

end Go.Proofs.YtahhionlbfhinaaGreatDoor.Ce
