/- The program's places: a set of numbers in a map; take. -/
import Derived.Test.YtihmdcdifakepaaWS
import Derived.Maps.OwnSet
import Derived.Maps.OwnOps
import Derived.Maps.Own
namespace Go.Proofs.Ytihmdcdifakepaa.Sc
open Go.RowKit Go.Maps
set_option linter.unusedVariables false

/-- the set of these numbers -/
def setD (L : List Int) : DataW Unit := setOf (.agg []) (L.map (Lit.int .i64))

theorem any_int (x : Int) : ∀ l : List Int, l.any ((fun y : Lit => y.sameKey (.int .i64 x)) ∘ Lit.int .i64) = l.contains x
  | [] => rfl
  | a :: r => by
    rw [List.any_cons, List.contains_cons, any_int x r]
    congr 1
    show decide (IntKind.i64 = IntKind.i64 ∧ a = x) = (x == a)
    by_cases e : a = x
    · subst e
      simp
    · have e' : ¬ x = a := fun h => e h.symm
      simp [e, e']
theorem has_setD (L : List Int) (x : Int) : Maps.has (setD L) (.int .i64 x) = L.contains x := by
  unfold setD
  rw [has_setOf _ _ _ (fun y hy => by obtain ⟨_, _, rfl⟩ := List.mem_map.1 hy; trivial), List.any_map]
  exact any_int x _
theorem setD_new (L : List Int) (x : Int) : (setD L).put (.int .i64 x) (.agg []) = setD (L ++ [x]) := by
  unfold setD
  rw [List.map_append, List.map_singleton, setOf_snoc]

theorem law3 : Keyed Try.prog 3 := int_keyed Try.underlying3
theorem zero110 (w : World) : (zeroValue 110).run Try.prog w = .ok (.agg #[]) w := by kernel_rfl

/-- a set of numbers in the map at b -/
def SetAt (w : World) (b m : Nat) (L : List Int) : Prop := w.ownsMap Try.prog 3 (unitElem (H := Unit)) b m (setD L)

theorem SetAt.lt {w : World} {b m : Nat} {L : List Int} (h : SetAt w b m L) : b < w.heap.size := World.ownsMap.lt h
theorem SetAt.kept {w w' : World} {b m : Nat} {L : List Int} {S : Nat → Prop} (h : SetAt w b m L) (hc : Chg S w w') (hs : ¬ S b) : SetAt w' b m L := by
  have hlt := h.lt
  obtain ⟨es, clock, hb, F, h1, h2⟩ := h
  exact ⟨es, clock, (hc.block b hlt hs).trans hb, F, h1, h2⟩
theorem SetAt.mono {w : World} {b m m' : Nat} {L : List Int} (h : SetAt w b m L) (hm : m ≤ m') : SetAt w b m' L := World.ownsMap.mono h hm
theorem SetAt.made (w : World) : SetAt (w.alloc (.map #[] 0)) w.heap.size 0 [] := World.ownsMap_made _ _ _ _

set_option maxRecDepth 100000 in
theorem take_any (b m : Nat) (L : List Int) (a : Int) (w : World) (h : SetAt w b m L) (hm : m ≤ 1000000) (hwf : (Lit.int .i64 a).wf = true) :
    Calls Try.prog 39 #[.map (some b), .int .i64 a] w fun e w' => e = .returned (.bool (!L.contains a)) ∧ SetAt w' b (m + 1) (L ++ [a]) ∧ Chg (fun k => k = b) w w' := by
  have hkey : keyOf Try.prog 3 (.int .i64 a) = some (.int .i64 a) := keyOf_int_mk Try.underlying3 hwf
  have HH : Hid (SetAt w b m L) := h
  have hown : w.ownsMap Try.prog 3 (unitElem (H := Unit)) b m (setD L) := h
  have hmm : m < maxLen := by unfold maxLen; omega
  have hu : Try.prog.underlying 53 = some (.map 3 110) := Try.underlying53
  have HC : Hid (Maps.has (setD L) (.int .i64 a) = L.contains a) := has_setD L a
  clear h
  go_enter Try.func39, Try.ntmps39
  go_wp2_with (first
    | (at_lookup; refine wpList_lookup_own_unit _ rfl _ _ 53 rfl 3 110 law3 hu (zero110 _) b m _ rfl hown _ _ rfl hkey ?_)
    | (at_mapUpdate; refine wpList_mapUpdate_own _ rfl _ _ _ 53 rfl 3 110 law3 hu (unitElem (H := Unit)) b m _ rfl (hown.alloc _) hmm _ _ _ rfl rfl hkey _ [] unitElem_mk ?_; intro w1 hown1 hgrow1))
  have HB : Hid (Chg (fun k => k = b) w w1) := (Chg.of_below ((Below.refl w.heap.size w).alloc (Nat.le_refl _) _)).trans (Chg.of_grown (S := fun k => k = b) hgrow1 (fun k e => by cases e; rfl)) (fun _ _ q => q)
  have HS : Hid (SetAt w1 b (m + 1) (L ++ [a])) := by
    have := hown1
    rw [setD_new] at this
    exact this
  clear hown1 hgrow1
  go_ret
  rw [HC.out]
  exact ⟨rfl, HS.out, HB.out⟩
end Go.Proofs.Ytihmdcdifakepaa.Sc
