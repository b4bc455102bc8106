/- Package code: rising. -/
import Derived.Test.YtjkemkggcnholaaFB
import Derived.Test.YtjkemkggcnholaaShelfS
import Derived.Sort.OwnSortedInts
namespace Go.Proofs.Ytjkemkggcnholaa.Fu
open Go.RowKit Go.Sort
set_option linter.unusedVariables false

theorem own_take {B : Nat} {w : World} {g cap : Nat} {a b : List Int} (h : OwnI B w (.slice (some ⟨g, 0, none⟩) (a ++ b).length cap) (a ++ b)) : OwnI B w (.slice (some ⟨g, 0, none⟩) a.length cap) a := by
  refine ⟨by simp, Or.inr ?_⟩
  rcases h.2 with ⟨h0, _⟩ | ⟨g', cap', cur, h1, hb, hg, hnc, hcm, hcs, ht⟩
  · cases h0
  · cases h1
    refine ⟨g, cap, cur, rfl, hb, hg, by simp at hnc; omega, hcm, hcs, ?_⟩
    have := congrArg (List.take (a.length * 1)) ht
    rw [List.take_take, List.map_append, List.take_append_of_le_length (by simp), Nat.min_eq_left (by simp)] at this
    rw [this, List.take_of_length_le (by simp)]

theorem sort_any (g cap : Nat) (zs : List Int) (w : World) (hH : Holds (Value.int .i64) w g 0 zs.toArray) (hblk : g < w.heap.size) (hsz : zs.length < 4611686018427387904) :
    Calls Try.prog 26 #[.slice (some ⟨g, 0, none⟩) zs.length cap] w fun e w' =>
      e = .returned (.tuple #[]) ∧ ∃ n os, w' = grow (putRow (Value.int .i64) (Sort.ahead w n) g 0 (zs.mergeSort fun x y => decide (x ≤ y)).toArray) os :=
  Any.slices_Sort_int Try.laysSort g 0 cap zs w hH hblk hsz

theorem sort_none (p : Option Addr) (cap : Nat) (w : World) : Calls Try.prog 26 #[.slice p 0 cap] w fun e w' => e = .returned (.tuple #[]) ∧ w' = w :=
  Any.slices_Sort_int_none Try.laysSort p cap w

theorem compact_any (g cap : Nat) (zs : List Int) (w : World) (hH : Holds (Value.int .i64) w g 0 zs.toArray) (hsz : zs.length ≤ 9223372036854775807) (hcap : zs.length ≤ cap) :
    Calls Try.prog 27 #[.slice (some ⟨g, 0, none⟩) zs.length cap] w fun e w' => e = .returned (.slice (some ⟨g, 0, none⟩) (Lib.compact zs).length cap) ∧ ∃ q, w' = putRow (Value.int .i64) (Sort.ahead w q) g 0 (Lib.compact zs ++ List.replicate (zs.length - (Lib.compact zs).length) 0).toArray :=
  Any.slices_Compact_int Try.laysCompact g 0 cap zs w hH hsz hcap

theorem compact_none (p : Option Addr) (cap : Nat) (w : World) : Calls Try.prog 27 #[.slice p 0 cap] w fun e w' => e = .returned (.slice p 0 cap) ∧ w' = w :=
  Any.slices_Compact_int_empty Try.laysCompact p cap w

theorem risen_nil : risen [] = [] := List.length_eq_zero_iff.1 (Nat.le_zero.1 (risen_length []))

theorem rising_any (w0 w : World) (v : Value) (zs : List Int) (ho : OwnI w0.heap.size w v zs) (hb : Below w0.heap.size w0 w) (hlen : zs.length < 4611686018427387904) :
    Calls Try.prog 21 #[v] w fun e w' => ∃ v', e = .returned v' ∧ OwnI w0.heap.size w' v' (risen zs) ∧ Below w0.heap.size w0 w' := by
  by_cases hz : zs = []
  · subst hz
    rw [risen_nil]
    obtain ⟨ad, cap, rfl, hc, hm, _⟩ := ho.ints
    have HO : Hid (OwnI w0.heap.size w (.slice ad 0 cap) []) := ho
    have HB : Hid (Below w0.heap.size w0 w) := hb
    clear ho hb
    have c1 := sort_none ad cap
    have c2 := compact_none ad cap
    simp only [List.length_nil]
    go_enter Try.func21, Try.ntmps21
    go_wp2_with fail
    refine (c1 _).mono ?_
    rintro e w1 ⟨rfl, rfl⟩
    go_wp2_with fail
    refine (c2 _).mono ?_
    rintro e w2 ⟨rfl, rfl⟩
    go_wp2
    go_ret
    exact ⟨_, rfl, HO.out, HB.out⟩
  · rcases ho.2 with ⟨rfl, hn⟩ | ⟨g, cap, cur, rfl, hB, hg, hnc, hcm, hcs, ht⟩
    · exact absurd (List.length_eq_zero_iff.1 hn) hz
    have hgl : g < w.heap.size := (Array.getElem?_eq_some_iff.1 hg).1
    have hH : Holds (Value.int .i64) w g 0 zs.toArray := holds_of_blockI hg (by rw [Nat.mul_one] at ht; exact ht)
    have c1 := sort_any g cap zs w hH hgl hlen
    have hsl : (zs.mergeSort fun x y => decide (x ≤ y)).length = zs.length := by simp
    have HC : Hid (∀ n os, OwnI w0.heap.size (grow (putRow (Value.int .i64) (Sort.ahead w n) g 0 (zs.mergeSort fun x y => decide (x ≤ y)).toArray) os) (.slice (some ⟨g, 0, none⟩) (zs.mergeSort fun x y => decide (x ≤ y)).length cap) (zs.mergeSort fun x y => decide (x ≤ y)) ∧ Below w0.heap.size w0 (grow (putRow (Value.int .i64) (Sort.ahead w n) g 0 (zs.mergeSort fun x y => decide (x ≤ y)).toArray) os)) := by
      intro n os
      constructor
      · unfold OwnI
        have := ownsRow_sortedI (n := n) (os := os) (e := 3) (base := w0.heap.size) hsl hB hg hnc hcm hcs
        rw [← hsl] at this
        exact this
      · exact hb.grown (grownBy_sortedI _) hb.size (fun k hk => by cases hk; exact hB)
    clear ho hg hnc hcm hcs ht hH hb hgl
    unfold risen
    generalize zs.mergeSort (fun x y => decide (x ≤ y)) = ss at *
    have c2 : ∀ w1, OwnI w0.heap.size w1 (.slice (some ⟨g, 0, none⟩) ss.length cap) ss → Below w0.heap.size w0 w1 →
        Calls Try.prog 27 #[.slice (some ⟨g, 0, none⟩) ss.length cap] w1 fun e w' => ∃ v', e = .returned v' ∧ OwnI w0.heap.size w' v' (Lib.compact ss) ∧ Below w0.heap.size w0 w' := by
      intro w1 h1 h2
      rcases h1.2 with ⟨h0, _⟩ | ⟨g', cap', cur, e1, hb, hg, hnc, hcm, hcs, ht⟩
      · cases h0
      cases e1
      have hH : Holds (Value.int .i64) w1 g 0 ss.toArray := holds_of_blockI hg (by rw [Nat.mul_one] at ht; exact ht)
      refine (compact_any g cap ss w1 hH (by omega) hnc).mono ?_
      rintro e w' ⟨rfl, q, rfl⟩
      refine ⟨_, rfl, ?_, ?_⟩
      · have hcl := Lib.compact_length_le ss
        have hl : (Lib.compact ss ++ List.replicate (ss.length - (Lib.compact ss).length) 0).length = ss.length := by simp; omega
        generalize List.replicate (ss.length - (Lib.compact ss).length) (0 : Int) = zz at *
        have := ownsRow_sortedI (n := q) (os := #[]) (e := 3) (base := w0.heap.size) hl hb hg hnc hcm hcs
        rw [grow_empty, ← hl] at this
        exact own_take this
      · have := grownBy_sortedI (w := w1) (g := g) (n := q) (os := #[]) (Lib.compact ss ++ List.replicate (ss.length - (Lib.compact ss).length) 0).toArray
        rw [grow_empty] at this
        exact h2.grown this h2.size (fun k hk => by cases hk; exact hB)
    have HC2 := (fun (w1 : World) (h : OwnI w0.heap.size w1 (.slice (some ⟨g, 0, none⟩) ss.length cap) ss ∧ Below w0.heap.size w0 w1) => c2 w1 h.1 h.2)
    rw [hsl] at HC2
    rw [hsl] at HC
    have HC3 : Hid (∀ w1, OwnI w0.heap.size w1 (.slice (some ⟨g, 0, none⟩) zs.length cap) ss ∧ Below w0.heap.size w0 w1 →
        Calls Try.prog 27 #[.slice (some ⟨g, 0, none⟩) zs.length cap] w1 fun e w' => ∃ v', e = .returned v' ∧ OwnI w0.heap.size w' v' (Lib.compact ss) ∧ Below w0.heap.size w0 w') := HC2
    clear c2 HC2 hsl
    go_enter Try.func21, Try.ntmps21
    go_wp2_with fail
    refine c1.mono ?_
    rintro e w1 ⟨rfl, n, os, rfl⟩
    have k2 := HC3.out _ (HC.out n os)
    generalize grow (putRow (Value.int .i64) (Sort.ahead w n) g 0 ss.toArray) os = w1 at *
    go_wp2_with fail
    refine k2.mono ?_
    rintro e w2 ⟨v', rfl, h1, h2⟩
    have H1 : Hid (OwnI w0.heap.size w2 v' (Lib.compact ss) ∧ Below w0.heap.size w0 w2) := ⟨h1, h2⟩
    clear h1 h2
    go_wp2
    go_ret
    exact ⟨_, rfl, H1.out.1, H1.out.2⟩
end Go.Proofs.Ytjkemkggcnholaa.Fu
