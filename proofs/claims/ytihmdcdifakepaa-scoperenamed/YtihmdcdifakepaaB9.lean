/- The document's Right. -/
import Derived.Test.YtihmdcdifakepaaWR
import Derived.Maps.OwnSet
import Derived.Maps.OwnOps
import Derived.Maps.Own
namespace Go.Proofs.Ytihmdcdifakepaa.Sc
open Go.RowKit
set_option linter.unusedVariables false

theorem loopC_sz {n : Nat} (g : Tr n → Int → Int) (h : ∀ k r, 0 ≤ g k r → g k r = r - szT n k) (xs : List (Tr n)) (r : Int) (h0 : 0 ≤ loopC g xs r) : loopC g xs r = r - szL xs := by
  induction xs generalizing r with
  | nil => simp [loopC, szL_nil]
  | cons k ks ih =>
    rw [loopC] at h0 ⊢
    by_cases c : 0 ≤ r
    · rw [if_pos c] at h0 ⊢
      have h1 := ih (g k r) h0
      have h2 : 0 ≤ g k r := by rw [h1] at h0; omega
      rw [h1, h k r h2, szL_cons]
      omega
    · rw [if_neg c] at h0
      exact absurd h0 c
theorem count_sz (n lv : Nat) (t : Tr n) (r : Int) (h : 0 ≤ countT n lv t r) : countT n lv t r = r - szT n t := by
  induction n generalizing lv r with
  | zero => exact nomatch (t : Empty)
  | succ n ih =>
    obtain ⟨x, s⟩ := t
    rw [countT] at h ⊢
    by_cases c : lv = 0
    · rw [if_pos c] at h; omega
    · rw [if_neg c] at h ⊢
      rw [loopC_sz (countT n (lv - 1)) (fun k r hr => ih (lv - 1) k r hr) s.xs (r - 1) h]
      show _ = r - ((1 + szL s.xs : Nat) : Int)
      omega

theorem frozen_new (w : World) (cs : Array Value) (ty : TypeId) (i : Nat) : (w.alloc (.cells cs ty)).frozen? ⟨w.heap.size, i, none⟩ = false := by
  simp [go_sem]

theorem places_new {B : Nat} {W0 w : World} (hB : B ≤ w.heap.size) : PlAt B w.heap.size (w.alloc (.cells #[.slice none 0 0, .slice none 0 0, .bool false] 60)) (some ([], [])) 0 (.slice none 0 0) (.slice none 0 0) :=
  ⟨[], [], ⟨box_new w _ _ 0 _ rfl, box_new w _ _ 1 _ rfl, box_new w _ _ 2 _ rfl, frozen_new w _ _ _, frozen_new w _ _ _, frozen_new w _ _ _, OwnI.nil _ _, OwnI.nil _ _, by simp [Value.ownBlock], by simp [Value.ownBlock], by simp [Value.ownBlock], hB⟩, ⟨rfl, rfl, rfl⟩, Nat.le_refl _, Nat.le_refl _⟩

set_option maxRecDepth 100000 in
theorem refRight_any (n : Nat) (t : Tr n) (w : World) (hok : okT n w t) : Calls Try.prog 10 #[valT n t] w fun e w' => e = .returned (.bool (rootR n t)) ∧ Below w.heap.size w w' := by
  cases n with
  | zero => exact nomatch (t : Empty)
  | succ n =>
    obtain ⟨⟨kind, pl, name, num, op⟩, ⟨ad, cap, xs⟩⟩ := t
    obtain ⟨R, hR⟩ : ∃ R, R = rootR (n + 1) ((⟨kind, pl, name, num, op⟩, ⟨ad, cap, xs⟩) : Nd × Sli (Tr n)) := ⟨_, rfl⟩
    rw [← hR]
    have HR : Hid (R = rootR (n + 1) ((⟨kind, pl, name, num, op⟩, ⟨ad, cap, xs⟩) : Nd × Sli (Tr n))) := hR
    clear hR
    have HOK : Hid (okT (n + 1) w ((⟨kind, pl, name, num, op⟩, ⟨ad, cap, xs⟩) : Nd × Sli (Tr n))) := hok
    have hl : xs.length ≤ 2 ^ 63 - 1 := Nat.le_trans hok.2.1.len hok.2.1.cap
    clear hok
    rw [val_succ]
    simp only
    obtain ⟨wp, hwp⟩ : ∃ wp, wp = (w.alloc (.cells #[.int .i64 kind, .int .i64 pl, .string name, .int .u64 num, .string op, .slice ad xs.length cap] 25)).alloc (.cells #[.slice none 0 0, .slice none 0 0, .bool false] 60) := ⟨_, rfl⟩
    have hb1 : Below w.heap.size w wp := by rw [hwp]; exact ((Below.refl w.heap.size w).alloc (Nat.le_refl _) _).alloc (by simp) _
    have hp1 : PlAt w.heap.size (w.heap.size + 1) wp (some ([], [])) 0 (.slice none 0 0) (.slice none 0 0) := by
      rw [hwp]
      have := places_new (B := w.heap.size) (W0 := w) (w := w.alloc (.cells #[.int .i64 kind, .int .i64 pl, .string name, .int .u64 num, .string op, .slice ad xs.length cap] 25)) (by simp)
      simpa using this
    have hbox : ∀ i v, (#[.int .i64 kind, .int .i64 pl, .string name, .int .u64 num, .string op, .slice ad xs.length cap] : Array Value)[i]? = some v → wp.cell? ⟨w.heap.size, i, none⟩ = some v := by
      intro i v h
      rw [hwp]
      exact cells_below ((Below.refl _ _).alloc (Nat.le_refl _) _) _ _ (box_new w #[.int .i64 kind, .int .i64 pl, .string name, .int .u64 num, .string op, .slice ad xs.length cap] 25 i v h)
    have HW : Hid (Below w.heap.size w wp ∧ PlAt w.heap.size (w.heap.size + 1) wp (some ([], [])) 0 (.slice none 0 0) (.slice none 0 0) ∧ (∀ i v, (#[.int .i64 kind, .int .i64 pl, .string name, .int .u64 num, .string op, .slice ad xs.length cap] : Array Value)[i]? = some v → wp.cell? ⟨w.heap.size, i, none⟩ = some v)) := ⟨hb1, hp1, hbox⟩
    have b0 : wp.cell? ⟨w.heap.size, 0, none⟩ = some (.int .i64 kind) := hbox 0 _ rfl
    have b1 : wp.cell? ⟨w.heap.size, 1, none⟩ = some (.int .i64 pl) := hbox 1 _ rfl
    have b2 : wp.cell? ⟨w.heap.size, 2, none⟩ = some (.string name) := hbox 2 _ rfl
    have b3 : wp.cell? ⟨w.heap.size, 3, none⟩ = some (.int .u64 num) := hbox 3 _ rfl
    have b4 : wp.cell? ⟨w.heap.size, 4, none⟩ = some (.string op) := hbox 4 _ rfl
    have b5 : wp.cell? ⟨w.heap.size, 5, none⟩ = some (.slice ad xs.length cap) := hbox 5 _ rfl
    have hcnt := count_any (n + 1) ((⟨kind, pl, name, num, op⟩, ⟨ad, cap, xs⟩) : Nd × Sli (Tr n)) 300 131072 wp (okT_kept HOK.out (cells_below hb1)) (by omega) (by omega) (Nat.le_refl _)
    rw [val_succ] at hcnt
    rw [show ((300 : Nat) : Int) = 300 from rfl] at hcnt
    obtain ⟨C, hC⟩ : ∃ C, C = countT (n + 1) 300 ((⟨kind, pl, name, num, op⟩, ⟨ad, cap, xs⟩) : Nd × Sli (Tr n)) 131072 := ⟨_, rfl⟩
    rw [← hC] at hcnt
    have HC : Hid (C = countT (n + 1) 300 ((⟨kind, pl, name, num, op⟩, ⟨ad, cap, xs⟩) : Nd × Sli (Tr n)) 131072) := hC
    clear hC hb1 hp1 hbox
    by_cases h47 : kind = 47
    · by_cases hc : C < 0
      · have e : R = false := by
          rw [HR.out]
          show (if _ then _ else _) = _
          rw [if_pos (Or.inr (by rw [← HC.out]; exact hc))]
        rw [e]
        subst h47
        go_enter Try.func10, Try.ntmps10
        go_upto_region 2 with fail
        rw [← hwp]
        clear hwp
        go_wp2_with fail
        refine hcnt.mono ?_
        rintro e w2 ⟨rfl, hb2⟩
        have d0 := cells_below hb2 _ _ b0
        have HB : Hid (Below w.heap.size w w2) := HW.out.1.trans (hb2.mono HW.out.1.size)
        clear hb2 hcnt
        go_wp2_with fail
        go_ret
        exact ⟨rfl, HB.out⟩
      · subst h47
        have hszz : szT (n + 1) ((⟨47, pl, name, num, op⟩, ⟨ad, cap, xs⟩) : Nd × Sli (Tr n)) ≤ 131072 := by
          have h1 := count_sz (n + 1) 300 ((⟨47, pl, name, num, op⟩, ⟨ad, cap, xs⟩) : Nd × Sli (Tr n)) 131072 (by rw [← HC.out]; omega)
          rw [← HC.out] at h1
          omega
        have hbody := (kids_all (B := w.heap.size) (pb := w.heap.size + 1) (W0 := w) rfl (n + 1) (n + 1) (Nat.le_refl _)).body ((⟨47, pl, name, num, op⟩, ⟨ad, cap, xs⟩) : Nd × Sli (Tr n)) false HOK.out
        have HBD : Hid (RC w.heap.size (w.heap.size + 1) w 22 #[.pointer (some ⟨w.heap.size + 1, 0, none⟩), .slice ad xs.length cap, .bool false] (bodyR (semR n) xs false) (szT (n + 1) ((⟨47, pl, name, num, op⟩, ⟨ad, cap, xs⟩) : Nd × Sli (Tr n)))) := hbody
        have HSZ : Hid (szT (n + 1) ((⟨47, pl, name, num, op⟩, ⟨ad, cap, xs⟩) : Nd × Sli (Tr n)) ≤ 131072) := hszz
        have e : R = (bodyR (semR n) xs false (some ([], []))).isSome := by
          rw [HR.out]
          show (if _ then _ else _) = _
          rw [if_neg (by rintro (q | q); exact q rfl; rw [← HC.out] at q; exact hc q)]
        have HE : Hid (R = (bodyR (semR n) xs false (some ([], []))).isSome) := e
        clear hbody hszz e
        go_enter Try.func10, Try.ntmps10
        go_upto_region 2 with fail
        rw [← hwp]
        clear hwp
        go_wp2_with fail
        refine hcnt.mono ?_
        rintro e w2 ⟨rfl, hb2⟩
        have d0 := cells_below hb2 _ _ b0
        have d5 := cells_below hb2 _ _ b5
        have HB : Hid (Below w.heap.size w w2 ∧ PlAt w.heap.size (w.heap.size + 1) w2 (some ([], [])) 0 (.slice none 0 0) (.slice none 0 0)) := ⟨HW.out.1.trans (hb2.mono HW.out.1.size), HW.out.2.1.new hb2⟩
        have hcall := HBD.out w2 _ _ _ _ HB.out.1 HB.out.2 (by have := HSZ.out; omega)
        clear hb2 hcnt b0 b1 b2 b3 b4 b5
        go_wp2_with fail
        refine hcall.mono ?_
        rintro e w3 ⟨rfl, vU3, vV3, p3, s3, q3⟩
        obtain ⟨g2, _⟩ := p3.bad
        obtain ⟨nb, hnb⟩ : ∃ nb, nb = (bodyR (semR n) xs false (some ([], []))).isNone := ⟨_, rfl⟩
        have HNB : Hid (nb = (bodyR (semR n) xs false (some ([], []))).isNone) := hnb
        rw [← hnb] at g2
        have HQ : Hid (Below w.heap.size w w3) := q3
        clear p3 s3 q3 hcall hnb
        go_wp2_with fail
        go_ret
        refine ⟨?_, HQ.out⟩
        rw [HE.out, HNB.out]
        cases bodyR (semR n) xs false (some ([], [])) <;> rfl
    · have e : R = false := by
        rw [HR.out]
        show (if _ then _ else _) = _
        rw [if_pos (Or.inl h47)]
      rw [e]
      have h47' : (kind != 47) = true := by simpa using h47
      go_enter Try.func10, Try.ntmps10
      go_upto_region 2 with fail
      rw [← hwp]
      clear hwp
      go_wp2_with fail
      refine hcnt.mono ?_
      rintro e w2 ⟨rfl, hb2⟩
      have d0 := cells_below hb2 _ _ b0
      have HB : Hid (Below w.heap.size w w2) := HW.out.1.trans (hb2.mono HW.out.1.size)
      clear hb2 hcnt
      go_wp2_with fail
      go_ret
      exact ⟨rfl, HB.out⟩
end Go.Proofs.Ytihmdcdifakepaa.Sc

/- The program's places: a set of numbers in a map; take. -/
namespace Go.Proofs.Ytihmdcdifakepaa.Sc
open Go.RowKit Go.Maps
set_option linter.unusedVariables false

/-- the set of these numbers -/
def setD (L : List Int) : DataW Unit := setOf (.agg []) (L.map (Lit.int .i64))

theorem any_int (x : Int) : ∀ l : List Int, l.any ((fun y : Lit => y.sameKey (.int .i64 x)) ∘ Lit.int .i64) = l.contains x
  | [] => rfl
  | a :: r => by
    rw [List.any_cons, List.contains_cons, any_int x r]
    congr 1
    show decide (IntKind.i64 = IntKind.i64 ∧ a = x) = (x == a)
    by_cases e : a = x
    · subst e
      simp
    · have e' : ¬ x = a := fun h => e h.symm
      simp [e, e']
theorem has_setD (L : List Int) (x : Int) : Maps.has (setD L) (.int .i64 x) = L.contains x := by
  unfold setD
  rw [has_setOf _ _ _ (fun y hy => by obtain ⟨_, _, rfl⟩ := List.mem_map.1 hy; trivial), List.any_map]
  exact any_int x _
theorem setD_new (L : List Int) (x : Int) : (setD L).put (.int .i64 x) (.agg []) = setD (L ++ [x]) := by
  unfold setD
  rw [List.map_append, List.map_singleton, setOf_snoc]

theorem law3 : Keyed Try.prog 3 := int_keyed Try.underlying3
theorem zero110 (w : World) : (zeroValue 110).run Try.prog w = .ok (.agg #[]) w := by kernel_rfl

/-- a set of numbers in the map at b -/
def SetAt (w : World) (b m : Nat) (L : List Int) : Prop := w.ownsMap Try.prog 3 (unitElem (H := Unit)) b m (setD L)

theorem SetAt.lt {w : World} {b m : Nat} {L : List Int} (h : SetAt w b m L) : b < w.heap.size := World.ownsMap.lt h
theorem SetAt.kept {w w' : World} {b m : Nat} {L : List Int} {S : Nat → Prop} (h : SetAt w b m L) (hc : Chg S w w') (hs : ¬ S b) : SetAt w' b m L := by
  have hlt := h.lt
  obtain ⟨es, clock, hb, F, h1, h2⟩ := h
  exact ⟨es, clock, (hc.block b hlt hs).trans hb, F, h1, h2⟩
theorem SetAt.mono {w : World} {b m m' : Nat} {L : List Int} (h : SetAt w b m L) (hm : m ≤ m') : SetAt w b m' L := World.ownsMap.mono h hm
theorem SetAt.made (w : World) : SetAt (w.alloc (.map #[] 0)) w.heap.size 0 [] := World.ownsMap_made _ _ _ _

set_option maxRecDepth 100000 in
theorem take_any (b m : Nat) (L : List Int) (a : Int) (w : World) (h : SetAt w b m L) (hm : m ≤ 1000000) (hwf : (Lit.int .i64 a).wf = true) :
    Calls Try.prog 39 #[.map (some b), .int .i64 a] w fun e w' => e = .returned (.bool (!L.contains a)) ∧ SetAt w' b (m + 1) (L ++ [a]) ∧ Chg (fun k => k = b) w w' := by
  have hkey : keyOf Try.prog 3 (.int .i64 a) = some (.int .i64 a) := keyOf_int_mk Try.underlying3 hwf
  have HH : Hid (SetAt w b m L) := h
  have hown : w.ownsMap Try.prog 3 (unitElem (H := Unit)) b m (setD L) := h
  have hmm : m < maxLen := by unfold maxLen; omega
  have hu : Try.prog.underlying 53 = some (.map 3 110) := Try.underlying53
  have HC : Hid (Maps.has (setD L) (.int .i64 a) = L.contains a) := has_setD L a
  clear h
  go_enter Try.func39, Try.ntmps39
  go_wp2_with (first
    | (at_lookup; refine wpList_lookup_own_unit _ rfl _ _ 53 rfl 3 110 law3 hu (zero110 _) b m _ rfl hown _ _ rfl hkey ?_)
    | (at_mapUpdate; refine wpList_mapUpdate_own _ rfl _ _ _ 53 rfl 3 110 law3 hu (unitElem (H := Unit)) b m _ rfl (hown.alloc _) hmm _ _ _ rfl rfl hkey _ [] unitElem_mk ?_; intro w1 hown1 hgrow1))
  have HB : Hid (Chg (fun k => k = b) w w1) := (Chg.of_below ((Below.refl w.heap.size w).alloc (Nat.le_refl _) _)).trans (Chg.of_grown (S := fun k => k = b) hgrow1 (fun k e => by cases e; rfl)) (fun _ _ q => q)
  have HS : Hid (SetAt w1 b (m + 1) (L ++ [a])) := by
    have := hown1
    rw [setD_new] at this
    exact this
  clear hown1 hgrow1
  go_ret
  rw [HC.out]
  exact ⟨rfl, HS.out, HB.out⟩
end Go.Proofs.Ytihmdcdifakepaa.Sc

/- The program's grammar: letters. -/
namespace Go.Proofs.Ytihmdcdifakepaa.Sc
open Go.RowKit
set_option linter.unusedVariables false

theorem isExpr_any (k : Int) (w : World) : Calls Try.prog 62 #[.int .i64 k] w fun e w' => e = .returned (.bool (isExprB k)) ∧ w' = w := by
  by_cases h1 : 1 ≤ k
  · by_cases h2 : k ≤ 22
    · by_cases h3 : k = 11
      · subst h3
        go_enter Try.func62, Try.ntmps62
        go_wp2
        go_ret
        exact ⟨rfl, rfl⟩
      · have HE : Hid (isExprB k = true) := by show _ = _; unfold isExprB; simp [h1, h2, h3]
        have h3' : (k != 11) = true := by simpa using h3
        go_enter Try.func62, Try.ntmps62
        go_wp2
        go_ret
        rw [HE.out]
        exact ⟨rfl, rfl⟩
    · have HE : Hid (isExprB k = false) := by show _ = _; unfold isExprB; simp [h2]
      have h2' : decide (k ≤ 22) = false := by simpa using h2
      go_enter Try.func62, Try.ntmps62
      go_wp2
      go_ret
      rw [HE.out]
      exact ⟨rfl, rfl⟩
  · have HE : Hid (isExprB k = false) := by show _ = _; unfold isExprB; simp [h1]
    have h1' : decide (1 ≤ k) = false := by simpa using h1
    go_enter Try.func62, Try.ntmps62
    go_wp2
    go_ret
    rw [HE.out]
    exact ⟨rfl, rfl⟩

theorem isStmt_any (k : Int) (w : World) : Calls Try.prog 63 #[.int .i64 k] w fun e w' => e = .returned (.bool (isStmtB k)) ∧ w' = w := by
  by_cases h1 : 34 ≤ k
  · by_cases h2 : k ≤ 46
    · have HE : Hid (isStmtB k = true) := by show _ = _; unfold isStmtB; simp [h1, h2]
      go_enter Try.func63, Try.ntmps63
      go_wp2
      go_ret
      rw [HE.out]
      exact ⟨rfl, rfl⟩
    · have HE : Hid (isStmtB k = false) := by show _ = _; unfold isStmtB; simp [h2]
      have h2' : decide (k ≤ 46) = false := by simpa using h2
      go_enter Try.func63, Try.ntmps63
      go_wp2
      go_ret
      rw [HE.out]
      exact ⟨rfl, rfl⟩
  · have HE : Hid (isStmtB k = false) := by show _ = _; unfold isStmtB; simp [h1]
    have h1' : decide (34 ≤ k) = false := by simpa using h1
    go_enter Try.func63, Try.ntmps63
    go_wp2
    go_ret
    rw [HE.out]
    exact ⟨rfl, rfl⟩

def letters : List UInt8 := [101, 69, 103, 115, 83, 105, 98, 66, 112, 110]

theorem mayLack_any (p : UInt8) (hp : p ∈ letters) (w : World) : Calls Try.prog 41 #[.int .u8 p.toNat] w fun e w' => e = .returned (.bool (mayLackB p)) ∧ w' = w := by
  simp only [letters, List.mem_cons, List.not_mem_nil, or_false] at hp
  rcases hp with rfl | rfl | rfl | rfl | rfl | rfl | rfl | rfl | rfl | rfl
  all_goals
    go_enter Try.func41, Try.ntmps41
    go_wp2
    go_ret
    exact ⟨rfl, rfl⟩

set_option maxRecDepth 100000 in
theorem isPart_any (p : UInt8) (hp : p ∈ letters) (k : Int) (w : World) : Calls Try.prog 42 #[.int .u8 p.toNat, .int .i64 k] w fun e w' => e = .returned (.bool (isPartB p k)) ∧ w' = w := by
  obtain ⟨A, hA⟩ : ∃ A, A = isPartB p k := ⟨_, rfl⟩
  rw [← hA]
  have HA : Hid (A = isPartB p k) := hA
  clear hA
  have e1 := isExpr_any k w
  have e2 := isStmt_any k w
  obtain ⟨E, hE⟩ : ∃ E, E = isExprB k := ⟨_, rfl⟩
  obtain ⟨S, hS⟩ : ∃ S, S = isStmtB k := ⟨_, rfl⟩
  rw [← hE] at e1
  rw [← hS] at e2
  have HE : Hid (E = isExprB k ∧ S = isStmtB k) := ⟨hE, hS⟩
  clear hE hS
  simp only [letters, List.mem_cons, List.not_mem_nil, or_false] at hp
  rcases hp with rfl | rfl | rfl | rfl | rfl | rfl | rfl | rfl | rfl | rfl
  · go_enter Try.func42, Try.ntmps42
    go_wp2_with fail
    refine e1.mono ?_
    rintro e w1 ⟨rfl, rfl⟩
    go_wp2_with fail
    go_ret
    exact ⟨by rw [HA.out, HE.out.1]; rfl, rfl⟩
  · go_enter Try.func42, Try.ntmps42
    go_wp2_with fail
    refine e1.mono ?_
    rintro e w1 ⟨rfl, rfl⟩
    go_wp2_with fail
    go_ret
    exact ⟨by rw [HA.out, HE.out.1]; rfl, rfl⟩
  · by_cases k3 : k = 3
    · subst k3
      go_enter Try.func42, Try.ntmps42
      go_wp2_with fail
      go_ret
      exact ⟨by rw [HA.out]; rfl, rfl⟩
    · have k3' : (k == 3) = false := by simpa using k3
      have HK : Hid (isPartB 103 k = (k == 13)) := by show _ = _; unfold isPartB; simp [k3]
      clear k3
      go_enter Try.func42, Try.ntmps42
      go_wp2_with fail
      go_ret
      exact ⟨by rw [HA.out, HK.out]; rfl, rfl⟩
  · go_enter Try.func42, Try.ntmps42
    go_wp2_with fail
    refine e2.mono ?_
    rintro e w1 ⟨rfl, rfl⟩
    go_wp2_with fail
    go_ret
    exact ⟨by rw [HA.out, HE.out.2]; rfl, rfl⟩
  · go_enter Try.func42, Try.ntmps42
    go_wp2_with fail
    refine e2.mono ?_
    rintro e w1 ⟨rfl, rfl⟩
    go_wp2_with fail
    go_ret
    exact ⟨by rw [HA.out, HE.out.2]; rfl, rfl⟩
  · have HK : Hid (isPartB 105 k = (isStmtB k || k == 31 || k == 32 || k == 33)) := rfl
    by_cases k1 : k = 31
    · subst k1
      cases S
      all_goals
        go_enter Try.func42, Try.ntmps42
        go_wp2_with fail
        refine e2.mono ?_
        rintro e w1 ⟨rfl, rfl⟩
        go_wp2_with fail
        go_ret
        exact ⟨by rw [HA.out]; rfl, rfl⟩
    by_cases k2 : k = 32
    · subst k2
      cases S
      all_goals
        go_enter Try.func42, Try.ntmps42
        go_wp2_with fail
        refine e2.mono ?_
        rintro e w1 ⟨rfl, rfl⟩
        go_wp2_with fail
        go_ret
        exact ⟨by rw [HA.out]; rfl, rfl⟩
    have k1' : (k == 31) = false := by simpa using k1
    have k2' : (k == 32) = false := by simpa using k2
    have HK2 : Hid (isPartB 105 k = (isStmtB k || k == 33)) := by show _ = _; rw [HK.out, k1', k2']; simp
    clear k1 k2
    cases hs : S
    · have HS2 : Hid (isPartB 105 k = (k == 33)) := by show _ = _; rw [HK2.out, ← HE.out.2, hs]; simp
      rw [hs] at e2
      go_enter Try.func42, Try.ntmps42
      go_wp2_with fail
      refine e2.mono ?_
      rintro e w1 ⟨rfl, rfl⟩
      go_wp2_with fail
      go_ret
      exact ⟨by rw [HA.out, HS2.out]; rfl, rfl⟩
    · have HS2 : Hid (isPartB 105 k = true) := by show _ = _; rw [HK2.out, ← HE.out.2, hs]; simp
      rw [hs] at e2
      go_enter Try.func42, Try.ntmps42
      go_wp2_with fail
      refine e2.mono ?_
      rintro e w1 ⟨rfl, rfl⟩
      go_wp2_with fail
      go_ret
      exact ⟨by rw [HA.out, HS2.out]; rfl, rfl⟩
  all_goals
    go_enter Try.func42, Try.ntmps42
    go_wp2_with fail
    go_ret
    exact ⟨by rw [HA.out]; rfl, rfl⟩
end Go.Proofs.Ytihmdcdifakepaa.Sc
