/- byCame, the binary search. -/
import Derived.Test.YtahhionlbfhinaaGreatDoorB11
namespace Go.Proofs.YtahhionlbfhinaaGreatDoor.Hp
open Go.RowKit
set_option linter.unusedVariables false

def cmpI (a b : Int) : Int := if a < b then -1 else if b < a then 1 else 0

theorem isNaN_any (w : World) (a : Int) : Calls Tryz.prog 131 #[.int .i64 a] w fun e w' => e = .returned (.bool false) ∧ w' = w := by
  have h : (a != a) = false := by simp
  go_enter Tryz.func131, Tryz.ntmps131
  go_wp2
  go_ret
  exact ⟨rfl, rfl⟩

theorem compare_any (w : World) (a b : Int) : Calls Tryz.prog 120 #[.int .i64 a, .int .i64 b] w fun e w' => e = .returned (.int .i64 (cmpI a b)) ∧ w' = w := by
  have k1 := isNaN_any w a
  have k2 := isNaN_any w b
  unfold cmpI
  by_cases c : a < b
  · rw [if_pos c]
    have c1 : decide (a < b) = true := decide_eq_true c
    go_enter Tryz.func120, Tryz.ntmps120
    go_wp2_with fail
    refine k1.mono ?_
    rintro e w2 ⟨rfl, rfl⟩
    go_wp2_with fail
    refine k2.mono ?_
    rintro e w2 ⟨rfl, rfl⟩
    go_wp2_with fail
    go_ret
    exact ⟨rfl, rfl⟩
  · rw [if_neg c]
    by_cases d : b < a
    · rw [if_pos d]
      go_enter Tryz.func120, Tryz.ntmps120
      go_wp2_with fail
      refine k1.mono ?_
      rintro e w2 ⟨rfl, rfl⟩
      go_wp2_with fail
      refine k2.mono ?_
      rintro e w2 ⟨rfl, rfl⟩
      go_wp2_with fail
      go_ret
      exact ⟨rfl, rfl⟩
    · rw [if_neg d]
      go_enter Tryz.func120, Tryz.ntmps120
      go_wp2_with fail
      refine k1.mono ?_
      rintro e w2 ⟨rfl, rfl⟩
      go_wp2_with fail
      refine k2.mono ?_
      rintro e w2 ⟨rfl, rfl⟩
      go_wp2_with fail
      go_ret
      exact ⟨rfl, rfl⟩

def prV (p : Pr) : Value := .agg #[.string p.key, .int .i64 p.came, .int .u64 p.de.va, .int .u64 p.de.se, .int .i64 p.de.fl]

theorem byCame_any (w : World) (p : Pr) (c : Int) : Calls Tryz.prog 96 #[prV p, .int .i64 c] w fun e w' => e = .returned (.int .i64 (cmpI p.came c)) ∧ Below w.heap.size w w' := by
  obtain ⟨wb, hwb⟩ : ∃ wb, wb = w.alloc (.cells #[.string p.key, .int .i64 p.came, .int .u64 p.de.va, .int .u64 p.de.se, .int .i64 p.de.fl] 129) := ⟨_, rfl⟩
  have HB : Hid (Below w.heap.size w wb) := by rw [hwb]; exact (Below.refl _ _).alloc (Nat.le_refl _) _
  have b1 : wb.cell? ⟨w.heap.size, 1, none⟩ = some (.int .i64 p.came) := by rw [hwb]; exact box_new w _ _ 1 _ rfl
  have kc := compare_any wb p.came c
  obtain ⟨pk, pc, pv, pse, pf⟩ := p
  unfold prV
  simp only at *
  generalize cmpI pc c = r at *
  go_enter Tryz.func96, Tryz.ntmps96
  go_upto_region 1 with fail
  rw [← hwb]
  clear hwb
  go_wp2_with fail
  refine kc.mono ?_
  rintro e w2 ⟨rfl, rfl⟩
  go_wp2_with fail
  go_ret
  exact ⟨rfl, HB.out⟩

/-- on the search's way -/
structure BsAt (ps : List Pr) (c : Int) (n i j : Nat) : Prop where
  le : i ≤ n
  lt : n < j ∨ n = j
  jl : j ≤ ps.length
  ij : i ≤ j
  lo : ∀ k p, k < i → ps[k]? = some p → p.came < c
  hi : ∀ k p, j ≤ k → ps[k]? = some p → c ≤ p.came

theorem cm_lt {ps : List Pr} (h : ps.Pairwise (fun a b => a.came < b.came)) {i j : Nat} {a b : Pr} (hi : ps[i]? = some a) (hj : ps[j]? = some b) (hij : i < j) : a.came < b.came := by
  obtain ⟨p1, p2⟩ := List.getElem?_eq_some_iff.1 hi
  obtain ⟨p3, p4⟩ := List.getElem?_eq_some_iff.1 hj
  have := List.pairwise_iff_getElem.1 h i j p1 p3 hij
  rw [p2, p4] at this
  exact this

set_option maxRecDepth 100000 in
set_option maxHeartbeats 2000000 in
theorem search_any (w : World) (s : SV) (ps : List Pr) (B : Nat) (O : Nat → Prop) (hr : RowIn prC 5 129 B w O s ps) (hcm : ps.Pairwise (fun a b => a.came < b.came)) (hlen : ps.length ≤ 2000000000001) (n : Nat) (p : Pr) (hp : ps[n]? = some p) :
    Calls Tryz.prog 95 #[s.val, .int .i64 p.came, .func (.func 96) #[] #[]] w fun e w' => e = .returned (.tuple #[.int .i64 (n : Int), .bool true]) ∧ Below w.heap.size w w' := by
  obtain ⟨q1, q2, q3, q4⟩ := hr.open rtPr.len
  have hnl : n < ps.length := (List.getElem?_eq_some_iff.1 hp).1
  obtain ⟨g, e1, _, _, _, hc, _⟩ := q4 (by intro e; rw [e] at hnl; simp at hnl)
  obtain ⟨ad, len, cap⟩ := s
  simp only at q1 q2 q3 e1
  subst q1 e1
  have HC : Hid (∀ (i : Nat) (y : Pr), ps[i]? = some y → ∀ (j : Nat) (u : Value), (prC y)[j]? = some u → w.cell? ⟨g, i * 5 + j, none⟩ = some u) := hc
  have HCM : Hid (ps.Pairwise (fun a b => a.came < b.came)) := hcm
  have HP : Hid (ps[n]? = some p ∧ n < ps.length ∧ ps.length ≤ 2000000000001) := ⟨hp, hnl, hlen⟩
  have hlim : (ps.length : Int) ≤ 2000000000001 := by omega
  have HST : Hid (BsAt ps p.came n 0 ps.length) := ⟨Nat.zero_le _, Or.inl hnl, Nat.le_refl _, Nat.zero_le _, fun k q hk => by omega, fun k q hk e => by have := (List.getElem?_eq_some_iff.1 e).1; omega⟩
  have kb := fun W y => byCame_any W y p.came
  generalize hpc : p.came = c at *
  unfold SV.val
  simp only
  have HPC : Hid (p.came = c) := hpc
  clear hr hcm hlen hp hnl hc q2 q3 q4 hpc
  go_enter Tryz.func95, Tryz.ntmps95
  go_wp2_with fail
  go_loopw [9, 10] (fun a b wr => ∃ i j : Nat, Hid (BsAt ps c n i j) ∧ a = .int .i64 (i : Int) ∧ b = .int .i64 (j : Int) ∧ Hid (Below w.heap.size w wr)) (fun a b wr => (intOf b - intOf a).toNat)
  case atStart => exact ⟨0, ps.length, HST, rfl, rfl, Below.refl _ _⟩
  case round =>
    clear HST
    obtain ⟨i, j, HS, rfl, rfl, HB⟩ := hrel
    have hij := HS.out.ij
    have hjl := HS.out.jl
    have hin := HS.out.le
    by_cases cij : i < j
    · obtain ⟨h, hh⟩ : ∃ h : Nat, h = (i + j) / 2 := ⟨_, rfl⟩
      have h1 : i ≤ h := by omega
      have h2 : h < j := by omega
      have hex : ∃ y, ps[h]? = some y := ⟨_, List.getElem?_eq_getElem (by omega)⟩
      obtain ⟨y, hy⟩ := hex
      have hcc := HC.out h y hy
      have d0 := cells_below HB.out _ _ (hcc 0 _ rfl)
      have d1 := cells_below HB.out _ _ (hcc 1 _ rfl)
      have d2 := cells_below HB.out _ _ (hcc 2 _ rfl)
      have d3 := cells_below HB.out _ _ (hcc 3 _ rfl)
      have d4 := cells_below HB.out _ _ (hcc 4 _ rfl)
      simp only [Nat.add_zero] at d0
      have ky := kb wr y
      have cl : (i : Int) < (j : Int) := by omega
      have w5 : IntKind.i64.wrap (((i : Int) + (j : Int)) / 2 + 1) = ((h + 1 : Nat) : Int) := by rw [IntKind.wrap_i64]; omega
      have hhl : ((i : Int) + (j : Int)) / 2 < (ps.length : Int) := by omega
      have hhn : 0 ≤ ((i : Int) + (j : Int)) / 2 := by omega
      have HQ : Hid (((i : Int) + (j : Int)) / 2 = (h : Int)) := by show _ = _; omega
      rw [hh] at d0 d1 d2 d3 d4
      have HY : Hid (ps[h]? = some y ∧ i ≤ h ∧ h < j) := ⟨hy, h1, h2⟩
      unfold prV at ky
      obtain ⟨yk, yc, yv, ys, yf⟩ := y
      simp only at *
      clear hcc hy HC kb hh h1 h2
      by_cases cy : yc < c
      · have hcm2 : cmpI yc c = -1 := by unfold cmpI; rw [if_pos cy]
        rw [hcm2] at ky
        have HN : Hid (BsAt ps c n (h + 1) j) := by
          have hcl : h < n := by
            rcases Nat.lt_or_ge h n with q | q
            · exact q
            · have : c ≤ yc := by
                rcases Nat.eq_or_lt_of_le q with q2 | q2
                · have e := HP.out.1
                  rw [q2, HY.out.1] at e
                  have := HPC.out
                  rw [← Option.some.inj e] at this
                  simp only at this
                  omega
                · have := cm_lt HCM.out HP.out.1 HY.out.1 q2
                  have h9 := HPC.out
                  simp only at this
                  omega
              omega
          exact ⟨hcl, HS.out.lt, HS.out.jl, by have := HY.out.2.2; omega, fun k q hk e => by
            rcases Nat.lt_or_ge k h with c1 | c1
            · have := cm_lt HCM.out e HY.out.1 c1
              simp only at this
              omega
            · have : k = h := by omega
              subst this
              rw [HY.out.1] at e
              rw [← Option.some.inj e]
              exact cy, HS.out.hi⟩
        clear HS HP HPC HCM cy hcm2 hij hjl hin
        go_wp2_with fail
        refine ky.mono ?_
        rintro e w9 ⟨rfl, hB9⟩
        have HB9 : Hid (Below w.heap.size w w9) := by
          have z := HB.out.size
          exact HB.out.trans ⟨hB9.os, hB9.tape, hB9.output, hB9.size, fun k hk => hB9.block k (by omega)⟩
        clear ky hB9 HB
        go_wp2_with fail
        refine ⟨⟨h + 1, j, HN, rfl, rfl, HB9⟩, ?_⟩
        have := HY.out
        have := HQ.out
        simp [intOf]
        omega
      · have hge : decide (cmpI yc c < 0) = false := by
          apply decide_eq_false
          unfold cmpI
          rw [if_neg cy]
          split <;> omega
        have HN : Hid (BsAt ps c n i h) := by
          have hcl : n ≤ h := by
            rcases Nat.lt_or_ge h n with q | q
            · have := cm_lt HCM.out HY.out.1 HP.out.1 q
              have h9 := HPC.out
              simp only at this
              omega
            · exact q
          exact ⟨HS.out.le, by omega, by have := HS.out.jl; have := HY.out.2.2; omega, HY.out.2.1, HS.out.lo, fun k q hk e => by
            rcases Nat.eq_or_lt_of_le hk with c1 | c1
            · subst c1
              rw [HY.out.1] at e
              rw [← Option.some.inj e]
              simp only
              omega
            · have := cm_lt HCM.out HY.out.1 e c1
              simp only at this
              omega⟩
        generalize cmpI yc c = rr at *
        clear HS HP HPC HCM cy hij hjl hin
        go_wp2_with fail
        refine ky.mono ?_
        rintro e w9 ⟨rfl, hB9⟩
        have HB9 : Hid (Below w.heap.size w w9) := by
          have z := HB.out.size
          exact HB.out.trans ⟨hB9.os, hB9.tape, hB9.output, hB9.size, fun k hk => hB9.block k (by omega)⟩
        clear ky hB9 HB
        go_wp2_with fail
        refine ⟨⟨i, h, HN, rfl, by rw [HQ.out], HB9⟩, ?_⟩
        have := HY.out
        have := HQ.out
        simp [intOf]
        omega
    · have hin2 : i = n := by have := HS.out.lt; omega
      subst hin2
      have hcc := HC.out i p HP.out.1
      have d0 := cells_below HB.out _ _ (hcc 0 _ rfl)
      have d1 := cells_below HB.out _ _ (hcc 1 _ rfl)
      have d2 := cells_below HB.out _ _ (hcc 2 _ rfl)
      have d3 := cells_below HB.out _ _ (hcc 3 _ rfl)
      have d4 := cells_below HB.out _ _ (hcc 4 _ rfl)
      simp only [Nat.add_zero] at d0
      have ky := kb wr p
      rw [HPC.out] at ky
      have hz : cmpI c c = 0 := by unfold cmpI; rw [if_neg (by omega), if_neg (by omega)]
      rw [hz] at ky
      have cl : ¬ ((i : Int) < (j : Int)) := by omega
      have cn : (i : Int) < (ps.length : Int) := by have := HP.out.2.1; omega
      have cnd : decide ((i : Int) < (ps.length : Int)) = true := decide_eq_true cn
      rw [HPC.out] at d1
      unfold prV at ky
      rw [HPC.out] at ky
      obtain ⟨yk, yc, yv, ys, yf⟩ := p
      simp only at *
      clear hcc kb HC HS HP HPC HCM cij hij hjl hin hz
      go_wp2_with fail
      refine ky.mono ?_
      rintro e w9 ⟨rfl, hB9⟩
      have HB9 : Hid (Below w.heap.size w w9) := by
        have z := HB.out.size
        exact HB.out.trans ⟨hB9.os, hB9.tape, hB9.output, hB9.size, fun k hk => hB9.block k (by omega)⟩
      clear ky hB9 HB
      go_wp2_with fail
      go_ret2
      exact ⟨rfl, HB9.out⟩

end Go.Proofs.YtahhionlbfhinaaGreatDoor.Hp
