/- slices.Delete of one property: the walk. -/
import Derived.Test.YtkpdpdllbnihgaaB9
import Derived.Lib.SliceRun
namespace Go.Proofs.Ytkpdpdllbnihgaa.Hp
open Go.RowKit
set_option linter.unusedVariables false

/-- a property's zero value, in cells -/
def zPr : List Value := [.string ⟨#[]⟩, .int .i64 0, .int .u64 0, .int .u64 0, .int .i64 0]

/-- 'clear' of one property -/
theorem run_clear_pr (w : World) (ty : TypeId) (b o c : Nat) (hc : ∀ j, j < 5 → (w.cell? ⟨b, o + j, none⟩).isSome = true) (hf : ∀ j, j < 5 → w.frozen? ⟨b, o + j, none⟩ = false) :
    (Builtin.clear_ #[68] ty #[.slice (some ⟨b, o, none⟩) 1 c]).run Try.prog w = .ok (.tuple #[]) (w.setCells b o zPr) := by
  have hst := run_storeCells_cells (P := Try.prog) b o zPr 0 w (fun j hj => by simpa using hc j hj) (fun j hj => by simpa using hf j hj) (by decide)
  simp only [Nat.add_zero] at hst
  have hv : ∀ w, (zeroValue 87).run Try.prog w = .ok (.agg #[.string ⟨#[]⟩, .int .i64 0, .int .u64 0, .int .u64 0, .int .i64 0]) w := by
    intro w
    have hz : Try.t87.zero = some (.agg #[.string ⟨#[]⟩, .int .i64 0, .int .u64 0, .int .u64 0, .int .i64 0]) := by kernel_rfl
    simp [zeroValue, hz]
  have hzc : (Builtin.zeroCells (Value.agg #[.string ⟨#[]⟩, .int .i64 0, .int .u64 0, .int .u64 0, .int .i64 0]).cells 1).toList = zPr := by kernel_rfl
  simp [Builtin.clear_, run_underlying rtPr.und, hv, hzc, hst]

theorem flat_get {ps : List Pr} {j : Nat} {u : Value} (h : (ps.flatMap prC)[j]? = some u) : ∃ p, ps[j / 5]? = some p ∧ (prC p)[j % 5]? = some u := by
  induction ps generalizing j with
  | nil => simp at h
  | cons p ps ih =>
    rw [List.flatMap_cons] at h
    by_cases hj : j < 5
    · rw [List.getElem?_append_left (by rw [rtPr.len]; exact hj)] at h
      exact ⟨p, by rw [Nat.div_eq_of_lt hj]; rfl, by rw [Nat.mod_eq_of_lt hj]; exact h⟩
    · rw [List.getElem?_append_right (by rw [rtPr.len]; omega), rtPr.len] at h
      obtain ⟨q, h1, h2⟩ := ih h
      refine ⟨q, ?_, ?_⟩
      · rw [show j / 5 = (j - 5) / 5 + 1 by omega, List.getElem?_cons_succ]
        exact h1
      · rw [show j % 5 = (j - 5) % 5 by omega]
        exact h2

set_option maxHeartbeats 4000000 in
set_option maxRecDepth 1000000 in
theorem delete_at {B : Nat} {w : World} {gl cap a : Nat} {ps : List Pr} (h : OwnR prC 5 87 B w (.slice (some ⟨gl, 0, none⟩) ps.length cap) ps) (ha : a < ps.length) :
    Calls Try.prog 56 #[.slice (some ⟨gl, 0, none⟩) ps.length cap, .int .i64 a, .int .i64 ((a : Int) + 1)] w fun e w' => e = .returned (.slice (some ⟨gl, 0, none⟩) (ps.length - 1) cap) ∧ w' = (w.drew.setCells gl (a * 5) ((ps.drop (a + 1)).flatMap prC)).setCells gl ((ps.length - 1) * 5) zPr := by
  have hcl : ∀ i y, ps[i]? = some y → ∀ (j : Nat) (u : Value), (prC y)[j]? = some u → w.cell? ⟨gl, i * 5 + j, none⟩ = some u := fun i y hi j u hj => OwnR.at' rtPr.len h hi hj
  have hfz : ∀ n, w.frozen? ⟨gl, n, none⟩ = false := fun n => h.fz n
  have hsome : ∀ n, n < ps.length * 5 → (w.cell? ⟨gl, n, none⟩).isSome = true := by
    intro n hn
    have h1 : n / 5 < ps.length := by omega
    have h2 : n % 5 < 5 := Nat.mod_lt _ (by decide)
    rw [show n = n / 5 * 5 + n % 5 by omega, hcl (n / 5) ps[n / 5] (List.getElem?_eq_getElem h1) (n % 5) ((prC ps[n / 5])[n % 5]'(by rw [rtPr.len]; exact h2)) (List.getElem?_eq_getElem _)]
    rfl
  obtain ⟨i0, hi0, hz0, hz1, hz2⟩ := info_parts (P := Try.prog) (t := 87) (z := .agg #[.string ⟨#[]⟩, .int .i64 0, .int .u64 0, .int .u64 0, .int .i64 0]) (s := 5) (b := 48) (by kernel_rfl)
  obtain ⟨hnl, hcap⟩ : ps.length ≤ cap ∧ cap ≤ maxLen := by
    rcases h.2 with ⟨h1, _⟩ | ⟨g', cap', cur, h1, hb, hg, hn, hc, hs, ht⟩
    · cases h1
    · cases h1
      exact ⟨hn, hc⟩
  obtain ⟨news, hnews⟩ : ∃ news, news = (ps.drop (a + 1)).flatMap prC := ⟨_, rfl⟩
  have hlen : news.length = (ps.length - (a + 1)) * 5 := by rw [hnews, flat_len rtPr.len, List.length_drop]
  have hm : (cap : Int) ≤ 9223372036854775807 := by unfold maxLen at hcap; omega
  obtain ⟨A, hA, hsrc⟩ : ∃ A : Addr, (if cap = a + 1 then some (⟨gl, 0, none⟩ : Addr) else some ⟨gl, (a + 1) * 5, none⟩) = some A ∧ Hid (∀ t u, news[t]? = some u → w.drew.cell? (A.add t) = some u) := by
    by_cases hh : cap = a + 1
    · refine ⟨⟨gl, 0, none⟩, by simp [hh], fun t u hu => ?_⟩
      have h0 : news.length = 0 := by rw [hlen, show ps.length - (a + 1) = 0 by omega]
      rw [List.length_eq_zero_iff.1 h0] at hu
      simp at hu
    · refine ⟨⟨gl, (a + 1) * 5, none⟩, by simp [hh], fun t u hu => ?_⟩
      rw [hnews] at hu
      obtain ⟨p, h1, h2⟩ := flat_get hu
      rw [List.getElem?_drop] at h1
      have h3 := hcl _ _ h1 _ _ h2
      rw [Addr.add_lit]
      show w.cell? _ = _
      rw [show (a + 1) * 5 + t = (a + 1 + t / 5) * 5 + t % 5 by omega]
      exact h3
  have s1 : Hid (news.length = (ps.length - (a + 1)) * 5) := hlen
  have s2 : Hid (∀ u ∈ news, u.oneCell' = true) := by
    intro u hu
    rw [hnews] at hu
    obtain ⟨x, _, hx⟩ := List.mem_flatMap.1 hu
    exact rtPr.one x u hx
  have s3 : Hid (∀ t, t < news.length → (w.drew.cell? ⟨gl, 0 + a * 5 + t, none⟩).isSome = true ∧ w.drew.frozen? ⟨gl, 0 + a * 5 + t, none⟩ = false) := by
    intro t ht
    rw [hlen] at ht
    exact ⟨hsome _ (by omega), hfz _⟩
  obtain ⟨W1, hW1⟩ : ∃ W1, W1 = w.drew.setCells gl (0 + a * 5) news := ⟨_, rfl⟩
  have hclr : ∀ ty, (Builtin.clear_ #[68] ty #[.slice (some ⟨gl, (ps.length - 1) * 5, none⟩) 1 (cap - (ps.length - 1))]).run Try.prog W1 = .ok (.tuple #[]) (W1.setCells gl ((ps.length - 1) * 5) zPr) := by
    intro ty
    refine run_clear_pr W1 ty gl _ _ (fun j hj => ?_) (fun j hj => ?_)
    · rw [hW1, World.cell?_setCells_out gl _ _ _ _ (fun hb _ => Or.inr (by show 0 + a * 5 + news.length ≤ (ps.length - 1) * 5 + j; rw [hlen]; omega))]
      exact hsome _ (by omega)
    · rw [hW1, World.frozen?_setCells]
      exact hfz _
  have hW : Hid (W1 = w.drew.setCells gl (0 + a * 5) news) := hW1
  have hN : Hid (news = (ps.drop (a + 1)).flatMap prC) := hnews
  have hac : a ≤ cap := by omega
  have hjc : a + 1 ≤ cap := by omega
  have hp0 : (0 : Int) ≤ (a : Int) + 1 := by omega
  have hp1 : (a : Int) + 1 ≤ (ps.length : Int) := by omega
  have hp2 : ((a : Int) + 1).toNat = a + 1 := by omega
  have hne : ¬ ((a : Int) = (a : Int) + 1) := by omega
  clear hW1 hnews hlen hcl hfz hsome h
  generalize ps.length = L at *
  obtain ⟨n, rfl⟩ : ∃ n, L = n + 1 := ⟨L - 1, by omega⟩
  have han : a ≤ n := by omega
  have s1' : Hid (news.length = (n - a) * 5) := (show news.length = (n - a) * 5 by rw [s1.out, Nat.add_sub_add_right])
  have hll : Hid (a + (n - a) = n) := (show a + (n - a) = n by omega)
  simp only [Nat.add_sub_cancel] at hclr ⊢
  have hcn : ¬ cap = n := by omega
  have hcn2 : ¬ cap - n = 0 := by omega
  have hnc : n ≤ cap := by omega
  go_enter Try.func56, Try.ntmps56
  go_wp2_with fail
  go_region_law (refine step_append_room rfl (.tmp 22) (.tmp 25) 68 rfl 87 i0 5 Try.underlying68 hi0 hz1 gl 0 a cap (by simp [Act.eval, Act.put]) A (n - a) (cap - (a + 1)) news (by simp [Act.eval, Act.put]) s1'.out hsrc.out s2.out (by omega) s3.out ?_; rw [← hW.out, hll.out])
  go_wp2
  all_goals go_ret
  all_goals (refine ⟨rfl, ?_⟩)
  all_goals (rw [hW.out, hN.out, Nat.zero_add])

end Go.Proofs.Ytkpdpdllbnihgaa.Hp
