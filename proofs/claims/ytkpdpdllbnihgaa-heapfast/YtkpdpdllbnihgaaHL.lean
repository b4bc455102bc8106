/- find, where there is no map. -/
import Derived.Test.YtkpdpdllbnihgaaHK
namespace Go.Proofs.Ytkpdpdllbnihgaa.Hp
open Go.RowKit
set_option linter.unusedVariables false

/-- a key's place -/
def plc (ps : List Pr) (k : ByteArray) : Option Nat := ps.findIdx? (fun p => decide (p.key = k))

theorem plc_some {ps : List Pr} {k : ByteArray} {i : Nat} (h : plc ps k = some i) : (∃ p, ps[i]? = some p ∧ p.key = k) ∧ ∀ j p, j < i → ps[j]? = some p → p.key ≠ k := by
  unfold plc at h
  rw [List.findIdx?_eq_some_iff_getElem] at h
  obtain ⟨h1, h2, h3⟩ := h
  refine ⟨⟨_, List.getElem?_eq_getElem h1, by simpa using h2⟩, fun j p hj e => ?_⟩
  have h4 := h3 j hj
  obtain ⟨a, b⟩ := List.getElem?_eq_some_iff.1 e
  rw [b] at h4
  simpa using h4
theorem plc_none {ps : List Pr} {k : ByteArray} (h : plc ps k = none) : ∀ p ∈ ps, p.key ≠ k := by
  intro p hp e
  unfold plc at h
  rw [List.findIdx?_eq_none_iff] at h
  have := h p hp
  simp at this
  exact this e
theorem plc_at {ps : List Pr} {k : ByteArray} {i : Nat} {p : Pr} (h : ps[i]? = some p) (hk : p.key = k) (hb : ∀ j q, j < i → ps[j]? = some q → q.key ≠ k) : plc ps k = some i := by
  unfold plc
  rw [List.findIdx?_eq_some_iff_getElem]
  obtain ⟨a, b⟩ := List.getElem?_eq_some_iff.1 h
  refine ⟨a, by rw [b]; simpa using hk, fun j hj => ?_⟩
  have := hb j _ hj (List.getElem?_eq_getElem (by omega))
  simpa using this
theorem plc_not {ps : List Pr} {k : ByteArray} (h : ∀ (j : Nat) q, ps[j]? = some q → q.key ≠ k) : plc ps k = none := by
  unfold plc
  rw [List.findIdx?_eq_none_iff]
  intro p hp
  obtain ⟨j, hj⟩ := List.mem_iff_getElem?.1 hp
  simpa using h j p hj

def nOf (o : Option Nat) : Int := ((o.map (fun (n : Nat) => (n : Int))).getD 0)

/-- a row's value, read -/
theorem RowIn.open {β : Type} {enc : β → List Value} {k : Nat} {e : TypeId} {B : Nat} {w : World} {O : Nat → Prop} {s : SV} {xs : List β} (hk : ∀ y, (enc y).length = k) (h : RowIn enc k e B w O s xs) : s.len = xs.length ∧ xs.length ≤ s.cap ∧ s.cap ≤ maxLen ∧ (xs ≠ [] → ∃ g, s.ad = some ⟨g, 0, none⟩ ∧ B ≤ g ∧ g < w.heap.size ∧ O g ∧ (∀ (i : Nat) (y : β), xs[i]? = some y → ∀ (j : Nat) (u : Value), (enc y)[j]? = some u → w.cell? ⟨g, i * k + j, none⟩ = some u) ∧ ∀ n, w.frozen? ⟨g, n, none⟩ = false) := by
  obtain ⟨h1, h2⟩ := h
  rcases hs : s with ⟨ad, len, cap⟩
  rw [hs] at h1 h2
  unfold SV.val at h1 h2
  simp only at h1 h2 ⊢
  rcases h1.2 with ⟨e1, e0⟩ | ⟨g, cap', cur, e1, hb, hg, hn, hc, hcs, ht⟩
  · injection e1 with e1 e2 e3
    subst e1 e2 e3
    have := List.eq_nil_of_length_eq_zero e0
    subst this
    exact ⟨rfl, by simp, by simp, fun q => absurd rfl q⟩
  · injection e1 with e1 e2 e3
    subst e1 e2 e3
    exact ⟨rfl, hn, hc, fun _ => ⟨g, rfl, hb, (Array.getElem?_eq_some_iff.1 hg).1, h2 g rfl, fun i y hi j u hj => OwnR.at' hk h1 hi hj, fun n => h1.fz n⟩⟩

set_option maxRecDepth 100000 in
set_option maxHeartbeats 1000000 in
theorem find_nil (w : World) (g off : Nat) (s : SV) (ps : List Pr) (B : Nat) (O : Nat → Prop) (hr : RowIn prC 5 87 B w O s ps) (c0 : w.cell? ⟨g, off, none⟩ = some s.val) (c1 : w.cell? ⟨g, off + 1, none⟩ = some (.map none)) (k : ByteArray) :
    Calls Try.prog 37 #[.pointer (some ⟨g, off, none⟩), .string k] w fun e w' => e = .returned (.tuple #[.int .i64 (nOf (plc ps k)), .bool (plc ps k).isSome]) ∧ w' = w := by
  obtain ⟨hl, h1, h2, h3⟩ := hr.open rtPr.len
  obtain ⟨ad, len, cap⟩ := s
  simp only at hl h1 h2 h3
  subst hl
  unfold SV.val at c0
  simp only at c0
  have hlim : (ps.length : Int) ≤ 9223372036854775807 := by unfold maxLen at h2; omega
  have q69 : ∀ (w : World) (r : Option Nat), (binOp .neq 69 (.map r) (.map none)).run Try.prog w = .ok (.bool (!r.isNone)) w := fun w r => run_neq_map_nil w _ _ _ r Try.underlying69
  have H3 : Hid (ps ≠ [] → ∃ g, ad = some ⟨g, 0, none⟩ ∧ B ≤ g ∧ g < w.heap.size ∧ O g ∧ (∀ (i : Nat) (y : Pr), ps[i]? = some y → ∀ (j : Nat) (u : Value), (prC y)[j]? = some u → w.cell? ⟨g, i * 5 + j, none⟩ = some u) ∧ ∀ n, w.frozen? ⟨g, n, none⟩ = false) := h3
  have HA : Hid (∀ j q, j < 0 → ps[j]? = some q → q.key ≠ k) := fun j q hj => by omega
  generalize hR : plc ps k = R at *
  have HPL : Hid (plc ps k = R) := hR
  clear hr h1 h2 h3 hR
  go_enter Try.func37, Try.ntmps37
  go_wp2_with fail
  go_loopw [38] (fun p wr => ∃ i : Nat, i ≤ ps.length ∧ Hid (∀ j q, j < i → ps[j]? = some q → q.key ≠ k) ∧ p = .int .i64 (i : Int) ∧ wr = w) (fun p wr => ((ps.length : Int) - intOf p).toNat)
  case atStart => exact ⟨0, Nat.zero_le _, HA, rfl, rfl⟩
  case round =>
    clear HA
    obtain ⟨i, hi, hh, rfl, rfl⟩ := hrel
    by_cases c : i < ps.length
    · have hex : ∃ p, ps[i]? = some p := ⟨_, List.getElem?_eq_getElem c⟩
      obtain ⟨p, hp⟩ := hex
      obtain ⟨gl, rfl, _, _, _, hcells, _⟩ := H3.out (by intro e; rw [e] at c; simp at c)
      have d0 := hcells i p hp 0 _ rfl
      simp only [Nat.add_zero] at d0
      have hii : (i : Int) < (ps.length : Int) := by omega
      have hii2 : decide ((i : Int) < (ps.length : Int)) = true := decide_eq_true hii
      have hw1 : IntKind.i64.wrap ((i : Int) + 1) = ((i + 1 : Nat) : Int) := by rw [IntKind.wrap_i64]; omega
      have HP : Hid (ps[i]? = some p) := hp
      have HI : Hid (i < ps.length) := c
      clear hcells hp H3 c hi
      by_cases ck : p.key = k
      · have hpl : plc ps k = some i := plc_at HP.out ck hh.out
        have hRi : R = some i := by rw [← HPL.out]; exact hpl
        subst hRi
        rw [ck] at d0
        have hee := Sp.bytes_yes k
        clear ck hpl HP HPL
        go_wp2_with fail
        go_ret2
        exact ⟨rfl, rfl⟩
      · have hee := Sp.bytes_no ck
        have hnx : Hid (∀ j q, j < i + 1 → ps[j]? = some q → q.key ≠ k) := fun j q hj e => by
          rcases Nat.lt_succ_iff_lt_or_eq.1 hj with c | c
          · exact hh.out j q c e
          · rw [c, HP.out] at e
            rw [← Option.some.inj e]
            exact ck
        clear hh HP ck
        go_wp2_with fail
        refine ⟨⟨i + 1, by have := HI.out; omega, hnx, rfl, by first | rfl | trivial⟩, ?_⟩
        have := HI.out
        simp [intOf]
        omega
    · have hpl : plc ps k = none := plc_not (fun j q e => hh.out j q (by have := (List.getElem?_eq_some_iff.1 e).1; omega) e)
      have hRi : R = none := by rw [← HPL.out]; exact hpl
      subst hRi
      have hii : ¬ (i : Int) < (ps.length : Int) := by omega
      clear hpl H3 hh hi c HPL
      go_wp2_with fail
      go_ret2
      exact ⟨rfl, rfl⟩

end Go.Proofs.Ytkpdpdllbnihgaa.Hp
