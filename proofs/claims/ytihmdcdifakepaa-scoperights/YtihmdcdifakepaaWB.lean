/- How many nodes: the document's count. -/
import Derived.Test.YtihmdcdifakepaaWA
namespace Go.Proofs.Ytihmdcdifakepaa.Sc
open Go.RowKit
set_option linter.unusedVariables false

theorem loopC_range {α : Type} (f : α → Int → Int) (hf : ∀ k r, 0 ≤ r → -1 ≤ f k r ∧ f k r ≤ r) (xs : List α) (r : Int) (h : -1 ≤ r) : -1 ≤ loopC f xs r ∧ loopC f xs r ≤ r := by
  induction xs generalizing r with
  | nil => exact ⟨h, Int.le_refl _⟩
  | cons k ks ih =>
    rw [loopC]
    by_cases c : 0 ≤ r
    · rw [if_pos c]
      have h1 := hf k r c
      have h2 := ih (f k r) h1.1
      omega
    · rw [if_neg c]
      omega

theorem count_range (n lv : Nat) (t : Tr n) (r : Int) (h : 0 ≤ r) : -1 ≤ countT n lv t r ∧ countT n lv t r ≤ r := by
  induction n generalizing lv r with
  | zero => exact nomatch (t : Empty)
  | succ n ih =>
    obtain ⟨x, s⟩ := t
    rw [countT]
    by_cases c : lv = 0
    · rw [if_pos c]; omega
    · rw [if_neg c]
      have := loopC_range (countT n (lv - 1)) (fun k r hr => ih (lv - 1) k r hr) s.xs (r - 1) (by omega)
      omega

/-- a box on top -/
theorem box_new (w : World) (cs : Array Value) (ty : TypeId) : ∀ i v, cs[i]? = some v → (w.alloc (.cells cs ty)).cell? ⟨w.heap.size, i, none⟩ = some v := by
  intro i v h
  rw [cell_of_row _ w.heap.size _ cs ty (0, 0) (by show (w.heap.push _)[w.heap.size]? = _; rw [Array.getElem?_push_size])]
  exact h

structure CntAt {n : Nat} (lv : Nat) (xs : List (Tr n)) (r0 : Int) (w1 wr : World) (k : Nat) (r : Int) : Prop where
  le : k ≤ xs.length
  val : loopC (countT n lv) xs r0 = loopC (countT n lv) (xs.drop k) r
  lo : -1 ≤ r
  hi : r ≤ r0
  bel : Below w1.heap.size w1 wr

set_option maxRecDepth 100000 in
theorem count_any (n : Nat) : ∀ (t : Tr n) (lv : Nat) (r : Int) (w : World), okT n w t → 0 ≤ r → r ≤ 1000000 → lv ≤ 300 →
    Calls Try.prog 21 #[valT n t, .int .i64 lv, .int .i64 r] w fun e w' => e = .returned (.int .i64 (countT n lv t r)) ∧ Below w.heap.size w w' := by
  induction n with
  | zero => intro t; exact nomatch (t : Empty)
  | succ n ih =>
    rintro ⟨x, s⟩ lv r w ⟨_, hs, hk⟩ hr0 hr1 hlv
    rw [val_succ]
    obtain ⟨kind, pl, name, num, op⟩ := x
    obtain ⟨ad, cap, xs⟩ := s
    have h1 := hs.len
    have h2 := hs.cap
    simp only at h1 h2 hk ⊢
    have hlen : xs.length ≤ maxLen := by omega
    unfold maxLen at hlen
    clear h1 h2
    have HS : Hid (Sli.ok (encT n) 6 w ⟨ad, cap, xs⟩) := hs
    have HK : Hid (∀ y ∈ xs, okT n w y) := hk
    have HIH : Hid (∀ (t : Tr n) (lv : Nat) (r : Int) (w : World), okT n w t → 0 ≤ r → r ≤ 1000000 → lv ≤ 300 →
      Calls Try.prog 21 #[valT n t, .int .i64 lv, .int .i64 r] w fun e w' => e = .returned (.int .i64 (countT n lv t r)) ∧ Below w.heap.size w w') := ih
    clear hs hk ih
    cases lv with
    | zero =>
      go_enter Try.func21, Try.ntmps21
      go_wp2_with fail
      go_ret
      exact ⟨rfl, (Below.refl _ _).alloc (Nat.le_refl _) _⟩
    | succ lv =>
      have HV : Hid (countT (n + 1) (lv + 1) ((⟨kind, pl, name, num, op⟩, ⟨ad, cap, xs⟩) : Nd × Sli (Tr n)) r = loopC (countT n lv) xs (r - 1)) := by
        show (if _ then _ else _) = _
        rw [if_neg (by omega)]
        rfl
      have HI : Hid (CntAt lv xs (r - 1) (w.alloc (.cells #[.int .i64 kind, .int .i64 pl, .string name, .int .u64 num, .string op, .slice ad xs.length cap] 25)) (w.alloc (.cells #[.int .i64 kind, .int .i64 pl, .string name, .int .u64 num, .string op, .slice ad xs.length cap] 25)) 0 (r - 1)) :=
        ⟨Nat.zero_le _, rfl, by omega, Int.le_refl _, Below.refl _ _⟩
      have h11 : (((lv : Int) + 1) == 0) = false := by simp; omega
      rw [show (((lv + 1 : Nat)) : Int) = (lv : Int) + 1 by omega]
      go_enter Try.func21, Try.ntmps21
      go_wp2_with fail
      go_loopw [2, 7] (fun lf i wr => ∃ (k : Nat) (q : Int), CntAt lv xs (r - 1) (w.alloc (.cells #[.int .i64 kind, .int .i64 pl, .string name, .int .u64 num, .string op, .slice ad xs.length cap] 25)) wr k q ∧ lf = .int .i64 q ∧ i = .int .i64 k) (fun lf i wr => xs.length - (intOf i).toNat)
      case atStart => exact ⟨0, r - 1, HI.out, rfl, rfl⟩
      case round =>
        obtain ⟨k, q, hr, rfl, rfl⟩ := hrel
        have ple := hr.le
        have qlo := hr.lo
        have qhi := hr.hi
        have HR : Hid (CntAt lv xs (r - 1) (w.alloc (.cells #[.int .i64 kind, .int .i64 pl, .string name, .int .u64 num, .string op, .slice ad xs.length cap] 25)) wr k q) := hr
        have bx5 := cells_below hr.bel _ _ (box_new w #[.int .i64 kind, .int .i64 pl, .string name, .int .u64 num, .string op, .slice ad xs.length cap] 25 5 _ rfl)
        have HBW : Hid (Below w.heap.size w wr) := ((Below.refl w.heap.size w).alloc (Nat.le_refl _) _).trans (hr.bel.mono (by simp))
        clear hr HI
        by_cases c0 : 0 ≤ q
        · rcases Nat.lt_or_ge k xs.length with c | c
          · obtain ⟨y, b, off, e1, hy, y0, y1, y2, y3, y4, y5⟩ := kid_at (HS.out.kept (cells_below HBW.out)) (k := k) c
            simp only at e1 hy
            subst e1
            have hd : xs.drop k = y :: xs.drop (k + 1) := by
              rw [List.drop_eq_getElem_cons c]
              rw [List.getElem?_eq_getElem c] at hy
              rw [Option.some.inj hy]
            have HC : Hid (CntAt lv xs (r - 1) (w.alloc (.cells #[.int .i64 kind, .int .i64 pl, .string name, .int .u64 num, .string op, .slice (some ⟨b, off, none⟩) xs.length cap] 25)) wr k q ∧ xs.drop k = y :: xs.drop (k + 1)) := ⟨HR.out, hd⟩
            have hok : okT n wr y := okT_kept (HK.out y (List.mem_of_getElem? hy)) (cells_below HBW.out)
            have hcall := HIH.out y lv q wr hok c0 (by omega) (by omega)
            have rng := count_range n lv y q c0
            have HRG : Hid (-1 ≤ countT n lv y q ∧ countT n lv y q ≤ q) := rng
            clear hy hd hok rng HR
            go_wp2_with (go_at_call 21; refine hcall.mono ?_; rintro e w2 ⟨rfl, hb2⟩)
            have HN : Hid (CntAt lv xs (r - 1) (w.alloc (.cells #[.int .i64 kind, .int .i64 pl, .string name, .int .u64 num, .string op, .slice (some ⟨b, off, none⟩) xs.length cap] 25)) w2 (k + 1) (countT n lv y q)) := by
              refine ⟨c, ?_, HRG.out.1, by have := HRG.out.2; omega, HC.out.1.bel.trans (hb2.mono HC.out.1.bel.size)⟩
              rw [HC.out.1.val, HC.out.2, loopC, if_pos c0]
            refine ⟨⟨k + 1, _, HN.out, rfl, by go_num⟩, ?_⟩
            simp [intOf]
            omega
          · have HE : Hid (loopC (countT n lv) xs (r - 1) = q) := by
              show _ = _
              rw [HR.out.val, List.drop_of_length_le c]
              rfl
            go_wp2_with fail
            go_ret
            rw [HV.out, HE.out]
            exact ⟨rfl, HBW.out⟩
        · have HE : Hid (loopC (countT n lv) xs (r - 1) = q) := by
            show _ = _
            rw [HR.out.val]
            cases xs.drop k with
            | nil => rfl
            | cons z zs => rw [loopC, if_neg c0]
          have hq : decide (0 ≤ q) = false := by simpa using c0
          rcases Nat.lt_or_ge k xs.length with c | c
          all_goals
            go_wp2_with fail
            go_ret
            rw [HV.out, HE.out]
            exact ⟨rfl, HBW.out⟩
end Go.Proofs.Ytihmdcdifakepaa.Sc
