/- The walk of parts. -/
import Derived.Test.YtpejebohekcfoaaGreatDoorMN
import Derived.Test.YtpejebohekcfoaaGreatDoorA5
import Derived.Below
/- Whole numbers of parts of 32 bits, plain. -/
namespace Go.Proofs.YtpejebohekcfoaaGreatDoor.V32
set_option linter.unusedVariables false

/-- what words say -/
def wval : List Nat → Nat
  | [] => 0
  | x :: xs => x + 4294967296 * wval xs

/-- every word is one of 64 bits -/
def Fit (xs : List Nat) : Prop := ∀ x ∈ xs, x < 4294967296

/-- the last word is not 0 -/
def Tidy (xs : List Nat) : Prop := ∀ x, xs.getLast? = some x → x ≠ 0

theorem wval_append (xs ys : List Nat) : wval (xs ++ ys) = wval xs + 4294967296 ^ xs.length * wval ys := by
  induction xs with
  | nil => simp [wval]
  | cons x xs ih =>
    simp only [List.cons_append, wval, ih, List.length_cons, Nat.pow_succ]
    rw [Nat.mul_add, ← Nat.mul_assoc, Nat.mul_comm 4294967296 (4294967296 ^ xs.length)]
    omega

theorem wval_lt (xs : List Nat) (h : Fit xs) : wval xs < 4294967296 ^ xs.length := by
  induction xs with
  | nil => simp [wval]
  | cons x xs ih =>
    have hx : x < 4294967296 := h x (by simp)
    have hi := ih (fun y hy => h y (by simp [hy]))
    simp only [wval, List.length_cons, Nat.pow_succ]
    generalize 4294967296 ^ xs.length = P at *
    omega

theorem wval_ge (xs : List Nat) (hl : Tidy xs) (hn : xs ≠ []) : 4294967296 ^ (xs.length - 1) ≤ wval xs := by
  obtain ⟨ys, z, rfl⟩ : ∃ ys z, xs = ys ++ [z] := ⟨xs.dropLast, xs.getLast hn, (List.dropLast_concat_getLast hn).symm⟩
  have hz : z ≠ 0 := hl z (by simp)
  rw [wval_append]
  simp only [List.length_append, List.length_singleton, Nat.add_sub_cancel, wval]
  have : 4294967296 ^ ys.length * 1 ≤ 4294967296 ^ ys.length * (z + 4294967296 * 0) := Nat.mul_le_mul_left _ (by omega)
  omega

/-- the words of a number, so many of them at most -/
def wdsF : Nat → Nat → List Nat
  | 0, _ => []
  | f + 1, n => if n = 0 then [] else n % 4294967296 :: wdsF f (n / 4294967296)

theorem wdsF_more (f : Nat) : ∀ n g, n ≤ f → n ≤ g → wdsF f n = wdsF g n := by
  induction f with
  | zero =>
    intro n g h _
    obtain rfl : n = 0 := by omega
    cases g <;> simp [wdsF]
  | succ f ih =>
    intro n g h hg
    cases g with
    | zero =>
      obtain rfl : n = 0 := by omega
      simp [wdsF]
    | succ g =>
      simp only [wdsF]
      by_cases z : n = 0
      · rw [if_pos z, if_pos z]
      · have := Nat.div_lt_self (Nat.pos_of_ne_zero z) (show 1 < 4294967296 by decide)
        rw [if_neg z, if_neg z, ih _ g (by omega) (by omega)]

/-- the words of a number -/
def wds (n : Nat) : List Nat := wdsF n n

theorem wds_zero : wds 0 = [] := rfl

theorem wds_pos (n : Nat) (h : n ≠ 0) : wds n = n % 4294967296 :: wds (n / 4294967296) := by
  unfold wds
  obtain ⟨f, hf⟩ : ∃ f, n = f + 1 := ⟨n - 1, by omega⟩
  have d := Nat.div_lt_self (Nat.pos_of_ne_zero h) (show 1 < 4294967296 by decide)
  have e : wdsF n n = n % 4294967296 :: wdsF f (n / 4294967296) := by
    rw [hf]
    simp only [wdsF]
    rw [if_neg (by omega)]
  rw [e, wdsF_more f (n / 4294967296) (n / 4294967296) (by omega) (Nat.le_refl _)]

theorem wval_wds (n : Nat) : wval (wds n) = n := by
  induction n using Nat.strongRecOn with
  | _ n ih =>
    by_cases h : n = 0
    · subst h; rw [wds_zero]; rfl
    · rw [wds_pos n h]
      simp only [wval]
      rw [ih _ (Nat.div_lt_self (Nat.pos_of_ne_zero h) (by decide))]
      omega

theorem fit_wds (n : Nat) : Fit (wds n) := by
  induction n using Nat.strongRecOn with
  | _ n ih =>
    by_cases h : n = 0
    · subst h; rw [wds_zero]; intro x hx; simp at hx
    · rw [wds_pos n h]
      intro x hx
      rcases List.mem_cons.1 hx with rfl | hx
      · omega
      · exact ih _ (Nat.div_lt_self (Nat.pos_of_ne_zero h) (by decide)) x hx

theorem wds_eq_nil (n : Nat) : wds n = [] ↔ n = 0 := by
  constructor
  · intro h
    have := wval_wds n
    rw [h] at this
    exact this.symm
  · rintro rfl; exact wds_zero

theorem lean_wds (n : Nat) : Tidy (wds n) := by
  induction n using Nat.strongRecOn with
  | _ n ih =>
    by_cases h : n = 0
    · subst h; rw [wds_zero]; intro x hx; simp at hx
    · rw [wds_pos n h]
      intro x hx
      by_cases hd : n / 4294967296 = 0
      · rw [hd, wds_zero] at hx
        simp at hx
        omega
      · have hne : wds (n / 4294967296) ≠ [] := fun e => hd ((wds_eq_nil _).1 e)
        refine ih _ (Nat.div_lt_self (Nat.pos_of_ne_zero h) (show 1 < 4294967296 by decide)) x ?_
        rw [List.getLast?_cons] at hx
        cases hg : (wds (n / 4294967296)).getLast? with
        | none => rw [List.getLast?_eq_none_iff] at hg; exact absurd hg hne
        | some y => rw [hg] at hx; simpa using hx

theorem wds_of (xs : List Nat) (h : Fit xs) (hl : Tidy xs) : wds (wval xs) = xs := by
  induction xs with
  | nil => exact wds_zero
  | cons x xs ih =>
    have hx : x < 4294967296 := h x (by simp)
    have hf : Fit xs := fun y hy => h y (by simp [hy])
    have hl' : Tidy xs := by
      intro y hy
      refine hl y ?_
      rw [List.getLast?_cons, hy]; rfl
    have hne : wval (x :: xs) ≠ 0 := by
      by_cases e : xs = []
      · subst e
        have := hl x (by simp)
        simp [wval]; omega
      · have := wval_ge xs hl' e
        have hp : 0 < 4294967296 ^ (xs.length - 1) := Nat.pow_pos (by decide)
        simp only [wval]; omega
    rw [wds_pos _ hne]
    simp only [wval]
    rw [show (x + 4294967296 * wval xs) % 4294967296 = x by omega,
      show (x + 4294967296 * wval xs) / 4294967296 = wval xs by omega, ih hf hl']

/-- one word less, if it is 0: the number stays -/
theorem wval_concat_zero (xs : List Nat) : wval (xs ++ [0]) = wval xs := by
  rw [wval_append]; simp [wval]

theorem wds_length_lt {n k : Nat} (h : n < 4294967296 ^ k) : (wds n).length ≤ k := by
  by_cases e : wds n = []
  · simp [e]
  · have h1 := wval_ge (wds n) (lean_wds n) e
    rw [wval_wds] at h1
    have h2 : 4294967296 ^ ((wds n).length - 1) < 4294967296 ^ k := Nat.lt_of_le_of_lt h1 h
    have := (Nat.pow_lt_pow_iff_right (show 1 < 4294967296 by decide)).1 h2
    omega

theorem lt_of_length {n m : Nat} (h : (wds n).length < (wds m).length) : n < m := by
  have h1 := wval_lt (wds n) (fit_wds n)
  rw [wval_wds] at h1
  have hne : wds m ≠ [] := by intro e; rw [e] at h; simp at h
  have h2 := wval_ge (wds m) (lean_wds m) hne
  rw [wval_wds] at h2
  have : 4294967296 ^ (wds n).length ≤ 4294967296 ^ ((wds m).length - 1) := Nat.pow_le_pow_right (by decide) (by omega)
  omega


theorem fit_append {xs ys : List Nat} (h : Fit xs) (k : Fit ys) : Fit (xs ++ ys) := by
  intro x hx
  rcases List.mem_append.1 hx with hx | hx
  · exact h x hx
  · exact k x hx

theorem fit_one {x : Nat} (h : x < 4294967296) : Fit [x] := by
  intro y hy; simp at hy; omega

theorem fit_take {xs : List Nat} (h : Fit xs) (k : Nat) : Fit (xs.take k) := fun x hx => h x (List.mem_of_mem_take hx)

theorem fit_get {xs : List Nat} (h : Fit xs) {i : Nat} {x : Nat} (hx : xs[i]? = some x) : x < 4294967296 := h x (List.mem_of_getElem? hx)

theorem take_next {α : Type} (xs : List α) (i : Nat) (x : α) (h : xs[i]? = some x) : xs.take (i + 1) = xs.take i ++ [x] := by
  rw [List.take_add_one, h]; rfl

theorem wval_take_next (xs : List Nat) (i x : Nat) (h : xs[i]? = some x) :
    wval (xs.take (i + 1)) = wval (xs.take i) + 4294967296 ^ i * x := by
  have hi : i < xs.length := (List.getElem?_eq_some_iff.1 h).1
  rw [take_next xs i x h, wval_append, List.length_take, Nat.min_eq_left (by omega)]
  simp [wval]

theorem wval_take_past (xs : List Nat) (i : Nat) (h : xs.length ≤ i) : wval (xs.take i) = wval xs := by
  rw [List.take_of_length_le h]

theorem wval_snoc (A : List Nat) (t : Nat) : wval (A ++ [t]) = wval A + 4294967296 ^ A.length * t := by
  rw [wval_append]; simp [wval]

/-- scaled: one word more -/
theorem scaled_step (xs A : List Nat) (i x b c p : Nat) (hA : A.length = i) (hx : xs[i]? = some x) (h : wval A + 4294967296 ^ i * c = wval (xs.take i) * b + p) :
    wval (A ++ [(x * b + c) % 4294967296]) + 4294967296 ^ (i + 1) * ((x * b + c) / 4294967296) = wval (xs.take (i + 1)) * b + p := by
  rw [wval_snoc, wval_take_next xs i x hx, hA, Nat.pow_succ]
  have e : 4294967296 ^ i * ((x * b + c) % 4294967296) + 4294967296 ^ i * 4294967296 * ((x * b + c) / 4294967296)
      = 4294967296 ^ i * (x * b + c) := by
    rw [Nat.mul_assoc, ← Nat.mul_add]
    congr 1
    omega
  have f : 4294967296 ^ i * (x * b + c) = 4294967296 ^ i * x * b + 4294967296 ^ i * c := by
    rw [Nat.mul_add, Nat.mul_assoc]
  rw [Nat.add_mul]
  omega

/-- the carry of a product stays a word -/
theorem scaled_carry (x b c : Nat) (hx : x < 4294967296) (hb : b < 4294967296) (hc : c < 4294967296) :
    (x * b + c) / 4294967296 < 4294967296 := by
  rw [Nat.div_lt_iff_lt_mul (by decide)]
  have : x * b ≤ 4294967295 * 4294967295 := Nat.mul_le_mul (by omega) (by omega)
  omega

theorem scaled_done (xs A : List Nat) (b c p : Nat) (hA : A.length = xs.length) (h : wval A + 4294967296 ^ xs.length * c = wval (xs.take xs.length) * b + p) :
    wval (A ++ [c]) = wval xs * b + p := by
  rw [wval_snoc, hA, h, List.take_length]

/-- plus: one word more -/
theorem plus_step (N M A : List Nat) (i x y c : Nat) (hA : A.length = i) (hx : N[i]? = some x) (hy : wval (M.take (i + 1)) = wval (M.take i) + 4294967296 ^ i * y)
    (h : wval A + 4294967296 ^ i * c = wval (N.take i) + wval (M.take i)) :
    wval (A ++ [(x + y + c) % 4294967296]) + 4294967296 ^ (i + 1) * ((x + y + c) / 4294967296) = wval (N.take (i + 1)) + wval (M.take (i + 1)) := by
  rw [wval_snoc, wval_take_next N i x hx, hy, hA, Nat.pow_succ]
  have e : 4294967296 ^ i * ((x + y + c) % 4294967296) + 4294967296 ^ i * 4294967296 * ((x + y + c) / 4294967296)
      = 4294967296 ^ i * (x + y + c) := by
    rw [Nat.mul_assoc, ← Nat.mul_add]
    congr 1
    omega
  have f : 4294967296 ^ i * (x + y + c) = 4294967296 ^ i * x + 4294967296 ^ i * y + 4294967296 ^ i * c := by
    rw [Nat.mul_add, Nat.mul_add]
  omega

theorem other_in (M : List Nat) (i y : Nat) (h : M[i]? = some y) : wval (M.take (i + 1)) = wval (M.take i) + 4294967296 ^ i * y := wval_take_next M i y h

theorem other_out (M : List Nat) (i : Nat) (h : M.length ≤ i) : wval (M.take (i + 1)) = wval (M.take i) + 4294967296 ^ i * 0 := by
  rw [wval_take_past M i h, wval_take_past M (i + 1) (by omega)]; simp

/-- minus: one word more -/
theorem minus_step (N M A : List Nat) (i x y c d b : Nat) (hA : A.length = i) (hx : N[i]? = some x) (hy : wval (M.take (i + 1)) = wval (M.take i) + 4294967296 ^ i * y)
    (hd : d + y + c = x + 4294967296 * b)
    (h : wval A + wval (M.take i) = wval (N.take i) + 4294967296 ^ i * c) :
    wval (A ++ [d]) + wval (M.take (i + 1)) = wval (N.take (i + 1)) + 4294967296 ^ (i + 1) * b := by
  rw [wval_snoc, wval_take_next N i x hx, hy, hA, Nat.pow_succ]
  have e : 4294967296 ^ i * d + 4294967296 ^ i * y + 4294967296 ^ i * c = 4294967296 ^ i * x + 4294967296 ^ i * 4294967296 * b := by
    rw [Nat.mul_assoc, ← Nat.mul_add, ← Nat.mul_add, ← Nat.mul_add, hd]
  omega

theorem minus_done (N M A : List Nat) (c : Nat) (hA : A.length = N.length) (fA : Fit A) (hl : M.length ≤ N.length) (hle : wval M ≤ wval N) (hc : c ≤ 1)
    (h : wval A + wval (M.take N.length) = wval (N.take N.length) + 4294967296 ^ N.length * c) : wval A = wval N - wval M := by
  rw [wval_take_past M _ hl, List.take_length] at h
  have hA' := wval_lt A fA
  rw [hA] at hA'
  have : c = 0 := by
    rcases Nat.lt_or_ge c 1 with h1 | h1
    · omega
    · exfalso
      have : c = 1 := by omega
      subst this
      omega
  subst this
  omega

/-- the first word from above that is another decides -/
theorem cmp_top (xs ys : List Nat) (i x y : Nat) (fx : Fit xs) (hl : xs.length = ys.length) (hx : xs[i]? = some x) (hy : ys[i]? = some y)
    (hd : xs.drop (i + 1) = ys.drop (i + 1)) (h : x < y) : wval xs < wval ys := by
  have hi : i < xs.length := (List.getElem?_eq_some_iff.1 hx).1
  have ex : xs = xs.take i ++ (x :: xs.drop (i + 1)) := by
    conv => lhs; rw [← List.take_append_drop i xs]
    rw [List.drop_eq_getElem_cons hi]
    rw [(List.getElem?_eq_some_iff.1 hx).2]
  have hi' : i < ys.length := by omega
  have ey : ys = ys.take i ++ (y :: ys.drop (i + 1)) := by
    conv => lhs; rw [← List.take_append_drop i ys]
    rw [List.drop_eq_getElem_cons hi']
    rw [(List.getElem?_eq_some_iff.1 hy).2]
  rw [ex, ey, hd, wval_append, wval_append]
  simp only [wval, List.length_take]
  rw [Nat.min_eq_left (by omega), Nat.min_eq_left (by omega)]
  have b := wval_lt (xs.take i) (fit_take fx i)
  rw [List.length_take, Nat.min_eq_left (by omega)] at b
  have p : 4294967296 ^ i * (x + 4294967296 * wval (List.drop (i + 1) ys)) + 4294967296 ^ i ≤ 4294967296 ^ i * (y + 4294967296 * wval (List.drop (i + 1) ys)) := by
    rw [← Nat.mul_succ]
    exact Nat.mul_le_mul_left _ (by omega)
  omega

end Go.Proofs.YtpejebohekcfoaaGreatDoor.V32
/- Whole numbers of parts of 32 bits in memory; the walks of trim and times. -/
namespace Go.Proofs.YtpejebohekcfoaaGreatDoor.V32
open Go.RowKit
set_option linter.unusedVariables false

/-- a word as a value -/
def wordV (x : Nat) : Value := .int .u32 (x : Int)

/-- v holds the words xs, in block g -/
def Holds (w : World) (v : Value) (g : Nat) (xs : List Nat) : Prop :=
  ∃ cap, v = .slice (some ⟨g, 0, none⟩) xs.length cap ∧ w.ownsRow g 139 1 (.slice (some ⟨g, 0, none⟩) xs.length cap) xs.length (xs.map wordV)

theorem owns_cell {w : World} {g n cap : Nat} {xs : List Nat} (h : w.ownsRow g 139 1 (.slice (some ⟨g, 0, none⟩) n cap) n (xs.map wordV)) {j x : Nat} (hj : xs[j]? = some x) :
    w.cell? ⟨g, j, none⟩ = some (.int .u32 (x : Int)) := by
  have hl := h.1
  have hjl : j < xs.length := (List.getElem?_eq_some_iff.1 hj).1
  rw [h.cellAt j (by simp at hl; omega), List.getElem?_map, hj]; rfl

theorem owns_bound {w : World} {g n cap : Nat} {xs : List Value} (h : w.ownsRow g 139 1 (.slice (some ⟨g, 0, none⟩) n cap) n xs) : n ≤ cap ∧ cap ≤ maxLen ∧ g < w.heap.size := by
  rcases h.2 with ⟨h', _⟩ | ⟨g', cap', cur, h', hb, hg, hnc, hcm, _⟩
  · simp at h'
  · simp only [Value.slice.injEq, Option.some.injEq, Addr.mk.injEq, and_true, true_and] at h'
    obtain ⟨rfl, rfl⟩ := h'
    exact ⟨hnc, hcm, (Array.getElem?_eq_some_iff.1 hg).1⟩

theorem owns_take {w : World} {g n cap : Nat} {xs : List Value} (h : w.ownsRow g 139 1 (.slice (some ⟨g, 0, none⟩) n cap) n xs) (k : Nat) (hk : k ≤ n) :
    w.ownsRow g 139 1 (.slice (some ⟨g, 0, none⟩) k cap) k (xs.take k) := by
  have hl := h.1
  rcases h.2 with ⟨h', _⟩ | ⟨g', cap', cur, h', hb, hg, hnc, hcm, hcs, ht⟩
  · simp at h'
  · simp only [Value.slice.injEq, Option.some.injEq, Addr.mk.injEq, and_true, true_and] at h'
    obtain ⟨rfl, rfl⟩ := h'
    refine ⟨by simp; omega, .inr ⟨g, cap, cur, rfl, Nat.le_refl _, hg, by omega, hcm, hcs, ?_⟩⟩
    rw [← ht, List.take_take]
    congr 1
    omega

/-- the same number in fewer words -/
theorem drop_top (xs : List Nat) (k : Nat) (hk : 0 < k) (hl : k ≤ xs.length) (h : wval (xs.take k) = wval xs) (h0 : xs[k - 1]? = some 0) : wval (xs.take (k - 1)) = wval xs := by
  obtain ⟨j, rfl⟩ : ∃ j, k = j + 1 := ⟨k - 1, by omega⟩
  simp only [Nat.add_sub_cancel] at h0 ⊢
  rw [wval_take_next xs j 0 h0] at h
  omega

theorem trim_done (xs : List Nat) (k : Nat) (hl : k ≤ xs.length) (fx : Fit xs) (h : wval (xs.take k) = wval xs) (ht : k = 0 ∨ ∃ x, xs[k - 1]? = some x ∧ x ≠ 0) : xs.take k = wds (wval xs) := by
  rw [← h]
  refine (wds_of _ (fit_take fx k) ?_).symm
  intro x hx
  rcases ht with rfl | ⟨y, hy, hy0⟩
  · simp at hx
  · rw [List.getLast?_eq_getElem?, List.length_take, Nat.min_eq_left hl] at hx
    have : k - 1 < k := by
      rcases Nat.eq_zero_or_pos k with h | h
      · subst h; simp at hx
      · omega
    rw [List.getElem?_take, if_pos this, hy] at hx
    simp at hx; omega

theorem holds_take {w : World} {g cap : Nat} {xs ys : List Nat} (h : w.ownsRow g 139 1 (.slice (some ⟨g, 0, none⟩) xs.length cap) xs.length (xs.map wordV)) (k : Nat) (hk : k ≤ xs.length) (he : xs.take k = ys) :
    Holds w (.slice (some ⟨g, 0, none⟩) k cap) g ys := by
  have hl : ys.length = k := by rw [← he, List.length_take, Nat.min_eq_left hk]
  refine ⟨cap, by rw [hl], ?_⟩
  have := owns_take h k hk
  rw [← List.map_take, he] at this
  rw [hl]
  exact this

theorem own_mid {wr : World} {g cap : Nat} {xs A : List Nat} {k : Nat} (hA : A.length = k) (hown : wr.ownsRow g 139 1 (.slice (some ⟨g, 0, none⟩) xs.length cap) xs.length ((A ++ xs.drop k).map wordV)) {x : Nat} (hx : xs[k]? = some x) :
    wr.cell? ⟨g, k, none⟩ = some (.int .u32 (x : Int)) := by
  refine owns_cell hown ?_
  rw [List.getElem?_append_right (by omega), hA, Nat.sub_self, List.getElem?_drop]
  simpa using hx

theorem own_step {wr : World} {g cap : Nat} {xs A : List Nat} {k : Nat} (hA : A.length = k) (hown : wr.ownsRow g 139 1 (.slice (some ⟨g, 0, none⟩) xs.length cap) xs.length ((A ++ xs.drop k).map wordV)) (hk : k < xs.length) (d : Nat) :
    (wr.setCell ⟨g, k, none⟩ (.int .u32 (d : Int))).ownsRow g 139 1 (.slice (some ⟨g, 0, none⟩) xs.length cap) xs.length ((A ++ [d] ++ xs.drop (k + 1)).map wordV) ∧ wr.grownBy (wr.setCell ⟨g, k, none⟩ (.int .u32 (d : Int))) (some g) := by
  obtain ⟨s1, s2⟩ := hown.stored k (.int .u32 (d : Int))
  have e : ((A ++ xs.drop k).map wordV).set k (.int .u32 (d : Int)) = (A ++ [d] ++ xs.drop (k + 1)).map wordV := by
    rw [show (Value.int .u32 (d : Int)) = wordV d from rfl, ← List.map_set]
    congr 1
    rw [List.set_append_right (s := A) (t := xs.drop k) k _ (by omega), hA, Nat.sub_self, List.drop_eq_getElem_cons hk, List.set_cons_zero, List.append_assoc]
    rfl
  rw [e] at s1
  exact ⟨s1, s2⟩

theorem made_zeros (q : Nat) : (madeCells #[Value.int .u32 0] q).toList = (List.replicate q 0).map wordV := by
  rw [toList_madeCells_one, List.map_replicate]
  rfl

theorem trim_any (w : World) (v : Value) (g : Nat) (xs : List Nat) (hv : Holds w v g xs) (fx : Fit xs) :
    Calls Tryz.prog 151 #[v] w fun e w' => w' = w ∧ ∃ v', e = .returned v' ∧ Holds w v' g (wds (wval xs)) := by
  obtain ⟨cap, rfl, hown⟩ := hv
  obtain ⟨b0, b1, b2⟩ := owns_bound hown
  unfold maxLen at b1
  go_enter Tryz.func151, Tryz.ntmps151
  go_wp2_with fail
  go_loop [3] (fun s => ∃ k : Nat, k ≤ xs.length ∧ s = .int .i64 (k : Int) ∧ wval (xs.take k) = wval xs) (fun s => (intOf s).toNat)
  case atStart => exact ⟨xs.length, Nat.le_refl _, rfl, by rw [List.take_length]⟩
  case round =>
    obtain ⟨k, hk, rfl, hkv⟩ := hrel
    have HK : Hid (wval (xs.take k) = wval xs) := hkv
    clear hkv
    rcases Nat.eq_zero_or_pos k with c | c
    · subst c
      go_wp2
      go_ret
      exact ⟨rfl, _, rfl, holds_take hown 0 (by omega) (trim_done xs 0 (by omega) fx HK.out (.inl rfl))⟩
    · obtain ⟨k, rfl⟩ : ∃ j, k = j + 1 := ⟨k - 1, by omega⟩
      obtain ⟨x, hx⟩ : ∃ x, xs[k]? = some x := ⟨_, List.getElem?_eq_getElem (by omega)⟩
      have hc := owns_cell hown hx
      have ek : ((k + 1 : Nat) : Int) - 1 = (k : Int) := by omega
      by_cases hx0 : x = 0
      · subst hx0
        go_wp2
        refine ⟨⟨k, by omega, rfl, drop_top xs (k + 1) c hk HK.out hx⟩, ?_⟩
        simp [intOf]
      · have hx1 : ¬ (x : Int) = 0 := by omega
        go_wp2
        go_ret
        exact ⟨rfl, _, rfl, holds_take hown (k + 1) hk (trim_done xs (k + 1) hk fx HK.out (.inr ⟨x, hx, hx0⟩))⟩

end Go.Proofs.YtpejebohekcfoaaGreatDoor.V32
/- The walk of times. -/
namespace Go.Proofs.YtpejebohekcfoaaGreatDoor.V32
open Go.RowKit
set_option linter.unusedVariables false

/-- the parts of times: those that are done and those that are not -/
def TimesAt (w wr : World) (g cap : Nat) (xs : List Nat) (b p : Nat) (k c : Nat) : Prop :=
  ∃ A : List Nat, A.length = k ∧ Fit A ∧ wval A + 4294967296 ^ k * c = wval (xs.take k) * b + p ∧
    wr.ownsRow g 139 1 (.slice (some ⟨g, 0, none⟩) (List.replicate (xs.length + 1) 0).length cap) (List.replicate (xs.length + 1) 0).length ((A ++ (List.replicate (xs.length + 1) 0).drop k).map wordV) ∧ w.grownBy wr none ∧ w.heap.size ≤ g

theorem TimesAt.next {w wr : World} {g cap : Nat} {xs : List Nat} {b p k c : Nat} (h : TimesAt w wr g cap xs b p k c) {x : Nat} (hx : xs[k]? = some x) :
    TimesAt w (wr.setCell ⟨g, k, none⟩ (.int .u32 (((x * b + c) % 4294967296 : Nat) : Int))) g cap xs b p (k + 1) ((x * b + c) / 4294967296) := by
  obtain ⟨A, hA, fA, hv, hown, hg, hsz⟩ := h
  have hk : k < xs.length := (List.getElem?_eq_some_iff.1 hx).1
  obtain ⟨s1, s2⟩ := own_step hA hown (by simp; omega) ((x * b + c) % 4294967296)
  refine ⟨A ++ [(x * b + c) % 4294967296], by simp [hA], fit_append fA (fit_one (by omega)), scaled_step xs A k x b c p hA hx hv, s1, ?_, hsz⟩
  exact ⟨s2.os.trans hg.os, s2.tape.trans hg.tape, s2.output.trans hg.output, Nat.le_trans hg.size s2.size, fun j hj hr => (s2.block j (by have := hg.size; omega) (by simp; omega)).trans (hg.block j hj hr)⟩

theorem times_fin {w wr : World} {g cap : Nat} {xs : List Nat} {b p c : Nat} (h : TimesAt w wr g cap xs b p xs.length c) (hc : c < 4294967296) :
    ∃ A, Fit A ∧ Holds (wr.setCell ⟨g, xs.length, none⟩ (.int .u32 (c : Int))) (.slice (some ⟨g, 0, none⟩) (xs.length + 1) cap) g A ∧ wval A = wval xs * b + p ∧ w.grownBy (wr.setCell ⟨g, xs.length, none⟩ (.int .u32 (c : Int))) none := by
  obtain ⟨A, hA, fA, hv, hown, hg, hsz⟩ := h
  obtain ⟨s1, s2⟩ := own_step hA hown (by simp) c
  have hl1 : (A ++ [c]).length = xs.length + 1 := by simp [hA]
  refine ⟨A ++ [c], fit_append fA (fit_one hc), ⟨cap, by rw [hl1], ?_⟩, scaled_done xs A b c p hA hv, ?_⟩
  · rw [hl1]
    rw [List.length_replicate, List.drop_eq_nil_of_le (by simp), List.append_nil] at s1
    exact s1
  · exact ⟨s2.os.trans hg.os, s2.tape.trans hg.tape, s2.output.trans hg.output, Nat.le_trans hg.size s2.size, fun j hj hr => (s2.block j (by have := hg.size; omega) (by simp; omega)).trans (hg.block j hj hr)⟩

theorem info139 : (Tryz.prog.info? 139).map (fun i => (i.zero, i.size, i.bytes)) = some (some (.int .u32 0), 1, 4) := by kernel_rfl

set_option maxHeartbeats 2000000 in
theorem times_walk (w : World) (g cap : Nat) (xs : List Nat) (b p : Nat) (fx : Fit xs) (hb : b < 4294967296) (hp : p < 4294967296) (hlen : xs.length ≤ 1000000)
    (hown : w.ownsRow g 139 1 (.slice (some ⟨g, 0, none⟩) xs.length cap) xs.length (xs.map wordV)) :
    Calls Tryz.prog 122 #[.slice (some ⟨g, 0, none⟩) xs.length cap, .int .u32 (b : Int), .int .u32 (p : Int)] w fun e w' => ∃ v' g', e = .returned v' ∧ Holds w' v' g' (wds (wval xs * b + p)) ∧ w.grownBy w' none ∧ w.heap.size ≤ g' := by
  obtain ⟨i0, hi, hz0, hz1, hz2⟩ := info_parts info139
  have bx := owns_bound hown
  have start : ∀ w1 : World, w1.ownsRow w.heap.size 139 1 (.slice (some ⟨w.heap.size, 0, none⟩) (xs.length + 1) (xs.length + 1)) (xs.length + 1) (madeCells #[.int .u32 0] (xs.length + 1)).toList → w.grownBy w1 none →
      TimesAt w w1 w.heap.size (xs.length + 1) xs b p 0 p := by
    intro w1 hmade hg1
    rw [made_zeros] at hmade
    refine ⟨[], rfl, (by intro x hx; simp at hx), by simp [wval], ?_, hg1, Nat.le_refl _⟩
    rw [List.length_replicate, List.drop_zero, List.nil_append]
    exact hmade
  go_enter Tryz.func122, Tryz.ntmps122
  go_wp2_with (at_make; refine wpList_make_full _ rfl _ _ 132 rfl w.heap.size 139 i0 (.int .u32 0) 1 Tryz.underlying132 hi hz0 hz1 _ _ _ _ (xs.length + 1) rfl rfl (by omega) (by omega) ?m1 ?m2 (Nat.le_refl _) ?_)
  case m1 => rw [hz2]; omega
  case m2 => unfold maxLen; omega
  intro w1 hmade hg1
  have st := start w1 hmade hg1
  clear hmade hg1 start hi hz0 hz1 hz2 bx
  go_wp2_with fail
  go_loopw [8, 9] (fun cv iv wr => ∃ j c : Nat, j ≤ xs.length ∧ iv = .int .i64 j ∧ cv = .int .u64 c ∧ c < 4294967296 ∧ TimesAt w wr w.heap.size (xs.length + 1) xs b p j c) (fun _ i _ => xs.length - (intOf i).toNat)
  case atStart => exact ⟨0, p, Nat.zero_le _, rfl, rfl, hp, st⟩
  case round =>
    clear st
    obtain ⟨j, c, hj, rfl, rfl, hc, hs⟩ := hrel
    have cells : (∀ x, xs[j]? = some x → wr.cell? ⟨g, j, none⟩ = some (.int .u32 (x : Int))) ∧ wr.frozen? ⟨w.heap.size, j, none⟩ = false ∧ wr.cell? ⟨w.heap.size, j, none⟩ = some (.int .u32 0) := by
      obtain ⟨A, hA, _, _, ho, hg, _⟩ := hs
      exact ⟨fun x hx => hg.cell (owns_cell hown hx) (by simp), ho.frozenAt j, own_mid hA ho (by rw [List.getElem?_replicate, if_pos (by omega)])⟩
    obtain ⟨cells1, fr, c0⟩ := cells
    rcases Nat.lt_or_ge j xs.length with hjl | hge
    · obtain ⟨x, hx⟩ : ∃ x, xs[j]? = some x := ⟨_, List.getElem?_eq_getElem hjl⟩
      have hx1 := fit_get fx hx
      have cl := cells1 x hx
      have nx := hs.next hx
      have xb : x * b ≤ 4294967295 * 4294967295 := Nat.mul_le_mul (by omega) (by omega)
      obtain ⟨P, hP⟩ : ∃ P, P = x * b := ⟨_, rfl⟩
      have hPI : (x : Int) * (b : Int) = (P : Int) := by rw [hP]; simp
      rw [← hP] at nx xb
      obtain ⟨Q, hQ⟩ : ∃ Q : Int, (P : Int) = Q := ⟨_, rfl⟩
      obtain ⟨C, hC⟩ : ∃ C : Int, (c : Int) = C := ⟨_, rfl⟩
      have q0 : 0 ≤ Q := by omega
      have q1 : Q ≤ 18446744065119617025 := by omega
      have d0 : 0 ≤ C := by omega
      have d1 : C < 4294967296 := by omega
      have HN : Hid (∃ c' : Nat, (c' : Int) = (C + Q) / 4294967296 ∧ c' < 4294967296 ∧ TimesAt w (wr.setCell ⟨w.heap.size, j, none⟩ (.int .u32 ((C + Q) % 4294967296))) w.heap.size (xs.length + 1) xs b p (j + 1) c') := by
        refine ⟨(P + c) / 4294967296, by omega, by omega, ?_⟩
        have e : (((P + c) % 4294967296 : Nat) : Int) = (C + Q) % 4294967296 := by omega
        rw [← e]
        exact nx
      rw [hQ] at hPI
      rw [hC]
      have x0 : (0 : Int) ≤ (x : Int) := by omega
      have x1 : (x : Int) ≤ 4294967295 := by omega
      have b0 : (0 : Int) ≤ (b : Int) := by omega
      have b1 : (b : Int) ≤ 4294967295 := by omega
      clear nx cells1 hs hP hQ hC hx1 hx xb hc hb hp hown fx
      go_wp2_with fail
      obtain ⟨c', e1, e2, e3⟩ := HN.out
      refine ⟨⟨j + 1, c', by omega, by congr 1, by rw [e1], e2, e3⟩, ?_⟩
      simp [intOf]; omega
    · have hjx : j = xs.length := by omega
      subst hjx
      obtain ⟨A, fA, hA, vA, gA⟩ := times_fin hs hc
      have tr := trim_any _ _ _ _ hA fA
      rw [vA] at tr
      have HG : Hid (w.grownBy (wr.setCell ⟨w.heap.size, xs.length, none⟩ (.int .u32 (c : Int))) none) := gA
      obtain ⟨C, hC⟩ : ∃ C : Int, (c : Int) = C := ⟨_, rfl⟩
      have d0 : 0 ≤ C := by omega
      have d1 : C < 4294967296 := by omega
      rw [hC] at tr HG ⊢
      clear hs hA fA vA gA cells1 hc hb hp hown fx hC
      go_wp2_with fail
      refine tr.mono ?_
      rintro e w2 ⟨rfl, v', rfl, hv⟩
      go_wp2_with fail
      go_ret
      exact ⟨_, _, rfl, hv, HG.out, Nat.le_refl _⟩

/-- v is a whole number, of parts that have no nought at their end -/
def N32 (w : World) (v : Value) (N : Nat) : Prop := ∃ g, Holds w v g (wds N) ∧ g < w.heap.size

theorem holds_grown {w w' : World} {v : Value} {g : Nat} {xs : List Nat} (h : Holds w v g xs) (hg : g < w.heap.size) (b : w.grownBy w' none) : Holds w' v g xs := by
  obtain ⟨cap, rfl, ho⟩ := h
  refine ⟨cap, rfl, ?_⟩
  refine ⟨ho.1, ?_⟩
  rcases ho.2 with ⟨h', _⟩ | ⟨g', cap', cur, h', hb, hg', hnc, hcm, hcs, ht⟩
  · simp at h'
  · simp only [Value.slice.injEq, Option.some.injEq, Addr.mk.injEq, and_true, true_and] at h'
    obtain ⟨rfl, rfl⟩ := h'
    exact .inr ⟨g, cap, cur, rfl, hb, (b.block g hg (by simp)).trans hg', hnc, hcm, hcs, ht⟩

theorem N32.keep {w w' : World} {v : Value} {N : Nat} (h : N32 w v N) (b : w.grownBy w' none) : N32 w' v N := by
  obtain ⟨g, hh, hg⟩ := h
  exact ⟨g, holds_grown hh hg b, Nat.lt_of_lt_of_le hg b.size⟩

theorem wds_len (N k : Nat) (h : N < 4294967296 ^ k) : (wds N).length ≤ k := wds_length_lt h

/-- TIMES -/
theorem times_any (w : World) (v : Value) (N b p : Nat) (hv : N32 w v N) (hb : b < 4294967296) (hp : p < 4294967296) (hlen : (wds N).length ≤ 1000000) :
    Calls Tryz.prog 122 #[v, .int .u32 (b : Int), .int .u32 (p : Int)] w fun e w' => ∃ v', e = .returned v' ∧ N32 w' v' (N * b + p) ∧ w.grownBy w' none := by
  obtain ⟨g, ⟨cap, rfl, ho⟩, hg⟩ := hv
  refine (times_walk w g cap (wds N) b p (fit_wds N) hb hp hlen ho).mono ?_
  rintro e w' ⟨v', g', rfl, hh, hgr, hsz⟩
  rw [wval_wds] at hh
  refine ⟨v', rfl, ⟨g', hh, ?_⟩, hgr⟩
  obtain ⟨cap', rfl, ho'⟩ := hh
  exact (owns_bound ho').2.2

end Go.Proofs.YtpejebohekcfoaaGreatDoor.V32
/- The walks of tens, up, nat, order. -/
namespace Go.Proofs.YtpejebohekcfoaaGreatDoor.V32
open Go.RowKit
set_option linter.unusedVariables false

theorem grown_refl (w : World) : w.grownBy w none := ⟨rfl, rfl, rfl, Nat.le_refl _, fun _ _ _ => rfl⟩

theorem grown_drew {w w' : World} (h : w.grownBy w' none) : w.grownBy w'.drew none := ⟨h.os, h.tape, h.output, h.size, h.block⟩

theorem grown_tr {w w1 w2 : World} (h : w.grownBy w1 none) (k : w1.grownBy w2 none) : w.grownBy w2 none :=
  ⟨k.os.trans h.os, k.tape.trans h.tape, k.output.trans h.output, Nat.le_trans h.size k.size, fun j hj hr => (k.block j (Nat.lt_of_lt_of_le hj h.size) hr).trans (h.block j hj hr)⟩

def TensAt (w wr : World) (N n : Nat) (av nv : Value) : Prop := ∃ k : Nat, k ≤ n ∧ nv = .int .i64 (k : Int) ∧ N32 wr av (N * 10 ^ (n - k)) ∧ w.grownBy wr none

theorem tens_len {N n k K : Nat} (h : N * 10 ^ n < 4294967296 ^ K) (hk : k ≤ n) : (wds (N * 10 ^ (n - k))).length ≤ K := by
  refine wds_length_lt (Nat.lt_of_le_of_lt (Nat.mul_le_mul_left _ (Nat.pow_le_pow_right (by decide) (by omega))) h)

set_option maxHeartbeats 1000000 in
theorem tens_any (w : World) (v : Value) (N n K : Nat) (hv : N32 w v N) (hn : n ≤ 1000000) (hK : N * 10 ^ n < 4294967296 ^ K) (hK1 : K ≤ 1000000) :
    Calls Tryz.prog 117 #[v, .int .i64 (n : Int)] w fun e w' => ∃ v', e = .returned v' ∧ N32 w' v' (N * 10 ^ n) ∧ w.grownBy w' none := by
  have HL : Hid (∀ k, k ≤ n → (wds (N * 10 ^ (n - k))).length ≤ 1000000) := fun k hk => Nat.le_trans (tens_len hK hk) hK1
  have H0 : Hid (TensAt w w N n v (.int .i64 (n : Int))) := ⟨n, Nat.le_refl _, rfl, by rw [Nat.sub_self, Nat.pow_zero, Nat.mul_one]; exact hv, grown_refl w⟩
  clear hv hK hK1
  go_enter Tryz.func117, Tryz.ntmps117
  go_wp2_with fail
  go_loopw [0, 1] (fun av nv wr => TensAt w wr N n av nv) (fun _ nv _ => (intOf nv).toNat)
  case atStart => exact H0.out
  case round =>
    clear H0
    obtain ⟨k, hk, rfl, hN, hg⟩ := hrel
    rcases Nat.lt_or_ge k 9 with c | c
    · have H1 : Hid (TensAt w wr N n u0 (.int .i64 (k : Int))) := ⟨k, hk, rfl, hN, hg⟩
      clear hN hg
      go_wp2_with fail
      go_loopw [0, 1] (fun av nv wr => TensAt w wr N n av nv) (fun _ nv _ => (intOf nv).toNat)
      case atStart => exact H1.out
      case round =>
        clear H1
        obtain ⟨k2, hk2, rfl, hN, hg⟩ := hrel
        rcases Nat.eq_zero_or_pos k2 with z | c2
        · subst z
          rw [Nat.sub_zero] at hN
          go_wp2_with fail
          go_ret
          exact ⟨_, rfl, hN, hg⟩
        · have cc := times_any _ _ _ 10 0 hN (by decide) (by decide) (HL.out k2 hk2)
          have e1 : N * 10 ^ (n - k2) * 10 + 0 = N * 10 ^ (n - (k2 - 1)) := by
            rw [show n - (k2 - 1) = (n - k2) + 1 from by omega, Nat.pow_succ, Nat.mul_assoc, Nat.add_zero]
          rw [e1] at cc
          have HG : Hid (w.grownBy wr none) := hg
          have HE : Hid (((k2 - 1 : Nat) : Int) = (k2 : Int) - 1) := by show _ = _; omega
          clear hN hg e1 hk c
          go_wp2_with fail
          refine cc.mono ?_
          rintro e w2 ⟨v', rfl, h1, h2⟩
          have NX : TensAt w w2 N n v' (.int .i64 ((k2 : Int) - 1)) := ⟨k2 - 1, by omega, by rw [HE.out], h1, grown_tr HG.out h2⟩
          clear h1 h2
          go_wp2_with fail
          refine ⟨NX, ?_⟩
          simp [intOf]; omega
    · have cc := times_any _ _ _ 1000000000 0 hN (by decide) (by decide) (HL.out k hk)
      have e1 : N * 10 ^ (n - k) * 1000000000 + 0 = N * 10 ^ (n - (k - 9)) := by
        rw [show n - (k - 9) = (n - k) + 9 from by omega, Nat.pow_add, Nat.mul_assoc, Nat.add_zero]
      rw [e1] at cc
      have HG : Hid (w.grownBy wr none) := hg
      have HE : Hid (((k - 9 : Nat) : Int) = (k : Int) - 9) := by show _ = _; omega
      clear hN hg e1
      go_wp2_with fail
      refine cc.mono ?_
      rintro e w2 ⟨v', rfl, h1, h2⟩
      have NX : TensAt w w2 N n v' (.int .i64 ((k : Int) - 9)) := ⟨k - 9, by omega, by rw [HE.out], h1, grown_tr HG.out h2⟩
      clear h1 h2
      go_wp2_with fail
      refine ⟨NX, ?_⟩
      simp [intOf]; omega

def UpAt (w wr : World) (N n : Nat) (av nv : Value) : Prop := ∃ k : Nat, k ≤ n ∧ nv = .int .i64 (k : Int) ∧ N32 wr av (N * 2 ^ (n - k)) ∧ w.grownBy wr none

theorem up_len {N n k K : Nat} (h : N * 2 ^ n < 4294967296 ^ K) (hk : k ≤ n) : (wds (N * 2 ^ (n - k))).length ≤ K := by
  refine wds_length_lt (Nat.lt_of_le_of_lt (Nat.mul_le_mul_left _ (Nat.pow_le_pow_right (by decide) (by omega))) h)

set_option maxHeartbeats 1000000 in
theorem up_any (w : World) (v : Value) (N n K : Nat) (hv : N32 w v N) (hn : n ≤ 1000000) (hK : N * 2 ^ n < 4294967296 ^ K) (hK1 : K ≤ 1000000) :
    Calls Tryz.prog 118 #[v, .int .i64 (n : Int)] w fun e w' => ∃ v', e = .returned v' ∧ N32 w' v' (N * 2 ^ n) ∧ w.grownBy w' none := by
  have HL : Hid (∀ k, k ≤ n → (wds (N * 2 ^ (n - k))).length ≤ 1000000) := fun k hk => Nat.le_trans (up_len hK hk) hK1
  have H0 : Hid (UpAt w w N n v (.int .i64 (n : Int))) := ⟨n, Nat.le_refl _, rfl, by rw [Nat.sub_self, Nat.pow_zero, Nat.mul_one]; exact hv, grown_refl w⟩
  clear hv hK hK1
  go_enter Tryz.func118, Tryz.ntmps118
  go_wp2_with fail
  go_loopw [0, 1] (fun av nv wr => UpAt w wr N n av nv) (fun _ nv _ => (intOf nv).toNat)
  case atStart => exact H0.out
  case round =>
    clear H0
    obtain ⟨k, hk, rfl, hN, hg⟩ := hrel
    rcases Nat.lt_or_ge k 31 with c | c
    · have p2 : (2 : Nat) ^ k < 4294967296 := Nat.lt_of_lt_of_le (Nat.pow_lt_pow_right (by decide) c) (by decide)
      have cc := times_any _ _ _ (2 ^ k) 0 hN p2 (by decide) (HL.out k hk)
      have e1 : N * 2 ^ (n - k) * 2 ^ k + 0 = N * 2 ^ n := by
        rw [Nat.add_zero, Nat.mul_assoc, ← Nat.pow_add, show n - k + k = n from by omega]
      rw [e1] at cc
      have HG : Hid (w.grownBy wr none) := hg
      have ec : ((2 ^ k : Nat) : Int) = (2 : Int) ^ k % 4294967296 := by
        have e2 : (2 : Int) ^ k = ((2 ^ k : Nat) : Int) := (Int.natCast_pow 2 k).symm
        have g : ∀ P : Nat, P < 4294967296 → (P : Int) = (P : Int) % 4294967296 := by intro P h; omega
        rw [e2]
        exact g _ p2
      rw [ec] at cc
      clear hN hg e1 ec p2
      go_wp2_with fail
      refine cc.mono ?_
      rintro e w2 ⟨v', rfl, h1, h2⟩
      go_wp2_with fail
      go_ret
      exact ⟨_, rfl, h1, grown_tr HG.out h2⟩
    · have cc := times_any _ _ _ 2147483648 0 hN (by decide) (by decide) (HL.out k hk)
      have e1 : N * 2 ^ (n - k) * 2147483648 + 0 = N * 2 ^ (n - (k - 31)) := by
        rw [show n - (k - 31) = (n - k) + 31 from by omega, Nat.pow_add, Nat.mul_assoc, Nat.add_zero]
      rw [e1] at cc
      have HG : Hid (w.grownBy wr none) := hg
      have HE : Hid (((k - 31 : Nat) : Int) = (k : Int) - 31) := by show _ = _; omega
      clear hN hg e1
      go_wp2_with fail
      refine cc.mono ?_
      rintro e w2 ⟨v', rfl, h1, h2⟩
      have NX : UpAt w w2 N n v' (.int .i64 ((k : Int) - 31)) := ⟨k - 31, by omega, by rw [HE.out], h1, grown_tr HG.out h2⟩
      clear h1 h2
      go_wp2_with fail
      refine ⟨NX, ?_⟩
      simp [intOf]; omega

set_option maxHeartbeats 1000000 in
theorem nat_any (w : World) (n : Int) (h0 : 0 ≤ n) (h1 : n < 18446744073709551616) :
    Calls Tryz.prog 116 #[.int .u64 n] w fun e w' => ∃ v', e = .returned v' ∧ N32 w' v' n.toNat ∧ w.grownBy w' none := by
  go_enter Tryz.func116, Tryz.ntmps116
  have hh : Holds (w.alloc (.cells #[.int .u32 (n % 4294967296), .int .u32 (n / 4294967296)] 139)) (.slice (some ⟨w.heap.size, 0, none⟩) 2 2) w.heap.size [(n % 4294967296).toNat, (n / 4294967296).toNat] := by
    refine ⟨2, rfl, rfl, .inr ⟨w.heap.size, 2, #[.int .u32 (n % 4294967296), .int .u32 (n / 4294967296)], rfl, Nat.le_refl _, by show (w.heap.push _)[w.heap.size]? = _; simp, Nat.le_refl _, by decide, rfl, ?_⟩⟩
    show [Value.int .u32 (n % 4294967296), Value.int .u32 (n / 4294967296)] = [Value.int .u32 (((n % 4294967296).toNat : Nat) : Int), Value.int .u32 (((n / 4294967296).toNat : Nat) : Int)]
    rw [Int.toNat_of_nonneg (by omega), Int.toNat_of_nonneg (by omega)]
  have tr := trim_any _ _ _ _ hh (by
    intro x hx
    simp at hx
    rcases hx with rfl | rfl <;> omega)
  have ev : wval [(n % 4294967296).toNat, (n / 4294967296).toNat] = n.toNat := by
    simp only [wval]
    omega
  rw [ev] at tr
  clear hh ev
  go_wp2_with fail
  refine tr.mono ?_
  rintro e w2 ⟨rfl, v', rfl, hv⟩
  go_wp2_with fail
  go_ret
  refine ⟨_, rfl, ⟨w.heap.size, hv, by show w.heap.size < (w.heap.push _).size; simp⟩, ⟨rfl, rfl, rfl, by show w.heap.size ≤ (w.heap.push _).size; simp, ?_⟩⟩
  intro j hj _
  exact Below.heap_alloc _ _ _ hj

set_option maxHeartbeats 1000000 in
theorem order_any (w : World) (v u : Value) (N M : Nat) (hv : N32 w v N) (hu : N32 w u M) (hlen : (wds N).length ≤ 1000000) (hlen2 : (wds M).length ≤ 1000000) :
    Calls Tryz.prog 119 #[v, u] w fun e w' => ∃ (r : Int) (n : Nat), e = .returned (.int .i64 r) ∧ CmpIs r N M ∧ w' = w.drewN n := by
  obtain ⟨g, ⟨cap, rfl, hown⟩, hgs⟩ := hv
  obtain ⟨k, ⟨cup, rfl, hwn⟩, hks⟩ := hu
  by_cases hl : (wds N).length = (wds M).length
  · go_enter Tryz.func119, Tryz.ntmps119
    go_wp2_with fail
    rw [← hl] at hwn
    go_loopw [5] (fun i wr => ∃ j n : Nat, j ≤ (wds N).length ∧ i = .int .i64 ((j : Int) - 1) ∧ (wds N).drop j = (wds M).drop j ∧ wr = w.drewN n) (fun i _ => ((intOf i) + 1).toNat)
    case atStart =>
      exact ⟨(wds N).length, 0, Nat.le_refl _, by go_num, by rw [List.drop_length, hl, List.drop_length], rfl⟩
    case round =>
      obtain ⟨j, nd, hj, rfl, hd, rfl⟩ := hrel
      have HD : Hid ((wds N).drop j = (wds M).drop j) := hd
      have HL : Hid ((wds N).length = (wds M).length) := hl
      clear hd hl
      rcases Nat.eq_zero_or_pos j with c | c
      · subst c
        go_wp2
        go_ret
        have e : N = M := by
          have := HD.out
          simp only [List.drop_zero] at this
          rw [← wval_wds N, this, wval_wds]
        exact ⟨0, nd, rfl, cmp_eq e, rfl⟩
      · obtain ⟨i, rfl⟩ : ∃ i, j = i + 1 := ⟨j - 1, by omega⟩
        obtain ⟨x, hx⟩ : ∃ x, (wds N)[i]? = some x := ⟨_, List.getElem?_eq_getElem (by omega)⟩
        obtain ⟨y, hy⟩ : ∃ y, (wds M)[i]? = some y := ⟨_, List.getElem?_eq_getElem (by have := HL.out; omega)⟩
        have cx : w.cell? ⟨g, i, none⟩ = some (.int .u32 (x : Int)) := owns_cell hown hx
        have cy : w.cell? ⟨k, i, none⟩ = some (.int .u32 (y : Int)) := owns_cell hwn hy
        have ci : (i : Int) < (wds N).length := by omega
        have ci2 : (i : Int) < (wds M).length := by have := HL.out; omega
        have tp := cmp_top (wds N) (wds M) i x y (fit_wds N) HL.out hx hy HD.out
        have tq := cmp_top (wds M) (wds N) i y x (fit_wds M) HL.out.symm hy hx HD.out.symm
        rw [wval_wds, wval_wds] at tp tq
        rcases Nat.lt_trichotomy x y with lt | eq | gt
        · have res := tp lt
          clear tp tq
          go_wp2_with fail
          go_quiet (fail)
          go_wp2
          go_ret
          exact ⟨-1, _, rfl, cmp_lt res, by rw [World.drewN_drewN]⟩
        · subst eq
          have nx := drop_same hx hy HD.out
          have HX : Hid ((wds N).drop i = (wds M).drop i) := nx
          clear tp tq nx
          go_wp2_with fail
          go_quiet (fail)
          go_wp2_with fail
          go_quiet (fail)
          go_wp2
          refine ⟨⟨i, _, by omega, rfl, HX.out, rfl⟩, ?_⟩
          simp [intOf]
        · have res := tq gt
          clear tp tq
          go_wp2_with fail
          go_quiet (fail)
          go_wp2_with fail
          go_quiet (fail)
          go_wp2
          go_ret
          exact ⟨1, _, rfl, cmp_gt res, by rw [World.drewN_drewN, World.drewN_drewN]⟩
  · rcases Nat.lt_or_gt_of_ne hl with c | c
    · have res := lt_of_length c
      go_enter Tryz.func119, Tryz.ntmps119
      go_wp2
      go_ret
      exact ⟨-1, 0, rfl, cmp_lt res, rfl⟩
    · have res := lt_of_length c
      have nc : ¬ (wds N).length < (wds M).length := by omega
      go_enter Tryz.func119, Tryz.ntmps119
      go_wp2
      go_ret
      exact ⟨1, 0, rfl, cmp_gt res, rfl⟩

end Go.Proofs.YtpejebohekcfoaaGreatDoor.V32
/- The walk of by. -/
namespace Go.Proofs.YtpejebohekcfoaaGreatDoor.V32
open Go.RowKit
set_option linter.unusedVariables false

/-- the parts of by: those that are done and those that are not; T: how many there are -/
def ByAt (w wr : World) (g T : Nat) (L H : List Nat) (k c : Nat) : Prop :=
  ∃ A : List Nat, A.length = k ∧ Fit A ∧ wval A + 4294967296 ^ k * c = wval (L.take k) + wval (H.take k) ∧
    wr.ownsRow g 139 1 (.slice (some ⟨g, 0, none⟩) (List.replicate T 0).length T) (List.replicate T 0).length ((A ++ (List.replicate T 0).drop k).map wordV) ∧ w.grownBy wr none ∧ w.heap.size ≤ g

theorem take_part (L : List Nat) (k : Nat) : wval (L.take (k + 1)) = wval (L.take k) + 4294967296 ^ k * L.getD k 0 := by
  rcases Nat.lt_or_ge k L.length with c | c
  · have e := List.getElem?_eq_getElem c
    rw [wval_take_next L k _ e, List.getD, e]
    rfl
  · rw [wval_take_past L (k + 1) (by omega), wval_take_past L k c, List.getD, List.getElem?_eq_none c]
    simp

theorem ByAt.next {w wr : World} {g T : Nat} {L H : List Nat} {k c : Nat} (h : ByAt w wr g T L H k c) (hk : k < T) :
    ByAt w (wr.setCell ⟨g, k, none⟩ (.int .u32 (((c + L.getD k 0 + H.getD k 0) % 4294967296 : Nat) : Int))) g T L H (k + 1) ((c + L.getD k 0 + H.getD k 0) / 4294967296) := by
  obtain ⟨A, hA, fA, hv, hown, hg, hsz⟩ := h
  obtain ⟨s1, s2⟩ := own_step hA hown (by simp; omega) ((c + L.getD k 0 + H.getD k 0) % 4294967296)
  refine ⟨A ++ [(c + L.getD k 0 + H.getD k 0) % 4294967296], by simp [hA], fit_append fA (fit_one (by omega)), ?_, s1, ?_, hsz⟩
  · rw [wval_snoc, hA, take_part, take_part, Nat.pow_succ]
    generalize L.getD k 0 = x at *
    generalize H.getD k 0 = y at *
    generalize 4294967296 ^ k = P at *
    have e : P * ((c + x + y) % 4294967296) + P * 4294967296 * ((c + x + y) / 4294967296) = P * (c + x + y) := by
      rw [Nat.mul_assoc, ← Nat.mul_add]
      congr 1
      omega
    have f : P * (c + x + y) = P * c + P * x + P * y := by rw [Nat.mul_add, Nat.mul_add]
    omega
  · exact ⟨s2.os.trans hg.os, s2.tape.trans hg.tape, s2.output.trans hg.output, Nat.le_trans hg.size s2.size, fun j hj hr => (s2.block j (by have := hg.size; omega) (by simp; omega)).trans (hg.block j hj hr)⟩

theorem by_fin {w wr : World} {g T : Nat} {L H : List Nat} {c : Nat} (h : ByAt w wr g T L H T c) (hL : L.length ≤ T) (hH : H.length ≤ T) (hs : wval L + wval H < 4294967296 ^ T) :
    ∃ A, Fit A ∧ Holds wr (.slice (some ⟨g, 0, none⟩) T T) g A ∧ wval A = wval L + wval H ∧ w.grownBy wr none ∧ w.heap.size ≤ g := by
  obtain ⟨A, hA, fA, hv, hown, hg, hsz⟩ := h
  rw [wval_take_past L T hL, wval_take_past H T hH] at hv
  have c0 : c = 0 := by
    rcases Nat.eq_zero_or_pos c with z | cp
    · exact z
    · exfalso
      have : 4294967296 ^ T * 1 ≤ 4294967296 ^ T * c := Nat.mul_le_mul_left _ cp
      omega
  subst c0
  refine ⟨A, fA, ⟨T, by rw [hA], ?_⟩, by omega, hg, hsz⟩
  rw [List.length_replicate, List.drop_eq_nil_of_le (by simp), List.append_nil] at hown
  rw [hA]
  exact hown

set_option maxHeartbeats 4000000 in
theorem by_any (w : World) (v : Value) (N : Nat) (n : Int) (hv : N32 w v N) (h0 : 0 ≤ n) (h1 : n < 18446744073709551616) (hlen : (wds N).length ≤ 900000) :
    Calls Tryz.prog 120 #[v, .int .u64 n] w fun e w' => ∃ v', e = .returned v' ∧ N32 w' v' (N * n.toNat) ∧ w.grownBy w' none := by
  obtain ⟨lo, hlo⟩ : ∃ lo : Nat, (lo : Int) = n % 4294967296 := ⟨(n % 4294967296).toNat, by omega⟩
  obtain ⟨hi, hhi⟩ : ∃ hi : Nat, (hi : Int) = n / 4294967296 := ⟨(n / 4294967296).toNat, by omega⟩
  have c1 := times_any w v N lo 0 hv (by omega) (by decide) (by omega)
  rw [hlo, Nat.add_zero] at c1
  have c2 : ∀ w1, w.grownBy w1 none → Calls Tryz.prog 122 #[v, .int .u32 (n / 4294967296), .int .u32 ((0 : Nat) : Int)] w1 fun e w' => ∃ v', e = .returned v' ∧ N32 w' v' (N * hi) ∧ w1.grownBy w' none := by
    intro w1 hg1
    have := times_any w1 v N hi 0 (hv.keep hg1) (by omega) (by decide) (by omega)
    rw [hhi, Nat.add_zero] at this
    exact this
  obtain ⟨i0, hif, hz0, hz1, hz2⟩ := info_parts info139
  have HSUM : Hid (N * n.toNat = wval (wds (N * lo)) + wval (0 :: wds (N * hi))) := by
    show _ = _
    simp only [wval]
    rw [wval_wds, wval_wds, show n.toNat = lo + 4294967296 * hi from by omega, Nat.mul_add, Nat.zero_add, ← Nat.mul_assoc, Nat.mul_comm N 4294967296, Nat.mul_assoc]
  have HT : Hid (N * n.toNat < 4294967296 ^ ((wds N).length + 3) ∧ (wds (N * lo)).length ≤ (wds N).length + 3 ∧ (0 :: wds (N * hi)).length ≤ (wds N).length + 3) := by
    have b := wval_lt (wds N) (fit_wds N)
    rw [wval_wds] at b
    generalize (wds N).length = l at *
    have q : ∀ (m k : Nat), m < 4294967296 ^ k → N * m < 4294967296 ^ (l + k) := by
      intro m k hm
      rw [Nat.pow_add]
      rcases Nat.eq_zero_or_pos N with z | hN
      · subst z; rw [Nat.zero_mul]; exact Nat.mul_pos (Nat.pow_pos (by decide)) (Nat.pow_pos (by decide))
      · exact Nat.mul_lt_mul'' b hm
    refine ⟨?_, ?_, ?_⟩
    · exact q _ 3 (by omega)
    · have := wds_length_lt (q lo 1 (by omega)); omega
    · have := wds_length_lt (q hi 1 (by omega)); simp; omega
  obtain ⟨g, ⟨cap, rfl, ho⟩, hg⟩ := hv
  have bx := owns_bound ho
  unfold maxLen at bx
  generalize hT : (wds N).length = l at *
  have HTl : Hid ((wds N).length = l) := hT
  clear hT ho
  go_enter Tryz.func120, Tryz.ntmps120
  go_wp2_with fail
  refine c1.mono ?_
  rintro e w1 ⟨vl, rfl, hl, g1⟩
  have c2 := c2 w1 g1
  go_wp2_with fail
  refine c2.mono ?_
  rintro e w2 ⟨vh, rfl, hh, g2⟩
  have hl2 := hl.keep g2
  obtain ⟨gl, ⟨capl, rfl, hol⟩, hgl⟩ := hl2
  obtain ⟨gh, ⟨caph, rfl, hoh⟩, hgh⟩ := hh
  have HG2 : Hid (w.grownBy w2 none) := grown_tr g1 g2
  clear c1 c2 hl g1 g2
  have bl := owns_bound hol
  have bh := owns_bound hoh
  have start : ∀ w3 : World, w3.ownsRow w2.heap.size 139 1 (.slice (some ⟨w2.heap.size, 0, none⟩) (l + 3) (l + 3)) (l + 3) (madeCells #[.int .u32 0] (l + 3)).toList → w2.grownBy w3 none →
      ByAt w2 w3 w2.heap.size (l + 3) (wds (N * lo)) (0 :: wds (N * hi)) 0 0 := by
    intro w3 hmade hg1
    rw [made_zeros] at hmade
    refine ⟨[], rfl, (by intro x hx; simp at hx), by simp [wval], ?_, hg1, Nat.le_refl _⟩
    rw [List.length_replicate, List.drop_zero, List.nil_append]
    exact hmade
  go_wp2_with (at_make; refine wpList_make_full _ rfl _ _ 132 rfl w2.heap.size 139 i0 (.int .u32 0) 1 Tryz.underlying132 hif hz0 hz1 _ _ _ _ (l + 3) rfl rfl (by omega) (by omega) ?m1 ?m2 (Nat.le_refl _) ?_)
  case m1 => rw [hz2]; omega
  case m2 => unfold maxLen; omega
  intro w3 hmade hg1
  have st := start w3 hmade hg1
  have HOL : Hid (w2.ownsRow gl 139 1 (.slice (some ⟨gl, 0, none⟩) (wds (N * lo)).length capl) (wds (N * lo)).length ((wds (N * lo)).map wordV)) := hol
  have HOH : Hid (w2.ownsRow gh 139 1 (.slice (some ⟨gh, 0, none⟩) (wds (N * hi)).length caph) (wds (N * hi)).length ((wds (N * hi)).map wordV)) := hoh
  have fl := fit_wds (N * lo)
  have fh := fit_wds (N * hi)
  clear hmade hg1 start hif hz0 hz1 hz2 bx hol hoh
  generalize wds (N * lo) = L at *
  generalize wds (N * hi) = H at *
  go_wp2_with fail
  go_loopw [8, 9] (fun cv iv wr => ∃ j c : Nat, j ≤ l + 3 ∧ iv = .int .i64 j ∧ cv = .int .u64 c ∧ c ≤ 1 ∧ ByAt w2 wr w2.heap.size (l + 3) L (0 :: H) j c) (fun _ i _ => l + 3 - (intOf i).toNat)
  case atStart => exact ⟨0, 0, Nat.zero_le _, rfl, rfl, by omega, st⟩
  case round =>
    clear st
    obtain ⟨j, c, hj, rfl, rfl, hc, hs⟩ := hrel
    have cells : (∀ x, L[j]? = some x → wr.cell? ⟨gl, j, none⟩ = some (.int .u32 (x : Int))) ∧ (∀ (i : Nat) x, H[i]? = some x → wr.cell? ⟨gh, i, none⟩ = some (.int .u32 (x : Int))) ∧ (j < l + 3 → wr.frozen? ⟨w2.heap.size, j, none⟩ = false ∧ wr.cell? ⟨w2.heap.size, j, none⟩ = some (.int .u32 0)) := by
      obtain ⟨A, hA, _, _, ho, hg, _⟩ := hs
      exact ⟨fun x hx => hg.cell (owns_cell HOL.out hx) (by simp), fun i x hx => hg.cell (owns_cell HOH.out hx) (by simp), fun hlt => ⟨ho.frozenAt j, own_mid hA ho (by rw [List.getElem?_replicate, if_pos (by omega)])⟩⟩
    obtain ⟨cells1, cells2, cells3⟩ := cells
    rcases Nat.lt_or_ge j (l + 3) with hjl | hge
    · obtain ⟨fr, c0⟩ := cells3 hjl
      have nx := hs.next hjl
      obtain ⟨C, hC⟩ : ∃ C : Int, (c : Int) = C := ⟨_, rfl⟩
      have d0 : 0 ≤ C := by omega
      have d1 : C ≤ 1 := by omega
      -- what is added
      have key : ∀ (x y : Nat) (X Y : Int), L.getD j 0 = x → (0 :: H).getD j 0 = y → (x : Int) = X → (y : Int) = Y → x < 4294967296 → y < 4294967296 →
          ∃ c' : Nat, (c' : Int) = (C + X + Y) / 4294967296 ∧ c' ≤ 1 ∧ ByAt w2 (wr.setCell ⟨w2.heap.size, j, none⟩ (.int .u32 ((C + X + Y) % 4294967296))) w2.heap.size (l + 3) L (0 :: H) (j + 1) c' := by
        intro x y X Y hx hy hX hY bx by'
        rw [hx, hy] at nx
        refine ⟨(c + x + y) / 4294967296, by omega, by omega, ?_⟩
        have e : (((c + x + y) % 4294967296 : Nat) : Int) = (C + X + Y) % 4294967296 := by omega
        rw [← e]
        exact nx
      have HKEY : Hid (∀ (x y : Nat) (X Y : Int), L.getD j 0 = x → (0 :: H).getD j 0 = y → (x : Int) = X → (y : Int) = Y → x < 4294967296 → y < 4294967296 →
          ∃ c' : Nat, (c' : Int) = (C + X + Y) / 4294967296 ∧ c' ≤ 1 ∧ ByAt w2 (wr.setCell ⟨w2.heap.size, j, none⟩ (.int .u32 ((C + X + Y) % 4294967296))) w2.heap.size (l + 3) L (0 :: H) (j + 1) c') := key
      rw [hC]
      clear nx key hs cells3 hC hc
      have HJ : Hid (j ≤ l + 3) := hj
      -- the lower part
      rcases Nat.lt_or_ge j L.length with hL | hL
      · obtain ⟨x, hx⟩ : ∃ x, L[j]? = some x := ⟨_, List.getElem?_eq_getElem hL⟩
        have cl := cells1 x hx
        have bx := fit_get fl hx
        have gx : L.getD j 0 = x := by rw [List.getD, hx]; rfl
        obtain ⟨X, hX⟩ : ∃ X : Int, (x : Int) = X := ⟨_, rfl⟩
        rcases Nat.eq_zero_or_pos j with z | jp
        · subst z
          have HN : Hid (∃ c' : Nat, (c' : Int) = (C + X + 0) / 4294967296 ∧ c' ≤ 1 ∧ ByAt w2 (wr.setCell ⟨w2.heap.size, 0, none⟩ (.int .u32 ((C + X + 0) % 4294967296))) w2.heap.size (l + 3) L (0 :: H) (0 + 1) c') := HKEY.out x 0 X 0 gx rfl hX rfl bx (by omega)
          have x0 : 0 ≤ X := by omega
          have x1 : X ≤ 4294967295 := by omega
          rw [hX] at cl
          simp only [Int.add_zero] at HN
          clear cells1 cells2 HKEY gx hX hx bx
          go_wp2_with fail
          obtain ⟨c', e1, e2, e3⟩ := HN.out
          refine ⟨⟨0 + 1, c', by omega, by first | rfl | congr 1, by rw [e1], e2, e3⟩, ?_⟩
          first | (simp [intOf]; done) | (simp [intOf]; omega)
        · obtain ⟨i, rfl⟩ : ∃ i, j = i + 1 := ⟨j - 1, by omega⟩
          rcases Nat.lt_or_ge i H.length with hH | hH
          · obtain ⟨y, hy⟩ : ∃ y, H[i]? = some y := ⟨_, List.getElem?_eq_getElem hH⟩
            have ch := cells2 i y hy
            have by1 := fit_get fh hy
            have gy : (0 :: H).getD (i + 1) 0 = y := by simp [List.getD, hy]
            obtain ⟨Y, hY⟩ : ∃ Y : Int, (y : Int) = Y := ⟨_, rfl⟩
            have HN : Hid (∃ c' : Nat, (c' : Int) = (C + X + Y) / 4294967296 ∧ c' ≤ 1 ∧ ByAt w2 (wr.setCell ⟨w2.heap.size, (i + 1), none⟩ (.int .u32 ((C + X + Y) % 4294967296))) w2.heap.size (l + 3) L (0 :: H) ((i + 1) + 1) c') := HKEY.out x y X Y gx gy hX hY bx by1
            have x0 : 0 ≤ X := by omega
            have x1 : X ≤ 4294967295 := by omega
            rw [hX] at cl
            have y0 : 0 ≤ Y := by omega
            have y1 : Y ≤ 4294967295 := by omega
            rw [hY] at ch
            skip
            have ei : ((i + 1 : Nat) : Int) - 1 = (i : Int) := by omega
            clear cells1 cells2 HKEY gx hX hx bx gy hY hy by1
            go_wp2_with fail
            obtain ⟨c', e1, e2, e3⟩ := HN.out
            refine ⟨⟨(i + 1) + 1, c', by omega, by first | rfl | congr 1, by rw [e1], e2, e3⟩, ?_⟩
            first | (simp [intOf]; done) | (simp [intOf]; omega)
          · have gy : (0 :: H).getD (i + 1) 0 = 0 := by simp [List.getD, hH]
            have HN : Hid (∃ c' : Nat, (c' : Int) = (C + X + 0) / 4294967296 ∧ c' ≤ 1 ∧ ByAt w2 (wr.setCell ⟨w2.heap.size, (i + 1), none⟩ (.int .u32 ((C + X + 0) % 4294967296))) w2.heap.size (l + 3) L (0 :: H) ((i + 1) + 1) c') := HKEY.out x 0 X 0 gx gy hX rfl bx (by omega)
            have x0 : 0 ≤ X := by omega
            have x1 : X ≤ 4294967295 := by omega
            rw [hX] at cl
            simp only [Int.add_zero] at HN
            have ei : ((i + 1 : Nat) : Int) - 1 = (i : Int) := by omega
            clear cells1 cells2 HKEY gx hX hx bx gy
            go_wp2_with fail
            obtain ⟨c', e1, e2, e3⟩ := HN.out
            refine ⟨⟨(i + 1) + 1, c', by omega, by first | rfl | congr 1, by rw [e1], e2, e3⟩, ?_⟩
            first | (simp [intOf]; done) | (simp [intOf]; omega)
      · have gx : L.getD j 0 = 0 := by rw [List.getD, List.getElem?_eq_none hL]; rfl
        rcases Nat.eq_zero_or_pos j with z | jp
        · subst z
          have HN : Hid (∃ c' : Nat, (c' : Int) = (C + 0 + 0) / 4294967296 ∧ c' ≤ 1 ∧ ByAt w2 (wr.setCell ⟨w2.heap.size, 0, none⟩ (.int .u32 ((C + 0 + 0) % 4294967296))) w2.heap.size (l + 3) L (0 :: H) (0 + 1) c') := HKEY.out 0 0 0 0 gx rfl rfl rfl (by omega) (by omega)
          simp only [Int.add_zero] at HN
          clear cells1 cells2 HKEY gx
          go_wp2_with fail
          obtain ⟨c', e1, e2, e3⟩ := HN.out
          refine ⟨⟨0 + 1, c', by omega, by first | rfl | congr 1, by rw [e1], e2, e3⟩, ?_⟩
          first | (simp [intOf]; done) | (simp [intOf]; omega)
        · obtain ⟨i, rfl⟩ : ∃ i, j = i + 1 := ⟨j - 1, by omega⟩
          rcases Nat.lt_or_ge i H.length with hH | hH
          · obtain ⟨y, hy⟩ : ∃ y, H[i]? = some y := ⟨_, List.getElem?_eq_getElem hH⟩
            have ch := cells2 i y hy
            have by1 := fit_get fh hy
            have gy : (0 :: H).getD (i + 1) 0 = y := by simp [List.getD, hy]
            obtain ⟨Y, hY⟩ : ∃ Y : Int, (y : Int) = Y := ⟨_, rfl⟩
            have HN : Hid (∃ c' : Nat, (c' : Int) = (C + 0 + Y) / 4294967296 ∧ c' ≤ 1 ∧ ByAt w2 (wr.setCell ⟨w2.heap.size, (i + 1), none⟩ (.int .u32 ((C + 0 + Y) % 4294967296))) w2.heap.size (l + 3) L (0 :: H) ((i + 1) + 1) c') := HKEY.out 0 y 0 Y gx gy rfl hY (by omega) by1
            have y0 : 0 ≤ Y := by omega
            have y1 : Y ≤ 4294967295 := by omega
            rw [hY] at ch
            simp only [Int.add_zero] at HN
            have ei : ((i + 1 : Nat) : Int) - 1 = (i : Int) := by omega
            clear cells1 cells2 HKEY gx gy hY hy by1
            go_wp2_with fail
            obtain ⟨c', e1, e2, e3⟩ := HN.out
            refine ⟨⟨(i + 1) + 1, c', by omega, by first | rfl | congr 1, by rw [e1], e2, e3⟩, ?_⟩
            first | (simp [intOf]; done) | (simp [intOf]; omega)
          · have gy : (0 :: H).getD (i + 1) 0 = 0 := by simp [List.getD, hH]
            have HN : Hid (∃ c' : Nat, (c' : Int) = (C + 0 + 0) / 4294967296 ∧ c' ≤ 1 ∧ ByAt w2 (wr.setCell ⟨w2.heap.size, (i + 1), none⟩ (.int .u32 ((C + 0 + 0) % 4294967296))) w2.heap.size (l + 3) L (0 :: H) ((i + 1) + 1) c') := HKEY.out 0 0 0 0 gx gy rfl rfl (by omega) (by omega)
            simp only [Int.add_zero] at HN
            have ei : ((i + 1 : Nat) : Int) - 1 = (i : Int) := by omega
            clear cells1 cells2 HKEY gx gy
            go_wp2_with fail
            obtain ⟨c', e1, e2, e3⟩ := HN.out
            refine ⟨⟨(i + 1) + 1, c', by omega, by first | rfl | congr 1, by rw [e1], e2, e3⟩, ?_⟩
            first | (simp [intOf]; done) | (simp [intOf]; omega)
    · have hjx : j = l + 3 := by omega
      subst hjx
      obtain ⟨s1, s2, s3⟩ := HT.out
      rw [HSUM.out] at s1
      obtain ⟨A, fA, hA, vA, gA, gs⟩ := by_fin hs s2 s3 s1
      have tr := trim_any _ _ _ _ hA fA
      rw [vA, ← HSUM.out] at tr
      have HG : Hid (w2.grownBy wr none) := gA
      clear hs hA fA vA gA cells1 cells2 cells3 hc fl fh s1 s2 s3 HSUM HT
      go_wp2_with fail
      refine tr.mono ?_
      rintro e w4 ⟨rfl, v', rfl, hv⟩
      go_wp2_with fail
      go_ret
      refine ⟨_, rfl, ⟨w2.heap.size, hv, ?_⟩, grown_tr HG2.out HG.out⟩
      obtain ⟨cap', rfl, ho'⟩ := hv
      exact (owns_bound ho').2.2

end Go.Proofs.YtpejebohekcfoaaGreatDoor.V32
/- The walks of against and parts. -/
namespace Go.Proofs.YtpejebohekcfoaaGreatDoor.V32
open Go.RowKit
set_option linter.unusedVariables false

theorem grown_drewN {w w' : World} (h : w.grownBy w' none) (n : Nat) : w.grownBy (w'.drewN n) none := ⟨h.os, h.tape, h.output, h.size, h.block⟩

theorem len_le (N K : Nat) (h : N < 4294967296 ^ K) (hK : K ≤ 900000) : (wds N).length ≤ 900000 := Nat.le_trans (wds_length_lt h) hK

set_option maxHeartbeats 2000000 in
theorem against_any (w : World) (vo vu : Value) (O U : Nat) (m e : Int) (K : Nat) (ho : N32 w vo O) (hu : N32 w vu U) (m0 : 0 ≤ m) (m1 : m < 18446744073709551616) (e0 : -3000 ≤ e) (e1 : e ≤ 3000)
    (hK : K ≤ 800000) (k1 : O * 2 ^ (max (-e) 0).toNat < 4294967296 ^ K) (k2 : U * 2 ^ (max e 0).toNat < 4294967296 ^ K) :
    Calls Tryz.prog 132 #[vo, vu, .int .u64 m, .int .i64 e] w fun en w' => ∃ r : Int, en = .returned (.int .i64 r) ∧ CmpIs r (O * 2 ^ (max (-e) 0).toNat) (U * 2 ^ (max e 0).toNat * m.toNat) ∧ w.grownBy w' none := by
  have c1 := up_any w vo O (max (-e) 0).toNat K ho (by omega) k1 (by omega)
  rw [Int.toNat_of_nonneg (by omega)] at c1
  have c2 : ∀ w1, w.grownBy w1 none → Calls Tryz.prog 118 #[vu, .int .i64 (max e 0)] w1 fun e' w' => ∃ v', e' = .returned v' ∧ N32 w' v' (U * 2 ^ (max e 0).toNat) ∧ w1.grownBy w' none := by
    intro w1 g1
    have := up_any w1 vu U (max e 0).toNat K (hu.keep g1) (by omega) k2 (by omega)
    rw [Int.toNat_of_nonneg (by omega)] at this
    exact this
  have l1 := wds_length_lt k1
  have l2 := wds_length_lt k2
  have l3 : (wds (U * 2 ^ (max e 0).toNat * m.toNat)).length ≤ K + 2 := by
    refine wds_length_lt ?_
    rw [Nat.pow_add]
    rcases Nat.eq_zero_or_pos (U * 2 ^ (max e 0).toNat) with z | hp
    · rw [z, Nat.zero_mul]; exact Nat.mul_pos (Nat.pow_pos (by decide)) (by decide)
    · exact Nat.mul_lt_mul'' k2 (by omega)
  generalize O * 2 ^ (max (-e) 0).toNat = X at *
  generalize U * 2 ^ (max e 0).toNat = Y at *
  clear k1 k2 ho hu
  rcases Int.lt_trichotomy e 0 with s | s | s
  · have a1 : max (-e) 0 = -e := by omega
    have a2 : max e 0 = 0 := by omega
    rw [a1] at c1
    rw [a2] at c2
    clear a1 a2
    go_enter Tryz.func132, Tryz.ntmps132
    go_wp2_with fail
    refine c1.mono ?_
    rintro e' w1 ⟨v1, rfl, h1, g1⟩
    have c2 := c2 w1 g1
    go_wp2_with fail
    refine c2.mono ?_
    rintro e' w2 ⟨v2, rfl, h2, g2⟩
    have c3 := by_any w2 v2 Y m h2 m0 m1 (by omega)
    go_wp2_with fail
    refine c3.mono ?_
    rintro e' w3 ⟨v3, rfl, h3, g3⟩
    have c4 := order_any w3 v1 v3 X (Y * m.toNat) ((h1.keep g2).keep g3) h3 (by omega) (by omega)
    go_wp2_with fail
    refine c4.mono ?_
    rintro e' w4 ⟨r, nd, rfl, hr, rfl⟩
    have HG : Hid (w.grownBy (w3.drewN nd) none) := grown_drewN (grown_tr (grown_tr g1 g2) g3) nd
    clear h1 h2 h3 g1 g2 g3
    go_wp2_with fail
    go_ret
    exact ⟨r, rfl, hr, by first | exact HG.out | exact grown_drew HG.out⟩
  · have a1 : max (-e) 0 = 0 := by omega
    have a2 : max e 0 = e := by omega
    rw [a1] at c1
    rw [a2] at c2
    clear a1 a2
    subst s
    go_enter Tryz.func132, Tryz.ntmps132
    go_wp2_with fail
    refine c1.mono ?_
    rintro e' w1 ⟨v1, rfl, h1, g1⟩
    have c2 := c2 w1 g1
    go_wp2_with fail
    refine c2.mono ?_
    rintro e' w2 ⟨v2, rfl, h2, g2⟩
    have c3 := by_any w2 v2 Y m h2 m0 m1 (by omega)
    go_wp2_with fail
    refine c3.mono ?_
    rintro e' w3 ⟨v3, rfl, h3, g3⟩
    have c4 := order_any w3 v1 v3 X (Y * m.toNat) ((h1.keep g2).keep g3) h3 (by omega) (by omega)
    go_wp2_with fail
    refine c4.mono ?_
    rintro e' w4 ⟨r, nd, rfl, hr, rfl⟩
    have HG : Hid (w.grownBy (w3.drewN nd) none) := grown_drewN (grown_tr (grown_tr g1 g2) g3) nd
    clear h1 h2 h3 g1 g2 g3
    go_wp2_with fail
    go_ret
    exact ⟨r, rfl, hr, by first | exact HG.out | exact grown_drew HG.out⟩
  · have a1 : max (-e) 0 = 0 := by omega
    have a2 : max e 0 = e := by omega
    rw [a1] at c1
    rw [a2] at c2
    clear a1 a2
    go_enter Tryz.func132, Tryz.ntmps132
    go_wp2_with fail
    refine c1.mono ?_
    rintro e' w1 ⟨v1, rfl, h1, g1⟩
    have c2 := c2 w1 g1
    go_wp2_with fail
    refine c2.mono ?_
    rintro e' w2 ⟨v2, rfl, h2, g2⟩
    have c3 := by_any w2 v2 Y m h2 m0 m1 (by omega)
    go_wp2_with fail
    refine c3.mono ?_
    rintro e' w3 ⟨v3, rfl, h3, g3⟩
    have c4 := order_any w3 v1 v3 X (Y * m.toNat) ((h1.keep g2).keep g3) h3 (by omega) (by omega)
    go_wp2_with fail
    refine c4.mono ?_
    rintro e' w4 ⟨r, nd, rfl, hr, rfl⟩
    have HG : Hid (w.grownBy (w3.drewN nd) none) := grown_drewN (grown_tr (grown_tr g1 g2) g3) nd
    clear h1 h2 h3 g1 g2 g3
    go_wp2_with fail
    go_ret
    exact ⟨r, rfl, hr, by first | exact HG.out | exact grown_drew HG.out⟩

end Go.Proofs.YtpejebohekcfoaaGreatDoor.V32
namespace Go.Proofs.YtpejebohekcfoaaGreatDoor.V32
open Go.RowKit
set_option linter.unusedVariables false

theorem grown_alloc (w : World) (o : Obj) : w.grownBy (w.alloc o) none :=
  ⟨rfl, rfl, rfl, by show w.heap.size ≤ (w.heap.push _).size; simp, fun j hj _ => Below.heap_alloc _ _ _ hj⟩

theorem grown_alloc2 (w : World) (o o' : Obj) : w.grownBy ((w.alloc o).alloc o') none := grown_tr (grown_alloc w o) (grown_alloc _ o')

set_option maxHeartbeats 400000 in
theorem parts_lo (w : World) (a f : Int) (ha0 : 0 ≤ a) (ha1 : a < 18446744073709551616) (hm : a % 4503599627370496 = f) (hd : a / 4503599627370496 = 0) (hf : 0 ≤ f) :
    Calls Tryz.prog 75 #[.int .u64 a] w fun e w' => (∃ nr, e = .returned (.agg #[.int .u64 f, .int .i64 (-1074), .bool (f % 2 == 0), .bool nr])) ∧ w.grownBy w' none := by
  go_enter Tryz.func75, Tryz.ntmps75
  go_wp2
  exact bodyPost_ret (v := .agg #[.int .u64 f, .int .i64 (-1074), .bool (f % 2 == 0), .bool false]) (by simp [results, Tryz.results75, go_sem]) rfl ⟨⟨false, rfl⟩, by first | exact grown_alloc _ _ | exact grown_alloc2 _ _ _⟩

set_option maxHeartbeats 400000 in
theorem parts_hi (w : World) (a q f : Int) (hq : 0 < q) (hq1 : q ≤ 2047) (hf : 0 < f) (hf1 : f < 4503599627370496) (ha0 : 0 ≤ a) (ha1 : a < 18446744073709551616) (hm : a % 4503599627370496 = f) (hd : a / 4503599627370496 = q) :
    Calls Tryz.prog 75 #[.int .u64 a] w fun e w' => (∃ nr, e = .returned (.agg #[.int .u64 (f + 4503599627370496), .int .i64 (q - 1075), .bool (f % 2 == 0), .bool nr])) ∧ w.grownBy w' none := by
  go_enter Tryz.func75, Tryz.ntmps75
  go_wp2
  exact bodyPost_ret (v := .agg #[.int .u64 (f + 4503599627370496), .int .i64 (q - 1075), .bool (f % 2 == 0), .bool false]) (by simp [results, Tryz.results75, go_sem]) rfl ⟨⟨false, rfl⟩, by first | exact grown_alloc _ _ | exact grown_alloc2 _ _ _⟩

set_option maxHeartbeats 400000 in
theorem parts_hi0 (w : World) (a q : Int) (hq : 0 < q) (hq1 : q ≤ 2047) (ha0 : 0 ≤ a) (ha1 : a < 18446744073709551616) (hm : a % 4503599627370496 = 0) (hd : a / 4503599627370496 = q) :
    Calls Tryz.prog 75 #[.int .u64 a] w fun e w' => (∃ nr, e = .returned (.agg #[.int .u64 4503599627370496, .int .i64 (q - 1075), .bool true, .bool nr])) ∧ w.grownBy w' none := by
  go_enter Tryz.func75, Tryz.ntmps75
  go_wp2
  exact bodyPost_ret (v := .agg #[.int .u64 4503599627370496, .int .i64 (q - 1075), .bool true, .bool (decide (1 < q))]) (by simp [results, Tryz.results75, go_sem]) rfl ⟨⟨_, rfl⟩, by first | exact grown_alloc _ _ | exact grown_alloc2 _ _ _⟩

theorem parts_any (a : Nat) (h : a < 9218868437227405312) (w : World) :
    Calls Tryz.prog 75 #[.int .u64 (a : Int)] w fun e w' => (∃ nr, e = .returned (.agg #[.int .u64 (manR a : Nat), .int .i64 ((plaR a : Int) - 1074), .bool (a % 2 == 0), .bool nr])) ∧ w.grownBy w' none := by
  obtain ⟨f, hf⟩ : ∃ f : Nat, a % 4503599627370496 = f := ⟨_, rfl⟩
  obtain ⟨q, hq⟩ : ∃ q : Nat, a / 4503599627370496 = q := ⟨_, rfl⟩
  have hm : (a : Int) % 4503599627370496 = f := by omega
  have hd : (a : Int) / 4503599627370496 = q := by omega
  have par : ((f : Int) % 2 == 0) = (a % 2 == 0) := by
    rw [Bool.eq_iff_iff]
    simp
    omega
  unfold manR plaR
  rw [hq, hf]
  rcases Nat.eq_zero_or_pos q with z | qp
  · have := parts_lo w (a : Int) f (by omega) (by omega) hm (by omega) (by omega)
    rw [par] at this
    rw [if_pos (by omega), show ((q - 1 : Nat) : Int) - 1074 = -1074 from by omega, show ((a : Nat) : Int) = (f : Int) from by omega]
    rw [show ((a : Nat) : Int) = (f : Int) from by omega] at this
    exact this
  · rw [if_neg (by omega), show ((q - 1 : Nat) : Int) - 1074 = (q : Int) - 1075 from by omega]
    rcases Nat.eq_zero_or_pos f with z | fp
    · subst z
      have := parts_hi0 w (a : Int) q (by omega) (by omega) (by omega) (by omega) hm hd
      rw [← par]
      exact this
    · have := parts_hi w (a : Int) q f (by omega) (by omega) (by omega) (by omega) (by omega) (by omega) hm hd
      rw [par] at this
      rw [show ((4503599627370496 + f : Nat) : Int) = (f : Int) + 4503599627370496 from by omega]
      exact this

end Go.Proofs.YtpejebohekcfoaaGreatDoor.V32
