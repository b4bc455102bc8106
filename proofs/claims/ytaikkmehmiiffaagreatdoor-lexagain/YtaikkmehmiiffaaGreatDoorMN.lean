/- Plain mathematics of numbers and words. -/
import Derived.Laws.BitsAllLaws
import Ieee.Arith
/- Whole numbers as words of 64 bits, the lowest first: plain mathematics. -/
namespace Go.Proofs.YtaikkmehmiiffaaGreatDoor
set_option linter.unusedVariables false

/-- what words say -/
def wval : List Nat → Nat
  | [] => 0
  | x :: xs => x + 18446744073709551616 * wval xs

/-- every word is one of 64 bits -/
def Fit (xs : List Nat) : Prop := ∀ x ∈ xs, x < 18446744073709551616

/-- the last word is not 0 -/
def Tidy (xs : List Nat) : Prop := ∀ x, xs.getLast? = some x → x ≠ 0

theorem wval_append (xs ys : List Nat) : wval (xs ++ ys) = wval xs + 18446744073709551616 ^ xs.length * wval ys := by
  induction xs with
  | nil => simp [wval]
  | cons x xs ih =>
    simp only [List.cons_append, wval, ih, List.length_cons, Nat.pow_succ]
    rw [Nat.mul_add, ← Nat.mul_assoc, Nat.mul_comm 18446744073709551616 (18446744073709551616 ^ xs.length)]
    omega

theorem wval_lt (xs : List Nat) (h : Fit xs) : wval xs < 18446744073709551616 ^ xs.length := by
  induction xs with
  | nil => simp [wval]
  | cons x xs ih =>
    have hx : x < 18446744073709551616 := h x (by simp)
    have hi := ih (fun y hy => h y (by simp [hy]))
    simp only [wval, List.length_cons, Nat.pow_succ]
    generalize 18446744073709551616 ^ xs.length = P at *
    omega

theorem wval_ge (xs : List Nat) (hl : Tidy xs) (hn : xs ≠ []) : 18446744073709551616 ^ (xs.length - 1) ≤ wval xs := by
  obtain ⟨ys, z, rfl⟩ : ∃ ys z, xs = ys ++ [z] := ⟨xs.dropLast, xs.getLast hn, (List.dropLast_concat_getLast hn).symm⟩
  have hz : z ≠ 0 := hl z (by simp)
  rw [wval_append]
  simp only [List.length_append, List.length_singleton, Nat.add_sub_cancel, wval]
  have : 18446744073709551616 ^ ys.length * 1 ≤ 18446744073709551616 ^ ys.length * (z + 18446744073709551616 * 0) := Nat.mul_le_mul_left _ (by omega)
  omega

/-- the words of a number, so many of them at most -/
def wdsF : Nat → Nat → List Nat
  | 0, _ => []
  | f + 1, n => if n = 0 then [] else n % 18446744073709551616 :: wdsF f (n / 18446744073709551616)

theorem wdsF_more (f : Nat) : ∀ n g, n ≤ f → n ≤ g → wdsF f n = wdsF g n := by
  induction f with
  | zero =>
    intro n g h _
    obtain rfl : n = 0 := by omega
    cases g <;> simp [wdsF]
  | succ f ih =>
    intro n g h hg
    cases g with
    | zero =>
      obtain rfl : n = 0 := by omega
      simp [wdsF]
    | succ g =>
      simp only [wdsF]
      by_cases z : n = 0
      · rw [if_pos z, if_pos z]
      · have := Nat.div_lt_self (Nat.pos_of_ne_zero z) (show 1 < 18446744073709551616 by decide)
        rw [if_neg z, if_neg z, ih _ g (by omega) (by omega)]

/-- the words of a number -/
def wds (n : Nat) : List Nat := wdsF n n

theorem wds_zero : wds 0 = [] := rfl

theorem wds_pos (n : Nat) (h : n ≠ 0) : wds n = n % 18446744073709551616 :: wds (n / 18446744073709551616) := by
  unfold wds
  obtain ⟨f, hf⟩ : ∃ f, n = f + 1 := ⟨n - 1, by omega⟩
  have d := Nat.div_lt_self (Nat.pos_of_ne_zero h) (show 1 < 18446744073709551616 by decide)
  have e : wdsF n n = n % 18446744073709551616 :: wdsF f (n / 18446744073709551616) := by
    rw [hf]
    simp only [wdsF]
    rw [if_neg (by omega)]
  rw [e, wdsF_more f (n / 18446744073709551616) (n / 18446744073709551616) (by omega) (Nat.le_refl _)]

theorem wval_wds (n : Nat) : wval (wds n) = n := by
  induction n using Nat.strongRecOn with
  | _ n ih =>
    by_cases h : n = 0
    · subst h; rw [wds_zero]; rfl
    · rw [wds_pos n h]
      simp only [wval]
      rw [ih _ (Nat.div_lt_self (Nat.pos_of_ne_zero h) (by decide))]
      omega

theorem fit_wds (n : Nat) : Fit (wds n) := by
  induction n using Nat.strongRecOn with
  | _ n ih =>
    by_cases h : n = 0
    · subst h; rw [wds_zero]; intro x hx; simp at hx
    · rw [wds_pos n h]
      intro x hx
      rcases List.mem_cons.1 hx with rfl | hx
      · omega
      · exact ih _ (Nat.div_lt_self (Nat.pos_of_ne_zero h) (by decide)) x hx

theorem wds_eq_nil (n : Nat) : wds n = [] ↔ n = 0 := by
  constructor
  · intro h
    have := wval_wds n
    rw [h] at this
    exact this.symm
  · rintro rfl; exact wds_zero

theorem lean_wds (n : Nat) : Tidy (wds n) := by
  induction n using Nat.strongRecOn with
  | _ n ih =>
    by_cases h : n = 0
    · subst h; rw [wds_zero]; intro x hx; simp at hx
    · rw [wds_pos n h]
      intro x hx
      by_cases hd : n / 18446744073709551616 = 0
      · rw [hd, wds_zero] at hx
        simp at hx
        omega
      · have hne : wds (n / 18446744073709551616) ≠ [] := fun e => hd ((wds_eq_nil _).1 e)
        refine ih _ (Nat.div_lt_self (Nat.pos_of_ne_zero h) (show 1 < 18446744073709551616 by decide)) x ?_
        rw [List.getLast?_cons] at hx
        cases hg : (wds (n / 18446744073709551616)).getLast? with
        | none => rw [List.getLast?_eq_none_iff] at hg; exact absurd hg hne
        | some y => rw [hg] at hx; simpa using hx

theorem wds_of (xs : List Nat) (h : Fit xs) (hl : Tidy xs) : wds (wval xs) = xs := by
  induction xs with
  | nil => exact wds_zero
  | cons x xs ih =>
    have hx : x < 18446744073709551616 := h x (by simp)
    have hf : Fit xs := fun y hy => h y (by simp [hy])
    have hl' : Tidy xs := by
      intro y hy
      refine hl y ?_
      rw [List.getLast?_cons, hy]; rfl
    have hne : wval (x :: xs) ≠ 0 := by
      by_cases e : xs = []
      · subst e
        have := hl x (by simp)
        simp [wval]; omega
      · have := wval_ge xs hl' e
        have hp : 0 < 18446744073709551616 ^ (xs.length - 1) := Nat.pow_pos (by decide)
        simp only [wval]; omega
    rw [wds_pos _ hne]
    simp only [wval]
    rw [show (x + 18446744073709551616 * wval xs) % 18446744073709551616 = x by omega,
      show (x + 18446744073709551616 * wval xs) / 18446744073709551616 = wval xs by omega, ih hf hl']

/-- one word less, if it is 0: the number stays -/
theorem wval_concat_zero (xs : List Nat) : wval (xs ++ [0]) = wval xs := by
  rw [wval_append]; simp [wval]

theorem wds_length_lt {n k : Nat} (h : n < 18446744073709551616 ^ k) : (wds n).length ≤ k := by
  by_cases e : wds n = []
  · simp [e]
  · have h1 := wval_ge (wds n) (lean_wds n) e
    rw [wval_wds] at h1
    have h2 : 18446744073709551616 ^ ((wds n).length - 1) < 18446744073709551616 ^ k := Nat.lt_of_le_of_lt h1 h
    have := (Nat.pow_lt_pow_iff_right (show 1 < 18446744073709551616 by decide)).1 h2
    omega

theorem lt_of_length {n m : Nat} (h : (wds n).length < (wds m).length) : n < m := by
  have h1 := wval_lt (wds n) (fit_wds n)
  rw [wval_wds] at h1
  have hne : wds m ≠ [] := by intro e; rw [e] at h; simp at h
  have h2 := wval_ge (wds m) (lean_wds m) hne
  rw [wval_wds] at h2
  have : 18446744073709551616 ^ (wds n).length ≤ 18446744073709551616 ^ ((wds m).length - 1) := Nat.pow_le_pow_right (by decide) (by omega)
  omega

end Go.Proofs.YtaikkmehmiiffaaGreatDoor
/- Steps of the loops over words: plain mathematics. -/
namespace Go.Proofs.YtaikkmehmiiffaaGreatDoor
set_option linter.unusedVariables false

theorem fit_append {xs ys : List Nat} (h : Fit xs) (k : Fit ys) : Fit (xs ++ ys) := by
  intro x hx
  rcases List.mem_append.1 hx with hx | hx
  · exact h x hx
  · exact k x hx

theorem fit_one {x : Nat} (h : x < 18446744073709551616) : Fit [x] := by
  intro y hy; simp at hy; omega

theorem fit_take {xs : List Nat} (h : Fit xs) (k : Nat) : Fit (xs.take k) := fun x hx => h x (List.mem_of_mem_take hx)

theorem fit_get {xs : List Nat} (h : Fit xs) {i : Nat} {x : Nat} (hx : xs[i]? = some x) : x < 18446744073709551616 := h x (List.mem_of_getElem? hx)

theorem take_next {α : Type} (xs : List α) (i : Nat) (x : α) (h : xs[i]? = some x) : xs.take (i + 1) = xs.take i ++ [x] := by
  rw [List.take_add_one, h]; rfl

theorem wval_take_next (xs : List Nat) (i x : Nat) (h : xs[i]? = some x) :
    wval (xs.take (i + 1)) = wval (xs.take i) + 18446744073709551616 ^ i * x := by
  have hi : i < xs.length := (List.getElem?_eq_some_iff.1 h).1
  rw [take_next xs i x h, wval_append, List.length_take, Nat.min_eq_left (by omega)]
  simp [wval]

theorem wval_take_past (xs : List Nat) (i : Nat) (h : xs.length ≤ i) : wval (xs.take i) = wval xs := by
  rw [List.take_of_length_le h]

theorem wval_snoc (A : List Nat) (t : Nat) : wval (A ++ [t]) = wval A + 18446744073709551616 ^ A.length * t := by
  rw [wval_append]; simp [wval]

/-- scaled: one word more -/
theorem scaled_step (xs A : List Nat) (i x b c p : Nat) (hA : A.length = i) (hx : xs[i]? = some x) (h : wval A + 18446744073709551616 ^ i * c = wval (xs.take i) * b + p) :
    wval (A ++ [(x * b + c) % 18446744073709551616]) + 18446744073709551616 ^ (i + 1) * ((x * b + c) / 18446744073709551616) = wval (xs.take (i + 1)) * b + p := by
  rw [wval_snoc, wval_take_next xs i x hx, hA, Nat.pow_succ]
  have e : 18446744073709551616 ^ i * ((x * b + c) % 18446744073709551616) + 18446744073709551616 ^ i * 18446744073709551616 * ((x * b + c) / 18446744073709551616)
      = 18446744073709551616 ^ i * (x * b + c) := by
    rw [Nat.mul_assoc, ← Nat.mul_add]
    congr 1
    omega
  have f : 18446744073709551616 ^ i * (x * b + c) = 18446744073709551616 ^ i * x * b + 18446744073709551616 ^ i * c := by
    rw [Nat.mul_add, Nat.mul_assoc]
  rw [Nat.add_mul]
  omega

/-- the carry of a product stays a word -/
theorem scaled_carry (x b c : Nat) (hx : x < 18446744073709551616) (hb : b < 18446744073709551616) (hc : c < 18446744073709551616) :
    (x * b + c) / 18446744073709551616 < 18446744073709551616 := by
  rw [Nat.div_lt_iff_lt_mul (by decide)]
  have : x * b ≤ 18446744073709551615 * 18446744073709551615 := Nat.mul_le_mul (by omega) (by omega)
  omega

theorem scaled_done (xs A : List Nat) (b c p : Nat) (hA : A.length = xs.length) (h : wval A + 18446744073709551616 ^ xs.length * c = wval (xs.take xs.length) * b + p) :
    wval (A ++ [c]) = wval xs * b + p := by
  rw [wval_snoc, hA, h, List.take_length]

/-- plus: one word more -/
theorem plus_step (N M A : List Nat) (i x y c : Nat) (hA : A.length = i) (hx : N[i]? = some x) (hy : wval (M.take (i + 1)) = wval (M.take i) + 18446744073709551616 ^ i * y)
    (h : wval A + 18446744073709551616 ^ i * c = wval (N.take i) + wval (M.take i)) :
    wval (A ++ [(x + y + c) % 18446744073709551616]) + 18446744073709551616 ^ (i + 1) * ((x + y + c) / 18446744073709551616) = wval (N.take (i + 1)) + wval (M.take (i + 1)) := by
  rw [wval_snoc, wval_take_next N i x hx, hy, hA, Nat.pow_succ]
  have e : 18446744073709551616 ^ i * ((x + y + c) % 18446744073709551616) + 18446744073709551616 ^ i * 18446744073709551616 * ((x + y + c) / 18446744073709551616)
      = 18446744073709551616 ^ i * (x + y + c) := by
    rw [Nat.mul_assoc, ← Nat.mul_add]
    congr 1
    omega
  have f : 18446744073709551616 ^ i * (x + y + c) = 18446744073709551616 ^ i * x + 18446744073709551616 ^ i * y + 18446744073709551616 ^ i * c := by
    rw [Nat.mul_add, Nat.mul_add]
  omega

theorem other_in (M : List Nat) (i y : Nat) (h : M[i]? = some y) : wval (M.take (i + 1)) = wval (M.take i) + 18446744073709551616 ^ i * y := wval_take_next M i y h

theorem other_out (M : List Nat) (i : Nat) (h : M.length ≤ i) : wval (M.take (i + 1)) = wval (M.take i) + 18446744073709551616 ^ i * 0 := by
  rw [wval_take_past M i h, wval_take_past M (i + 1) (by omega)]; simp

/-- minus: one word more -/
theorem minus_step (N M A : List Nat) (i x y c d b : Nat) (hA : A.length = i) (hx : N[i]? = some x) (hy : wval (M.take (i + 1)) = wval (M.take i) + 18446744073709551616 ^ i * y)
    (hd : d + y + c = x + 18446744073709551616 * b)
    (h : wval A + wval (M.take i) = wval (N.take i) + 18446744073709551616 ^ i * c) :
    wval (A ++ [d]) + wval (M.take (i + 1)) = wval (N.take (i + 1)) + 18446744073709551616 ^ (i + 1) * b := by
  rw [wval_snoc, wval_take_next N i x hx, hy, hA, Nat.pow_succ]
  have e : 18446744073709551616 ^ i * d + 18446744073709551616 ^ i * y + 18446744073709551616 ^ i * c = 18446744073709551616 ^ i * x + 18446744073709551616 ^ i * 18446744073709551616 * b := by
    rw [Nat.mul_assoc, ← Nat.mul_add, ← Nat.mul_add, ← Nat.mul_add, hd]
  omega

theorem minus_done (N M A : List Nat) (c : Nat) (hA : A.length = N.length) (fA : Fit A) (hl : M.length ≤ N.length) (hle : wval M ≤ wval N) (hc : c ≤ 1)
    (h : wval A + wval (M.take N.length) = wval (N.take N.length) + 18446744073709551616 ^ N.length * c) : wval A = wval N - wval M := by
  rw [wval_take_past M _ hl, List.take_length] at h
  have hA' := wval_lt A fA
  rw [hA] at hA'
  have : c = 0 := by
    rcases Nat.lt_or_ge c 1 with h1 | h1
    · omega
    · exfalso
      have : c = 1 := by omega
      subst this
      omega
  subst this
  omega

/-- the first word from above that is another decides -/
theorem cmp_top (xs ys : List Nat) (i x y : Nat) (fx : Fit xs) (hl : xs.length = ys.length) (hx : xs[i]? = some x) (hy : ys[i]? = some y)
    (hd : xs.drop (i + 1) = ys.drop (i + 1)) (h : x < y) : wval xs < wval ys := by
  have hi : i < xs.length := (List.getElem?_eq_some_iff.1 hx).1
  have ex : xs = xs.take i ++ (x :: xs.drop (i + 1)) := by
    conv => lhs; rw [← List.take_append_drop i xs]
    rw [List.drop_eq_getElem_cons hi]
    rw [(List.getElem?_eq_some_iff.1 hx).2]
  have hi' : i < ys.length := by omega
  have ey : ys = ys.take i ++ (y :: ys.drop (i + 1)) := by
    conv => lhs; rw [← List.take_append_drop i ys]
    rw [List.drop_eq_getElem_cons hi']
    rw [(List.getElem?_eq_some_iff.1 hy).2]
  rw [ex, ey, hd, wval_append, wval_append]
  simp only [wval, List.length_take]
  rw [Nat.min_eq_left (by omega), Nat.min_eq_left (by omega)]
  have b := wval_lt (xs.take i) (fit_take fx i)
  rw [List.length_take, Nat.min_eq_left (by omega)] at b
  have p : 18446744073709551616 ^ i * (x + 18446744073709551616 * wval (List.drop (i + 1) ys)) + 18446744073709551616 ^ i ≤ 18446744073709551616 ^ i * (y + 18446744073709551616 * wval (List.drop (i + 1) ys)) := by
    rw [← Nat.mul_succ]
    exact Nat.mul_le_mul_left _ (by omega)
  omega

/-- how many bits -/
def bitl (n : Nat) : Nat := if n = 0 then 0 else n.log2 + 1

theorem bitl_le {n k : Nat} : bitl n ≤ k ↔ n < 2 ^ k := by
  unfold bitl
  split
  · rename_i h; subst h; simp [Nat.two_pow_pos]
  · rename_i h
    rw [← Nat.log2_lt h]; omega

theorem bitl_top (xs : List Nat) (t : Nat) (ht : t ≠ 0) (fx : Fit xs) : bitl (wval (xs ++ [t])) = 64 * xs.length + bitl t := by
  have b := wval_lt xs fx
  have p : 18446744073709551616 ^ xs.length = 2 ^ (64 * xs.length) := by rw [Nat.pow_mul]
  rw [p] at b
  rw [wval_snoc, p]
  have hp := Nat.two_pow_pos (64 * xs.length)
  have hne : wval xs + 2 ^ (64 * xs.length) * t ≠ 0 := by
    have : 2 ^ (64 * xs.length) * 1 ≤ 2 ^ (64 * xs.length) * t := Nat.mul_le_mul_left _ (by omega)
    omega
  unfold bitl
  rw [if_neg hne, if_neg ht]
  have : (wval xs + 2 ^ (64 * xs.length) * t).log2 = 64 * xs.length + t.log2 := by
    rw [Nat.log2_eq_iff hne]
    have h1 := Nat.log2_self_le ht
    have h2 : t < 2 ^ (t.log2 + 1) := Nat.lt_log2_self
    constructor
    · rw [Nat.pow_add]
      have := Nat.mul_le_mul_left (2 ^ (64 * xs.length)) h1
      omega
    · rw [Nat.add_assoc, Nat.pow_add]
      have : 2 ^ (64 * xs.length) * (t + 1) ≤ 2 ^ (64 * xs.length) * 2 ^ (t.log2 + 1) := Nat.mul_le_mul_left _ (by omega)
      rw [Nat.mul_succ] at this
      omega
  omega

end Go.Proofs.YtaikkmehmiiffaaGreatDoor
/- Plain mathematics of rounding: nothing of the program. -/
namespace Go.Proofs.YtaikkmehmiiffaaGreatDoor
set_option linter.unusedVariables false

/-- n / 2^d, to the nearest, ties to even. -/
def rne (n d : Nat) : Nat :=
  n / 2 ^ d + (if 2 ^ d < 2 * (n % 2 ^ d) ∨ (2 ^ d = 2 * (n % 2 ^ d) ∧ n / 2 ^ d % 2 = 1) then 1 else 0)

theorem rne_zero (n : Nat) : rne n 0 = n := by
  simp [rne, Nat.mod_one]

theorem lt_two_log2 (n : Nat) : n < 2 ^ (n.log2 + 1) := Nat.lt_log2_self

theorem cut_even (neg : Bool) (n d : Nat) : Ieee.Toward.even.cut neg n d = rne n d := by
  unfold Ieee.Toward.cut rne
  simp only [Nat.one_shiftLeft]
  by_cases h : d ≤ n.log2 + 2
  · rw [Nat.min_eq_left h]
    by_cases h1 : 2 ^ d < 2 * (n % 2 ^ d)
    · simp [h1]
    · by_cases h2 : 2 ^ d = 2 * (n % 2 ^ d)
      · by_cases h3 : n / 2 ^ d % 2 = 1
        · simp [← h2, h3]
        · simp [← h2, h3]
      · simp [h1, h2]
  · have h' : n.log2 + 2 ≤ d := by omega
    rw [Nat.min_eq_right h']
    have hn := lt_two_log2 n
    have e2 : 2 ^ (n.log2 + 2) = 2 * 2 ^ (n.log2 + 1) := by rw [Nat.pow_succ 2 (n.log2 + 1)]; omega
    have hd : 2 ^ (n.log2 + 2) ≤ 2 ^ d := Nat.pow_le_pow_right (by decide) h'
    have a1 : n / 2 ^ (n.log2 + 2) = 0 := Nat.div_eq_of_lt (by omega)
    have a2 : n % 2 ^ (n.log2 + 2) = n := Nat.mod_eq_of_lt (by omega)
    have b1 : n / 2 ^ d = 0 := Nat.div_eq_of_lt (by omega)
    have b2 : n % 2 ^ d = n := Nat.mod_eq_of_lt (by omega)
    rw [a1, a2, b1, b2]
    have c1 : ¬ 2 ^ (n.log2 + 2) < 2 * n := by omega
    have c2 : ¬ 2 ^ d < 2 * n := by omega
    simp [c1, c2]

theorem rne_mul_pow (n d k : Nat) : rne (n * 2 ^ k) (d + k) = rne n d := by
  unfold rne
  have hk : 0 < 2 ^ k := Nat.two_pow_pos k
  have e1 : n * 2 ^ k / 2 ^ (d + k) = n / 2 ^ d := by
    rw [Nat.pow_add]; exact Nat.mul_div_mul_right _ _ hk
  have e2 : n * 2 ^ k % 2 ^ (d + k) = n % 2 ^ d * 2 ^ k := by
    rw [Nat.pow_add]; exact Nat.mul_mod_mul_right _ _ _
  rw [e1, e2, Nat.pow_add]
  have c1 : (2 ^ d * 2 ^ k < 2 * (n % 2 ^ d * 2 ^ k)) ↔ 2 ^ d < 2 * (n % 2 ^ d) := by
    rw [← Nat.mul_assoc]; exact Nat.mul_lt_mul_right hk
  have c2 : (2 ^ d * 2 ^ k = 2 * (n % 2 ^ d * 2 ^ k)) ↔ 2 ^ d = 2 * (n % 2 ^ d) := by
    rw [← Nat.mul_assoc]; exact Nat.mul_left_inj (by omega)
  simp only [c1, c2]

theorem rne_mono {n m : Nat} (d : Nat) (h : n ≤ m) : rne n d ≤ rne m d := by
  unfold rne
  have hq : n / 2 ^ d ≤ m / 2 ^ d := Nat.div_le_div_right h
  by_cases e : n / 2 ^ d = m / 2 ^ d
  · have hn := Nat.div_add_mod n (2 ^ d)
    have hm := Nat.div_add_mod m (2 ^ d)
    rw [e] at hn
    have hr : n % 2 ^ d ≤ m % 2 ^ d := by omega
    rw [e]
    split
    · split
      · omega
      · omega
    · split <;> omega
  · split <;> split <;> omega

/-- what is lost stays marked in the lowest bit -/
def stk (M k : Nat) : Nat := if M % 2 ^ k = 0 then M / 2 ^ k else M / 2 ^ k ||| 1

theorem or_one (q : Nat) : q ||| 1 = 2 * (q / 2) + 1 := by
  have h := nat_join 1 (2 * (q / 2)) 1 (by omega) (by omega)
  rw [← h]
  apply Nat.eq_of_testBit_eq
  intro i
  rw [Nat.testBit_or, Nat.testBit_or]
  cases i with
  | zero => simp
  | succ i => simp [Nat.testBit_succ]

theorem rne_stk (M k d : Nat) (hd : 2 ≤ d) : rne (stk M k) d = rne M (d + k) := by
  unfold stk
  have hk : 0 < 2 ^ k := Nat.two_pow_pos k
  split
  · rename_i h
    have e : M = M / 2 ^ k * 2 ^ k := by
      have := Nat.div_add_mod M (2 ^ k); rw [h] at this; rw [Nat.mul_comm]; omega
    conv => rhs; rw [e]
    rw [rne_mul_pow]
  · rename_i h
    obtain ⟨d, rfl⟩ : ∃ c, d = c + 2 := ⟨d - 2, by omega⟩
    rw [or_one]
    have hM := Nat.div_add_mod M (2 ^ k)
    have hr : M % 2 ^ k < 2 ^ k := Nat.mod_lt _ hk
    generalize hq : M / 2 ^ k = q at *
    generalize hrr : M % 2 ^ k = r at *
    have p2 : 2 ^ (d + 2) = 4 * 2 ^ d := by rw [Nat.pow_add]; omega
    have hc : 0 < 2 ^ d := Nat.two_pow_pos d
    -- quotient and rest by 2^(d+2)
    have eq1 : (2 * (q / 2) + 1) / 2 ^ (d + 2) = q / 2 ^ (d + 2) := by
      rw [show d + 2 = 1 + (d + 1) from by omega, Nat.pow_add, ← Nat.div_div_eq_div_mul, ← Nat.div_div_eq_div_mul]
      congr 1; omega
    have eq2 : M / 2 ^ (d + 2 + k) = q / 2 ^ (d + 2) := by
      rw [Nat.add_comm, Nat.pow_add, ← Nat.div_div_eq_div_mul, hq]
    have em : M % 2 ^ (d + 2 + k) = (q % 2 ^ (d + 2)) * 2 ^ k + r := by
      have h1 := Nat.div_add_mod M (2 ^ (d + 2 + k))
      have h2 := Nat.div_add_mod q (2 ^ (d + 2))
      rw [eq2] at h1
      have : M = 2 ^ (d + 2 + k) * (q / 2 ^ (d + 2)) + ((q % 2 ^ (d + 2)) * 2 ^ k + r) := by
        rw [← hM]
        conv => lhs; rw [← h2]
        rw [Nat.pow_add 2 (d + 2) k]
        grind
      omega
    have es : (2 * (q / 2) + 1) % 2 ^ (d + 2) = 2 * (q % 2 ^ (d + 2) / 2) + 1 := by
      have h1 := Nat.div_add_mod (2 * (q / 2) + 1) (2 ^ (d + 2))
      have h2 := Nat.div_add_mod q (2 ^ (d + 2))
      rw [eq1] at h1
      rw [p2] at h1 h2 ⊢
      generalize 2 ^ d = c at *
      generalize q / (4 * c) = t at *
      have e4 : 4 * c * t = 2 * (2 * c * t) := by grind
      generalize 2 * c * t = u at *
      omega
    unfold rne
    rw [eq1, eq2, em, es]
    have hlt : q % 2 ^ (d + 2) < 2 ^ (d + 2) := Nat.mod_lt _ (Nat.two_pow_pos _)
    rw [Nat.pow_add 2 (d + 2) k, p2]
    rw [p2] at hlt
    generalize hx : q % (4 * 2 ^ d) = x at *
    generalize 2 ^ d = c at *
    generalize 2 ^ k = b at *
    generalize q / (4 * c) = t at *
    -- 4 c < 2 (2 (x/2) + 1)  iff  4 c b < 2 (x b + r)
    have key : (4 * c < 2 * (2 * (x / 2) + 1)) ↔ 4 * c * b < 2 * (x * b + r) := by
      constructor
      · intro hh
        have : 2 * c ≤ x := by omega
        have := Nat.mul_le_mul_right b this
        have e1 : 4 * c * b = 2 * (2 * c * b) := by grind
        rw [e1]; omega
      · intro hh
        by_cases hx2 : 2 * c ≤ x
        · omega
        · exfalso
          have : x + 1 ≤ 2 * c := by omega
          have := Nat.mul_le_mul_right b this
          have e1 : 4 * c * b = 2 * (2 * c * b) := by grind
          have e2 : (x + 1) * b = x * b + b := by grind
          omega
    have ne1 : ¬ (4 * c = 2 * (2 * (x / 2) + 1)) := by omega
    have ne2 : ¬ (4 * c * b = 2 * (x * b + r)) := by
      intro hh
      have e1 : 4 * c * b = 2 * (2 * c * b) := by grind
      by_cases hx2 : 2 * c ≤ x
      · have := Nat.mul_le_mul_right b hx2
        omega
      · have : x + 1 ≤ 2 * c := by omega
        have := Nat.mul_le_mul_right b this
        have e2 : (x + 1) * b = x * b + b := by grind
        omega
    simp only [key, ne1, ne2, false_and, or_false]

end Go.Proofs.YtaikkmehmiiffaaGreatDoor
/- Plain mathematics of binary64: nothing of the program. -/
namespace Go.Proofs.YtaikkmehmiiffaaGreatDoor
set_option linter.unusedVariables false

theorem d_least : Ieee.double.leastPlace = -1074 := by decide
theorem d_frac : Ieee.double.fractionBits = 52 := rfl
theorem d_binade : Ieee.double.binade = 4503599627370496 := by decide
theorem d_inf : Ieee.double.infRung = 9218868437227405312 := by decide
theorem d_sign : Ieee.double.signWeight = 9223372036854775808 := by decide

/-- the place of the last digit that is kept -/
def lastPlace (mag : Nat) (place : Int) : Int := max (place + mag.log2 - 52) (-1074)

/-- the rung nearest to mag times 2^place -/
def rung (mag : Nat) (place : Int) : Nat :=
  if mag = 0 then 0 else
  min ((lastPlace mag place + 1074).toNat * 4503599627370496 + rne (mag * 2 ^ (place - lastPlace mag place).toNat) (lastPlace mag place - place).toNat) 9218868437227405312

/-- the word of a sign and a rung -/
def wordOf (neg : Bool) (r : Nat) : Nat := if neg then 9223372036854775808 + r else r

theorem word_eq (neg : Bool) (r : Nat) : Ieee.double.word neg r = wordOf neg r := by
  unfold Ieee.Format.word wordOf; rw [d_sign]

theorem nearest_eq (neg : Bool) (mag : Nat) (place : Int) : Ieee.double.nearest neg mag place = wordOf neg (rung mag place) := by
  unfold Ieee.Format.nearest rung
  split
  · rw [word_eq]
  · simp only [cut_even, d_least, d_frac, d_binade, d_inf, word_eq, Nat.shiftLeft_eq]
    have e : (-1074 : Int) = -1074 := rfl
    have e2 : ∀ x : Int, (x - -1074) = x + 1074 := by intro x; omega
    simp only [e2]
    rfl

theorem rung_le (mag : Nat) (place : Int) : rung mag place ≤ 9218868437227405312 := by
  unfold rung; split
  · omega
  · exact Nat.min_le_right _ _

theorem log2_mul_pow (m k : Nat) (h : m ≠ 0) : (m * 2 ^ k).log2 = m.log2 + k := by
  have hk : 0 < 2 ^ k := Nat.two_pow_pos k
  have hne : m * 2 ^ k ≠ 0 := Nat.mul_ne_zero h (by omega)
  rw [Nat.log2_eq_iff hne]
  have h1 := Nat.log2_self_le h
  have h2 := lt_two_log2 m
  constructor
  · rw [Nat.pow_add]; exact Nat.mul_le_mul_right _ h1
  · rw [show m.log2 + k + 1 = (m.log2 + 1) + k from by omega, Nat.pow_add]; exact (Nat.mul_lt_mul_right hk).2 h2

theorem rung_scale (m k : Nat) (p : Int) : rung (m * 2 ^ k) p = rung m (p + k) := by
  by_cases h : m = 0
  · subst h; simp [rung]
  have hk : 0 < 2 ^ k := Nat.two_pow_pos k
  have hne : m * 2 ^ k ≠ 0 := Nat.mul_ne_zero h (by omega)
  have hl : lastPlace (m * 2 ^ k) p = lastPlace m (p + k) := by
    unfold lastPlace; rw [log2_mul_pow m k h]; congr 1; omega
  unfold rung
  rw [if_neg h, if_neg hne, hl]
  generalize lastPlace m (p + k) = L
  congr 2
  by_cases c1 : L ≤ p
  · have e1 : (L - p).toNat = 0 := by omega
    have e2 : (L - (p + k)).toNat = 0 := by omega
    have e3 : (p + k - L).toNat = k + (p - L).toNat := by omega
    rw [e1, e2, e3, rne_zero, rne_zero, Nat.pow_add, Nat.mul_assoc]
  · by_cases c2 : L ≤ p + k
    · have e1 : (p - L).toNat = 0 := by omega
      have e2 : (L - (p + k)).toNat = 0 := by omega
      obtain ⟨d, hd⟩ : ∃ d : Nat, (L - p).toNat = d := ⟨_, rfl⟩
      obtain ⟨c, hc⟩ : ∃ c : Nat, (p + k - L).toNat = c := ⟨_, rfl⟩
      have ek : k = c + d := by omega
      rw [e1, e2, hd, hc, ek, rne_zero, Nat.pow_zero, Nat.mul_one, Nat.pow_add, ← Nat.mul_assoc]
      have := rne_mul_pow (m * 2 ^ c) 0 d
      rw [Nat.zero_add, rne_zero] at this
      exact this
    · have e1 : (p - L).toNat = 0 := by omega
      have e2 : (p + k - L).toNat = 0 := by omega
      obtain ⟨d, hd⟩ : ∃ d : Nat, (L - (p + k)).toNat = d := ⟨_, rfl⟩
      have e3 : (L - p).toNat = d + k := by omega
      rw [e1, e2, hd, e3, Nat.pow_zero, Nat.mul_one, Nat.mul_one]
      exact rne_mul_pow m d k

theorem stk_ne_zero (M k : Nat) (h : M ≠ 0) : stk M k ≠ 0 := by
  unfold stk; split
  · rename_i hm
    have hp := Nat.two_pow_pos k
    intro h0
    have := Nat.div_add_mod M (2 ^ k)
    rw [h0, hm] at this; omega
  · rw [or_one]; omega

theorem log2_div_pow (M k : Nat) (h : M / 2 ^ k ≠ 0) : M.log2 = (M / 2 ^ k).log2 + k := by
  have hp := Nat.two_pow_pos k
  have hM : M ≠ 0 := by intro h0; subst h0; simp at h
  rw [Nat.log2_eq_iff hM]
  have h1 := Nat.log2_self_le h
  have h2 := lt_two_log2 (M / 2 ^ k)
  constructor
  · rw [Nat.pow_add]; exact (Nat.le_div_iff_mul_le hp).1 h1
  · rw [show (M / 2 ^ k).log2 + k + 1 = ((M / 2 ^ k).log2 + 1) + k from by omega, Nat.pow_add]; exact (Nat.div_lt_iff_lt_mul hp).1 h2

theorem log2_or_one (q : Nat) (h : q ≠ 0) : (q ||| 1).log2 = q.log2 := by
  rw [or_one]
  have h1 := Nat.log2_self_le h
  have h2 := lt_two_log2 q
  rw [Nat.log2_eq_iff (by omega)]
  by_cases h0 : q.log2 = 0
  · rw [h0] at h1 h2 ⊢; simp at h1 h2 ⊢; omega
  · obtain ⟨c, hc⟩ : ∃ c, q.log2 = c + 1 := ⟨q.log2 - 1, by omega⟩
    rw [hc] at h1 h2 ⊢
    have e1 : 2 ^ (c + 1) = 2 * 2 ^ c := by rw [Nat.pow_succ]; omega
    have e2 : 2 ^ (c + 1 + 1) = 2 * (2 * 2 ^ c) := by rw [Nat.pow_succ, e1]; omega
    rw [e1] at h1 ⊢; rw [e2] at h2 ⊢
    omega

theorem log2_ge (n k : Nat) (h : 2 ^ k ≤ n) : k ≤ n.log2 := by
  have hn : n ≠ 0 := by have := Nat.two_pow_pos k; omega
  exact (Nat.le_log2 hn).2 h

/-- what is lost below 55 bits or more may be marked in one bit -/
theorem rung_stk (M k : Nat) (p : Int) (h : 18014398509481984 ≤ M / 2 ^ k ∨ M % 2 ^ k = 0) : rung (stk M k) (p + k) = rung M p := by
  by_cases hm : M % 2 ^ k = 0
  · have e : M = M / 2 ^ k * 2 ^ k := by
      have := Nat.div_add_mod M (2 ^ k); rw [hm] at this; rw [Nat.mul_comm]; omega
    conv => rhs; rw [e]
    rw [rung_scale]
    unfold stk; rw [if_pos hm]
  · have hb : 18014398509481984 ≤ M / 2 ^ k := by rcases h with h | h; exact h; exact absurd h hm
    have hq : M / 2 ^ k ≠ 0 := by omega
    have hM : M ≠ 0 := by intro h0; subst h0; simp at hq
    have hs := stk_ne_zero M k hM
    have hlog : (stk M k).log2 = (M / 2 ^ k).log2 := by
      unfold stk; rw [if_neg hm]; exact log2_or_one _ hq
    have hlM := log2_div_pow M k hq
    have h54 : 54 ≤ (M / 2 ^ k).log2 := log2_ge _ 54 (by simpa using hb)
    have hL : lastPlace (stk M k) (p + k) = lastPlace M p := by
      unfold lastPlace; rw [hlog, hlM]; congr 1; omega
    unfold rung
    rw [if_neg hM, if_neg hs, hL]
    have hge : p + k + 2 ≤ lastPlace M p := by
      unfold lastPlace; rw [hlM]; omega
    generalize lastPlace M p = L at *
    obtain ⟨d, hd⟩ : ∃ d : Nat, (L - (p + k)).toNat = d := ⟨_, rfl⟩
    have e1 : (p + k - L).toNat = 0 := by omega
    have e2 : (p - L).toNat = 0 := by omega
    have e3 : (L - p).toNat = d + k := by omega
    rw [e1, e2, hd, e3, Nat.pow_zero, Nat.mul_one, Nat.mul_one, rne_stk M k d (by omega)]

theorem rne_bound (n d c : Nat) (h : n < 2 ^ (c + d)) : rne n d ≤ 2 ^ c := by
  unfold rne
  have : n / 2 ^ d < 2 ^ c := (Nat.div_lt_iff_lt_mul (Nat.two_pow_pos d)).2 (by rw [← Nat.pow_add]; exact h)
  split <;> omega

theorem rne_lower (n d c : Nat) (h : 2 ^ (c + d) ≤ n) : 2 ^ c ≤ rne n d := by
  unfold rne
  have : 2 ^ c ≤ n / 2 ^ d := (Nat.le_div_iff_mul_le (Nat.two_pow_pos d)).2 (by rw [← Nat.pow_add]; exact h)
  omega

/-- what is kept has at most 53 bits -/
theorem kept_le (m : Nat) (p : Int) : rne (m * 2 ^ (p - lastPlace m p).toNat) (lastPlace m p - p).toNat ≤ 9007199254740992 := by
  have h2 := lt_two_log2 m
  have hL : p + m.log2 - 52 ≤ lastPlace m p := by unfold lastPlace; omega
  generalize lastPlace m p = L at *
  have : m * 2 ^ (p - L).toNat < 2 ^ (53 + (L - p).toNat) := by
    have a : m * 2 ^ (p - L).toNat < 2 ^ (m.log2 + 1) * 2 ^ (p - L).toNat := (Nat.mul_lt_mul_right (Nat.two_pow_pos _)).2 h2
    rw [← Nat.pow_add] at a
    exact Nat.lt_of_lt_of_le a (Nat.pow_le_pow_right (by decide) (by omega))
  exact rne_bound _ _ 53 this

/-- above the lowest place it has at least 53 -/
theorem kept_ge (m : Nat) (p : Int) (h : m ≠ 0) (hL : lastPlace m p = p + m.log2 - 52) : 4503599627370496 ≤ rne (m * 2 ^ (p - lastPlace m p).toNat) (lastPlace m p - p).toNat := by
  have h1 := Nat.log2_self_le h
  generalize lastPlace m p = L at *
  have : 2 ^ (52 + (L - p).toNat) ≤ m * 2 ^ (p - L).toNat := by
    have a : 2 ^ m.log2 * 2 ^ (p - L).toNat ≤ m * 2 ^ (p - L).toNat := Nat.mul_le_mul_right _ h1
    rw [← Nat.pow_add] at a
    exact Nat.le_trans (Nat.pow_le_pow_right (by decide) (by omega)) a
  exact rne_lower _ _ 52 this

theorem rung_mono {m n : Nat} (p : Int) (h : m ≤ n) : rung m p ≤ rung n p := by
  by_cases hm : m = 0
  · subst hm; simp [rung]
  have hn : n ≠ 0 := by omega
  have hlog : m.log2 ≤ n.log2 := by
    rw [Nat.le_log2 hn]; exact Nat.le_trans (Nat.log2_self_le hm) h
  have hLL : lastPlace m p ≤ lastPlace n p := by unfold lastPlace; omega
  have km := kept_le m p
  by_cases hE : lastPlace m p = lastPlace n p
  · unfold rung
    rw [if_neg hm, if_neg hn, hE]
    have hr := rne_mono (lastPlace n p - p).toNat (Nat.mul_le_mul_right (2 ^ (p - lastPlace n p).toNat) h)
    clear km
    generalize rne (m * 2 ^ (p - lastPlace n p).toNat) (lastPlace n p - p).toNat = A at hr ⊢
    generalize rne (n * 2 ^ (p - lastPlace n p).toNat) (lastPlace n p - p).toNat = B at hr ⊢
    generalize (lastPlace n p + 1074).toNat * 4503599627370496 = C
    omega
  · have hL2 : lastPlace n p = p + n.log2 - 52 := by unfold lastPlace at hE hLL ⊢; omega
    have kn := kept_ge n p hn hL2
    have hlow : -1074 ≤ lastPlace m p := by unfold lastPlace; omega
    unfold rung
    rw [if_neg hm, if_neg hn]
    generalize rne (m * 2 ^ (p - lastPlace m p).toNat) (lastPlace m p - p).toNat = A at *
    generalize rne (n * 2 ^ (p - lastPlace n p).toNat) (lastPlace n p - p).toNat = B at *
    have h3 : (lastPlace m p + 1074).toNat + 1 ≤ (lastPlace n p + 1074).toNat := by omega
    generalize (lastPlace m p + 1074).toNat = C at *
    generalize (lastPlace n p + 1074).toNat = D at *
    clear hL2 hE hLL hlow hlog
    omega

end Go.Proofs.YtaikkmehmiiffaaGreatDoor
/- Plain: the parts of a binary64, as the program takes them, and what Ieee reads of it. -/
namespace Go.Proofs.YtaikkmehmiiffaaGreatDoor
set_option linter.unusedVariables false

def fldN (a : Nat) : Nat := a / 4503599627370496 % 2048
def frcN (a : Nat) : Nat := a % 4503599627370496
def manN (a : Nat) : Nat := if fldN a = 0 then frcN a else frcN a + 4503599627370496
def sgnN (a : Nat) : Nat := a / 9223372036854775808 * 9223372036854775808
def negB (a : Nat) : Bool := decide (9223372036854775808 ≤ a)

/-- 0: a zero; 1: another finite one; 2: infinite; 3: no number -/
def kindI (a : Int) : Int :=
  if fldN a.toNat = 2047 then (if frcN a.toNat = 0 then 2 else 3) else if fldN a.toNat = 0 ∧ frcN a.toNat = 0 then 0 else 1
def sgnI (a : Int) : Int := (sgnN a.toNat : Nat)
def manI (a : Int) : Int := if kindI a = 1 then ((manN a.toNat : Nat) : Int) else ((frcN a.toNat : Nat) : Int)
def expI (a : Int) : Int := if kindI a = 1 then -1074 + ((fldN a.toNat - 1 : Nat) : Int) else 0

theorem fld_lt (a : Nat) : fldN a < 2048 := Nat.mod_lt _ (by decide)
theorem frc_lt (a : Nat) : frcN a < 4503599627370496 := Nat.mod_lt _ (by decide)

theorem kind_cases (a : Int) : kindI a = 0 ∨ kindI a = 1 ∨ kindI a = 2 ∨ kindI a = 3 := by
  unfold kindI; split
  · split <;> simp
  · split <;> simp

theorem sgn_cases (a : Int) (h : a < 18446744073709551616) : sgnI a = 0 ∨ sgnI a = 9223372036854775808 := by
  unfold sgnI sgnN
  omega

theorem sgnN_eq (a : Nat) (h : a < 18446744073709551616) : sgnN a = if negB a then 9223372036854775808 else 0 := by
  unfold sgnN negB
  by_cases c : 9223372036854775808 ≤ a
  · rw [decide_eq_true c]; simp; omega
  · rw [decide_eq_false c]; simp; omega

/-- the word is its sign, its field and its fraction -/
theorem word_parts (a : Nat) (_h : a < 18446744073709551616) : a = sgnN a + fldN a * 4503599627370496 + frcN a := by
  unfold sgnN fldN frcN; omega

theorem read_eq (a : Nat) (h : a < 18446744073709551616) : Ieee.double.read a =
    if fldN a < 2047 then .number (negB a) (manN a) (-1074 + ((fldN a - 1 : Nat) : Int))
    else if frcN a = 0 then .infinity (negB a) else .nan (negB a) (frcN a) := by
  unfold Ieee.Format.read
  simp only [d_sign, d_binade, d_inf, d_least]
  have hn : (a / 9223372036854775808 % 2 == 1) = negB a := by
    unfold negB
    by_cases c : 9223372036854775808 ≤ a
    · rw [decide_eq_true c]; simp; omega
    · rw [decide_eq_false c]; simp; omega
  rw [hn]
  have hr : a % 9223372036854775808 = fldN a * 4503599627370496 + frcN a := by unfold fldN frcN; omega
  have f1 := fld_lt a
  have f2 := frc_lt a
  rw [hr]
  generalize negB a = s
  unfold manN
  generalize fldN a = F at *
  generalize frcN a = M at *
  by_cases c0 : F = 0
  · subst c0
    rw [if_pos (by omega), if_pos (by omega), if_pos rfl]
    simp
  · rw [if_neg (show ¬ F * 4503599627370496 + M < 4503599627370496 by omega), if_neg c0]
    by_cases c1 : F < 2047
    · rw [if_pos (show F * 4503599627370496 + M < 9218868437227405312 by omega), if_pos c1]
      have e1 : (F * 4503599627370496 + M) % 4503599627370496 = M := by omega
      have e2 : (F * 4503599627370496 + M) / 4503599627370496 = F := by omega
      rw [e1, e2, Nat.add_comm]
    · have : F = 2047 := by omega
      subst this
      rw [if_neg (show ¬ 2047 * 4503599627370496 + M < 9218868437227405312 by omega), if_neg c1]
      by_cases c2 : M = 0
      · subst c2; simp
      · rw [if_neg (show ¬ 2047 * 4503599627370496 + M = 9218868437227405312 by omega), if_neg c2]
        rw [show 2047 * 4503599627370496 + M - 9218868437227405312 = M from by omega]

end Go.Proofs.YtaikkmehmiiffaaGreatDoor
/- Plain: the program's rounding of a word of 64 bits is the nearest rung. -/
namespace Go.Proofs.YtaikkmehmiiffaaGreatDoor
set_option linter.unusedVariables false

theorem log2_word (M : Nat) (h0 : 9223372036854775808 ≤ M) (h1 : M < 18446744073709551616) : M.log2 = 63 := by
  rw [Nat.log2_eq_iff (by omega)]
  exact ⟨h0, h1⟩

theorem last_word (M : Nat) (E : Int) (h0 : 9223372036854775808 ≤ M) (h1 : M < 18446744073709551616) : lastPlace M E = max (E + 11) (-1074) := by
  unfold lastPlace; rw [log2_word M h0 h1]; congr 1; omega

theorem rung_mid (M : Nat) (E : Int) (D : Nat) (h0 : 9223372036854775808 ≤ M) (h1 : M < 18446744073709551616) (hD : (D : Int) = max 11 (-1074 - E)) :
    rung M E = min ((E + D + 1074).toNat * 4503599627370496 + rne M D) 9218868437227405312 := by
  have hL := last_word M E h0 h1
  unfold rung
  rw [if_neg (by omega), hL]
  have e1 : max (E + 11) (-1074) = E + D := by omega
  rw [e1, show (E - (E + (D : Int))).toNat = 0 from by omega, show (E + (D : Int) - E).toNat = D from by omega, Nat.pow_zero, Nat.mul_one]

theorem rung_big (M : Nat) (E : Int) (h0 : 9223372036854775808 ≤ M) (h1 : M < 18446744073709551616) (hE : 960 < E) : rung M E = 9218868437227405312 := by
  rw [rung_mid M E 11 h0 h1 (by omega)]
  have := rne_lower M 11 52 h0
  generalize rne M 11 = r at *
  have h2 : 4503599627370496 ≤ r := this
  have h3 : 2046 ≤ (E + (11 : Nat) + 1074).toNat := by omega
  generalize (E + (11 : Nat) + 1074).toNat = q at *
  omega

theorem rung_tiny (M : Nat) (E : Int) (h0 : 9223372036854775808 ≤ M) (h1 : M < 18446744073709551616) (hE : 64 < -1074 - E) : rung M E = 0 := by
  obtain ⟨D, hD⟩ : ∃ D : Nat, (D : Int) = -1074 - E := ⟨(-1074 - E).toNat, by omega⟩
  rw [rung_mid M E D h0 h1 (by omega)]
  have hp : 2 ^ 65 ≤ 2 ^ D := Nat.pow_le_pow_right (by decide) (by omega)
  have hp' : 36893488147419103232 ≤ 2 ^ D := hp
  have e1 : M / 2 ^ D = 0 := Nat.div_eq_of_lt (by omega)
  have e2 : M % 2 ^ D = M := Nat.mod_eq_of_lt (by omega)
  have e3 : rne M D = 0 := by
    unfold rne
    rw [e1, e2]
    generalize 2 ^ D = p at *
    rw [if_neg (by omega)]
  rw [e3, show (E + (D : Int) + 1074).toNat = 0 from by omega]
  rfl

theorem rne_word_le (M D : Nat) (h1 : M < 18446744073709551616) (hD : 11 ≤ D) : rne M D ≤ 9007199254740992 := by
  refine rne_bound M D 53 (Nat.lt_of_lt_of_le h1 ?_)
  exact Nat.pow_le_pow_right (n := 2) (by decide) (show 64 ≤ 53 + D by omega)

theorem rung_in (M : Nat) (E : Int) (D : Nat) (h0 : 9223372036854775808 ≤ M) (h1 : M < 18446744073709551616) (hD : (D : Int) = max 11 (-1074 - E)) (hE : E ≤ 960) :
    rung M E = (E + D + 1074).toNat * 4503599627370496 + rne M D := by
  rw [rung_mid M E D h0 h1 hD]
  have h2 := rne_word_le M D h1 (by omega)
  have h3 : (E + (D : Int) + 1074).toNat ≤ 2045 := by omega
  generalize rne M D = r at *
  generalize (E + (D : Int) + 1074).toNat = q at *
  omega

/-- the rest as the program looks at it: brought to the top of a word -/
theorem rest_top (M D : Nat) (hD : D ≤ 64) : M * 2 ^ (64 - D) % 18446744073709551616 = M % 2 ^ D * 2 ^ (64 - D) := by
  have e : (18446744073709551616 : Nat) = 2 ^ D * 2 ^ (64 - D) := by
    rw [← Nat.pow_add, show D + (64 - D) = 64 from by omega]
  rw [e, Nat.mul_mod_mul_right]

theorem rne_up (M D : Nat) (h1 : 1 ≤ D) (hD : D ≤ 64) :
    rne M D = M / 2 ^ D + (if 9223372036854775808 < M % 2 ^ D * 2 ^ (64 - D) ∨ (M % 2 ^ D * 2 ^ (64 - D) = 9223372036854775808 ∧ M / 2 ^ D % 2 = 1) then 1 else 0) := by
  unfold rne
  have e : (9223372036854775808 : Nat) = 2 ^ (D - 1) * 2 ^ (64 - D) := by
    rw [← Nat.pow_add, show D - 1 + (64 - D) = 63 from by omega]
  have p := Nat.two_pow_pos (64 - D)
  have e2 : 2 ^ D = 2 * 2 ^ (D - 1) := by
    conv => lhs; rw [show D = D - 1 + 1 from by omega, Nat.pow_succ]
    omega
  have c1 : (9223372036854775808 < M % 2 ^ D * 2 ^ (64 - D)) ↔ 2 ^ D < 2 * (M % 2 ^ D) := by
    rw [e, Nat.mul_lt_mul_right p]; omega
  have c2 : (M % 2 ^ D * 2 ^ (64 - D) = 9223372036854775808) ↔ 2 ^ D = 2 * (M % 2 ^ D) := by
    rw [e, Nat.mul_left_inj (by omega)]; omega
  simp only [c1, c2]

end Go.Proofs.YtaikkmehmiiffaaGreatDoor
/- Plain: the program's sum of two finite ones is the exact one, rounded once. -/
namespace Go.Proofs.YtaikkmehmiiffaaGreatDoor
set_option linter.unusedVariables false

theorem stk_add (A B d : Nat) (hA : A % 2 = 0) : A + stk B d = stk (A * 2 ^ d + B) d := by
  unfold stk
  have p := Nat.two_pow_pos d
  have e1 : (A * 2 ^ d + B) % 2 ^ d = B % 2 ^ d := by rw [Nat.add_comm, Nat.add_mul_mod_self_right]
  have e2 : (A * 2 ^ d + B) / 2 ^ d = A + B / 2 ^ d := by rw [Nat.add_comm, Nat.add_mul_div_right _ _ p, Nat.add_comm]
  rw [e1, e2]
  split
  · rfl
  · rw [or_one, or_one]; omega

theorem stk_sub (A B d : Nat) (hA : A % 2 = 0) (h : B ≤ A * 2 ^ d) : A - stk B d = stk (A * 2 ^ d - B) d ∧ stk B d ≤ A := by
  unfold stk
  have p := Nat.two_pow_pos d
  have eB := Nat.div_add_mod B (2 ^ d)
  have hr : B % 2 ^ d < 2 ^ d := Nat.mod_lt _ p
  generalize B / 2 ^ d = q at *
  generalize B % 2 ^ d = r at *
  by_cases c : r = 0
  · subst c
    have hq : q ≤ A := by
      have : q * 2 ^ d ≤ A * 2 ^ d := by rw [Nat.mul_comm q]; omega
      exact Nat.le_of_mul_le_mul_right this p
    have e : A * 2 ^ d - B = (A - q) * 2 ^ d := by rw [Nat.sub_mul, Nat.mul_comm q]; omega
    rw [e, Nat.mul_mod_left, Nat.mul_div_cancel _ p, if_pos rfl, if_pos rfl]
    exact ⟨rfl, hq⟩
  · have hq : q < A := by
      have : q * 2 ^ d < A * 2 ^ d := by rw [Nat.mul_comm q]; omega
      exact Nat.lt_of_mul_lt_mul_right this
    have e : A * 2 ^ d - B = (2 ^ d - r) + (A - q - 1) * 2 ^ d := by
      have e0 : A * 2 ^ d = (A - q - 1) * 2 ^ d + q * 2 ^ d + 2 ^ d := by
        conv => lhs; rw [show A = (A - q - 1) + q + 1 from by omega]
        rw [Nat.add_mul, Nat.add_mul, Nat.one_mul]
      rw [e0, ← eB, Nat.mul_comm q]
      omega
    have e1 : (A * 2 ^ d - B) % 2 ^ d = 2 ^ d - r := by
      rw [e, Nat.add_mul_mod_self_right, Nat.mod_eq_of_lt (by omega)]
    have e2 : (A * 2 ^ d - B) / 2 ^ d = A - q - 1 := by
      rw [e, Nat.add_mul_div_right _ _ p, Nat.div_eq_of_lt (by omega), Nat.zero_add]
    rw [e1, e2, if_neg c, if_neg (by omega), or_one, or_one]
    constructor <;> omega

theorem mul_pow_1024 (M d : Nat) (h : M * 1024 % 2 ^ d ≠ 0) : 10 < d := by
  by_cases c : d ≤ 10
  · exfalso
    apply h
    have : (1024 : Nat) = 2 ^ (10 - d) * 2 ^ d := by rw [← Nat.pow_add, show 10 - d + d = 10 from by omega]
    rw [this, ← Nat.mul_assoc, Nat.mul_mod_left]
  · omega

/-- what the program reckons of M (at place j), cut to ten bits below place j + d: the rung of M at j -/
theorem rung_cut (M d : Nat) (j : Int) (h : 10 < d → 18014398509481984 ≤ M * 1024 / 2 ^ d) : rung (stk (M * 1024) d) (j + d - 10) = rung M j := by
  have e := rung_stk (M * 1024) d (j - 10) (by
    by_cases c : M * 1024 % 2 ^ d = 0
    · exact Or.inr c
    · exact Or.inl (h (mul_pow_1024 M d c)))
  rw [show j - 10 + (d : Int) = j + d - 10 from by omega] at e
  rw [e, show M * 1024 = M * 2 ^ 10 from rfl, rung_scale]
  congr 1
  omega

theorem sum_same (m n d : Nat) (j : Int) (hm : 10 < d → 4503599627370496 ≤ m) :
    rung (m * 1024 + stk (n * 1024) d) (j + d - 10) = rung (m * 2 ^ d + n) j := by
  rw [stk_add (m * 1024) (n * 1024) d (by omega)]
  have e : m * 1024 * 2 ^ d + n * 1024 = (m * 2 ^ d + n) * 1024 := by grind
  rw [e]
  apply rung_cut
  intro hd
  have := hm hd
  have p := Nat.two_pow_pos d
  have h1 : m * 1024 ≤ (m * 2 ^ d + n) * 1024 / 2 ^ d := by
    rw [Nat.le_div_iff_mul_le p, ← e]; omega
  omega

theorem sum_above (m n d : Nat) (j : Int) (hm : 10 < d → 4503599627370496 ≤ m) (hn : n < 9007199254740992) (h : n ≤ m * 2 ^ d) :
    rung (m * 1024 - stk (n * 1024) d) (j + d - 10) = rung (m * 2 ^ d - n) j := by
  have e : m * 1024 * 2 ^ d - n * 1024 = (m * 2 ^ d - n) * 1024 := by
    rw [Nat.sub_mul]; congr 1; grind
  obtain ⟨h1, h2⟩ := stk_sub (m * 1024) (n * 1024) d (by omega) (by
    have := Nat.mul_le_mul_right 1024 h
    have e2 : m * 1024 * 2 ^ d = m * 2 ^ d * 1024 := by grind
    omega)
  rw [h1, e]
  apply rung_cut
  intro hd
  have hm' := hm hd
  have p := Nat.two_pow_pos d
  have hp : 2 ^ 11 ≤ 2 ^ d := Nat.pow_le_pow_right (by decide) hd
  have hp' : 2048 ≤ 2 ^ d := hp
  rw [← e, Nat.le_div_iff_mul_le p]
  have e3 : m * 1024 * 2 ^ d = m * (1024 * 2 ^ d) := by grind
  have h3 : 4503599627370496 * (1024 * 2 ^ d) ≤ m * (1024 * 2 ^ d) := Nat.mul_le_mul_right _ hm'
  rw [e3]
  generalize 2 ^ d = c at *
  generalize m * (1024 * c) = z at *
  omega

/-- the two are told apart by what is kept -/
theorem sum_apart (m n d : Nat) (hm : 10 < d → 4503599627370496 ≤ m) (hn : n < 9007199254740992) :
    (m * 1024 = stk (n * 1024) d ↔ m * 2 ^ d = n) ∧ (m * 1024 < stk (n * 1024) d ↔ m * 2 ^ d < n) := by
  have p := Nat.two_pow_pos d
  by_cases c : n * 1024 % 2 ^ d = 0
  · have es : stk (n * 1024) d = n * 1024 / 2 ^ d := by unfold stk; rw [if_pos c]
    have e := Nat.div_add_mod (n * 1024) (2 ^ d)
    rw [c, Nat.add_zero] at e
    rw [es]
    generalize n * 1024 / 2 ^ d = y at *
    have k : n * 1024 = y * 2 ^ d := by rw [← e, Nat.mul_comm]
    have e2 : m * 2 ^ d * 1024 = m * 1024 * 2 ^ d := by grind
    constructor
    · constructor
      · intro h; rw [h, ← k] at e2; omega
      · intro h
        rw [h, k] at e2
        exact (Nat.eq_of_mul_eq_mul_right p e2).symm
    · constructor
      · intro h
        have := (Nat.mul_lt_mul_right p).2 h
        omega
      · intro h
        have : m * 1024 * 2 ^ d < y * 2 ^ d := by omega
        exact Nat.lt_of_mul_lt_mul_right this
  · have hd := mul_pow_1024 n d c
    have hm' := hm hd
    have hp : 2 ^ 11 ≤ 2 ^ d := Nat.pow_le_pow_right (by decide) hd
    have hp' : 2048 ≤ 2 ^ d := hp
    have hs : stk (n * 1024) d < m * 1024 := by
      have h1 : n * 1024 / 2 ^ d ≤ n * 1024 / 2048 := Nat.div_le_div_left hp' (by decide)
      unfold stk
      rw [if_neg c, or_one]
      omega
    have hb : n < m * 2 ^ d := by
      have h1 := Nat.mul_le_mul hm' hp'
      omega
    constructor <;> constructor <;> intro h <;> omega

end Go.Proofs.YtaikkmehmiiffaaGreatDoor
/- Plain: what a word reads as, by its kind; and that a number's own rung is its word. -/
namespace Go.Proofs.YtaikkmehmiiffaaGreatDoor
set_option linter.unusedVariables false

/-- the sign bit as a number -/
def sb (s : Bool) : Int := if s then 9223372036854775808 else 0

theorem sgn_sb (a : Int) (h0 : 0 ≤ a) (h : a < 18446744073709551616) : sgnI a = sb (negB a.toNat) := by
  unfold sgnI sb
  rw [sgnN_eq a.toNat (by omega)]
  cases negB a.toNat <;> rfl

theorem word_int (s : Bool) (r : Nat) : ((wordOf s r : Nat) : Int) = sb s + r := by
  unfold wordOf sb; cases s <;> simp

theorem read_nan (a : Int) (h0 : 0 ≤ a) (h : a < 18446744073709551616) (k : kindI a = 3) : Ieee.double.read a.toNat = .nan (negB a.toNat) (frcN a.toNat) := by
  rw [read_eq _ (by omega)]
  unfold kindI at k
  split at k
  · rename_i c
    split at k
    · cases k
    · rename_i c2; rw [if_neg (by omega), if_neg c2]
  · split at k <;> cases k

theorem read_inf (a : Int) (h0 : 0 ≤ a) (h : a < 18446744073709551616) (k : kindI a = 2) : Ieee.double.read a.toNat = .infinity (negB a.toNat) ∧ a = sb (negB a.toNat) + 9218868437227405312 := by
  rw [read_eq _ (by omega)]
  unfold kindI at k
  split at k
  · rename_i c
    split at k
    · rename_i c2
      rw [if_neg (by omega), if_pos c2]
      refine ⟨rfl, ?_⟩
      have w := word_parts a.toNat (by omega)
      rw [← sgn_sb a h0 h]
      unfold sgnI
      omega
    · cases k
  · split at k <;> cases k

theorem read_zero (a : Int) (h0 : 0 ≤ a) (h : a < 18446744073709551616) (k : kindI a = 0) : Ieee.double.read a.toNat = .number (negB a.toNat) 0 (-1074) ∧ a = sb (negB a.toNat) := by
  rw [read_eq _ (by omega)]
  unfold kindI at k
  split at k
  · split at k <;> cases k
  · split at k
    · rename_i c c2
      rw [if_pos (by omega)]
      unfold manN
      rw [if_pos c2.1, c2.1, c2.2]
      refine ⟨rfl, ?_⟩
      have w := word_parts a.toNat (by omega)
      rw [← sgn_sb a h0 h]
      unfold sgnI
      omega
    · cases k

structure Fin1 (m : Int) (e : Int) : Prop where
  pos : 0 < m
  lt : m < 9007199254740992
  lo : -1074 ≤ e
  hi : e ≤ 971
  top : -1074 < e → 4503599627370496 ≤ m

theorem rung_own (m : Nat) (e : Int) (h : Fin1 m e) : rung m e = (e + 1074).toNat * 4503599627370496 + m := by
  obtain ⟨h1, h2, h3, h4, h5⟩ := h
  have hz : m ≠ 0 := by omega
  have hl : lastPlace m e = e := by
    unfold lastPlace
    by_cases c : -1074 < e
    · have l : m.log2 = 52 := by
        rw [Nat.log2_eq_iff hz]
        have := h5 c
        constructor
        · show 4503599627370496 ≤ m; omega
        · show m < 9007199254740992; omega
      rw [l]; omega
    · have l := (Nat.log2_lt hz).2 (show m < 2 ^ 53 by show m < 9007199254740992; omega)
      omega
  unfold rung
  rw [if_neg hz, hl, show (e - e).toNat = 0 from by omega, rne_zero, Nat.pow_zero, Nat.mul_one]
  have : (e + 1074).toNat ≤ 2045 := by omega
  generalize (e + 1074).toNat = q at *
  omega

theorem read_fin (a : Int) (h0 : 0 ≤ a) (h : a < 18446744073709551616) (k : kindI a = 1) :
    Ieee.double.read a.toNat = .number (negB a.toNat) (manI a).toNat (expI a) ∧ Fin1 (manI a) (expI a) ∧ a = sb (negB a.toNat) + (rung (manI a).toNat (expI a) : Nat) := by
  have f1 := fld_lt a.toNat
  have f2 := frc_lt a.toNat
  have w := word_parts a.toNat (by omega)
  have hs := sgn_sb a h0 h
  have hm : manI a = ((manN a.toNat : Nat) : Int) := by unfold manI; rw [if_pos k]
  have he : expI a = -1074 + ((fldN a.toNat - 1 : Nat) : Int) := by unfold expI; rw [if_pos k]
  have c1 : fldN a.toNat ≠ 2047 := by
    intro c; unfold kindI at k; rw [if_pos c] at k; split at k <;> cases k
  have c2 : ¬ (fldN a.toNat = 0 ∧ frcN a.toNat = 0) := by
    intro c; unfold kindI at k; rw [if_neg c1, if_pos c] at k; cases k
  have hF : Fin1 (manI a) (expI a) := by
    rw [hm, he]
    unfold manN
    split
    · exact ⟨by omega, by omega, by omega, by omega, by omega⟩
    · exact ⟨by omega, by omega, by omega, by omega, by omega⟩
  refine ⟨?_, hF, ?_⟩
  · rw [read_eq _ (by omega), if_pos (by omega), hm, he, Int.toNat_natCast]
  · rw [← hs]
    have hF' := hF
    rw [hm] at hF'
    rw [hm, Int.toNat_natCast, rung_own _ _ hF', he]
    unfold sgnI manN
    split <;> omega

end Go.Proofs.YtaikkmehmiiffaaGreatDoor
/- Plain: the order of numbers is that of their bits. -/
namespace Go.Proofs.YtaikkmehmiiffaaGreatDoor
set_option linter.unusedVariables false

/-- the size of the number of a rung, in units of 2^-1074 -/
def valN (r : Nat) : Nat := if r < 4503599627370496 then r else (4503599627370496 + r % 4503599627370496) * 2 ^ (r / 4503599627370496 - 1)

theorem valN_lt {r s : Nat} (h : r < s) : valN r < valN s := by
  unfold valN
  by_cases c1 : r < 4503599627370496
  · rw [if_pos c1]
    by_cases c2 : s < 4503599627370496
    · rw [if_pos c2]; exact h
    · rw [if_neg c2]
      have p := Nat.two_pow_pos (s / 4503599627370496 - 1)
      have : (4503599627370496 + s % 4503599627370496) * 1 ≤ (4503599627370496 + s % 4503599627370496) * 2 ^ (s / 4503599627370496 - 1) := Nat.mul_le_mul_left _ p
      omega
  · rw [if_neg c1, if_neg (by omega)]
    by_cases c3 : r / 4503599627370496 = s / 4503599627370496
    · rw [c3]
      apply (Nat.mul_lt_mul_right (Nat.two_pow_pos _)).2
      omega
    · obtain ⟨q, hq⟩ : ∃ q, r / 4503599627370496 = q + 1 := ⟨r / 4503599627370496 - 1, by omega⟩
      obtain ⟨u, hu⟩ : ∃ u, s / 4503599627370496 = q + 1 + (u + 1) := ⟨s / 4503599627370496 - (q + 1) - 1, by omega⟩
      rw [hq, hu, show q + 1 - 1 = q from by omega, show q + 1 + (u + 1) - 1 = q + (u + 1) from by omega]
      have hr : 4503599627370496 + r % 4503599627370496 < 4503599627370496 * 2 := by omega
      have a1 := (Nat.mul_lt_mul_right (Nat.two_pow_pos q)).2 hr
      have a2 : 4503599627370496 * 2 ^ (q + (u + 1)) ≤ (4503599627370496 + s % 4503599627370496) * 2 ^ (q + (u + 1)) := Nat.mul_le_mul_right _ (by omega)
      have a3 : 4503599627370496 * 2 * 2 ^ q ≤ 4503599627370496 * 2 ^ (q + (u + 1)) := by
        rw [Nat.pow_add, Nat.pow_succ]
        have := Nat.two_pow_pos u
        have h2 : 2 ^ q * 1 ≤ 2 ^ q * 2 ^ u := Nat.mul_le_mul_left _ this
        have e : 2 ^ q * (2 ^ u * 2) = 2 * (2 ^ q * 2 ^ u) := by grind
        rw [e]
        omega
      omega

/-- the number of a word, in units of 2^-1074 -/
def valI (a : Int) : Int := if a < 9223372036854775808 then (valN a.toNat : Nat) else -((valN (a - 9223372036854775808).toNat : Nat) : Int)

def rankI (a : Int) : Int := if a < 9223372036854775808 then a else 9223372036854775808 - a

theorem val_rank (a b : Int) (h0 : 0 ≤ a) (h2 : 0 ≤ b) : (valI a < valI b ↔ rankI a < rankI b) ∧ (valI a = valI b ↔ rankI a = rankI b) := by
  have z0 : valN 0 = 0 := rfl
  have pos : ∀ n, 0 < n → 0 < valN n := fun n h => by have := valN_lt h; omega
  unfold valI rankI
  have key : ∀ m n : Nat, (valN m < valN n ↔ m < n) ∧ (valN m = valN n ↔ m = n) := by
    intro m n
    rcases Nat.lt_trichotomy m n with h | h | h
    · have := valN_lt h; omega
    · subst h; omega
    · have := valN_lt h; omega
  by_cases ca : a < 9223372036854775808
  · rw [if_pos ca, if_pos ca]
    by_cases cb : b < 9223372036854775808
    · rw [if_pos cb, if_pos cb]
      have := key a.toNat b.toNat
      omega
    · rw [if_neg cb, if_neg cb]
      obtain ⟨n, hn⟩ : ∃ n : Nat, (b - 9223372036854775808).toNat = n := ⟨_, rfl⟩
      rw [hn]
      have k1 := key a.toNat 0
      have k2 := key n 0
      rw [z0] at k1 k2
      omega
  · rw [if_neg ca, if_neg ca]
    obtain ⟨m, hm⟩ : ∃ n : Nat, (a - 9223372036854775808).toNat = n := ⟨_, rfl⟩
    rw [hm]
    by_cases cb : b < 9223372036854775808
    · rw [if_pos cb, if_pos cb]
      have k1 := key b.toNat 0
      have k2 := key m 0
      rw [z0] at k1 k2
      omega
    · rw [if_neg cb, if_neg cb]
      obtain ⟨n, hn⟩ : ∃ n : Nat, (b - 9223372036854775808).toNat = n := ⟨_, rfl⟩
      rw [hn]
      have := key m n
      omega

theorem signed_eq (s : Bool) (m u : Nat) : Ieee.signed s m u = if s then -((m * 2 ^ u : Nat) : Int) else ((m * 2 ^ u : Nat) : Int) := by
  unfold Ieee.signed; rw [Nat.shiftLeft_eq]

/-- a finite word is a number whose signed size is its value -/
theorem read_val (a : Int) (h0 : 0 ≤ a) (h : a < 18446744073709551616) (k : kindI a < 2) :
    ∃ s m e, Ieee.double.read a.toNat = .number s m e ∧ -1074 ≤ e ∧ Ieee.signed s m (e + 1074).toNat = valI a := by
  have f1 := fld_lt a.toNat
  have f2 := frc_lt a.toNat
  have c1 : fldN a.toNat ≠ 2047 := by
    intro c; unfold kindI at k; rw [if_pos c] at k; split at k <;> omega
  refine ⟨negB a.toNat, manN a.toNat, -1074 + ((fldN a.toNat - 1 : Nat) : Int), ?_, by omega, ?_⟩
  · rw [read_eq _ (by omega), if_pos (by omega)]
  rw [signed_eq, show (-1074 + ((fldN a.toNat - 1 : Nat) : Int) + 1074).toNat = fldN a.toNat - 1 from by omega]
  have hv : manN a.toNat * 2 ^ (fldN a.toNat - 1) = valN (a.toNat % 9223372036854775808) := by
    have hr : a.toNat % 9223372036854775808 = fldN a.toNat * 4503599627370496 + frcN a.toNat := by unfold fldN frcN; omega
    rw [hr]
    unfold valN manN
    generalize fldN a.toNat = F at *
    generalize frcN a.toNat = M at *
    by_cases c : F = 0
    · subst c
      rw [if_pos rfl, if_pos (by omega)]
      simp
    · rw [if_neg c, if_neg (by omega), show (F * 4503599627370496 + M) % 4503599627370496 = M from by omega, show (F * 4503599627370496 + M) / 4503599627370496 = F from by omega, Nat.add_comm M]
  rw [hv]
  unfold negB valI
  by_cases c : a < 9223372036854775808
  · rw [decide_eq_false (by omega), if_pos c, show a.toNat % 9223372036854775808 = a.toNat from by omega]
    rfl
  · rw [decide_eq_true (by omega), if_neg c, show a.toNat % 9223372036854775808 = (a - 9223372036854775808).toNat from by omega]
    rfl

theorem compare_scale (x y : Int) (k : Nat) : compare (x * 2 ^ k) (y * 2 ^ k) = compare x y := by
  have p : (0 : Int) < 2 ^ k := Int.pow_pos (by decide)
  have h1 : x * 2 ^ k < y * 2 ^ k ↔ x < y := Int.mul_lt_mul_right p
  have h2 : x * 2 ^ k = y * 2 ^ k ↔ x = y := ⟨fun h => Int.eq_of_mul_eq_mul_right (by omega) h, fun h => by rw [h]⟩
  simp only [compare, compareOfLessAndEq, h1, h2]

theorem signed_scale (s : Bool) (m u k : Nat) : Ieee.signed s m (u + k) = Ieee.signed s m u * 2 ^ k := by
  rw [signed_eq, signed_eq]
  have e : ((m * 2 ^ (u + k) : Nat) : Int) = ((m * 2 ^ u : Nat) : Int) * 2 ^ k := by
    rw [Nat.pow_add, ← Nat.mul_assoc, Int.natCast_mul, Int.natCast_pow]; rfl
  rw [e]
  cases s
  · rfl
  · simp [Int.neg_mul]

theorem compare_of (x y u v : Int) (h : (x < y ↔ u < v) ∧ (x = y ↔ u = v)) : compare x y = compare u v := by
  simp only [compare, compareOfLessAndEq, h.1, h.2]

/-- how two numbers stand to each other: as their ranks -/
theorem order_fin (a b : Int) (h0 : 0 ≤ a) (h1 : a < 18446744073709551616) (h2 : 0 ≤ b) (h3 : b < 18446744073709551616) (ka : kindI a < 2) (kb : kindI b < 2) :
    Ieee.double.order a.toNat b.toNat = some (compare (rankI a) (rankI b)) := by
  obtain ⟨s, m, i, ra, hi, va⟩ := read_val a h0 h1 ka
  obtain ⟨t, n, j, rb, hj, vb⟩ := read_val b h2 h3 kb
  unfold Ieee.Format.order
  rw [ra, rb]
  simp only [Ieee.Datum.order]
  congr 1
  rw [← compare_of _ _ _ _ (val_rank a b h0 h2), ← va, ← vb]
  obtain ⟨k, hk⟩ : ∃ k : Nat, min i j + 1074 = k := ⟨(min i j + 1074).toNat, by omega⟩
  rw [show (i + 1074).toNat = (i - min i j).toNat + k from by omega, show (j + 1074).toNat = (j - min i j).toNat + k from by omega, signed_scale, signed_scale, compare_scale]

theorem kind_fld (a : Int) (h0 : 0 ≤ a) (h1 : a < 18446744073709551616) : (kindI a < 2 ↔ rankI a < 9218868437227405312 ∧ -9218868437227405312 < rankI a) ∧ (kindI a = 2 ↔ (rankI a = 9218868437227405312 ∨ rankI a = -9218868437227405312)) ∧ (kindI a = 3 ↔ rankI a > 9218868437227405312 ∨ rankI a < -9218868437227405312) := by
  have f1 := fld_lt a.toNat
  have f2 := frc_lt a.toNat
  have hr : a.toNat % 9223372036854775808 = fldN a.toNat * 4503599627370496 + frcN a.toNat := by unfold fldN frcN; omega
  unfold kindI rankI
  generalize fldN a.toNat = F at *
  generalize frcN a.toNat = M at *
  by_cases c1 : F = 2047
  · rw [if_pos c1]
    by_cases c2 : M = 0
    · rw [if_pos c2]; split <;> omega
    · rw [if_neg c2]; split <;> omega
  · rw [if_neg c1]
    by_cases c2 : F = 0 ∧ M = 0
    · rw [if_pos c2]; split <;> omega
    · rw [if_neg c2]; split <;> omega

theorem neg_rank (a : Int) (h0 : 0 ≤ a) (h1 : a < 18446744073709551616) (k : kindI a = 2) : (negB a.toNat = true → rankI a = -9218868437227405312) ∧ (negB a.toNat = false → rankI a = 9218868437227405312) := by
  have hk := (kind_fld a h0 h1).2.1.1 k
  unfold negB rankI at *
  constructor
  · intro h
    have := of_decide_eq_true h
    split at hk
    · omega
    · rw [if_neg (by omega)]; omega
  · intro h
    have := of_decide_eq_false h
    rw [if_pos (by omega)] at hk ⊢
    omega

/-- the order of two that are numbers is that of their ranks -/
theorem order_eq (a b : Int) (h0 : 0 ≤ a) (h1 : a < 18446744073709551616) (h2 : 0 ≤ b) (h3 : b < 18446744073709551616) (ka : kindI a ≠ 3) (kb : kindI b ≠ 3) :
    Ieee.double.order a.toNat b.toNat = some (compare (rankI a) (rankI b)) := by
  have KA := kind_fld a h0 h1
  have KB := kind_fld b h2 h3
  by_cases a2 : kindI a = 2
  · obtain ⟨ra, _⟩ := read_inf a h0 h1 a2
    obtain ⟨n1, n2⟩ := neg_rank a h0 h1 a2
    by_cases b2 : kindI b = 2
    · obtain ⟨rb, _⟩ := read_inf b h2 h3 b2
      obtain ⟨n3, n4⟩ := neg_rank b h2 h3 b2
      unfold Ieee.Format.order
      rw [ra, rb]
      simp only [Ieee.Datum.order]
      generalize negB a.toNat = s at *
      generalize negB b.toNat = t at *
      cases s <;> cases t
      · rw [n2 rfl, n4 rfl]; rfl
      · rw [n2 rfl, n3 rfl]; rfl
      · rw [n1 rfl, n4 rfl]; rfl
      · rw [n1 rfl, n3 rfl]; rfl
    · have b1 : kindI b < 2 := by rcases kind_cases b with c | c | c | c <;> omega
      obtain ⟨t, n, j, rb, _, _⟩ := read_val b h2 h3 b1
      have hb := KB.1.1 b1
      unfold Ieee.Format.order
      rw [ra, rb]
      simp only [Ieee.Datum.order]
      generalize negB a.toNat = s at *
      cases s
      · rw [n2 rfl]; simp only [compare, compareOfLessAndEq]; rw [if_neg (show ¬ (9218868437227405312 : Int) < rankI b by omega), if_neg (show ¬ (9218868437227405312 : Int) = rankI b by omega)]; rfl
      · rw [n1 rfl]; simp only [compare, compareOfLessAndEq]; rw [if_pos (show -9218868437227405312 < rankI b by omega)]; rfl
  · have a1 : kindI a < 2 := by rcases kind_cases a with c | c | c | c <;> omega
    by_cases b2 : kindI b = 2
    · obtain ⟨rb, _⟩ := read_inf b h2 h3 b2
      obtain ⟨n3, n4⟩ := neg_rank b h2 h3 b2
      obtain ⟨s, m, i, ra, _, _⟩ := read_val a h0 h1 a1
      have ha := KA.1.1 a1
      unfold Ieee.Format.order
      rw [ra, rb]
      simp only [Ieee.Datum.order]
      generalize negB b.toNat = t at *
      cases t
      · rw [n4 rfl]; simp only [compare, compareOfLessAndEq]; rw [if_pos (show rankI a < 9218868437227405312 by omega)]; rfl
      · rw [n3 rfl]; simp only [compare, compareOfLessAndEq]; rw [if_neg (show ¬ rankI a < -9218868437227405312 by omega), if_neg (show ¬ rankI a = -9218868437227405312 by omega)]; rfl
    · have b1 : kindI b < 2 := by rcases kind_cases b with c | c | c | c <;> omega
      exact order_fin a b h0 h1 h2 h3 a1 b1

theorem order_nan (a b : Int) (h0 : 0 ≤ a) (h1 : a < 18446744073709551616) (h2 : 0 ≤ b) (h3 : b < 18446744073709551616) (k : kindI a = 3 ∨ kindI b = 3) :
    Ieee.double.order a.toNat b.toNat = none := by
  unfold Ieee.Format.order
  rcases k with k | k
  · rw [read_nan a h0 h1 k]
    cases Ieee.double.read b.toNat <;> rfl
  · rw [read_nan b h2 h3 k]
    cases Ieee.double.read a.toNat <;> rfl

end Go.Proofs.YtaikkmehmiiffaaGreatDoor
/- Plain: products and quotients of words of 64 bits, rounded; the school method for division. -/
namespace Go.Proofs.YtaikkmehmiiffaaGreatDoor
set_option linter.unusedVariables false

/-- the product of two words that are scaled, its lower half marked: the product of the parts -/
theorem rung_product (m n c d : Nat) (i j : Int) (hM : 9223372036854775808 ≤ m * 2 ^ c) (hN : 9223372036854775808 ≤ n * 2 ^ d) :
    rung (stk (m * 2 ^ c * (n * 2 ^ d)) 64) (i - c + (j - d) + 64) = rung (m * n) (i + j) := by
  have h := rung_stk (m * 2 ^ c * (n * 2 ^ d)) 64 (i - c + (j - d)) (Or.inl (by
    have h1 := Nat.mul_le_mul hM hN
    show 18014398509481984 ≤ m * 2 ^ c * (n * 2 ^ d) / 18446744073709551616
    generalize m * 2 ^ c * (n * 2 ^ d) = P at *
    omega))
  have e : m * 2 ^ c * (n * 2 ^ d) = m * n * 2 ^ (c + d) := by rw [Nat.pow_add]; grind
  rw [show i - (c : Int) + (j - (d : Int)) + 64 = i - (c : Int) + (j - (d : Int)) + ((64 : Nat) : Int) from rfl, h, e, rung_scale]
  congr 1
  omega

/-- m times 2^t divided by n, to one bit behind the point, what is left marked -/
def quoN (m n t : Nat) : Nat := 2 * (m * 2 ^ t / n) + (if m * 2 ^ t % n = 0 then 0 else 1)

theorem quo_stk (m n t k : Nat) (hn : 0 < n) (hk : 1 ≤ k) : stk (quoN m n (t + k)) k = quoN m n t := by
  obtain ⟨k, rfl⟩ : ∃ c, k = c + 1 := ⟨k - 1, by omega⟩
  unfold quoN
  have e : m * 2 ^ (t + (k + 1)) = m * 2 ^ t * 2 ^ (k + 1) := by rw [Nat.pow_add, Nat.mul_assoc]
  rw [e]
  generalize m * 2 ^ t = a
  have pk := Nat.two_pow_pos k
  have e2 : a * 2 ^ (k + 1) = 2 * a * 2 ^ k := by rw [Nat.pow_succ]; grind
  -- x = a * 2^(k+1): quotient and rest
  have hx := Nat.div_add_mod (a * 2 ^ (k + 1)) n
  have hxl := Nat.mod_lt (a * 2 ^ (k + 1)) hn
  have hy := Nat.div_add_mod (2 * a) n
  have hyl := Nat.mod_lt (2 * a) hn
  have hz := Nat.div_add_mod a n
  have hzl := Nat.mod_lt a hn
  -- floor (x / n / 2^k) = floor (2a / n)
  have q1 : a * 2 ^ (k + 1) / n / 2 ^ k = 2 * a / n := by
    rw [Nat.div_div_eq_div_mul, e2, Nat.mul_comm n, Nat.mul_comm (2 * a)]
    exact Nat.mul_div_mul_left _ _ pk
  -- nothing is lost just if n goes into 2a
  have q2 : (a * 2 ^ (k + 1) / n % 2 ^ k = 0 ∧ a * 2 ^ (k + 1) % n = 0) ↔ 2 * a % n = 0 := by
    have h3 := Nat.div_add_mod (a * 2 ^ (k + 1) / n) (2 ^ k)
    rw [q1] at h3
    constructor
    · intro ⟨g1, g2⟩
      rw [g1, Nat.add_zero] at h3
      rw [g2, Nat.add_zero, ← h3, e2] at hx
      have : n * (2 * a / n) * 2 ^ k = 2 * a * 2 ^ k := by rw [← hx]; grind
      have := Nat.eq_of_mul_eq_mul_right pk this
      omega
    · intro g
      rw [g, Nat.add_zero] at hy
      have hd : a * 2 ^ (k + 1) = n * (2 * a / n * 2 ^ k) := by rw [e2, ← Nat.mul_assoc n, hy]
      rw [hd]
      rw [Nat.mul_mod_right, Nat.mul_div_cancel_left _ hn, Nat.mul_mod_left]
      exact ⟨rfl, rfl⟩
  -- quotient and rest of what is marked, by 2^(k+1)
  generalize hQ : a * 2 ^ (k + 1) / n = Q at *
  have m1 : ∀ ε, ε ≤ 1 → (2 * Q + ε) / 2 ^ (k + 1) = Q / 2 ^ k := by
    intro ε hε
    rw [show k + 1 = 1 + k from by omega, Nat.pow_add, ← Nat.div_div_eq_div_mul]
    congr 1
    omega
  have m2 : ∀ ε, ε ≤ 1 → (2 * Q + ε) % 2 ^ (k + 1) = 2 * (Q % 2 ^ k) + ε := by
    intro ε hε
    have a1 := Nat.div_add_mod (2 * Q + ε) (2 ^ (k + 1))
    have a2 := Nat.div_add_mod Q (2 ^ k)
    rw [m1 ε hε, Nat.pow_succ] at a1
    rw [Nat.pow_succ]
    generalize Q / 2 ^ k = z at *
    have e5 : 2 ^ k * 2 * z = 2 * (2 ^ k * z) := by grind
    omega
  unfold stk
  have hp : (if a * 2 ^ (k + 1) % n = 0 then 0 else 1) ≤ 1 := by split <;> omega
  rw [m1 _ hp, m2 _ hp, q1]
  have b01 : 2 * a / n = 2 * (a / n) ∨ 2 * a / n = 2 * (a / n) + 1 := by
    have l1 : 2 * (a / n) ≤ 2 * a / n := by
      rw [Nat.le_div_iff_mul_le hn]
      have : 2 * (a / n) * n = 2 * (n * (a / n)) := by grind
      omega
    have l2 : 2 * a / n < 2 * (a / n) + 2 := by
      rw [Nat.div_lt_iff_lt_mul hn]
      have : (2 * (a / n) + 2) * n = 2 * (n * (a / n)) + 2 * n := by grind
      omega
    omega
  by_cases g : 2 * a % n = 0
  · obtain ⟨g1, g2⟩ := q2.2 g
    rw [g1, if_pos g2, if_pos (by omega)]
    rw [g, Nat.add_zero] at hy
    rcases b01 with b | b
    · rw [b] at hy
      have : a % n = 0 := by
        have e6 : n * (2 * (a / n)) = 2 * (n * (a / n)) := by grind
        omega
      rw [if_pos this, b, Nat.add_zero]
    · rw [b] at hy
      have : a % n ≠ 0 := by
        intro h0
        have e6 : n * (2 * (a / n) + 1) = 2 * (n * (a / n)) + n := by grind
        omega
      rw [if_neg this, b]
  · have hne : ¬ (Q % 2 ^ k = 0 ∧ a * 2 ^ (k + 1) % n = 0) := fun h => g (q2.1 h)
    have hl : ¬ (2 * (Q % 2 ^ k) + (if a * 2 ^ (k + 1) % n = 0 then 0 else 1) = 0) := by
      intro h
      apply hne
      split at h <;> omega
    rw [if_neg hl, or_one]
    have : a % n ≠ 0 := by
      intro h0
      apply g
      rw [h0, Nat.add_zero] at hz
      have : 2 * a = n * (2 * (a / n)) := by
        have e7 : n * (2 * (a / n)) = 2 * (n * (a / n)) := by grind
        omega
      rw [this, Nat.mul_mod_right]
    rw [if_neg this]
    omega

/-- the quotient of two scaled words: that of the parts -/
theorem quo_words (m n c d : Nat) (hcd : d ≤ c + 63) :
    m * 2 ^ c * 9223372036854775808 / (n * 2 ^ d) = m * 2 ^ (c + 63 - d) / n ∧ (m * 2 ^ c * 9223372036854775808 % (n * 2 ^ d) = 0 ↔ m * 2 ^ (c + 63 - d) % n = 0) := by
  have pd := Nat.two_pow_pos d
  have e : m * 2 ^ c * 9223372036854775808 = m * 2 ^ (c + 63 - d) * 2 ^ d := by
    rw [Nat.mul_assoc, show (9223372036854775808 : Nat) = 2 ^ 63 from rfl, ← Nat.pow_add, Nat.mul_assoc, ← Nat.pow_add, show c + 63 - d + d = c + 63 from by omega]
  rw [e, Nat.mul_div_mul_right _ _ pd, Nat.mul_mod_mul_right]
  refine ⟨rfl, ?_⟩
  constructor
  · intro h
    rcases Nat.mul_eq_zero.1 h with h | h
    · exact h
    · omega
  · intro h; rw [h, Nat.zero_mul]

/-- the program's quotient, what is left marked in its last bit, is rounded as the exact one -/
theorem rung_quotient (m n : Nat) (i j : Int) (hm : 0 < m) (hn : 0 < n) (hm1 : m < 9007199254740992) (hn1 : n < 9007199254740992) (Q : Nat) (lost : Bool)
    (hQ : Q = m * 2 ^ (63 - m.log2) * 9223372036854775808 / (n * 2 ^ (63 - n.log2)))
    (hl : lost = decide (m * 2 ^ (63 - m.log2) * 9223372036854775808 % (n * 2 ^ (63 - n.log2)) ≠ 0)) :
    rung (if lost then Q ||| 1 else Q) (i - (63 - m.log2 : Nat) - (j - (63 - n.log2 : Nat)) - 63) =
      rung (quoN m n (54 + n.log2 - m.log2)) (i - j - ((54 + n.log2 - m.log2 : Nat) : Int) - 1) := by
  have lm : m.log2 ≤ 52 := by have := (Nat.log2_lt (by omega)).2 (show m < 2 ^ 53 from hm1); omega
  have ln : n.log2 ≤ 52 := by have := (Nat.log2_lt (by omega)).2 (show n < 2 ^ 53 from hn1); omega
  obtain ⟨q1, q2⟩ := quo_words m n (63 - m.log2) (63 - n.log2) (by omega)
  obtain ⟨t, ht⟩ : ∃ t, t = 54 + n.log2 - m.log2 := ⟨_, rfl⟩
  have ht9 : 63 - m.log2 + 63 - (63 - n.log2) = t + 9 := by omega
  rw [ht9] at q1 q2
  rw [← ht]
  have e1 : (if lost then Q ||| 1 else Q) = stk (quoN m n (t + 9)) 1 := by
    rw [hl, hQ, q1]
    unfold stk quoN
    by_cases c : m * 2 ^ (t + 9) % n = 0
    · rw [if_pos c, decide_eq_false (by rw [q2.2 c]; simp), if_neg (by simp), if_pos (by omega)]
      omega
    · rw [if_neg c, decide_eq_true (show m * 2 ^ (63 - m.log2) * 9223372036854775808 % (n * 2 ^ (63 - n.log2)) ≠ 0 from fun h => c (q2.1 h)), if_pos rfl, if_neg (by omega), show (2 * (m * 2 ^ (t + 9) / n) + 1) / 2 ^ 1 = m * 2 ^ (t + 9) / n from by omega]
  have hbig : 9223372036854775808 ≤ quoN m n (t + 9) := by
    have h1 : 4611686018427387904 ≤ m * 2 ^ (t + 9) / n := by
      rw [Nat.le_div_iff_mul_le hn]
      have a1 := Nat.log2_self_le (show m ≠ 0 by omega)
      have a2 := lt_two_log2 n
      have a3 : 2 ^ m.log2 * 2 ^ (t + 9) ≤ m * 2 ^ (t + 9) := Nat.mul_le_mul_right _ a1
      rw [← Nat.pow_add, show m.log2 + (t + 9) = 62 + (n.log2 + 1) from by omega, Nat.pow_add] at a3
      have a4 : 4611686018427387904 * n ≤ 2 ^ 62 * 2 ^ (n.log2 + 1) := Nat.mul_le_mul_left 4611686018427387904 (Nat.le_of_lt a2)
      omega
    unfold quoN
    omega
  rw [e1, show i - ((63 - m.log2 : Nat) : Int) - (j - ((63 - n.log2 : Nat) : Int)) - 63 = (i - j - ((t + 9 : Nat) : Int) - 1) + ((1 : Nat) : Int) from by omega]
  rw [rung_stk _ 1 _ (Or.inl (by show 18014398509481984 ≤ quoN m n (t + 9) / 2; omega))]
  rw [← quo_stk m n t 9 hn (by omega), show i - j - (t : Int) - 1 = (i - j - ((t + 9 : Nat) : Int) - 1) + ((9 : Nat) : Int) from by omega]
  rw [rung_stk _ 9 _ (Or.inl (by show 18014398509481984 ≤ quoN m n (t + 9) / 512; omega))]

end Go.Proofs.YtaikkmehmiiffaaGreatDoor
/- Plain: the school method of division by words of 32 bits (math/bits.Div64). -/
namespace Go.Proofs.YtaikkmehmiiffaaGreatDoor
set_option linter.unusedVariables false

/-- the guess of a digit is not below it; what is left of the upper part -/
structure Guess (U N y y1 y0 Q R : Int) : Prop where
  nonneg : 0 ≤ Q
  top : Q ≤ 4294967297
  above : U * 4294967296 + N < (Q + 1) * y
  rest : R = U - Q * y1
  r0 : 0 ≤ R
  r1 : R < 4294967296

structure Divisor (U N y y1 y0 : Int) : Prop where
  u0 : 0 ≤ U
  u1 : U < y
  n0 : 0 ≤ N
  n1 : N < 4294967296
  hy : y = y1 * 4294967296 + y0
  hi : 2147483648 ≤ y1
  hi2 : y1 < 4294967296
  lo : 0 ≤ y0
  lo2 : y0 < 4294967296

theorem guess_start {U N y y1 y0 : Int} (h : Divisor U N y y1 y0) : Guess U N y y1 y0 (U / y1) (U - U / y1 * y1) := by
  obtain ⟨u0, u1, n0, n1, hy, hi, hi2, lo, lo2⟩ := h
  have hd := Int.mul_ediv_add_emod U y1
  have hm0 := Int.emod_nonneg U (show y1 ≠ 0 by omega)
  have hm1 := Int.emod_lt_of_pos U (show 0 < y1 by omega)
  have hq0 : 0 ≤ U / y1 := Int.ediv_nonneg u0 (by omega)
  rw [Int.mul_comm] at hd
  generalize U / y1 = Q at *
  generalize U % y1 = m at *
  have e1 : (Q + 1) * y = (Q * y1 + y1) * 4294967296 + (Q + 1) * y0 := by rw [hy]; grind
  have p0 : 0 ≤ (Q + 1) * y0 := Int.mul_nonneg (by omega) lo
  refine ⟨hq0, ?_, ?_, rfl, by omega, by omega⟩
  · by_cases c : Q ≤ 4294967297
    · exact c
    · exfalso
      have h2 : 4294967298 * y1 ≤ Q * y1 := Int.mul_le_mul_of_nonneg_right (by omega) (by omega)
      omega
  · rw [e1]
    generalize (Q + 1) * y0 = z at *
    generalize Q * y1 = x at *
    omega

theorem guess_done {U N y y1 y0 Q R : Int} (h : Divisor U N y y1 y0) (g : Guess U N y y1 y0 Q R) (c : Q * y0 ≤ 4294967296 * R + N) : Q = (U * 4294967296 + N) / y := by
  obtain ⟨u0, u1, n0, n1, hy, hi, hi2, lo, lo2⟩ := h
  obtain ⟨q0, q1, ha, hr, r0, r1⟩ := g
  have e : Q * y = Q * y1 * 4294967296 + Q * y0 := by rw [hy]; grind
  have le : Q * y ≤ U * 4294967296 + N := by rw [e]; omega
  have hy0 : 0 < y := by omega
  have h1 := (Int.le_ediv_iff_mul_le hy0).2 le
  have h2 := (Int.ediv_lt_iff_lt_mul hy0).2 ha
  omega

theorem guess_more {U N y y1 y0 Q R : Int} (h : Divisor U N y y1 y0) (g : Guess U N y y1 y0 Q R) (c : 4294967296 ≤ Q ∨ 4294967296 * R + N < Q * y0) :
    1 ≤ Q ∧ U * 4294967296 + N < (Q - 1 + 1) * y := by
  obtain ⟨u0, u1, n0, n1, hy, hi, hi2, lo, lo2⟩ := h
  obtain ⟨q0, q1, ha, hr, r0, r1⟩ := g
  have e : Q * y = Q * y1 * 4294967296 + Q * y0 := by rw [hy]; grind
  have lt : U * 4294967296 + N < Q * y := by
    rcases c with c | c
    · have : 4294967296 * y ≤ Q * y := Int.mul_le_mul_of_nonneg_right c (by omega)
      omega
    · rw [e]; omega
  refine ⟨?_, by rw [show Q - 1 + 1 = Q from by omega]; exact lt⟩
  by_cases c0 : 1 ≤ Q
  · exact c0
  · exfalso
    have : Q = 0 := by omega
    rw [this, Int.zero_mul] at lt
    omega

theorem guess_break {U N y y1 y0 Q R : Int} (h : Divisor U N y y1 y0) (g : Guess U N y y1 y0 Q R) (c : 4294967296 ≤ Q ∨ 4294967296 * R + N < Q * y0) (b : 4294967296 ≤ R + y1) :
    Q - 1 = (U * 4294967296 + N) / y := by
  obtain ⟨g1, g2⟩ := guess_more h g c
  obtain ⟨u0, u1, n0, n1, hy, hi, hi2, lo, lo2⟩ := h
  obtain ⟨q0, q1, ha, hr, r0, r1⟩ := g
  have e : (Q - 1) * y = (Q * y1 - y1) * 4294967296 + (Q - 1) * y0 := by rw [hy]; grind
  have p : (Q - 1) * y0 ≤ 4294967296 * 4294967295 := Int.mul_le_mul (by omega) (by omega) lo (by omega)
  have le : (Q - 1) * y ≤ U * 4294967296 + N := by
    rw [e]
    generalize (Q - 1) * y0 = z at *
    generalize Q * y1 = x at *
    omega
  have hy0 : 0 < y := by omega
  have h1 := (Int.le_ediv_iff_mul_le hy0).2 le
  have h2 := (Int.ediv_lt_iff_lt_mul hy0).2 g2
  omega

theorem guess_next {U N y y1 y0 Q R : Int} (h : Divisor U N y y1 y0) (g : Guess U N y y1 y0 Q R) (c : 4294967296 ≤ Q ∨ 4294967296 * R + N < Q * y0) (b : R + y1 < 4294967296) :
    Guess U N y y1 y0 (Q - 1) (R + y1) := by
  obtain ⟨g1, g2⟩ := guess_more h g c
  obtain ⟨u0, u1, n0, n1, hy, hi, hi2, lo, lo2⟩ := h
  obtain ⟨q0, q1, ha, hr, r0, r1⟩ := g
  exact ⟨by omega, by omega, g2, by rw [hr]; grind, by omega, b⟩

/-- both digits make the quotient -/
theorem two_digits (hi lo y : Int) (h0 : 0 ≤ hi) (h1 : hi < y) (_l0 : 0 ≤ lo) :
    let q1 := (hi * 4294967296 + lo / 4294967296) / y
    let u := (hi * 4294967296 + lo / 4294967296) % y
    let q0 := (u * 4294967296 + lo % 4294967296) / y
    q1 * 4294967296 + q0 = (hi * 18446744073709551616 + lo) / y ∧ (u * 4294967296 + lo % 4294967296) % y = (hi * 18446744073709551616 + lo) % y := by
  intro q1 u q0
  have hy : 0 < y := by omega
  have a1 := Int.mul_ediv_add_emod (hi * 4294967296 + lo / 4294967296) y
  have a2 := Int.mul_ediv_add_emod (u * 4294967296 + lo % 4294967296) y
  have b1 := Int.emod_nonneg (u * 4294967296 + lo % 4294967296) (show y ≠ 0 by omega)
  have b2 := Int.emod_lt_of_pos (u * 4294967296 + lo % 4294967296) hy
  change y * q1 + u = _ at a1
  change y * q0 + _ = _ at a2
  generalize (u * 4294967296 + lo % 4294967296) % y = r at *
  have key : hi * 18446744073709551616 + lo = r + (q1 * 4294967296 + q0) * y := by
    have e : (q1 * 4294967296 + q0) * y = y * q1 * 4294967296 + y * q0 := by grind
    rw [e]
    generalize y * q1 = A at *
    generalize y * q0 = B at *
    omega
  rw [key, Int.add_mul_ediv_right _ _ (by omega), Int.add_mul_emod_self_right, Int.ediv_eq_zero_of_lt b1 b2, Int.emod_eq_of_lt b1 b2]
  exact ⟨by omega, rfl⟩

end Go.Proofs.YtaikkmehmiiffaaGreatDoor
/- Plain: what is rounded once is rounded; the numbers of whole numbers. -/
namespace Go.Proofs.YtaikkmehmiiffaaGreatDoor
set_option linter.unusedVariables false

/-- what was kept is the number -/
theorem rung_kept (K : Nat) (L : Int) (hL : -1074 ≤ L) (hK : K ≤ 9007199254740992) (hn : L ≠ -1074 → 4503599627370496 ≤ K) :
    rung K L = min ((L + 1074).toNat * 4503599627370496 + K) 9218868437227405312 := by
  by_cases hz : K = 0
  · subst hz
    have : L = -1074 := Classical.byContradiction fun c => by have := hn c; omega
    subst this
    simp [rung]
  by_cases ht : K = 9007199254740992
  · subst ht
    have l : Nat.log2 9007199254740992 = 53 := by decide +kernel
    have e : lastPlace 9007199254740992 L = L + 1 := by unfold lastPlace; rw [l]; omega
    unfold rung
    rw [if_neg hz, e, show (L - (L + 1)).toNat = 0 from by omega, show (L + 1 - L).toNat = 1 from by omega]
    have r : rne (9007199254740992 * 2 ^ 0) 1 = 4503599627370496 := by decide +kernel
    rw [r, show (L + 1 + 1074).toNat = (L + 1074).toNat + 1 from by omega]
    generalize (L + 1074).toNat = z
    omega
  · have e : lastPlace K L = L := by
      unfold lastPlace
      have l := (Nat.log2_lt hz).2 (show K < 2 ^ 53 by show K < 9007199254740992; omega)
      by_cases c : L = -1074
      · omega
      · have := hn c
        have := log2_ge K 52 this
        omega
    unfold rung
    rw [if_neg hz, e, show (L - L).toNat = 0 from by omega, rne_zero, Nat.pow_zero, Nat.mul_one]

theorem last_ge (M : Nat) (X : Int) : -1074 ≤ lastPlace M X := by unfold lastPlace; omega

theorem rung_again (M : Nat) (X : Int) (hM : M ≠ 0) :
    rung M X = rung (rne (M * 2 ^ (X - lastPlace M X).toNat) (lastPlace M X - X).toNat) (lastPlace M X) := by
  rw [rung_kept _ _ (last_ge M X) (kept_le M X) (fun c => kept_ge M X hM (by unfold lastPlace at c ⊢; omega))]
  conv => lhs; unfold rung
  rw [if_neg hM]

/-- above the last place: what is cut off is rounded -/
theorem rung_shed (M : Nat) (X L : Int) (C : Nat) (hM : M ≠ 0) (hL : lastPlace M X = L) (hC : L - X = C) : rung M X = rung (rne M C) L := by
  have := rung_again M X hM
  rw [hL, show (X - L).toNat = 0 from by omega, show (L - X).toNat = C from by omega, Nat.pow_zero, Nat.mul_one] at this
  exact this

/-- a half behind the last bit -/
def rneH (n d : Nat) : Nat := n / 2 ^ d + (if 2 ^ d ≤ 2 * (n % 2 ^ d) then 1 else 0)

theorem rne_half (n d : Nat) (hd : 1 ≤ d) : rne (2 * n + 1) (d + 1) = rneH n d := by
  unfold rne rneH
  have p : 2 ^ (d + 1) = 2 * 2 ^ d := by rw [Nat.pow_succ]; omega
  obtain ⟨c, rfl⟩ : ∃ c, d = c + 1 := ⟨d - 1, by omega⟩
  have p2 : 2 ^ (c + 1) = 2 * 2 ^ c := by rw [Nat.pow_succ]; omega
  have q : (2 * n + 1) / 2 ^ (c + 1 + 1) = n / 2 ^ (c + 1) := by
    rw [p, ← Nat.div_div_eq_div_mul, show (2 * n + 1) / 2 = n from by omega]
  have r : (2 * n + 1) % 2 ^ (c + 1 + 1) = 2 * (n % 2 ^ (c + 1)) + 1 := by
    have h1 := Nat.div_add_mod (2 * n + 1) (2 ^ (c + 1 + 1))
    have h2 := Nat.div_add_mod n (2 ^ (c + 1))
    rw [q, p, Nat.mul_assoc] at h1
    rw [p]
    generalize 2 ^ (c + 1) * (n / 2 ^ (c + 1)) = z at *
    omega
  rw [q, r, p, p2]
  generalize n % (2 * 2 ^ c) = R
  generalize 2 ^ c = P
  generalize n / (2 * P) = Q
  by_cases h : 2 * P ≤ 2 * R
  · rw [if_pos h, if_pos (Or.inl (by omega))]
  · rw [if_neg h, if_neg (by omega)]

theorem rung_shed_half (n : Nat) (X L : Int) (C : Nat) (hn : n ≠ 0) (hL : lastPlace n X = L) (hC : L - X = C) (h1 : 1 ≤ C) :
    rung (2 * n + 1) (X - 1) = rung (rneH n C) L := by
  have hl : (2 * n + 1).log2 = n.log2 + 1 := by
    have a := Nat.log2_self_le hn
    have b := lt_two_log2 n
    rw [Nat.log2_eq_iff (by omega)]
    constructor
    · rw [Nat.pow_succ]; omega
    · rw [Nat.pow_succ]; omega
  have e : lastPlace (2 * n + 1) (X - 1) = L := by rw [← hL]; unfold lastPlace; rw [hl]; omega
  rw [rung_shed (2 * n + 1) (X - 1) L (C + 1) (by omega) e (by omega), rne_half n C h1]

/-- a whole number of at most 53 bits: 53 bits, times a power of two -/
theorem whole_parts (n : Nat) (h0 : 0 < n) (h1 : n ≤ 9007199254740992) :
    ∃ (m : Nat) (d : Int), 4503599627370496 ≤ m ∧ m < 9007199254740992 ∧ -1 ≤ d ∧ d ≤ 52 ∧ ∀ k : Int, rung n k = rung m (k - d) := by
  by_cases c : n = 9007199254740992
  · subst c
    refine ⟨4503599627370496, -1, by omega, by omega, by omega, by omega, fun k => ?_⟩
    have := rung_scale 4503599627370496 1 k
    rw [show 4503599627370496 * 2 ^ 1 = 9007199254740992 from rfl] at this
    rw [this]
    congr 1
  · have hz : n ≠ 0 := by omega
    have l1 := Nat.log2_self_le hz
    have l2 := lt_two_log2 n
    have l3 := (Nat.log2_lt hz).2 (show n < 2 ^ 53 by show n < 9007199254740992; omega)
    obtain ⟨d, hd⟩ : ∃ d, d = 52 - n.log2 := ⟨_, rfl⟩
    have p := Nat.two_pow_pos d
    have b1 : 4503599627370496 ≤ n * 2 ^ d := by
      have := Nat.mul_le_mul_right (2 ^ d) l1
      rw [← Nat.pow_add, show n.log2 + d = 52 from by omega] at this
      exact this
    have b2 : n * 2 ^ d < 9007199254740992 := by
      have := (Nat.mul_lt_mul_right p).2 l2
      rw [← Nat.pow_add, show n.log2 + 1 + d = 53 from by omega] at this
      exact this
    refine ⟨n * 2 ^ d, d, b1, b2, by omega, by omega, fun k => ?_⟩
    rw [rung_scale]
    congr 1
    omega

/-- a word of 53 bits, at its place -/
theorem rung_word (m : Nat) (d : Int) (h0 : 4503599627370496 ≤ m) (h1 : m < 9007199254740992) (d0 : -900 ≤ d) (d1 : d ≤ 1000) :
    ∃ q : Nat, (q : Int) = 1075 - d ∧ rung m (-d) = q * 4503599627370496 + (m - 4503599627370496) := by
  have own := rung_own m (-d) ⟨by omega, by omega, by omega, by omega, fun _ => by omega⟩
  refine ⟨(1075 - d).toNat, by omega, ?_⟩
  rw [own, show (1075 - d).toNat = (-d + 1074).toNat + 1 from by omega]
  generalize (-d + 1074).toNat = z
  omega

end Go.Proofs.YtaikkmehmiiffaaGreatDoor
/- Plain: how the document's Near cuts and rounds. -/
namespace Go.Proofs.YtaikkmehmiiffaaGreatDoor
set_option linter.unusedVariables false

/-- far below, or far above: whatever the place -/
theorem rung_lo (M : Nat) (X : Int) (hM : M < 36893488147419103232) (hX : X ≤ -1200) : rung M X = 0 := by
  have e := rung_scale 1 65 X
  have m := rung_mono X (show M ≤ 1 * 2 ^ 65 by show M ≤ 36893488147419103232; omega)
  rw [e] at m
  have z : rung 1 (X + ((65 : Nat) : Int)) = 0 := by
    have l : Nat.log2 1 = 0 := by decide
    have L : lastPlace 1 (X + ((65 : Nat) : Int)) = -1074 := by unfold lastPlace; rw [l]; omega
    unfold rung
    rw [if_neg (by decide), L, show (X + ((65 : Nat) : Int) - -1074).toNat = 0 from by omega]
    obtain ⟨d, hd⟩ : ∃ d : Nat, (-1074 - (X + ((65 : Nat) : Int))).toNat = d := ⟨_, rfl⟩
    rw [hd]
    have h2 : 2 ^ 2 ≤ 2 ^ d := Nat.pow_le_pow_right (by decide) (by omega)
    unfold rne
    have e1 : 1 * 2 ^ 0 / 2 ^ d = 0 := Nat.div_eq_of_lt (by omega)
    have e2 : 1 * 2 ^ 0 % 2 ^ d = 1 := Nat.mod_eq_of_lt (by omega)
    rw [e1, e2, if_neg (by omega)]
    rfl
  omega

theorem rung_hi (M : Nat) (X : Int) (hM : M ≠ 0) (hX : 1100 ≤ X) : rung M X = 9218868437227405312 := by
  have hl := Nat.log2_self_le hM
  have L : lastPlace M X = X + M.log2 - 52 := by unfold lastPlace; omega
  have k := kept_ge M X hM L
  have le := rung_le M X
  unfold rung at le ⊢
  rw [if_neg hM] at le ⊢
  rw [L] at k le ⊢
  generalize rne (M * 2 ^ (X - (X + (M.log2 : Int) - 52)).toNat) (X + (M.log2 : Int) - 52 - X).toNat = A at *
  have q : 2046 ≤ (X + (M.log2 : Int) - 52 + 1074).toNat := by omega
  generalize (X + (M.log2 : Int) - 52 + 1074).toNat = Q at *
  clear hl L
  omega

/-- nothing is left if 65 bits and more are cut off -/
theorem rung_gone (M : Nat) (X : Int) (C : Nat) (hM : M < 18446744073709551616) (hL : lastPlace M X - X = C) (hC : 64 < C) : rung M X = 0 := by
  by_cases hz : M = 0
  · subst hz; simp [rung]
  rw [rung_shed M X (lastPlace M X) C hz rfl hL]
  have h : 2 ^ 65 ≤ 2 ^ C := Nat.pow_le_pow_right (by decide) (by omega)
  have h' : 36893488147419103232 ≤ 2 ^ C := h
  have e1 : M / 2 ^ C = 0 := Nat.div_eq_of_lt (by omega)
  have e2 : M % 2 ^ C = M := Nat.mod_eq_of_lt (by omega)
  have r : rne M C = 0 := by
    unfold rne
    rw [e1, e2, if_neg (by omega)]
  rw [r]
  simp [rung]

theorem rung_gone_half (M : Nat) (X : Int) (C : Nat) (h0 : M ≠ 0) (hM : M < 18446744073709551616) (hL : lastPlace M X - X = C) (hC : 64 < C) : rung (2 * M + 1) (X - 1) = 0 := by
  rw [rung_shed_half M X (lastPlace M X) C h0 rfl hL (by omega)]
  have h : 2 ^ 65 ≤ 2 ^ C := Nat.pow_le_pow_right (by decide) (by omega)
  have h' : 36893488147419103232 ≤ 2 ^ C := h
  have e1 : M / 2 ^ C = 0 := Nat.div_eq_of_lt (by omega)
  have e2 : M % 2 ^ C = M := Nat.mod_eq_of_lt (by omega)
  have r : rneH M C = 0 := by
    unfold rneH
    rw [e1, e2, if_neg (by omega)]
  rw [r]
  simp [rung]

/-- rne by whole part, rest and middle -/
theorem rne_by (M C K S D : Nat) (hC : 1 ≤ C) (hK : M / 2 ^ C = K) (hS : M % 2 ^ C = S) (hD : 2 ^ (C - 1) = D) :
    ((D < S ∨ (S = D ∧ K % 2 = 1)) → rne M C = K + 1) ∧ (¬ (D < S ∨ (S = D ∧ K % 2 = 1)) → rne M C = K) := by
  obtain ⟨c, rfl⟩ : ∃ c, C = c + 1 := ⟨C - 1, by omega⟩
  have p : 2 ^ (c + 1) = 2 * D := by rw [← hD, Nat.pow_succ, show c + 1 - 1 = c from rfl]; omega
  unfold rne
  rw [hK, hS, p]
  constructor
  · intro h; rw [if_pos (by omega)]
  · intro h; rw [if_neg (by omega)]; rfl

theorem rneH_by (M C K S D : Nat) (hC : 1 ≤ C) (hK : M / 2 ^ C = K) (hS : M % 2 ^ C = S) (hD : 2 ^ (C - 1) = D) :
    ((D < S ∨ S = D) → rneH M C = K + 1) ∧ (¬ (D < S ∨ S = D) → rneH M C = K) := by
  obtain ⟨c, rfl⟩ : ∃ c, C = c + 1 := ⟨C - 1, by omega⟩
  have p : 2 ^ (c + 1) = 2 * D := by rw [← hD, Nat.pow_succ, show c + 1 - 1 = c from rfl]; omega
  unfold rneH
  rw [hK, hS, p]
  constructor
  · intro h; rw [if_pos (by omega)]
  · intro h; rw [if_neg (by omega)]; rfl

/-- what a shift by fewer than 64 places leaves -/
theorem shift_parts (M : Nat) (C : Nat) (hM : M < 18446744073709551616) (h1 : 1 ≤ C) (hC : C < 64) :
    ((M : Nat) : Int) / 2 ^ C = ((M / 2 ^ C : Nat) : Int) ∧ (((M / 2 ^ C : Nat) : Int) * 2 ^ C) % 18446744073709551616 = ((M / 2 ^ C * 2 ^ C : Nat) : Int) ∧
    ((M : Nat) : Int) - ((M / 2 ^ C * 2 ^ C : Nat) : Int) = ((M % 2 ^ C : Nat) : Int) ∧ ((2 : Int) ^ (C - 1)) % 18446744073709551616 = ((2 ^ (C - 1) : Nat) : Int) := by
  have e := Nat.div_add_mod M (2 ^ C)
  have c : ((2 ^ C : Nat) : Int) = (2 : Int) ^ C := by rw [Int.natCast_pow]; rfl
  have c1 : ((2 ^ (C - 1) : Nat) : Int) = (2 : Int) ^ (C - 1) := by rw [Int.natCast_pow]; rfl
  have b : 2 ^ (C - 1) < 2 ^ 64 := Nat.pow_lt_pow_right (by decide) (by omega)
  have b' : 2 ^ (C - 1) < 18446744073709551616 := b
  rw [Nat.mul_comm] at e
  refine ⟨by rw [← c, Int.natCast_ediv], ?_, by omega, ?_⟩
  · rw [← c, ← Int.natCast_mul]
    generalize M / 2 ^ C * 2 ^ C = z at *
    omega
  · rw [← c1]
    generalize 2 ^ (C - 1) = z at *
    omega

end Go.Proofs.YtaikkmehmiiffaaGreatDoor
/- Plain: the value of a rounded number that needed no rounding. -/
namespace Go.Proofs.YtaikkmehmiiffaaGreatDoor
set_option linter.unusedVariables false

theorem valN_low (r : Nat) (h : r < 4503599627370496) : valN r = r := by unfold valN; rw [if_pos h]
theorem valN_high (q m : Nat) (h0 : 4503599627370496 ≤ m) (h1 : m < 9007199254740992) : valN (q * 4503599627370496 + m) = m * 2 ^ q := by
  unfold valN
  rw [if_neg (by omega), show (q * 4503599627370496 + m) % 4503599627370496 = m - 4503599627370496 from by omega, show (q * 4503599627370496 + m) / 4503599627370496 - 1 = q from by omega, show 4503599627370496 + (m - 4503599627370496) = m from by omega]

/-- what has no more bits than there is room for is kept -/
theorem val_rung (m : Nat) (e : Int) (hm : m < 9007199254740992) (he : -1074 ≤ e) (he1 : e ≤ 971) : valN (rung m e) = m * 2 ^ (e + 1074).toNat := by
  by_cases hz : m = 0
  · subst hz
    have : rung 0 e = 0 := by simp [rung]
    rw [this, valN_low 0 (by decide)]; simp
  have l1 := Nat.log2_self_le hz
  have l2 := lt_two_log2 m
  have l3 := (Nat.log2_lt hz).2 (show m < 2 ^ 53 from hm)
  obtain ⟨j, hj⟩ : ∃ j : Nat, e = -1074 + j := ⟨(e + 1074).toNat, by omega⟩
  subst hj
  rw [show (-1074 + (j : Int) + 1074).toNat = j from by omega]
  by_cases c : 52 - m.log2 ≤ j
  · obtain ⟨k, hk⟩ : ∃ k, k = 52 - m.log2 := ⟨_, rfl⟩
    have p := Nat.two_pow_pos k
    have b1 : 4503599627370496 ≤ m * 2 ^ k := by
      have := Nat.mul_le_mul_right (2 ^ k) l1
      rw [← Nat.pow_add, show m.log2 + k = 52 from by omega] at this
      exact this
    have b2 : m * 2 ^ k < 9007199254740992 := by
      have := (Nat.mul_lt_mul_right p).2 l2
      rw [← Nat.pow_add, show m.log2 + 1 + k = 53 from by omega] at this
      exact this
    obtain ⟨q, hq⟩ : ∃ q, j = q + k := ⟨j - k, by omega⟩
    have sc := rung_scale m k (-1074 + (q : Int))
    rw [show -1074 + (q : Int) + (k : Int) = -1074 + (j : Int) from by omega] at sc
    have own := rung_own (m * 2 ^ k) (-1074 + (q : Int)) ⟨by omega, by omega, by omega, by omega, fun _ => by omega⟩
    rw [← sc, own, show (-1074 + (q : Int) + 1074).toNat = q from by omega, valN_high q _ b1 b2, hq, Nat.pow_add, Nat.mul_assoc, Nat.mul_comm (2 ^ q)]
  · have sc := rung_scale m j (-1074)
    have b : m * 2 ^ j < 4503599627370496 := by
      have p := Nat.two_pow_pos j
      have := (Nat.mul_lt_mul_right p).2 l2
      rw [← Nat.pow_add] at this
      have h : 2 ^ (m.log2 + 1 + j) ≤ 2 ^ 52 := Nat.pow_le_pow_right (by decide) (by omega)
      have h' : 2 ^ (m.log2 + 1 + j) ≤ 4503599627370496 := h
      omega
    have pos : 0 < m * 2 ^ j := Nat.mul_pos (by omega) (Nat.two_pow_pos j)
    have own := rung_own (m * 2 ^ j) (-1074) ⟨by omega, by omega, by omega, by omega, fun h => by omega⟩
    rw [← sc, own, show ((-1074 : Int) + 1074).toNat = 0 from rfl, Nat.zero_mul, Nat.zero_add, valN_low _ b]

/-- the value of a rank -/
def valR (r : Int) : Int := if r < 0 then -((valN (-r).toNat : Nat) : Int) else ((valN r.toNat : Nat) : Int)

theorem val_of_rank (a : Int) (h0 : 0 ≤ a) : valI a = valR (rankI a) := by
  unfold valI valR rankI
  by_cases c : a < 9223372036854775808
  · rw [if_pos c, if_pos c, if_neg (by omega)]
  · rw [if_neg c, if_neg c]
    by_cases d : a = 9223372036854775808
    · subst d
      rfl
    · rw [if_pos (by omega), show (-(9223372036854775808 - a)).toNat = (a - 9223372036854775808).toNat from by omega]

/-- a number's parts have its value -/
theorem val_parts (a : Int) (h0 : 0 ≤ a) (h : a < 18446744073709551616) (k : kindI a = 1) :
    valI a = if negB a.toNat then -(((manI a).toNat * 2 ^ (expI a + 1074).toNat : Nat) : Int) else (((manI a).toNat * 2 ^ (expI a + 1074).toNat : Nat) : Int) := by
  obtain ⟨_, f, e⟩ := read_fin a h0 h k
  obtain ⟨f1, f2, f3, f4, _⟩ := f
  have v := val_rung (manI a).toNat (expI a) (by omega) f3 f4
  have rl := rung_le (manI a).toNat (expI a)
  rw [← v]
  generalize rung (manI a).toNat (expI a) = R at *
  generalize negB a.toNat = s at *
  cases s
  · have e' : a = (R : Int) := by rw [e]; simp [sb]
    unfold valI
    rw [if_pos (by omega), e', Int.toNat_natCast, if_neg (by decide)]
  · have e' : a = 9223372036854775808 + (R : Int) := by rw [e]; simp [sb]
    unfold valI
    rw [if_neg (by omega), e', show (9223372036854775808 + (R : Int) - 9223372036854775808).toNat = R from by omega, if_pos rfl]

/-- a word that is not 0 in size is known by its rank -/
theorem word_of_rank (a b : Int) (h0 : 0 ≤ a) (h1 : a < 18446744073709551616) (h2 : 0 ≤ b) (h3 : b < 18446744073709551616) (hr : rankI a = rankI b) (hz : rankI b ≠ 0) : a = b := by
  unfold rankI at hr hz
  split at hr <;> split at hr <;> split at hz <;> omega

theorem zero_of_rank (a : Int) (hr : rankI a = 0) : a = 0 ∨ a = 9223372036854775808 := by
  unfold rankI at hr
  split at hr <;> omega

end Go.Proofs.YtaikkmehmiiffaaGreatDoor
/- Plain: numbers that are kept whole, their differences, and how often one goes into another. -/
namespace Go.Proofs.YtaikkmehmiiffaaGreatDoor
set_option linter.unusedVariables false

/-- no finite number is as great as 2 to this power, in units of the smallest -/
def topE : Nat := 2098
theorem te : topE = 2098 := rfl

/-- what is kept whole -/
def Rep (R : Nat) : Prop := (∃ m j : Nat, R = m * 2 ^ j ∧ m < 9007199254740992) ∧ R < 2 ^ topE

/-- its word -/
def wd (R : Nat) : Nat := rung R (-1074)

theorem rep_word (R : Nat) (h : Rep R) : valN (wd R) = R ∧ wd R < 9218868437227405312 := by
  obtain ⟨⟨m, j, hR, hm⟩, ht⟩ := h
  have ht0 := te
  unfold wd
  subst hR
  rw [rung_scale]
  by_cases hz : m = 0
  · subst hz
    have : rung 0 (-1074 + (j : Int)) = 0 := by simp [rung]
    rw [this, valN_low 0 (by decide)]
    refine ⟨by simp, by decide⟩
  have l1 := Nat.log2_self_le hz
  have l2 := lt_two_log2 m
  have l3 := (Nat.log2_lt hz).2 (show m < 2 ^ 53 from hm)
  by_cases c : 52 - m.log2 ≤ j
  · obtain ⟨k, hk⟩ : ∃ k, k = 52 - m.log2 := ⟨_, rfl⟩
    have p := Nat.two_pow_pos k
    have b1 : 4503599627370496 ≤ m * 2 ^ k := by
      have := Nat.mul_le_mul_right (2 ^ k) l1
      rw [← Nat.pow_add, show m.log2 + k = 52 from by omega] at this
      exact this
    have b2 : m * 2 ^ k < 9007199254740992 := by
      have := (Nat.mul_lt_mul_right p).2 l2
      rw [← Nat.pow_add, show m.log2 + 1 + k = 53 from by omega] at this
      exact this
    obtain ⟨q, hq⟩ : ∃ q, j = q + k := ⟨j - k, by omega⟩
    have e : m * 2 ^ j = m * 2 ^ k * 2 ^ q := by rw [hq, Nat.pow_add, Nat.mul_assoc, Nat.mul_comm (2 ^ q)]
    have hq2 : q ≤ 2045 := by
      refine Nat.le_of_not_lt fun c2 => ?_
      have a1 : 2 ^ 52 * 2 ^ q ≤ m * 2 ^ k * 2 ^ q := Nat.mul_le_mul_right _ b1
      rw [← Nat.pow_add, ← e] at a1
      have a2 : 2 ^ topE ≤ 2 ^ (52 + q) := Nat.pow_le_pow_right (by decide) (by omega)
      omega
    have sc := rung_scale m k (-1074 + (q : Int))
    rw [show -1074 + (q : Int) + (k : Int) = -1074 + (j : Int) from by omega] at sc
    have own := rung_own (m * 2 ^ k) (-1074 + (q : Int)) ⟨by omega, by omega, by omega, by omega, fun _ => by omega⟩
    rw [← sc, own, show (-1074 + (q : Int) + 1074).toNat = q from by omega, valN_high q _ b1 b2]
    refine ⟨e.symm, ?_⟩
    clear e ht sc own
    generalize m * 2 ^ k = z at *
    omega
  · have sc := rung_scale m j (-1074)
    have b : m * 2 ^ j < 4503599627370496 := by
      have p := Nat.two_pow_pos j
      have := (Nat.mul_lt_mul_right p).2 l2
      rw [← Nat.pow_add] at this
      have h : 2 ^ (m.log2 + 1 + j) ≤ 2 ^ 52 := Nat.pow_le_pow_right (by decide) (by omega)
      have h' : 2 ^ (m.log2 + 1 + j) ≤ 4503599627370496 := h
      omega
    have pos : 0 < m * 2 ^ j := Nat.mul_pos (by omega) (Nat.two_pow_pos j)
    have own := rung_own (m * 2 ^ j) (-1074) ⟨by omega, by omega, by omega, by omega, fun h => by omega⟩
    rw [← sc, own, show ((-1074 : Int) + 1074).toNat = 0 from rfl, Nat.zero_mul, Nat.zero_add, valN_low _ b]
    exact ⟨rfl, by omega⟩

theorem wd_zero : wd 0 = 0 := by unfold wd; simp [rung]

theorem wd_pos (R : Nat) (h : Rep R) (h0 : 0 < R) : 0 < wd R := by
  refine Nat.pos_of_ne_zero fun c => ?_
  have := (rep_word R h).1
  rw [c, valN_low 0 (by decide)] at this
  omega

theorem wd_lt {R S : Nat} (hR : Rep R) (hS : Rep S) : wd R < wd S ↔ R < S := by
  have a := (rep_word R hR).1
  have b := (rep_word S hS).1
  constructor
  · intro h; have := valN_lt h; omega
  · intro h
    refine Nat.lt_of_not_le fun c => ?_
    rcases Nat.lt_or_eq_of_le c with c | c
    · have := valN_lt c; omega
    · rw [c] at b; omega

theorem rep_zero : Rep 0 := ⟨⟨0, 0, rfl, by decide⟩, Nat.two_pow_pos _⟩

/-- a difference of two that are near each other is kept whole -/
theorem rep_sub (R Z : Nat) (hR : Rep R) (hZ : Rep Z) (h1 : Z ≤ R) (h2 : R < 2 * Z) : Rep (R - Z) := by
  obtain ⟨⟨m, i, rfl, hm⟩, hr⟩ := hR
  obtain ⟨⟨n, j, rfl, hn⟩, hz⟩ := hZ
  refine ⟨?_, by omega⟩
  by_cases c : j ≤ i
  · obtain ⟨d, rfl⟩ : ∃ d, i = d + j := ⟨i - j, by omega⟩
    have e : m * 2 ^ (d + j) = m * 2 ^ d * 2 ^ j := by rw [Nat.pow_add, Nat.mul_assoc]
    rw [e] at h1 h2 ⊢
    have p := Nat.two_pow_pos j
    refine ⟨m * 2 ^ d - n, j, by rw [Nat.sub_mul], ?_⟩
    have h3 : m * 2 ^ d * 2 ^ j < (n + n) * 2 ^ j := by rw [Nat.add_mul]; omega
    have h4 := Nat.lt_of_mul_lt_mul_right h3
    omega
  · obtain ⟨d, rfl⟩ : ∃ d, j = d + i := ⟨j - i, by omega⟩
    have e : n * 2 ^ (d + i) = n * 2 ^ d * 2 ^ i := by rw [Nat.pow_add, Nat.mul_assoc]
    rw [e]
    exact ⟨m - n * 2 ^ d, i, by rw [Nat.sub_mul], by omega⟩

theorem rep_scale (Y k : Nat) (hY : Rep Y) (h : Y * 2 ^ k < 2 ^ topE) : Rep (Y * 2 ^ k) := by
  obtain ⟨⟨m, i, rfl, hm⟩, _⟩ := hY
  refine ⟨⟨m, i + k, by rw [Nat.pow_add, Nat.mul_assoc], hm⟩, h⟩

/-- by how many doublings one comes as near to another as it can -/
theorem mod_times (R Y gr gy cr cy : Nat) (hr : R * 4503599627370496 = gr * 2 ^ cr) (hy : Y * 4503599627370496 = gy * 2 ^ cy)
    (r0 : 4503599627370496 ≤ gr) (r1 : gr < 9007199254740992) (y0 : 4503599627370496 ≤ gy) (y1 : gy < 9007199254740992) (h : Y ≤ R) :
    (gy ≤ gr → ∃ k : Nat, cr = cy + k ∧ Y * 2 ^ k ≤ R ∧ R < 2 * (Y * 2 ^ k)) ∧ (gr < gy → ∃ k : Nat, cr = cy + k + 1 ∧ Y * 2 ^ k ≤ R ∧ R < 2 * (Y * 2 ^ k)) := by
  have key : gy * 2 ^ cy ≤ gr * 2 ^ cr := by omega
  have sc : ∀ k : Nat, Y * 2 ^ k * 4503599627370496 = gy * 2 ^ (cy + k) := fun k => by
    rw [Nat.mul_right_comm, hy, Nat.pow_add, Nat.mul_assoc]
  constructor
  · intro c
    have le : cy ≤ cr := by
      refine Nat.le_of_not_lt fun d => ?_
      obtain ⟨e, rfl⟩ : ∃ e, cy = cr + 1 + e := ⟨cy - cr - 1, by omega⟩
      have p := Nat.two_pow_pos cr
      have q := Nat.two_pow_pos e
      have a : gy * 2 ^ (cr + 1 + e) = gy * 2 * 2 ^ e * 2 ^ cr := by
        have e1 : 2 ^ (cr + 1 + e) = 2 * 2 ^ e * 2 ^ cr := by
          rw [show cr + 1 + e = 1 + e + cr from by omega, Nat.pow_add, Nat.pow_add]
        rw [e1, ← Nat.mul_assoc, ← Nat.mul_assoc]
      rw [a] at key
      have b := Nat.le_of_mul_le_mul_right key p
      have b2 : gy * 2 * 1 ≤ gy * 2 * 2 ^ e := Nat.mul_le_mul_left _ q
      omega
    obtain ⟨k, rfl⟩ : ∃ k, cr = cy + k := ⟨cr - cy, by omega⟩
    have s := sc k
    have p := Nat.two_pow_pos (cy + k)
    refine ⟨k, rfl, ?_, ?_⟩
    · have : gy * 2 ^ (cy + k) ≤ gr * 2 ^ (cy + k) := Nat.mul_le_mul_right _ c
      omega
    · have : gr * 2 ^ (cy + k) < (gy + gy) * 2 ^ (cy + k) := (Nat.mul_lt_mul_right p).2 (by omega)
      rw [Nat.add_mul] at this
      omega
  · intro c
    have lt : cy < cr := by
      refine Nat.lt_of_not_le fun d => ?_
      have a : 2 ^ cr ≤ 2 ^ cy := Nat.pow_le_pow_right (by decide) d
      have b : gr * 2 ^ cr ≤ gr * 2 ^ cy := Nat.mul_le_mul_left _ a
      have e : gr * 2 ^ cy < gy * 2 ^ cy := (Nat.mul_lt_mul_right (Nat.two_pow_pos cy)).2 c
      omega
    obtain ⟨k, rfl⟩ : ∃ k, cr = cy + k + 1 := ⟨cr - cy - 1, by omega⟩
    have s := sc k
    have p := Nat.two_pow_pos (cy + k)
    have e : gr * 2 ^ (cy + k + 1) = (gr + gr) * 2 ^ (cy + k) := by
      rw [Nat.pow_succ, Nat.mul_comm (2 ^ (cy + k)) 2, ← Nat.mul_assoc]
      congr 1
      omega
    rw [e] at hr
    refine ⟨k, rfl, ?_, ?_⟩
    · have : gy * 2 ^ (cy + k) ≤ (gr + gr) * 2 ^ (cy + k) := Nat.mul_le_mul_right _ (by omega)
      omega
    · have : gr * 2 ^ (cy + k) < gy * 2 ^ (cy + k) := (Nat.mul_lt_mul_right p).2 c
      rw [Nat.add_mul] at hr
      omega

theorem mod_same (R Y k : Nat) (h : Y * 2 ^ k ≤ R) : (R - Y * 2 ^ k) % Y = R % Y := by
  have e : R = R - Y * 2 ^ k + Y * 2 ^ k := by omega
  conv => rhs; rw [e]
  rw [Nat.add_mul_mod_self_left]

end Go.Proofs.YtaikkmehmiiffaaGreatDoor
/- The number nearest to a quotient of two whole numbers: plain mathematics. -/
namespace Go.Proofs.YtaikkmehmiiffaaGreatDoor
set_option linter.unusedVariables false

/-- twice the whole part of N 2^t / M, and one where something is left -/
def stq (N M t : Nat) : Nat := 2 * (N * 2 ^ t / M) + (if N * 2 ^ t % M = 0 then 0 else 1)

theorem stq_scale (N M t c : Nat) (hc : 0 < c) : stq (N * c) (M * c) t = stq N M t := by
  unfold stq
  have e : N * c * 2 ^ t = N * 2 ^ t * c := by rw [Nat.mul_assoc, Nat.mul_comm c, ← Nat.mul_assoc]
  rw [e, Nat.mul_div_mul_right _ _ hc, Nat.mul_mod_mul_right]
  have : (N * 2 ^ t % M * c = 0) ↔ (N * 2 ^ t % M = 0) := by
    rw [Nat.mul_eq_zero]; omega
  simp only [this]

theorem stq_more (N M a b : Nat) : stq (N * 2 ^ b) M a = stq N M (a + b) := by
  unfold stq
  rw [Nat.mul_assoc, ← Nat.pow_add, Nat.add_comm b a]

/-- what lies below 2^b put aside -/
theorem stk_stq (N M a b : Nat) (hM : 0 < M) : stk (stq N M a) b = stq N (M * 2 ^ b) a := by
  unfold stq stk
  generalize N * 2 ^ a = X
  have hp := Nat.two_pow_pos b
  have e1 : X / (M * 2 ^ b) = X / M / 2 ^ b := by rw [Nat.div_div_eq_div_mul]
  have e2 : X % (M * 2 ^ b) = X % M + M * (X / M % 2 ^ b) := Nat.mod_mul
  rw [e1, e2]
  generalize X / M = Q
  generalize hR : X % M = R
  have hq : Q = 2 ^ b * (Q / 2 ^ b) + Q % 2 ^ b := (Nat.div_add_mod _ _).symm
  have hu : Q % 2 ^ b < 2 ^ b := Nat.mod_lt _ hp
  generalize Q / 2 ^ b = q at *
  generalize Q % 2 ^ b = u at *
  generalize 2 ^ b = P at *
  subst hq
  obtain ⟨s, hs, hs2⟩ : ∃ s, s = (if R = 0 then 0 else 1) ∧ s ≤ 1 := ⟨_, rfl, by split <;> omega⟩
  rw [← hs]
  have z : (R + M * u = 0) ↔ (2 * u + s = 0) := by
    rw [hs]
    constructor
    · intro h
      have h1 : M * u = 0 := by omega
      have h2 : u = 0 := by
        rcases Nat.mul_eq_zero.1 h1 with h | h
        · omega
        · exact h
      have h3 : R = 0 := by omega
      simp [h2, h3]
    · intro h
      have h2 : u = 0 := by omega
      have h3 : R = 0 := by
        rcases Nat.eq_zero_or_pos R with h | h
        · exact h
        · rw [if_neg (by omega)] at *; omega
      simp [h2, h3]
  have e3 : 2 * (P * q + u) + s = P * (2 * q) + (2 * u + s) := by
    rw [Nat.mul_add, ← Nat.mul_assoc, ← Nat.mul_assoc, Nat.mul_comm 2 P]; omega
  rw [e3]
  have hV : 2 * u + s < 2 * P := by omega
  generalize 2 * u + s = V at *
  by_cases c : V < P
  · have d1 : (P * (2 * q) + V) / P = 2 * q := by rw [Nat.mul_add_div hp, Nat.div_eq_of_lt c]; omega
    have d2 : (P * (2 * q) + V) % P = V := by rw [Nat.mul_add_mod, Nat.mod_eq_of_lt c]
    rw [d1, d2]
    by_cases v : V = 0
    · rw [if_pos v, if_pos (z.2 v)]; omega
    · rw [if_neg v, if_neg (fun h => v (z.1 h)), or_one]; omega
  · have d1 : (P * (2 * q) + V) / P = 2 * q + 1 := by
      rw [Nat.mul_add_div hp, show V = P * 1 + (V - P) from by omega, Nat.mul_add_div hp, Nat.div_eq_of_lt (by omega)]
    have d3 : ¬ (R + M * u = 0) := fun h => by have := z.1 h; omega
    rw [d1, or_one, if_neg d3]
    split <;> omega

/-- N / M to the nearest, looked at as finely as 2^-t -/
def rungQ (N M t : Nat) : Nat := rung (stq N M t) (-(t : Int) - 1)

theorem stq_ge (N M t : Nat) (h : 9007199254740992 ≤ N * 2 ^ t / M) : 18014398509481984 ≤ stq N M t := by unfold stq; split <;> omega

theorem rungQ_finer (N M t k : Nat) (hM : 0 < M) (h : 9007199254740992 ≤ N * 2 ^ t / M) : rungQ N M (t + k) = rungQ N M t := by
  unfold rungQ
  have e : stq N M t = stk (stq N M (t + k)) k := by
    rw [stk_stq _ _ _ _ hM, ← stq_scale N M t (2 ^ k) (Nat.two_pow_pos k), stq_more]
  rw [e]
  have h2 : 18014398509481984 ≤ stq N M (t + k) / 2 ^ k := by
    have := stq_ge N M t h
    rw [e] at this
    unfold stk at this
    split at this
    · exact this
    · rw [or_one] at this; omega
  have := rung_stk (stq N M (t + k)) k (-((t + k : Nat) : Int) - 1) (.inl h2)
  rw [← this]
  congr 1
  push_cast
  omega

/-- the number nearest to N / M -/
def nearQ (N M : Nat) : Nat := rungQ N M (M.log2 + 54)

theorem fine_enough (N M t : Nat) (hN : 0 < N) (hM : 0 < M) (ht : M.log2 + 54 ≤ t) : 9007199254740992 ≤ N * 2 ^ t / M := by
  rw [Nat.le_div_iff_mul_le hM]
  have h1 : M < 2 ^ (M.log2 + 1) := Nat.lt_log2_self
  have h2 : 2 ^ (M.log2 + 54) ≤ 2 ^ t := Nat.pow_le_pow_right (by decide) ht
  have h3 : 2 ^ (M.log2 + 54) = 9007199254740992 * 2 ^ (M.log2 + 1) := by
    rw [show M.log2 + 54 = 53 + (M.log2 + 1) from by omega, Nat.pow_add]
  have h4 : 1 * 2 ^ t ≤ N * 2 ^ t := Nat.mul_le_mul_right _ hN
  have h5 : 9007199254740992 * M ≤ 9007199254740992 * 2 ^ (M.log2 + 1) := Nat.mul_le_mul_left _ (by omega)
  omega

theorem rungQ_eq (N M t : Nat) (hN : 0 < N) (hM : 0 < M) (h : 9007199254740992 ≤ N * 2 ^ t / M) : rungQ N M t = nearQ N M := by
  unfold nearQ
  have f := fine_enough N M (M.log2 + 54) hN hM (Nat.le_refl _)
  rcases Nat.le_total t (M.log2 + 54) with c | c
  · obtain ⟨k, hk⟩ := Nat.exists_eq_add_of_le c
    rw [hk, rungQ_finer N M t k hM h]
  · obtain ⟨k, hk⟩ := Nat.exists_eq_add_of_le c
    rw [hk, rungQ_finer N M _ k hM f]

theorem nearQ_fine (N M t : Nat) (hN : 0 < N) (hM : 0 < M) (ht : M.log2 + 54 ≤ t) : nearQ N M = rungQ N M t :=
  (rungQ_eq N M t hN hM (fine_enough N M t hN hM ht)).symm

theorem nearQ_zero (M : Nat) : nearQ 0 M = 0 := by
  unfold nearQ rungQ stq; simp [rung]

theorem nearQ_scale (N M c : Nat) (hM : 0 < M) (hc : 0 < c) : nearQ (N * c) (M * c) = nearQ N M := by
  rcases Nat.eq_zero_or_pos N with h | h
  · subst h; rw [Nat.zero_mul, nearQ_zero, nearQ_zero]
  have hMc : 0 < M * c := Nat.mul_pos hM hc
  have hNc : 0 < N * c := Nat.mul_pos h hc
  have a := nearQ_fine (N * c) (M * c) ((M * c).log2 + 54 + (M.log2 + 54)) hNc hMc (by omega)
  have b := nearQ_fine N M ((M * c).log2 + 54 + (M.log2 + 54)) h hM (by omega)
  rw [a, b]
  unfold rungQ
  rw [stq_scale _ _ _ _ hc]

/-- as a division finds it: N 2^a by M 2^b, the place b - a -/
theorem near_of_parts (N M a b : Nat) (hN : 0 < N) (hM : 0 < M) (h : 9007199254740992 ≤ N * 2 ^ a / (M * 2 ^ b)) :
    rung (2 * (N * 2 ^ a / (M * 2 ^ b)) + (if N * 2 ^ a % (M * 2 ^ b) = 0 then 0 else 1)) ((b : Int) - a - 1) = nearQ N M := by
  have e : 2 * (N * 2 ^ a / (M * 2 ^ b)) + (if N * 2 ^ a % (M * 2 ^ b) = 0 then 0 else 1) = stk (stq N M a) b := by
    rw [stk_stq _ _ _ _ hM]; rfl
  rw [e]
  have h0 : 9007199254740992 ≤ N * 2 ^ a / M := by
    rw [← Nat.div_div_eq_div_mul] at h
    exact Nat.le_trans h (Nat.div_le_self _ _)
  have h2 : 18014398509481984 ≤ stq N M a / 2 ^ b := by
    have : 18014398509481984 ≤ stk (stq N M a) b := by
      rw [stk_stq _ _ _ _ hM]; exact stq_ge _ _ _ h
    unfold stk at this
    split at this
    · exact this
    · rw [or_one] at this; omega
  have := rung_stk (stq N M a) b (-(a : Int) - 1) (.inl h2)
  rw [show (b : Int) - a - 1 = -(a : Int) - 1 + b from by omega, this]
  exact rungQ_eq N M a hN hM h0

end Go.Proofs.YtaikkmehmiiffaaGreatDoor
/- Between two neighbours: to which a quotient is nearer: plain mathematics. -/
namespace Go.Proofs.YtaikkmehmiiffaaGreatDoor
set_option linter.unusedVariables false

/-- a number's own digits, base two -/
def manR (r : Nat) : Nat := if r < 4503599627370496 then r else 4503599627370496 + r % 4503599627370496
/-- the place of the last of them, above the lowest there is -/
def plaR (r : Nat) : Nat := r / 4503599627370496 - 1

theorem valN_parts (r : Nat) : valN r = manR r * 2 ^ plaR r := by
  unfold valN manR plaR
  split
  · rename_i h
    rw [show r / 4503599627370496 - 1 = 0 from by omega]; omega
  · rfl

theorem valN_next (r : Nat) : valN (r + 1) = (manR r + 1) * 2 ^ plaR r := by
  rw [valN_parts (r + 1)]
  unfold manR plaR
  by_cases c : r + 1 < 4503599627370496
  · rw [if_pos c, if_pos (by omega), show (r + 1) / 4503599627370496 - 1 = 0 from by omega, show r / 4503599627370496 - 1 = 0 from by omega]
  · by_cases e : r < 4503599627370496
    · rw [if_neg c, if_pos e, show (r + 1) / 4503599627370496 - 1 = 0 from by omega, show r / 4503599627370496 - 1 = 0 from by omega]
      omega
    · rw [if_neg c, if_neg e]
      by_cases f : (r + 1) % 4503599627370496 = 0
      · rw [f, show (r + 1) / 4503599627370496 - 1 = (r / 4503599627370496 - 1) + 1 from by omega, show r % 4503599627370496 = 4503599627370495 from by omega, Nat.pow_succ]
        omega
      · rw [show (r + 1) / 4503599627370496 = r / 4503599627370496 from by omega, show (r + 1) % 4503599627370496 = r % 4503599627370496 + 1 from by omega]
        rfl

theorem rank_parts (r : Nat) : plaR r * 4503599627370496 + manR r = r := by
  unfold manR plaR; split <;> omega

theorem manR_lt (r : Nat) : manR r < 9007199254740992 := by unfold manR; split <;> omega
theorem manR_ge (r : Nat) (h : plaR r ≠ 0) : 4503599627370496 ≤ manR r := by unfold manR; unfold plaR at h; split <;> omega
theorem manR_odd (r : Nat) : manR r % 2 = r % 2 := by unfold manR; split <;> omega

/-- whether what lies between a number and the next goes up -/
def goesUp (r K c : Nat) : Nat := if (valN r + valN (r + 1)) * 2 ^ c < K ∨ ((valN r + valN (r + 1)) * 2 ^ c = K ∧ r % 2 = 1) then 1 else 0

theorem kept_fin (u m b r : Nat) (hr : r < 9218868437227405312) (rp : u * 4503599627370496 + m = r) (ml : m < 9007199254740992) (hb2 : b ≤ 1) (mg : u ≠ 0 → 4503599627370496 ≤ m) :
    rung (m + b) (-1074 + (u : Int)) = r + b := by
  have k2 := rung_kept (m + b) (-1074 + (u : Int)) (by omega) (by omega) (fun h => by have := mg (by omega); omega)
  have k3 : (-1074 + (u : Int) + 1074).toNat = u := by omega
  rw [k3] at k2
  refine k2.trans ?_
  clear k2 k3 mg
  omega

theorem rung_between (r K c : Nat) (hr : r < 9218868437227405312) (h0 : valN r * 2 ^ (c + 1) ≤ K) (h1 : K < valN (r + 1) * 2 ^ (c + 1)) :
    rung K (-(1075 + (c : Int))) = r + goesUp r K c := by
  unfold goesUp
  rw [valN_next] at h1
  have hsum : (valN r + valN (r + 1)) * 2 ^ c = (2 * manR r + 1) * 2 ^ (plaR r + c) := by
    rw [valN_next, valN_parts, ← Nat.add_mul, Nat.mul_assoc, ← Nat.pow_add]
    congr 1
    omega
  rw [hsum]
  rw [valN_parts] at h0
  rw [Nat.mul_assoc, ← Nat.pow_add] at h0 h1
  have rp := rank_parts r
  have ml := manR_lt r
  have mg := manR_ge r
  have mo := manR_odd r
  generalize manR r = m at *
  generalize plaR r = u at *
  have hP : 2 ^ (u + (c + 1)) = 2 * 2 ^ (u + c) := by rw [← Nat.add_assoc, Nat.pow_succ]; omega
  have hp := Nat.two_pow_pos (u + c)
  have hdiv : K / 2 ^ (u + (c + 1)) = m := by
    rw [Nat.div_eq_iff (Nat.two_pow_pos _)]
    have : (m + 1) * 2 ^ (u + (c + 1)) = m * 2 ^ (u + (c + 1)) + 2 ^ (u + (c + 1)) := by rw [Nat.add_mul, Nat.one_mul]
    omega
  have hKm := Nat.div_add_mod K (2 ^ (u + (c + 1)))
  rw [hdiv] at hKm
  have hrne : rne K (u + (c + 1)) = m + (if (2 * m + 1) * 2 ^ (u + c) < K ∨ ((2 * m + 1) * 2 ^ (u + c) = K ∧ r % 2 = 1) then 1 else 0) := by
    unfold rne
    rw [hdiv]
    congr 1
    have e : (2 * m + 1) * 2 ^ (u + c) = 2 ^ (u + (c + 1)) * m + 2 ^ (u + c) := by
      rw [hP, Nat.add_mul, Nat.one_mul, Nat.mul_comm 2 m, Nat.mul_assoc, Nat.mul_comm m]
    rw [e]
    generalize 2 ^ (u + (c + 1)) * m = A at *
    rw [mo]
    generalize K % 2 ^ (u + (c + 1)) = R at *
    by_cases c1 : 2 ^ (u + (c + 1)) < 2 * R ∨ (2 ^ (u + (c + 1)) = 2 * R ∧ r % 2 = 1)
    · rw [if_pos c1, if_pos (by omega)]
    · rw [if_neg c1, if_neg (by omega)]
  by_cases hK : K = 0
  · subst hK
    have hm : m = 0 := by
      rcases Nat.eq_zero_or_pos m with h | h
      · exact h
      · have := Nat.mul_le_mul h (Nat.two_pow_pos (u + (c + 1)))
        omega
    subst hm
    have hu : u = 0 := by
      rcases Nat.eq_zero_or_pos u with h | h
      · exact h
      · have := mg (by omega); omega
    rw [if_neg (by omega)]
    simp [rung]
    omega
  · have hL : lastPlace K (-(1075 + (c : Int))) = -1074 + (u : Int) := by
      unfold lastPlace
      have lu : K.log2 < 53 + (u + (c + 1)) := by
        rw [Nat.log2_lt hK, Nat.pow_add]
        have : (m + 1) * 2 ^ (u + (c + 1)) ≤ 2 ^ 53 * 2 ^ (u + (c + 1)) := Nat.mul_le_mul_right _ (by omega)
        omega
      by_cases hu : u = 0
      · have lu2 : ¬ (u ≠ 0) := by omega
        by_cases hm : m < 4503599627370496
        · have : K.log2 < 52 + (u + (c + 1)) := by
            rw [Nat.log2_lt hK, Nat.pow_add]
            have : (m + 1) * 2 ^ (u + (c + 1)) ≤ 2 ^ 52 * 2 ^ (u + (c + 1)) := Nat.mul_le_mul_right _ (by omega)
            omega
          omega
        · have : 52 + (u + (c + 1)) ≤ K.log2 := by
            rw [Nat.le_log2 hK, Nat.pow_add]
            have : 2 ^ 52 * 2 ^ (u + (c + 1)) ≤ m * 2 ^ (u + (c + 1)) := Nat.mul_le_mul_right _ (by omega)
            omega
          omega
      · have hm := mg hu
        have : 52 + (u + (c + 1)) ≤ K.log2 := by
          rw [Nat.le_log2 hK, Nat.pow_add]
          have : 2 ^ 52 * 2 ^ (u + (c + 1)) ≤ m * 2 ^ (u + (c + 1)) := Nat.mul_le_mul_right _ (by omega)
          omega
        omega
    obtain ⟨b, hb, hb2⟩ : ∃ b, b = (if (2 * m + 1) * 2 ^ (u + c) < K ∨ ((2 * m + 1) * 2 ^ (u + c) = K ∧ r % 2 = 1) then 1 else 0) ∧ b ≤ 1 := ⟨_, rfl, by split <;> omega⟩
    rw [← hb] at hrne ⊢
    have k1 := rung_shed K _ _ (u + (c + 1)) hK hL (by push_cast; omega)
    rw [hrne] at k1
    have k2 := kept_fin u m b r hr rp ml hb2 mg
    rw [k1, k2]

theorem rung_top (K c : Nat) (h : valN 9218868437227405312 * 2 ^ (c + 1) ≤ K) : rung K (-(1075 + (c : Int))) = 9218868437227405312 := by
  obtain ⟨z, hz⟩ : ∃ z, z = 2046 := ⟨_, rfl⟩
  have e : valN 9218868437227405312 * 2 ^ (c + 1) = 2 ^ 52 * 2 ^ (z + (c + 1)) := by
    have e1 : manR 9218868437227405312 = 2 ^ 52 := by unfold manR; rw [if_neg (by omega)]
    have e2 : plaR 9218868437227405312 = z := by unfold plaR; omega
    rw [valN_parts, e1, e2, Nat.mul_assoc, ← Nat.pow_add]
  rw [e, ← Nat.pow_add] at h
  have hK : K ≠ 0 := by have := Nat.two_pow_pos (52 + (z + (c + 1))); omega
  have hl : 52 + (z + (c + 1)) ≤ K.log2 := (Nat.le_log2 hK).2 h
  unfold rung
  rw [if_neg hK]
  have hL : (2046 : Int) - 1074 ≤ lastPlace K (-(1075 + (c : Int))) := by unfold lastPlace; omega
  have kg := kept_ge K (-(1075 + (c : Int))) hK (by unfold lastPlace; omega)
  generalize rne (K * 2 ^ (-(1075 + (c : Int)) - lastPlace K (-(1075 + (c : Int)))).toNat) (lastPlace K (-(1075 + (c : Int))) - -(1075 + (c : Int))).toNat = Z at *
  omega

end Go.Proofs.YtaikkmehmiiffaaGreatDoor
