/- Plain: decimals with a point and an exponent, read. -/
import Derived.Test.YtpejebohekcfoabGreatDoorBB
import Derived.Lib.ItoaNum
import Derived.Test.YtpejebohekcfoabGreatDoorShelfB
import Derived.Lib.AppendIntMem
import Derived.Lib.Walk
import Derived.Lib.ItoaMem
import Derived.BigCall
import Derived.BigGuard
namespace Go.Proofs.YtpejebohekcfoabGreatDoor
open Go.RowKit
set_option linter.unusedVariables false

theorem dd_last (u : Nat) : ∃ r d, Lib.decDigits u = r ++ [UInt8.ofNat (48 + d)] ∧ d < 10 := by
  rw [Lib.decDigits]
  split
  · rename_i h
    exact ⟨[], u, rfl, h⟩
  · exact ⟨_, u % 10, rfl, Nat.mod_lt _ (by decide)⟩

theorem digit_nat (d : Nat) (h : d < 10) : (UInt8.ofNat (48 + d)).toNat = 48 + d := by
  rw [UInt8.toNat_ofNat']
  omega

theorem digit_is (d : Nat) (h : d < 10) : isDig (UInt8.ofNat (48 + d)) = true := by
  unfold isDig
  rw [digit_nat d h]
  simp
  omega

theorem dd_dig (u : Nat) : ∀ c ∈ Lib.decDigits u, isDig c = true := by
  induction u using Nat.strongRecOn with
  | _ u ih =>
    rw [Lib.decDigits]
    split
    · rename_i h
      intro c hc
      rw [List.mem_singleton] at hc
      subst hc
      exact digit_is u h
    · rename_i h
      intro c hc
      rcases List.mem_append.1 hc with hc | hc
      · exact ih (u / 10) (by omega) c hc
      · rw [List.mem_singleton] at hc
        subst hc
        exact digit_is _ (Nat.mod_lt _ (by decide))

theorem dd_ne (u : Nat) : Lib.decDigits u ≠ [] := by
  obtain ⟨r, d, e, _⟩ := dd_last u
  rw [e]; simp

theorem tw_all {p : UInt8 → Bool} (a : List UInt8) (h : ∀ c ∈ a, p c = true) : a.takeWhile p = a := by
  have e := List.takeWhile_append_dropWhile (p := p) (l := a)
  rw [dw_all a h, List.append_nil] at e
  exact e

theorem dd_val (u : Nat) : decN (Lib.decDigits u) = u := by
  induction u using Nat.strongRecOn with
  | _ u ih =>
    rw [Lib.decDigits]
    split
    · rename_i h
      unfold decN
      simp only [List.foldl_cons, List.foldl_nil]
      rw [digit_nat u h]; omega
    · rename_i h
      rw [decN_snoc, ih (u / 10) (by omega), digit_nat _ (Nat.mod_lt _ (by decide))]
      omega

theorem dd_head (u : Nat) (h0 : 0 < u) : ∃ c r, Lib.decDigits u = c :: r ∧ c ≠ 48 := by
  induction u using Nat.strongRecOn with
  | _ u ih =>
    rw [Lib.decDigits]
    split
    · rename_i h
      refine ⟨_, [], rfl, ?_⟩
      intro e
      have := congrArg UInt8.toNat e
      rw [digit_nat u h] at this
      simp at this
      omega
    · rename_i h
      obtain ⟨c, r, e, hc⟩ := ih (u / 10) (by omega) (by omega)
      exact ⟨c, r ++ [UInt8.ofNat (48 + u % 10)], by rw [e]; rfl, hc⟩

theorem fold_ge (d : List UInt8) : ∀ n, n ≤ d.foldl (fun n c => 10 * n + (c.toNat - 48)) n := by
  induction d with
  | nil => intro n; exact Nat.le_refl _
  | cons c d ih =>
    intro n
    rw [List.foldl_cons]
    have := ih (10 * n + (c.toNat - 48))
    omega

theorem clamp_eq (d : List UInt8) : ∀ n, d.foldl (fun n c => 10 * n + (c.toNat - 48)) n ≤ 1099511627776 → clampF n d = d.foldl (fun n c => 10 * n + (c.toNat - 48)) n := by
  induction d with
  | nil => intro n _; rfl
  | cons c d ih =>
    intro n h
    rw [List.foldl_cons] at h ⊢
    have g := fold_ge d (10 * n + (c.toNat - 48))
    unfold clampF
    rw [List.foldl_cons, Nat.min_eq_left (by omega)]
    exact ih _ h

theorem dig_not (c : UInt8) (h : isDig c = true) (x : UInt8) (hx : isDig x = false) : c ≠ x := by
  rintro rfl; rw [h] at hx; cases hx

/-- an exponent, read -/
theorem expP_itoa (c : UInt8) (hc : c = 101 ∨ c = 69) (e : Int) (he : e.natAbs ≤ 1099511627776) : expP (c :: Lib.itoa e) = (e, true) := by
  have key : ∀ m : Nat, m ≤ 1099511627776 → digs (Lib.decDigits m) = Lib.decDigits m ∧ rst (Lib.decDigits m) = [] ∧ clampF 0 (Lib.decDigits m) = m := by
    intro m hm
    have hd := dd_dig m
    refine ⟨tw_all _ hd, ?_, ?_⟩
    · exact dw_all _ hd
    · have := clamp_eq (Lib.decDigits m) 0 (by have := dd_val m; unfold decN at this; rw [this]; exact hm)
      rw [this]; exact dd_val m
  unfold expP
  rw [if_pos (by rcases hc with rfl | rfl <;> simp)]
  rw [List.tail_cons]
  unfold Lib.itoa
  split
  · rename_i h
    have u1 : unsign (45 :: Lib.decDigits e.natAbs) = Lib.decDigits e.natAbs := by unfold unsign; simp
    obtain ⟨k1, k2, k3⟩ := key e.natAbs he
    rw [u1, k1, k2, k3, if_neg (by simp [dd_ne])]
    have s : signOf (45 :: Lib.decDigits e.natAbs) = -1 := by unfold signOf; simp
    rw [s]
    congr 1
    omega
  · rename_i h
    obtain ⟨x, r, ex⟩ : ∃ x r, Lib.decDigits e.toNat = x :: r := by
      cases hd : Lib.decDigits e.toNat with
      | nil => exact absurd hd (dd_ne _)
      | cons x r => exact ⟨x, r, rfl⟩
    have hx := dd_dig e.toNat x (by rw [ex]; simp)
    have n45 := dig_not x hx 45 (by decide)
    have n43 := dig_not x hx 43 (by decide)
    have u1 : unsign (Lib.decDigits e.toNat) = Lib.decDigits e.toNat := by unfold unsign; rw [ex]; simp [n45, n43]
    have s : signOf (Lib.decDigits e.toNat) = 1 := by unfold signOf; rw [ex]; simp [n45]
    obtain ⟨k1, k2, k3⟩ := key e.toNat (by omega)
    rw [u1, k1, k2, k3, s, if_neg (by simp [dd_ne])]
    congr 1
    omega

theorem digs_app (W : List UInt8) (c : UInt8) (r : List UInt8) (hW : ∀ x ∈ W, isDig x = true) (hc : isDig c = false) : digs (W ++ c :: r) = W ∧ rst (W ++ c :: r) = c :: r := by
  unfold digs rst
  rw [List.takeWhile_append_of_pos hW, List.dropWhile_append_of_pos hW, List.takeWhile_cons, List.dropWhile_cons, if_neg (by rw [hc]; simp), if_neg (by rw [hc]; simp)]
  simp

end Go.Proofs.YtpejebohekcfoabGreatDoor
/- Plain: where the point stands is not seen. -/
namespace Go.Proofs.YtpejebohekcfoabGreatDoor
open Go.RowKit
set_option linter.unusedVariables false

theorem itoa_last (e : Int) : ∃ r d, Lib.itoa e = r ++ [UInt8.ofNat (48 + d)] ∧ d < 10 := by
  unfold Lib.itoa
  split
  · obtain ⟨r, d, h, hd⟩ := dd_last e.natAbs
    exact ⟨45 :: r, d, by rw [h]; rfl, hd⟩
  · exact dd_last _

/-- what may stand in such a text -/
def okC (z : UInt8) : Bool := isDig z || z == 46 || z == 101 || z == 69 || z == 45

theorem dig_okC (z : UInt8) (h : isDig z = true) : okC z = true := by unfold okC; rw [h]; rfl

theorem itoa_ok (e : Int) : ∀ z ∈ Lib.itoa e, okC z = true := by
  intro z hz
  unfold Lib.itoa at hz
  split at hz
  · rcases List.mem_cons.1 hz with rfl | hz
    · decide
    · exact dig_okC z (dd_dig _ z hz)
  · exact dig_okC z (dd_dig _ z hz)

theorem okC_not (z x : UInt8) (h : okC z = true) (hx : okC x = false) : z ≠ x := by
  rintro rfl; rw [h] at hx; cases hx

theorem cutX_none (l : List UInt8) (h : ∀ z ∈ l, okC z = true) : (cutX l).2 = false := by
  have k : ∀ d, okC d = false → Lib.hasPrefix l [48, d] = false := by
    intro d hd
    unfold Lib.hasPrefix
    cases l with
    | nil => rfl
    | cons a l =>
      cases l with
      | nil => simp [List.isPrefixOf]
      | cons b l =>
        have := okC_not b d (h b (by simp)) hd
        simp only [List.isPrefixOf]
        rw [beq_eq_false_iff_ne.2 (Ne.symm this)]
        simp
  unfold cutX
  rw [if_neg (by rw [k 120 (by decide)]; simp)]
  exact k 88 (by decide)

/-- a text that opens with a digit or a point, and ends with a digit, is read without a look at blanks and signs -/
theorem read_plain (x : UInt8) (m : List UInt8) (d : Nat) (hd : d < 10) (hx : isDig x = true ∨ x = 46) (h : ∀ z ∈ x :: (m ++ [UInt8.ofNat (48 + d)]), okC z = true) :
    readI (x :: (m ++ [UInt8.ofNat (48 + d)])) = (unsI (x :: (m ++ [UInt8.ofNat (48 + d)])) : Nat) := by
  have nb : ∀ z : UInt8, okC z = true → blankS.contains z = false := by
    intro z hz
    have h9 := okC_not z 9 hz (by decide)
    have h10 := okC_not z 10 hz (by decide)
    have h32 := okC_not z 32 hz (by decide)
    unfold blankS
    simp [h9, h10, h32]
  have t : Lib.trimS (x :: (m ++ [UInt8.ofNat (48 + d)])) blankS = x :: (m ++ [UInt8.ofNat (48 + d)]) := by
    rw [trimS_cons x _ blankS (nb x (h x (by simp)))]
    rw [trimR_app m [] blankS _ (nb _ (h _ (by simp)))]
    rfl
  unfold readI
  rw [t]
  unfold coreI
  have n43 : x ≠ 43 := by
    rcases hx with hx | rfl
    · exact dig_not x hx 43 (by decide)
    · decide
  have n45 : x ≠ 45 := by
    rcases hx with hx | rfl
    · exact dig_not x hx 45 (by decide)
    · decide
  rw [if_neg (by simp), if_neg (by rw [cutX_none _ h]; simp), if_neg (by simp [n43]), if_neg (by simp [n45])]

theorem not_inf (x : UInt8) (m : List UInt8) (hx : x ≠ 73) : x :: m ≠ infTxt := by
  intro e
  unfold infTxt at e
  injection e with e1 _
  exact hx e1

theorem uns_exp (W : List UInt8) (c : UInt8) (e : Int) (hc : c = 101 ∨ c = 69) (he : e.natAbs ≤ 1099511627776) (hW : ∀ z ∈ W, isDig z = true) (hn : W ≠ []) :
    unsI (W ++ c :: Lib.itoa e) = valD (sigD W) (sigP W W e) := by
  have hcd : isDig c = false := by rcases hc with rfl | rfl <;> decide
  obtain ⟨d1, d2⟩ := digs_app W c (Lib.itoa e) hW hcd
  have c46 : c ≠ 46 := by rcases hc with rfl | rfl <;> decide
  have sw : sW (W ++ c :: Lib.itoa e) = W := d1
  have sf : sF (W ++ c :: Lib.itoa e) = [] := by unfold sF; rw [d2, if_neg (by simp [c46])]
  have sr : sR (W ++ c :: Lib.itoa e) = c :: Lib.itoa e := by unfold sR; rw [d2, if_neg (by simp [c46])]
  have so : scanOk (W ++ c :: Lib.itoa e) = true := by unfold scanOk; rw [sw, sf, sr, if_neg (by simp [hn]), if_neg (by simp), expP_itoa c hc e he]
  have sx : scanX (W ++ c :: Lib.itoa e) = e := by unfold scanX; rw [sr, if_neg (by simp), expP_itoa c hc e he]
  unfold unsI
  rw [sw, sf, sx, List.append_nil, if_pos so, if_neg]
  cases W with
  | nil => exact absurd rfl hn
  | cons a W =>
    have := hW a (by simp)
    exact not_inf a _ (dig_not a this 73 (by decide))

theorem uns_point (W F : List UInt8) (c : UInt8) (e : Int) (hc : c = 101 ∨ c = 69) (he : e.natAbs ≤ 1099511627776) (hW : ∀ z ∈ W, isDig z = true) (hF : ∀ z ∈ F, isDig z = true) (hn : W ++ F ≠ []) :
    unsI (W ++ 46 :: (F ++ c :: Lib.itoa e)) = valD (sigD (W ++ F)) (sigP W (W ++ F) e) := by
  have hcd : isDig c = false := by rcases hc with rfl | rfl <;> decide
  obtain ⟨d1, d2⟩ := digs_app W 46 (F ++ c :: Lib.itoa e) hW (by decide)
  obtain ⟨d3, d4⟩ := digs_app F c (Lib.itoa e) hF hcd
  have sw : sW (W ++ 46 :: (F ++ c :: Lib.itoa e)) = W := d1
  have sf : sF (W ++ 46 :: (F ++ c :: Lib.itoa e)) = F := by unfold sF; rw [d2, if_pos (by simp), List.tail_cons, d3]
  have sr : sR (W ++ 46 :: (F ++ c :: Lib.itoa e)) = c :: Lib.itoa e := by unfold sR; rw [d2, if_pos (by simp), List.tail_cons, d4]
  have so : scanOk (W ++ 46 :: (F ++ c :: Lib.itoa e)) = true := by
    unfold scanOk
    rw [sw, sf, sr, if_neg (by rintro ⟨rfl, rfl⟩; exact hn rfl), if_neg (by simp), expP_itoa c hc e he]
  have sx : scanX (W ++ 46 :: (F ++ c :: Lib.itoa e)) = e := by unfold scanX; rw [sr, if_neg (by simp), expP_itoa c hc e he]
  unfold unsI
  rw [sw, sf, sx, if_pos so, if_neg]
  cases W with
  | nil => exact not_inf 46 _ (by decide)
  | cons a W =>
    have := hW a (by simp)
    exact not_inf a _ (dig_not a this 73 (by decide))

theorem nearQ_cross (A M A' M' : Nat) (hM : 0 < M) (hM' : 0 < M') (h : A * M' = A' * M) : nearQ A M = nearQ A' M' := by
  rw [← nearQ_scale A M M' hM hM', ← nearQ_scale A' M' M hM' hM, h, Nat.mul_comm M M']

theorem valD_noughts (D : List UInt8) (p : Int) (hD : D ≠ []) : valD (D ++ [48, 48, 48]) p = valD D p := by
  unfold valD
  have e : decN (D ++ [48, 48, 48]) = decN D * 1000 := by
    rw [show D ++ [48, 48, 48] = ((D ++ [48]) ++ [48]) ++ [48] from by simp, decN_snoc, decN_snoc, decN_snoc]
    have : (48 : UInt8).toNat - 48 = 0 := by decide
    omega
  have l : ((D ++ [48, 48, 48]).length : Int) = D.length + 3 := by simp
  rw [e, l]
  by_cases c1 : p < -330
  · rw [if_pos (Or.inr c1), if_pos (Or.inr c1)]
  · have n1 : ¬ (D ++ [48, 48, 48] = [] ∨ p < -330) := by
      rintro (h | h)
      · simp at h
      · exact c1 h
    have n2 : ¬ (D = [] ∨ p < -330) := by
      rintro (h | h)
      · exact hD h
      · exact c1 h
    rw [if_neg n1, if_neg n2]
    by_cases c2 : 310 < p
    · rw [if_pos c2, if_pos c2]
    · rw [if_neg c2, if_neg c2]
      refine nearQ_cross _ _ _ _ (Nat.pow_pos (by decide)) (Nat.pow_pos (by decide)) ?_
      rw [Nat.mul_assoc, Nat.mul_assoc, Nat.mul_assoc, show (1000 : Nat) = 10 ^ 3 from rfl, ← Nat.pow_add, ← Nat.pow_add, ← Nat.pow_add]
      congr 2
      omega

theorem sigD_small (A : List UInt8) (h : A.length ≤ 800) : sigD A = nodz A := by
  unfold sigD
  have : (nodz A).length ≤ A.length := by
    unfold nodz Lib.trimLeftB
    exact (List.dropWhile_sublist (p := fun x => x == 48) (l := A)).length_le
  rw [if_pos (by omega)]

theorem mem3 {P : UInt8 → Prop} {a b : List UInt8} (ha : ∀ z ∈ a, P z) (hb : ∀ z ∈ b, P z) : ∀ z ∈ a ++ b, P z := by
  intro z hz
  rcases List.mem_append.1 hz with h | h
  · exact ha z h
  · exact hb z h

/-- of a text of digits, a point and an exponent: what is read -/
theorem read_exp (W : List UInt8) (c : UInt8) (e : Int) (hc : c = 101 ∨ c = 69) (he : e.natAbs ≤ 1099511627776) (hW : ∀ z ∈ W, isDig z = true) (hn : W ≠ []) :
    readI (W ++ c :: Lib.itoa e) = (valD (sigD W) (sigP W W e) : Nat) := by
  have hco : okC c = true := by rcases hc with rfl | rfl <;> decide
  obtain ⟨r, d, hi, hd⟩ := itoa_last e
  have ok : ∀ z ∈ W ++ c :: Lib.itoa e, okC z = true := mem3 (fun z hz => dig_okC z (hW z hz)) (fun z hz => by
    rcases List.mem_cons.1 hz with rfl | hz
    · exact hco
    · exact itoa_ok e z hz)
  rw [← uns_exp W c e hc he hW hn]
  cases W with
  | nil => exact absurd rfl hn
  | cons x W =>
    have s : (x :: W) ++ c :: Lib.itoa e = x :: ((W ++ c :: r) ++ [UInt8.ofNat (48 + d)]) := by rw [hi]; simp
    rw [s] at ok ⊢
    exact read_plain x _ d hd (Or.inl (hW x (by simp))) ok

theorem read_point (W F : List UInt8) (c : UInt8) (e : Int) (hc : c = 101 ∨ c = 69) (he : e.natAbs ≤ 1099511627776) (hW : ∀ z ∈ W, isDig z = true) (hF : ∀ z ∈ F, isDig z = true) (hn : W ++ F ≠ []) :
    readI (W ++ 46 :: (F ++ c :: Lib.itoa e)) = (valD (sigD (W ++ F)) (sigP W (W ++ F) e) : Nat) := by
  have hco : okC c = true := by rcases hc with rfl | rfl <;> decide
  obtain ⟨r, d, hi, hd⟩ := itoa_last e
  have ok : ∀ z ∈ W ++ 46 :: (F ++ c :: Lib.itoa e), okC z = true := mem3 (fun z hz => dig_okC z (hW z hz)) (fun z hz => by
    rcases List.mem_cons.1 hz with rfl | hz
    · decide
    · exact mem3 (P := fun z => okC z = true) (fun z hz => dig_okC z (hF z hz)) (fun z hz => by
        rcases List.mem_cons.1 hz with rfl | hz
        · exact hco
        · exact itoa_ok e z hz) z hz)
  rw [← uns_point W F c e hc he hW hF hn]
  cases W with
  | nil =>
    have s : ([] : List UInt8) ++ 46 :: (F ++ c :: Lib.itoa e) = 46 :: ((F ++ c :: r) ++ [UInt8.ofNat (48 + d)]) := by rw [hi]; simp
    rw [s] at ok ⊢
    exact read_plain 46 _ d hd (Or.inr rfl) ok
  | cons x W =>
    have s : (x :: W) ++ 46 :: (F ++ c :: Lib.itoa e) = x :: ((W ++ 46 :: (F ++ c :: r)) ++ [UInt8.ofNat (48 + d)]) := by rw [hi]; simp
    rw [s] at ok ⊢
    exact read_plain x _ d hd (Or.inl (hW x (by simp))) ok

/-- where the point stands is not seen -/
theorem points_plain (n k : Nat) (e : Int) (hl : (Lib.decDigits n).length ≤ 700) (hk : k ≤ (Lib.decDigits n).length) (he : e.natAbs ≤ 1000000000000) :
    readI ((Lib.decDigits n).take k ++ 46 :: ((Lib.decDigits n).drop k ++ 69 :: Lib.itoa (e + (Lib.decDigits n).length - k))) = readI (Lib.decDigits n ++ 101 :: Lib.itoa e) ∧
    readI (([48, 48, 48] ++ Lib.decDigits n ++ [48, 48, 48]) ++ 101 :: Lib.itoa (e - 3)) = readI (Lib.decDigits n ++ 101 :: Lib.itoa e) := by
  have dg := dd_dig n
  have ne := dd_ne n
  have z3 : ∀ z ∈ ([48, 48, 48] : List UInt8), isDig z = true := by
    intro z hz
    simp at hz
    subst hz; decide
  have dg3 : ∀ z ∈ [48, 48, 48] ++ Lib.decDigits n ++ [48, 48, 48], isDig z = true := mem3 (mem3 z3 dg) z3
  rw [read_exp (Lib.decDigits n) 101 e (Or.inl rfl) (by omega) dg ne]
  rw [read_point ((Lib.decDigits n).take k) ((Lib.decDigits n).drop k) 69 _ (Or.inr rfl) (by omega) (fun z hz => dg z (List.mem_of_mem_take hz)) (fun z hz => dg z (List.mem_of_mem_drop hz)) (by rw [List.take_append_drop]; exact ne)]
  rw [read_exp _ 101 (e - 3) (Or.inl rfl) (by omega) dg3 (by simp)]
  rw [List.take_append_drop]
  have l3 : ([48, 48, 48] ++ Lib.decDigits n ++ [48, 48, 48]).length = (Lib.decDigits n).length + 6 := by simp
  have lk : ((Lib.decDigits n).take k).length = k := by rw [List.length_take, Nat.min_eq_left hk]
  rw [sigD_small _ (by omega), sigD_small _ (by omega)]
  refine ⟨?_, ?_⟩
  · congr 2
    unfold sigP
    rw [lk]
    omega
  · rcases Nat.eq_zero_or_pos n with h | h
    · subst h
      have a : nodz (Lib.decDigits 0) = [] := by rw [Lib.decDigits_one (by decide)]; rfl
      have b : nodz ([48, 48, 48] ++ Lib.decDigits 0 ++ [48, 48, 48]) = [] := by rw [Lib.decDigits_one (by decide)]; rfl
      rw [a, b]
      unfold valD
      rw [if_pos (Or.inl rfl), if_pos (Or.inl rfl)]
    · obtain ⟨c, r, hd, hc⟩ := dd_head n h
      have a : nodz (Lib.decDigits n) = Lib.decDigits n := by
        unfold nodz Lib.trimLeftB
        rw [hd, List.dropWhile_cons, if_neg (by simp [hc])]
      have b : nodz ([48, 48, 48] ++ Lib.decDigits n ++ [48, 48, 48]) = Lib.decDigits n ++ [48, 48, 48] := by
        unfold nodz Lib.trimLeftB
        rw [hd]
        simp [hc]
      rw [a, b, valD_noughts _ _ ne]
      congr 2
      unfold sigP
      rw [a, b, l3]
      simp
      omega

end Go.Proofs.YtpejebohekcfoabGreatDoor
/- FormatUint base ten, Itoa: their contracts. -/
namespace Go.Proofs.YtpejebohekcfoabGreatDoor
open Go.RowKit
set_option linter.unusedVariables false

/-- the table of powers of ten lies there -/
abbrev Pow10 (w : World) : Prop := Lib.TabIs Tryz.prog w "internal/strconv.uint64pow10" .u64 Lib.pow10Tab

theorem itoa_c (n : Int) (h0 : -9223372036854775808 ≤ n) (h1 : n ≤ 9223372036854775807) (w : World) (ht : Pow10 w) :
    Calls Tryz.prog 78 #[.int .i64 n] w fun e w' => e = .returned (.string (bs (Lib.itoa n))) ∧ Below w.heap.size w w' := by
  refine (Tryz.strconv_Itoa n h0 h1 w ht).mono ?_
  rintro e w' ⟨rfl, k, os, rfl⟩
  exact ⟨rfl, Lib.below_grow _ w (Nat.le_refl _) k os⟩

set_option maxHeartbeats 6400000 in
set_option maxRecDepth 100000 in
theorem funit_big (u : Nat) (h1 : 100 ≤ u) (hu64 : u < 18446744073709551616) (w : World) (htab : Pow10 w) :
    Calls Tryz.prog 30 #[.int .u64 u, .int .i64 10] w fun e w' => e = .returned (.string ⟨(Lib.decDigits u).toArray⟩) ∧ ∃ k os, w' = Sort.grow (w.drewN k) os := by
  have hu1 : 1 ≤ u := by omega
  have hnd20 : Lib.nDigits u ≤ 20 := by have := Lib.numDigits_eq u hu1 hu64; split at this <;> omega
  have hal : Tryz.prog.arrayLen 52 = 24 := by simp [Program.arrayLen, Tryz.underlying52]
  have hsl1 : ∀ W, (Instr.sliceAt 52 (.pointer (some ⟨w.heap.size, 0, none⟩)) none (some (.int .i64 (Lib.nDigits u : Int))) none).run Tryz.prog W = .ok (.slice (some ⟨w.heap.size, 0, none⟩) (Lib.nDigits u) 24) W := fun W => by
    rw [run_sliceAt_array_h W 52 ⟨w.heap.size, 0, none⟩ (by simp [Program.arrayLen, Program.elem, Tryz.underlying52]) .i64 (Lib.nDigits u : Int) (by omega) (by rw [hal]; omega)]
    go_simp
  have hH0 := Lib.holds_zero0 w 52 (Lib.nDigits u) (by omega)
  have hfmt := Tryz.internal_strconv_formatBase10 w.heap.size 0 24 u (Array.replicate (Lib.nDigits u) 0) (w.alloc (.cells Lib.zeros24 52)) hH0 (by rw [Array.size_replicate]; exact Lib.lt_pow_nDigits u) hu64 (by rw [Array.size_replicate]; omega)
  rw [Array.size_replicate] at hfmt
  have nd := fun o => Tryz.internal_strconv_numDigits u hu1 hu64 (w.alloc o) (Lib.tabIs_alloc htab o)
  have HH0 := Lib.hid hH0
  clear hH0 hal
  go_enter Tryz.func30, Tryz.ntmps30
  go_wp2_with fail
  refine (nd _).mono ?_
  rintro e w' ⟨rfl, rfl⟩
  go_wp2_with fail
  refine hfmt.mono ?_
  rintro e w' ⟨rfl, k, v', dk, rfl, hF⟩
  have hcv : (convert 55 9 (.slice (some ⟨w.heap.size, 0, none⟩) (Lib.nDigits u) 24)).run Tryz.prog ((Sort.putRow (fun (b : UInt8) => Value.int .u8 (b.toNat : Int)) (w.alloc (.cells Lib.zeros24 52)) w.heap.size 0 dk).drewN k) = .ok (.string ⟨(Lib.decDigits u).toArray⟩) ((Sort.putRow (fun (b : UInt8) => Value.int .u8 (b.toNat : Int)) (w.alloc (.cells Lib.zeros24 52)) w.heap.size 0 dk).drewN k) := by
    have h := run_convert_bytes_back (P := Tryz.prog) ((Sort.putRow (fun (b : UInt8) => Value.int .u8 (b.toNat : Int)) (w.alloc (.cells Lib.zeros24 52)) w.heap.size 0 dk).drewN k) 55 9 5 ⟨w.heap.size, 0, none⟩ 24 (Lib.decDigits u) Tryz.underlying55 Tryz.underlying5 Tryz.underlying9 (fun j hj => by
      rw [Lib.row_is_numeral hF j hj, Lib.add_plain, World.cell?_drewN]
      exact Sort.cell?_putRow (fun (b : UInt8) => Value.int .u8 (b.toNat : Int)) _ w.heap.size 0 _ dk HH0.out (by rw [hF.size, Array.size_replicate]) j (by rw [hF.size]; rw [Lib.decDigits_length] at hj; exact hj))
    rw [Lib.decDigits_length] at h
    exact h
  go_wp2
  go_ret
  obtain ⟨os, eo⟩ := Lib.fin_at w (.cells Lib.zeros24 52) dk k 0
  exact ⟨rfl, k, os, eo⟩

theorem funit_small (i : Nat) (hi : i < 100) (w : World) :
    Calls Tryz.prog 30 #[.int .u64 i, .int .i64 10] w fun e w' => e = .returned (.string ⟨(Lib.decDigits i).toArray⟩) ∧ w' = w := by
  have c := fun w => Tryz.internal_strconv_small i hi w
  go_enter Tryz.func30, Tryz.ntmps30
  go_wp2_with (go_at_call 31; refine (c _).mono ?_; rintro e w' ⟨rfl, rfl⟩)
  go_ret
  exact ⟨rfl, rfl⟩

theorem funit_any (u : Nat) (hu : u < 18446744073709551616) (w : World) (ht : Pow10 w) :
    Calls Tryz.prog 30 #[.int .u64 u, .int .i64 10] w fun e w' => e = .returned (.string (bs (Lib.decDigits u))) ∧ Below w.heap.size w w' := by
  rcases Nat.lt_or_ge u 100 with h | h
  · refine (funit_small u h w).mono ?_
    rintro e w' ⟨rfl, rfl⟩
    exact ⟨rfl, Below.refl _ _⟩
  · refine (funit_big u h hu w ht).mono ?_
    rintro e w' ⟨rfl, k, os, rfl⟩
    exact ⟨rfl, Lib.below_grow _ w (Nat.le_refl _) k os⟩

theorem formatUint_any (u : Nat) (hu : u < 18446744073709551616) (w : World) (ht : Pow10 w) :
    Calls Tryz.prog 9 #[.int .u64 u, .int .i64 10] w fun e w' => e = .returned (.string (bs (Lib.decDigits u))) ∧ Below w.heap.size w w' := by
  have c := funit_any u hu w ht
  clear ht
  go_enter Tryz.func9, Tryz.ntmps9
  go_wp2_with (go_at_call 30; refine c.mono ?_; rintro e w' ⟨rfl, hb⟩)
  go_ret
  exact ⟨rfl, hb⟩

theorem pow10_below {w w' : World} (h : Pow10 w) (hb : Below w.heap.size w w') : Pow10 w' := Lib.tabBelow_of_tabIs h w' hb

end Go.Proofs.YtpejebohekcfoabGreatDoor
