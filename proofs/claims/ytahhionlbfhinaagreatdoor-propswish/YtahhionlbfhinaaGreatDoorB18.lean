/- The document's Own of what is no array. -/
import Derived.Test.YtahhionlbfhinaaGreatDoorB16
import Derived.Test.YtahhionlbfhinaaGreatDoorB8
import Derived.Test.YtahhionlbfhinaaGreatDoorB1
import Derived.Test.YtahhionlbfhinaaGreatDoorB2
namespace Go.Proofs.YtahhionlbfhinaaGreatDoor.Hp
open Go.RowKit
set_option linter.unusedVariables false

section
variable {w W W' w' w1 : World} {B b n : Nat} {tg : Nat → Nat} {S : List So} {vo vt : SV} {qs : List QV}

set_option maxRecDepth 100000 in
set_option maxHeartbeats 1000000 in
theorem rown_plain (h : StAt w B tg S vo qs) (vt : SV) {i : Nat} {x : So} (hi : S[i]? = some x) (hk1 : x.kind ≠ 1) (k : ByteArray) :
    Calls Tryz.prog 19 #[stV vo vt, .int .u64 (objW (i : Int)), .string k] w fun e w' => e = .returned (.tuple #[deV ((getS x k).getD zDe), .bool (getS x k).isSome]) ∧ Below w.heap.size w w' := by
  obtain ⟨wb, hwb⟩ : ∃ wb, wb = (w.alloc (.cells #[vo.val, vt.val] 28)).alloc (.cells #[.int .u64 0, .int .u64 0, .int .i64 0] 41) := ⟨_, rfl⟩
  obtain ⟨hbs, hbd, hB⟩ := boxSD w vo vt
  rw [← hwb] at hbs hbd hB
  have h2 := h.below hB
  have ka := rarray_any h2 vt hi
  rw [show (x.kind == 1) = false from by simpa using hk1] at ka
  have HG : Hid (∀ W, Below wb.heap.size wb W → Calls Tryz.prog 76 #[stV vo vt, .int .u64 (objW (i : Int)), .string k] W fun e w' => e = .returned (.tuple #[deV ((getS x k).getD zDe), .bool (getS x k).isSome]) ∧ Below W.heap.size W w') := fun W r => rget_any (h2.below r) vt hi k
  have HBS : Hid (∀ W, Below wb.heap.size wb W → W.cell? ⟨w.heap.size, 0, none⟩ = some vo.val ∧ W.cell? ⟨w.heap.size, 1, none⟩ = some vt.val) := fun W r => (hbs.below r).ce
  have HFI : Hid (∀ w6 d, Below wb.heap.size wb w6 → Bx3 w6 (w.heap.size + 1) zDe ∧ Bx3 (st3 w6 (w.heap.size + 1) d) (w.heap.size + 1) d ∧ Below w.heap.size w (st3 w6 (w.heap.size + 1) d)) := fun w6 d r => fin3b hB hbd (by omega) r d
  obtain ⟨b0, b1⟩ := hbs.ce
  generalize (getS x k).getD zDe = d at *
  generalize (getS x k).isSome = ok at *
  generalize objW (i : Int) = o at *
  unfold stV deV at *
  unfold SV.val at *
  clear h h2 hB hbs hbd hi hk1
  go_enter Tryz.func19, Tryz.ntmps19
  go_upto_region 1 with fail
  rw [← hwb]
  clear hwb
  go_wp2_with fail
  refine ka.mono ?_
  rintro e w2 ⟨rfl, hB2⟩
  obtain ⟨b0, b1⟩ := HBS.out w2 hB2
  have kg := HG.out w2 hB2
  have HB2 : Hid (Below wb.heap.size wb w2) := hB2
  clear ka hB2 HG HBS
  go_wp2_with fail
  refine kg.mono ?_
  rintro e w3 ⟨rfl, hB3⟩
  obtain ⟨q1, q2, q3⟩ := HFI.out w3 d (bel_sm' HB2.out hB3)
  obtain ⟨f0, f1, f2⟩ := q1.fz
  obtain ⟨d0, d1, d2⟩ := q1.ce
  unfold zDe at d0 d1 d2
  have HF := (show Hid _ from And.intro q2 q3)
  clear kg hB3 HB2 HFI q1 q2 q3
  go_wp2_with fail
  refine bodyPost_ret (res2 rfl _ _ (w.heap.size + 1) 41 _ (0, 0) _ rfl HF.out.1 Tryz.underlying41 rfl (by kernel_rfl)) rfl ?_
  exact ⟨rfl, HF.out.2⟩

end

end Go.Proofs.YtahhionlbfhinaaGreatDoor.Hp

/- Keys that are places of elements: plain. -/
namespace Go.Proofs.YtahhionlbfhinaaGreatDoor.Hp
open Go.RowKit
set_option linter.unusedVariables false

/-- the program's way: it stops as soon as it is too great -/
def ixF : List UInt8 → Nat → Option Nat
  | [], n => some n
  | c :: l, n => if 48 ≤ c.toNat ∧ c.toNat ≤ 57 then (if 4096 ≤ n * 10 + (c.toNat - 48) then none else ixF l (n * 10 + (c.toNat - 48))) else none
/-- the document's way -/
def rxF : List UInt8 → Nat → Option Nat
  | [], n => some n
  | c :: l, n => if 48 ≤ c.toNat ∧ c.toNat ≤ 57 then rxF l (n * 10 + (c.toNat - 48)) else none

def noughtB (k : ByteArray) : Bool := match k.data.toList with
  | c :: _ :: _ => decide (c = 48)
  | _ => false
def ixI (k : ByteArray) : Option Nat := if k.size = 0 ∨ noughtB k = true then none else ixF k.data.toList 0
def rxI (k : ByteArray) : Option Nat := if k.size = 0 ∨ 4 < k.size ∨ noughtB k = true then none else (rxF k.data.toList 0).filter (fun n => decide (n < 4096))

theorem rx_ge : ∀ (l : List UInt8) (n r : Nat), rxF l n = some r → n * 10 ^ l.length ≤ r
  | [], n, r, h => by
    simp only [rxF, Option.some.injEq] at h
    simp [h]
  | c :: l, n, r, h => by
    unfold rxF at h
    split at h
    · have := rx_ge l _ r h
      refine Nat.le_trans ?_ this
      rw [List.length_cons, Nat.pow_succ, ← Nat.mul_assoc, Nat.mul_right_comm]
      exact Nat.mul_le_mul_right _ (Nat.le_add_right _ _)
    · cases h

theorem rx_ge1 (l : List UInt8) (n r : Nat) (h : rxF l n = some r) : n ≤ r := by
  have h1 := rx_ge l n r h
  have h2 : 1 ≤ 10 ^ l.length := Nat.pow_pos (by omega)
  have h3 := Nat.mul_le_mul_left n h2
  omega

theorem ix_rx : ∀ (l : List UInt8) (n : Nat), n < 4096 → ixF l n = (rxF l n).filter (fun n => decide (n < 4096))
  | [], n, h => by simp [ixF, rxF, Option.filter, h]
  | c :: l, n, h => by
    unfold ixF rxF
    split
    · split
      · rename_i q
        cases hr : rxF l (n * 10 + (c.toNat - 48)) with
        | none => rfl
        | some r =>
          have := rx_ge1 _ _ _ hr
          simp only [Option.filter]
          rw [if_neg]
          simp
          omega
      · rename_i q
        exact ix_rx l _ (by omega)
    · rfl

theorem ix_same (k : ByteArray) : ixI k = rxI k := by
  unfold ixI rxI
  by_cases h0 : k.size = 0 ∨ noughtB k = true
  · rw [if_pos h0, if_pos (by rcases h0 with q | q; exact Or.inl q; exact Or.inr (Or.inr q))]
  · rw [if_neg h0]
    have e0 : k.size ≠ 0 := fun q => h0 (Or.inl q)
    have e1 : noughtB k ≠ true := fun q => h0 (Or.inr q)
    by_cases h4 : 4 < k.size
    · rw [if_pos (Or.inr (Or.inl h4)), ix_rx _ _ (by omega)]
      have hl : k.data.toList.length = k.size := Array.length_toList
      unfold noughtB at e1
      cases hd : k.data.toList with
      | nil => rw [hd] at hl; simp at hl; omega
      | cons c l =>
        rw [hd] at hl e1
        cases l with
        | nil => simp at hl; omega
        | cons c2 l2 =>
          simp only at e1
          cases hr : rxF (c :: c2 :: l2) 0 with
          | none => rfl
          | some r =>
            simp only [Option.filter]
            rw [if_neg]
            unfold rxF at hr
            split at hr
            · rename_i q
              have hc : c.toNat ≠ 48 := fun q2 => e1 (decide_eq_true (by apply UInt8.toNat_inj.1; rw [q2]; rfl))
              have h5 := rx_ge _ _ _ hr
              simp only [List.length_cons] at hl h5
              have h6 : 10 ^ 4 ≤ 10 ^ (l2.length + 1) := Nat.pow_le_pow_right (by omega) (by omega)
              have h7 : 1 * 10 ^ (l2.length + 1) ≤ (0 * 10 + (c.toNat - 48)) * 10 ^ (l2.length + 1) := Nat.mul_le_mul_right _ (by omega)
              simp
              omega
            · cases hr
    · rw [if_neg (by intro q; rcases q with q | q | q; exact e0 q; exact h4 q; exact e1 q), ix_rx _ _ (by omega)]

/-- a number, written -/
def dgF : Nat → Nat → List UInt8
  | 0, n => [UInt8.ofNat (48 + n % 10)]
  | f + 1, n => if n < 10 then [UInt8.ofNat (48 + n)] else dgF f (n / 10) ++ [UInt8.ofNat (48 + n % 10)]
def dgI (n : Nat) : ByteArray := ⟨(dgF 4 n).toArray⟩

theorem rx_app : ∀ (l m : List UInt8) (n : Nat), rxF (l ++ m) n = (rxF l n).bind (rxF m)
  | [], m, n => by simp [rxF]
  | c :: l, m, n => by
    rw [List.cons_append]
    unfold rxF
    split
    · exact rx_app l m _
    · rfl

theorem ofn (d : Nat) (h : d < 10) : (UInt8.ofNat (48 + d)).toNat = 48 + d := by
  rw [UInt8.toNat_ofNat']
  omega

theorem rx_one (d n : Nat) (h : d < 10) : rxF [UInt8.ofNat (48 + d)] n = some (n * 10 + d) := by
  unfold rxF rxF
  rw [ofn d h, if_pos (by omega)]
  congr 1
  omega

theorem dg_rx : ∀ (f n : Nat), n < 10 ^ (f + 1) → rxF (dgF f n) 0 = some n
  | 0, n, h => by
    have h : n < 10 := by simpa using h
    unfold dgF
    rw [Nat.mod_eq_of_lt h, rx_one n 0 h]
    simp
  | f + 1, n, h => by
    unfold dgF
    split
    · rename_i q
      rw [rx_one n 0 q]
      simp
    · have h1 : n / 10 < 10 ^ (f + 1) := by
        rw [Nat.pow_succ] at h
        exact Nat.div_lt_of_lt_mul (by omega)
      rw [rx_app, dg_rx f _ h1]
      show rxF _ (n / 10) = _
      rw [rx_one _ _ (Nat.mod_lt _ (by omega))]
      congr 1
      omega

theorem dg_head : ∀ (f n : Nat), 1 ≤ n → n < 10 ^ (f + 1) → ∃ c l, dgF f n = c :: l ∧ c.toNat ≠ 48
  | 0, n, h1, h => by
    have h : n < 10 := by simpa using h
    refine ⟨_, _, rfl, ?_⟩
    rw [Nat.mod_eq_of_lt h, ofn n h]
    omega
  | f + 1, n, h1, h => by
    unfold dgF
    split
    · rename_i q
      refine ⟨_, _, rfl, ?_⟩
      rw [ofn n q]
      omega
    · have h2 : n / 10 < 10 ^ (f + 1) := by
        rw [Nat.pow_succ] at h
        exact Nat.div_lt_of_lt_mul (by omega)
      obtain ⟨c, l, e, hc⟩ := dg_head f (n / 10) (by omega) h2
      exact ⟨c, l ++ [UInt8.ofNat (48 + n % 10)], by rw [e]; rfl, hc⟩

theorem dg_ix (n : Nat) (h : n < 4096) : ixI (dgI n) = some n := by
  have hr := dg_rx 4 n (by omega)
  have hs : (dgI n).data.toList = dgF 4 n := by simp [dgI]
  unfold ixI
  rw [if_neg]
  · rw [hs, ix_rx _ _ (by omega), hr]
    simp [Option.filter, h]
  · rintro (q | q)
    · have : (dgF 4 n).length = 0 := by rw [← hs, Array.length_toList]; exact q
      rw [List.eq_nil_of_length_eq_zero this] at hr
      by_cases c : n = 0
      · subst c
        simp [dgF] at this
      · simp [rxF] at hr
        omega
    · unfold noughtB at q
      rw [hs] at q
      by_cases c : n = 0
      · subst c
        simp [dgF] at q
      · obtain ⟨c, l, e, hc⟩ := dg_head 4 n (by omega) (by omega)
        rw [e] at q
        cases l with
        | nil => simp at q
        | cons c2 l2 =>
          simp only [decide_eq_true_eq] at q
          exact hc (by rw [q]; rfl)

end Go.Proofs.YtahhionlbfhinaaGreatDoor.Hp

/- Index. -/
namespace Go.Proofs.YtahhionlbfhinaaGreatDoor.Hp
open Go.RowKit
set_option linter.unusedVariables false

theorem at_ix (s : ByteArray) (k : Nat) (h : k < s.size) : s.data.toList[k]? = some s[k] := by
  rw [Array.getElem?_toList]
  exact Array.getElem?_eq_getElem h
theorem drop_ix (s : ByteArray) (k : Nat) (h : k < s.size) : s.data.toList.drop k = s[k] :: s.data.toList.drop (k + 1) := by
  have hl : k < s.data.toList.length := by rw [Array.length_toList]; exact h
  rw [List.drop_eq_getElem_cons hl]
  rfl
theorem nought_ix (s : ByteArray) (h : 1 < s.size) : noughtB s = decide (s[0]'(by omega) = 48) := by
  unfold noughtB
  have h0 := drop_ix s 0 (by omega)
  have h1 := drop_ix s 1 h
  rw [List.drop_zero] at h0
  rw [h0, h1]
theorem nought_one (s : ByteArray) (h : ¬ 1 < s.size) : noughtB s = false := by
  unfold noughtB
  have hl : s.data.toList.length = s.size := Array.length_toList
  cases hd : s.data.toList with
  | nil => rfl
  | cons c l =>
    cases l with
    | nil => rfl
    | cons c2 l2 =>
      rw [hd] at hl
      simp at hl
      omega

section
variable {s : ByteArray} {k n : Nat} (h : k < s.size) (e : ixI s = ixF (s.data.toList.drop k) n)

theorem ix_no (h : k < s.size) (e : ixI s = ixF (s.data.toList.drop k) n) (d : ¬ (48 ≤ (s[k]).toNat ∧ (s[k]).toNat ≤ 57)) : ixI s = none := by
  rw [e, drop_ix s k h]
  unfold ixF
  rw [if_neg d]
theorem ix_big (h : k < s.size) (e : ixI s = ixF (s.data.toList.drop k) n) (d : 48 ≤ (s[k]).toNat ∧ (s[k]).toNat ≤ 57) (g : 4096 ≤ n * 10 + ((s[k]).toNat - 48)) : ixI s = none := by
  rw [e, drop_ix s k h]
  unfold ixF
  rw [if_pos d, if_pos g]
theorem ix_next (h : k < s.size) (e : ixI s = ixF (s.data.toList.drop k) n) (d : 48 ≤ (s[k]).toNat ∧ (s[k]).toNat ≤ 57) (g : ¬ 4096 ≤ n * 10 + ((s[k]).toNat - 48)) : ixI s = ixF (s.data.toList.drop (k + 1)) (n * 10 + ((s[k]).toNat - 48)) := by
  rw [e, drop_ix s k h]
  conv => lhs; unfold ixF
  rw [if_pos d, if_neg g]
end

set_option maxRecDepth 100000 in
theorem index_any (s : ByteArray) (w : World) (hs : s.size ≤ maxLen) :
    Calls Tryz.prog 81 #[.string s] w fun e w' => e = .returned (.tuple #[.int .i64 (((ixI s).getD 0 : Nat) : Int), .bool (ixI s).isSome]) ∧ w' = w := by
  have hlim : (s.size : Int) ≤ 9223372036854775807 := by unfold maxLen at hs; omega
  by_cases c0 : s.size = 0
  · have hi : ixI s = none := by unfold ixI; rw [if_pos (Or.inl c0)]
    rw [hi]
    have he : s = ⟨#[]⟩ := by
      obtain ⟨d⟩ := s
      have : d.size = 0 := c0
      rw [Array.eq_empty_of_size_eq_zero this]
    subst he
    clear hs hlim c0 hi
    go_enter Tryz.func81, Tryz.ntmps81
    go_wp2
    go_ret2
    exact ⟨rfl, rfl⟩
  · have hne : s.toList.isEmpty = false := by
      have h := Sp.bytes_no (a := s) (b := ⟨#[]⟩) (fun q => c0 (by rw [q]; rfl))
      have e : ByteArray.toList ⟨#[]⟩ = [] := by first | decide +kernel | simp | (rw [ByteArray.toList]; unfold ByteArray.toList.loop; simp)
      rw [e] at h
      cases hq : s.toList with
      | nil => rw [hq] at h; cases h
      | cons => rfl
    have hp : 0 < s.size := by omega
    by_cases c1 : 1 < s.size
    · have d1 : decide ((1 : Int) < (s.size : Int)) = true := decide_eq_true (by omega)
      have d2 : (1 : Int) < (s.size : Int) := by omega
      have hno := nought_ix s c1
      by_cases c48 : s[0]'(by omega) = 48
      · have hi : ixI s = none := by unfold ixI; rw [if_pos (Or.inr (by rw [hno, decide_eq_true c48]))]
        rw [hi]
        have e48 : (((s[0]'(by omega)).toNat : Int) == 48) = true := by rw [c48]; rfl
        clear hno hi c48
        go_enter Tryz.func81, Tryz.ntmps81
        go_wp2_with fail
        go_ret2
        exact ⟨rfl, rfl⟩
      · have hn0 : (s[0]'(by omega)).toNat ≠ 48 := fun q => c48 (by apply UInt8.toNat_inj.1; rw [q]; rfl)
        have e48 : (((s[0]'(by omega)).toNat : Int) == 48) = false := by rw [beq_eq_false_iff_ne]; omega
        have HI : Hid (ixI s = ixF (s.data.toList.drop 0) 0) := by
          show ixI s = _
          unfold ixI
          rw [if_neg (by intro q; rcases q with q | q; exact c0 q; rw [hno, decide_eq_false c48] at q; cases q), List.drop_zero]
        clear hno c48
        go_enter Tryz.func81, Tryz.ntmps81
        go_wp2_with fail
        go_loop [21, 4] (fun p q => ∃ (k n : Nat), k ≤ s.size ∧ n < 4096 ∧ Hid (ixI s = ixF (s.data.toList.drop k) n) ∧ p = .int .i64 (k : Int) ∧ q = .int .i64 (n : Int)) (fun p q => ((s.size : Int) - intOf p).toNat)
        case atStart => exact ⟨0, 0, Nat.zero_le _, by omega, HI, rfl, rfl⟩
        case round =>
          clear HI
          obtain ⟨k, n, hk, hn, HK, rfl, rfl⟩ := hrel
          by_cases c : k < s.size
          · have hd := drop_ix s k c
            have hkk : (k : Int) < (s.size : Int) := by omega
            have hub := (s[k]).toNat_lt
            have HCK : Hid (k < s.size) := c
            by_cases d : 48 ≤ (s[k]).toNat ∧ (s[k]).toNat ≤ 57
            · have hd9 : (((s[k]).toNat : Int) - 48) % 256 ≤ 9 := by omega
              have HE : Hid ((((s[k]).toNat : Int) - 48) % 256 = (((s[k]).toNat - 48 : Nat) : Int)) := by show _ = _; omega
              clear hub hd
              by_cases g : 4096 ≤ n * 10 + ((s[k]).toNat - 48)
              · have HY : Hid (ixI s = none) := ix_big c HK.out d g
                have hg2 : (4096 : Int) ≤ (n : Int) * 10 + (((s[k]).toNat : Int) - 48) % 256 := by rw [HE.out]; omega
                clear g HE d HK
                go_wp2_with fail
                go_ret2
                rw [HY.out]
                exact ⟨rfl, rfl⟩
              · have HY : Hid (ixI s = ixF (s.data.toList.drop (k + 1)) (n * 10 + ((s[k]).toNat - 48)) ∧ n * 10 + ((s[k]).toNat - 48) < 4096) := ⟨ix_next c HK.out d g, by omega⟩
                have hg2 : (n : Int) * 10 + (((s[k]).toNat : Int) - 48) % 256 < 4096 := by rw [HE.out]; omega
                clear g d HK
                go_wp2_with fail
                refine ⟨⟨k + 1, n * 10 + ((s[k]).toNat - 48), by have := HCK.out; omega, HY.out.2, HY.out.1, by go_num, by exact congrArg (Value.int .i64) ((congrArg (fun z => (n : Int) * 10 + z) HE.out).trans (by omega))⟩, ?_⟩
                have := HCK.out
                simp [intOf]
                omega
            · have HY : Hid (ixI s = none) := ix_no c HK.out d
              have hd9 : (9 : Int) < (((s[k]).toNat : Int) - 48) % 256 := by omega
              clear hd HK d hub
              go_wp2_with fail
              go_ret2
              rw [HY.out]
              exact ⟨rfl, rfl⟩
          · have hkk : ¬ ((k : Int) < (s.size : Int)) := by omega
            have HY : Hid (ixI s = some n) := by
              have := HK.out
              rw [List.drop_of_length_le (by rw [Array.length_toList]; exact (by omega : s.size ≤ k))] at this
              exact this
            clear HK
            go_wp2_with fail
            go_ret2
            rw [HY.out]
            exact ⟨rfl, rfl⟩
    · have d1 : decide ((1 : Int) < (s.size : Int)) = false := decide_eq_false (by omega)
      have HI : Hid (ixI s = ixF (s.data.toList.drop 0) 0) := by
        show ixI s = _
        unfold ixI
        rw [if_neg (by intro q; rcases q with q | q; exact c0 q; rw [nought_one s c1] at q; cases q), List.drop_zero]
      go_enter Tryz.func81, Tryz.ntmps81
      go_wp2_with fail
      go_loop [21, 4] (fun p q => ∃ (k n : Nat), k ≤ s.size ∧ n < 4096 ∧ Hid (ixI s = ixF (s.data.toList.drop k) n) ∧ p = .int .i64 (k : Int) ∧ q = .int .i64 (n : Int)) (fun p q => ((s.size : Int) - intOf p).toNat)
      case atStart => exact ⟨0, 0, Nat.zero_le _, by omega, HI, rfl, rfl⟩
      case round =>
        clear HI
        obtain ⟨k, n, hk, hn, HK, rfl, rfl⟩ := hrel
        by_cases c : k < s.size
        · have hd := drop_ix s k c
          have hkk : (k : Int) < (s.size : Int) := by omega
          have hub := (s[k]).toNat_lt
          have HCK : Hid (k < s.size) := c
          by_cases d : 48 ≤ (s[k]).toNat ∧ (s[k]).toNat ≤ 57
          · have hd9 : (((s[k]).toNat : Int) - 48) % 256 ≤ 9 := by omega
            have HE : Hid ((((s[k]).toNat : Int) - 48) % 256 = (((s[k]).toNat - 48 : Nat) : Int)) := by show _ = _; omega
            clear hub hd
            by_cases g : 4096 ≤ n * 10 + ((s[k]).toNat - 48)
            · have HY : Hid (ixI s = none) := ix_big c HK.out d g
              have hg2 : (4096 : Int) ≤ (n : Int) * 10 + (((s[k]).toNat : Int) - 48) % 256 := by rw [HE.out]; omega
              clear g HE d HK
              go_wp2_with fail
              go_ret2
              rw [HY.out]
              exact ⟨rfl, rfl⟩
            · have HY : Hid (ixI s = ixF (s.data.toList.drop (k + 1)) (n * 10 + ((s[k]).toNat - 48)) ∧ n * 10 + ((s[k]).toNat - 48) < 4096) := ⟨ix_next c HK.out d g, by omega⟩
              have hg2 : (n : Int) * 10 + (((s[k]).toNat : Int) - 48) % 256 < 4096 := by rw [HE.out]; omega
              clear g d HK
              go_wp2_with fail
              refine ⟨⟨k + 1, n * 10 + ((s[k]).toNat - 48), by have := HCK.out; omega, HY.out.2, HY.out.1, by go_num, by exact congrArg (Value.int .i64) ((congrArg (fun z => (n : Int) * 10 + z) HE.out).trans (by omega))⟩, ?_⟩
              have := HCK.out
              simp [intOf]
              omega
          · have HY : Hid (ixI s = none) := ix_no c HK.out d
            have hd9 : (9 : Int) < (((s[k]).toNat : Int) - 48) % 256 := by omega
            clear hd HK d hub
            go_wp2_with fail
            go_ret2
            rw [HY.out]
            exact ⟨rfl, rfl⟩
        · have hkk : ¬ ((k : Int) < (s.size : Int)) := by omega
          have HY : Hid (ixI s = some n) := by
            have := HK.out
            rw [List.drop_of_length_le (by rw [Array.length_toList]; exact (by omega : s.size ≤ k))] at this
            exact this
          clear HK
          go_wp2_with fail
          go_ret2
          rw [HY.out]
          exact ⟨rfl, rfl⟩

end Go.Proofs.YtahhionlbfhinaaGreatDoor.Hp
