/- The document's Index and Digits. -/
import Derived.Test.YtahhionlbfhinaaDoorKE
namespace Go.Proofs.YtahhionlbfhinaaDoor.Hp
open Go.RowKit
set_option linter.unusedVariables false

theorem rx_no {s : ByteArray} {k n : Nat} (h : k < s.size) (e : rxI s = (rxF (s.data.toList.drop k) n).filter (fun n => decide (n < 4096))) (d : ¬ (48 ≤ (s[k]).toNat ∧ (s[k]).toNat ≤ 57)) : rxI s = none := by
  rw [e, drop_ix s k h]
  unfold rxF
  rw [if_neg d]
  rfl
theorem rx_next {s : ByteArray} {k n : Nat} (h : k < s.size) (e : rxI s = (rxF (s.data.toList.drop k) n).filter (fun n => decide (n < 4096))) (d : 48 ≤ (s[k]).toNat ∧ (s[k]).toNat ≤ 57) : rxI s = (rxF (s.data.toList.drop (k + 1)) (n * 10 + ((s[k]).toNat - 48))).filter (fun n => decide (n < 4096)) := by
  rw [e, drop_ix s k h]
  conv => lhs; unfold rxF
  rw [if_pos d]

theorem rx_end {s : ByteArray} {k n : Nat} (h : s.size ≤ k) (e : rxI s = (rxF (s.data.toList.drop k) n).filter (fun n => decide (n < 4096))) : rxI s = if n < 4096 then some n else none := by
  rw [e, List.drop_of_length_le (by rw [Array.length_toList]; exact h)]
  simp only [rxF, Option.filter]
  by_cases q : n < 4096
  · simp [q]
  · simp [q]

set_option maxRecDepth 100000 in
set_option maxHeartbeats 1000000 in
theorem rindex_any (s : ByteArray) (w : World) (hs : s.size ≤ maxLen) :
    Calls Tryd.prog 5 #[.string s] w fun e w' => e = .returned (.tuple #[.int .i64 (((rxI s).getD 0 : Nat) : Int), .bool (rxI s).isSome]) ∧ w' = w := by
  have hlim : (s.size : Int) ≤ 9223372036854775807 := by unfold maxLen at hs; omega
  by_cases c0 : s.size = 0
  · have hi : rxI s = none := by unfold rxI; rw [if_pos (Or.inl c0)]
    rw [hi]
    have he : s = ⟨#[]⟩ := by
      obtain ⟨d⟩ := s
      have : d.size = 0 := c0
      rw [Array.eq_empty_of_size_eq_zero this]
    subst he
    clear hs hlim c0 hi
    go_enter Tryd.func5, Tryd.ntmps5
    go_wp2
    go_ret2
    exact ⟨rfl, rfl⟩
  · have hne : s.toList.isEmpty = false := by
      have h := Sp.bytes_no (a := s) (b := ⟨#[]⟩) (fun q => c0 (by rw [q]; rfl))
      have e : ByteArray.toList ⟨#[]⟩ = [] := by first | decide +kernel | simp | (rw [ByteArray.toList]; unfold ByteArray.toList.loop; simp)
      rw [e] at h
      cases hq : s.toList with
      | nil => rw [hq] at h; cases h
      | cons => rfl
    have hp : 0 < s.size := by omega
    by_cases c4 : 4 < s.size
    · have d1 : decide ((4 : Int) < (s.size : Int)) = true := decide_eq_true (by omega)
      have d2 : (4 : Int) < (s.size : Int) := by omega
      have hi : rxI s = none := by unfold rxI; rw [if_pos (Or.inr (Or.inl c4))]
      rw [hi]
      clear hi
      go_enter Tryd.func5, Tryd.ntmps5
      go_wp2_with fail
      go_ret2
      exact ⟨rfl, rfl⟩
    · have d4 : decide ((4 : Int) < (s.size : Int)) = false := decide_eq_false (by omega)
      by_cases c1 : 1 < s.size
      · have d1 : decide ((1 : Int) < (s.size : Int)) = true := decide_eq_true (by omega)
        have d2 : (1 : Int) < (s.size : Int) := by omega
        have hno := nought_ix s c1
        by_cases c48 : s[0]'(by omega) = 48
        · have hi : rxI s = none := by unfold rxI; rw [if_pos (Or.inr (Or.inr (by rw [hno, decide_eq_true c48])))]
          rw [hi]
          have e48 : (((s[0]'(by omega)).toNat : Int) == 48) = true := by rw [c48]; rfl
          clear hno hi c48
          go_enter Tryd.func5, Tryd.ntmps5
          go_wp2_with fail
          go_ret2
          exact ⟨rfl, rfl⟩
        · have hn0 : (s[0]'(by omega)).toNat ≠ 48 := fun q => c48 (by apply UInt8.toNat_inj.1; rw [q]; rfl)
          have e48 : (((s[0]'(by omega)).toNat : Int) == 48) = false := by rw [beq_eq_false_iff_ne]; omega
          have HI : Hid (rxI s = (rxF (s.data.toList.drop 0) 0).filter (fun n => decide (n < 4096))) := by
            show rxI s = _
            unfold rxI
            rw [if_neg (by intro q; rcases q with q | q | q; exact c0 q; exact c4 q; rw [hno, decide_eq_false c48] at q; cases q), List.drop_zero]
          clear hno c48
          go_enter Tryd.func5, Tryd.ntmps5
          go_wp2_with fail
          go_loop [5, 4] (fun p q => ∃ (k n : Nat), k ≤ s.size ∧ n < 10 ^ k ∧ Hid (rxI s = (rxF (s.data.toList.drop k) n).filter (fun n => decide (n < 4096))) ∧ p = .int .i64 (k : Int) ∧ q = .int .i64 (n : Int)) (fun p q => ((s.size : Int) - intOf p).toNat)
          case atStart => exact ⟨0, 0, Nat.zero_le _, by omega, HI, rfl, rfl⟩
          case round =>
            clear HI
            obtain ⟨k, n, hk, hn, HK, rfl, rfl⟩ := hrel
            have hn4 : n < 10000 := Nat.lt_of_lt_of_le hn (by have := Nat.pow_le_pow_right (n := 10) (by omega) (show k ≤ 4 by omega); omega)
            by_cases c : k < s.size
            · have hd := drop_ix s k c
              have hkk : (k : Int) < (s.size : Int) := by omega
              have hub := (s[k]).toNat_lt
              have HCK : Hid (k < s.size ∧ n < 10 ^ k) := ⟨c, hn⟩
              by_cases d : 48 ≤ (s[k]).toNat ∧ (s[k]).toNat ≤ 57
              · have hd1 : (48 : Int) ≤ ((s[k]).toNat : Int) := by omega
                have hd2 : ((s[k]).toNat : Int) ≤ 57 := by omega
                have hd3 : decide (((s[k]).toNat : Int) < 48) = false := decide_eq_false (by omega)
                have hd4 : decide ((57 : Int) < ((s[k]).toNat : Int)) = false := decide_eq_false (by omega)
                have HE : Hid (((s[k]).toNat : Int) - 48 = (((s[k]).toNat - 48 : Nat) : Int)) := by show _ = _; omega
                have HY : Hid (rxI s = (rxF (s.data.toList.drop (k + 1)) (n * 10 + ((s[k]).toNat - 48))).filter (fun n => decide (n < 4096)) ∧ n * 10 + ((s[k]).toNat - 48) < 10 ^ (k + 1)) := ⟨rx_next c HK.out d, by rw [Nat.pow_succ]; omega⟩
                clear d HK hd hn
                go_wp2_with fail
                refine ⟨⟨k + 1, n * 10 + ((s[k]).toNat - 48), by have := HCK.out.1; omega, HY.out.2, HY.out.1, by go_num, by exact congrArg (Value.int .i64) ((congrArg (fun z => (n : Int) * 10 + z) HE.out).trans (by omega))⟩, ?_⟩
                have := HCK.out.1
                simp [intOf]
                omega
              · have HY : Hid (rxI s = none) := rx_no c HK.out d
                by_cases d5 : (s[k]).toNat < 48
                · have hd1 : ((s[k]).toNat : Int) < 48 := by omega
                  have hd3 : decide (((s[k]).toNat : Int) < 48) = true := decide_eq_true hd1
                  clear d HK hd hn d5
                  go_wp2_with fail
                  go_ret2
                  rw [HY.out]
                  exact ⟨rfl, rfl⟩
                · have hd1 : (57 : Int) < ((s[k]).toNat : Int) := by omega
                  have hd3 : decide (((s[k]).toNat : Int) < 48) = false := decide_eq_false (by omega)
                  have hd4 : decide ((57 : Int) < ((s[k]).toNat : Int)) = true := decide_eq_true hd1
                  clear d HK hd hn d5
                  go_wp2_with fail
                  go_ret2
                  rw [HY.out]
                  exact ⟨rfl, rfl⟩
            · have hkk : ¬ ((k : Int) < (s.size : Int)) := by omega
              have hy := rx_end (show s.size ≤ k by omega) HK.out
              by_cases q : n < 4096
              · have HY : Hid (rxI s = some n) := by show rxI s = _; rw [hy, if_pos q]
                have q1 : (n : Int) < 4096 := by omega
                clear hy HK hn q
                go_wp2_with fail
                go_ret2
                rw [HY.out]
                exact ⟨rfl, rfl⟩
              · have HY : Hid (rxI s = none) := by show rxI s = _; rw [hy, if_neg q]
                have q1 : (4096 : Int) ≤ (n : Int) := by omega
                clear hy HK hn q
                go_wp2_with fail
                go_ret2
                rw [HY.out]
                exact ⟨rfl, rfl⟩
      · have d1 : decide ((1 : Int) < (s.size : Int)) = false := decide_eq_false (by omega)
        have HI : Hid (rxI s = (rxF (s.data.toList.drop 0) 0).filter (fun n => decide (n < 4096))) := by
          show rxI s = _
          unfold rxI
          rw [if_neg (by intro q; rcases q with q | q | q; exact c0 q; exact c4 q; rw [nought_one s c1] at q; cases q), List.drop_zero]
        by_cases c48 : ((s[0]'(by omega)).toNat : Int) = 48
        · have e48 : (((s[0]'(by omega)).toNat : Int) == 48) = true := by simpa using c48
          go_enter Tryd.func5, Tryd.ntmps5
          go_wp2_with fail
          go_loop [5, 4] (fun p q => ∃ (k n : Nat), k ≤ s.size ∧ n < 10 ^ k ∧ Hid (rxI s = (rxF (s.data.toList.drop k) n).filter (fun n => decide (n < 4096))) ∧ p = .int .i64 (k : Int) ∧ q = .int .i64 (n : Int)) (fun p q => ((s.size : Int) - intOf p).toNat)
          case atStart => exact ⟨0, 0, Nat.zero_le _, by omega, HI, rfl, rfl⟩
          case round =>
            clear HI
            obtain ⟨k, n, hk, hn, HK, rfl, rfl⟩ := hrel
            have hn4 : n < 10000 := Nat.lt_of_lt_of_le hn (by have := Nat.pow_le_pow_right (n := 10) (by omega) (show k ≤ 4 by omega); omega)
            by_cases c : k < s.size
            · have hd := drop_ix s k c
              have hkk : (k : Int) < (s.size : Int) := by omega
              have hub := (s[k]).toNat_lt
              have HCK : Hid (k < s.size ∧ n < 10 ^ k) := ⟨c, hn⟩
              by_cases d : 48 ≤ (s[k]).toNat ∧ (s[k]).toNat ≤ 57
              · have hd1 : (48 : Int) ≤ ((s[k]).toNat : Int) := by omega
                have hd2 : ((s[k]).toNat : Int) ≤ 57 := by omega
                have hd3 : decide (((s[k]).toNat : Int) < 48) = false := decide_eq_false (by omega)
                have hd4 : decide ((57 : Int) < ((s[k]).toNat : Int)) = false := decide_eq_false (by omega)
                have HE : Hid (((s[k]).toNat : Int) - 48 = (((s[k]).toNat - 48 : Nat) : Int)) := by show _ = _; omega
                have HY : Hid (rxI s = (rxF (s.data.toList.drop (k + 1)) (n * 10 + ((s[k]).toNat - 48))).filter (fun n => decide (n < 4096)) ∧ n * 10 + ((s[k]).toNat - 48) < 10 ^ (k + 1)) := ⟨rx_next c HK.out d, by rw [Nat.pow_succ]; omega⟩
                clear d HK hd hn
                go_wp2_with fail
                refine ⟨⟨k + 1, n * 10 + ((s[k]).toNat - 48), by have := HCK.out.1; omega, HY.out.2, HY.out.1, by go_num, by exact congrArg (Value.int .i64) ((congrArg (fun z => (n : Int) * 10 + z) HE.out).trans (by omega))⟩, ?_⟩
                have := HCK.out.1
                simp [intOf]
                omega
              · have HY : Hid (rxI s = none) := rx_no c HK.out d
                by_cases d5 : (s[k]).toNat < 48
                · have hd1 : ((s[k]).toNat : Int) < 48 := by omega
                  have hd3 : decide (((s[k]).toNat : Int) < 48) = true := decide_eq_true hd1
                  clear d HK hd hn d5
                  go_wp2_with fail
                  go_ret2
                  rw [HY.out]
                  exact ⟨rfl, rfl⟩
                · have hd1 : (57 : Int) < ((s[k]).toNat : Int) := by omega
                  have hd3 : decide (((s[k]).toNat : Int) < 48) = false := decide_eq_false (by omega)
                  have hd4 : decide ((57 : Int) < ((s[k]).toNat : Int)) = true := decide_eq_true hd1
                  clear d HK hd hn d5
                  go_wp2_with fail
                  go_ret2
                  rw [HY.out]
                  exact ⟨rfl, rfl⟩
            · have hkk : ¬ ((k : Int) < (s.size : Int)) := by omega
              have hy := rx_end (show s.size ≤ k by omega) HK.out
              by_cases q : n < 4096
              · have HY : Hid (rxI s = some n) := by show rxI s = _; rw [hy, if_pos q]
                have q1 : (n : Int) < 4096 := by omega
                clear hy HK hn q
                go_wp2_with fail
                go_ret2
                rw [HY.out]
                exact ⟨rfl, rfl⟩
              · have HY : Hid (rxI s = none) := by show rxI s = _; rw [hy, if_neg q]
                have q1 : (4096 : Int) ≤ (n : Int) := by omega
                clear hy HK hn q
                go_wp2_with fail
                go_ret2
                rw [HY.out]
                exact ⟨rfl, rfl⟩
        · have e48 : (((s[0]'(by omega)).toNat : Int) == 48) = false := by simpa using c48
          go_enter Tryd.func5, Tryd.ntmps5
          go_wp2_with fail
          go_loop [5, 4] (fun p q => ∃ (k n : Nat), k ≤ s.size ∧ n < 10 ^ k ∧ Hid (rxI s = (rxF (s.data.toList.drop k) n).filter (fun n => decide (n < 4096))) ∧ p = .int .i64 (k : Int) ∧ q = .int .i64 (n : Int)) (fun p q => ((s.size : Int) - intOf p).toNat)
          case atStart => exact ⟨0, 0, Nat.zero_le _, by omega, HI, rfl, rfl⟩
          case round =>
            clear HI
            obtain ⟨k, n, hk, hn, HK, rfl, rfl⟩ := hrel
            have hn4 : n < 10000 := Nat.lt_of_lt_of_le hn (by have := Nat.pow_le_pow_right (n := 10) (by omega) (show k ≤ 4 by omega); omega)
            by_cases c : k < s.size
            · have hd := drop_ix s k c
              have hkk : (k : Int) < (s.size : Int) := by omega
              have hub := (s[k]).toNat_lt
              have HCK : Hid (k < s.size ∧ n < 10 ^ k) := ⟨c, hn⟩
              by_cases d : 48 ≤ (s[k]).toNat ∧ (s[k]).toNat ≤ 57
              · have hd1 : (48 : Int) ≤ ((s[k]).toNat : Int) := by omega
                have hd2 : ((s[k]).toNat : Int) ≤ 57 := by omega
                have hd3 : decide (((s[k]).toNat : Int) < 48) = false := decide_eq_false (by omega)
                have hd4 : decide ((57 : Int) < ((s[k]).toNat : Int)) = false := decide_eq_false (by omega)
                have HE : Hid (((s[k]).toNat : Int) - 48 = (((s[k]).toNat - 48 : Nat) : Int)) := by show _ = _; omega
                have HY : Hid (rxI s = (rxF (s.data.toList.drop (k + 1)) (n * 10 + ((s[k]).toNat - 48))).filter (fun n => decide (n < 4096)) ∧ n * 10 + ((s[k]).toNat - 48) < 10 ^ (k + 1)) := ⟨rx_next c HK.out d, by rw [Nat.pow_succ]; omega⟩
                clear d HK hd hn
                go_wp2_with fail
                refine ⟨⟨k + 1, n * 10 + ((s[k]).toNat - 48), by have := HCK.out.1; omega, HY.out.2, HY.out.1, by go_num, by exact congrArg (Value.int .i64) ((congrArg (fun z => (n : Int) * 10 + z) HE.out).trans (by omega))⟩, ?_⟩
                have := HCK.out.1
                simp [intOf]
                omega
              · have HY : Hid (rxI s = none) := rx_no c HK.out d
                by_cases d5 : (s[k]).toNat < 48
                · have hd1 : ((s[k]).toNat : Int) < 48 := by omega
                  have hd3 : decide (((s[k]).toNat : Int) < 48) = true := decide_eq_true hd1
                  clear d HK hd hn d5
                  go_wp2_with fail
                  go_ret2
                  rw [HY.out]
                  exact ⟨rfl, rfl⟩
                · have hd1 : (57 : Int) < ((s[k]).toNat : Int) := by omega
                  have hd3 : decide (((s[k]).toNat : Int) < 48) = false := decide_eq_false (by omega)
                  have hd4 : decide ((57 : Int) < ((s[k]).toNat : Int)) = true := decide_eq_true hd1
                  clear d HK hd hn d5
                  go_wp2_with fail
                  go_ret2
                  rw [HY.out]
                  exact ⟨rfl, rfl⟩
            · have hkk : ¬ ((k : Int) < (s.size : Int)) := by omega
              have hy := rx_end (show s.size ≤ k by omega) HK.out
              by_cases q : n < 4096
              · have HY : Hid (rxI s = some n) := by show rxI s = _; rw [hy, if_pos q]
                have q1 : (n : Int) < 4096 := by omega
                clear hy HK hn q
                go_wp2_with fail
                go_ret2
                rw [HY.out]
                exact ⟨rfl, rfl⟩
              · have HY : Hid (rxI s = none) := by show rxI s = _; rw [hy, if_neg q]
                have q1 : (4096 : Int) ≤ (n : Int) := by omega
                clear hy HK hn q
                go_wp2_with fail
                go_ret2
                rw [HY.out]
                exact ⟨rfl, rfl⟩

end Go.Proofs.YtahhionlbfhinaaDoor.Hp
