/- Index. -/
import Derived.Test.YtahhionlbfhinaaDoorB14
import Derived.Test.YtahhionlbfhinaaDoorHB
import Derived.Test.YtahhionlbfhinaaDoorB1
namespace Go.Proofs.YtahhionlbfhinaaDoor.Hp
open Go.RowKit
set_option linter.unusedVariables false

theorem at_ix (s : ByteArray) (k : Nat) (h : k < s.size) : s.data.toList[k]? = some s[k] := by
  rw [Array.getElem?_toList]
  exact Array.getElem?_eq_getElem h
theorem drop_ix (s : ByteArray) (k : Nat) (h : k < s.size) : s.data.toList.drop k = s[k] :: s.data.toList.drop (k + 1) := by
  have hl : k < s.data.toList.length := by rw [Array.length_toList]; exact h
  rw [List.drop_eq_getElem_cons hl]
  rfl
theorem nought_ix (s : ByteArray) (h : 1 < s.size) : noughtB s = decide (s[0]'(by omega) = 48) := by
  unfold noughtB
  have h0 := drop_ix s 0 (by omega)
  have h1 := drop_ix s 1 h
  rw [List.drop_zero] at h0
  rw [h0, h1]
theorem nought_one (s : ByteArray) (h : ¬ 1 < s.size) : noughtB s = false := by
  unfold noughtB
  have hl : s.data.toList.length = s.size := Array.length_toList
  cases hd : s.data.toList with
  | nil => rfl
  | cons c l =>
    cases l with
    | nil => rfl
    | cons c2 l2 =>
      rw [hd] at hl
      simp at hl
      omega

section
variable {s : ByteArray} {k n : Nat} (h : k < s.size) (e : ixI s = ixF (s.data.toList.drop k) n)

theorem ix_no (h : k < s.size) (e : ixI s = ixF (s.data.toList.drop k) n) (d : ¬ (48 ≤ (s[k]).toNat ∧ (s[k]).toNat ≤ 57)) : ixI s = none := by
  rw [e, drop_ix s k h]
  unfold ixF
  rw [if_neg d]
theorem ix_big (h : k < s.size) (e : ixI s = ixF (s.data.toList.drop k) n) (d : 48 ≤ (s[k]).toNat ∧ (s[k]).toNat ≤ 57) (g : 4096 ≤ n * 10 + ((s[k]).toNat - 48)) : ixI s = none := by
  rw [e, drop_ix s k h]
  unfold ixF
  rw [if_pos d, if_pos g]
theorem ix_next (h : k < s.size) (e : ixI s = ixF (s.data.toList.drop k) n) (d : 48 ≤ (s[k]).toNat ∧ (s[k]).toNat ≤ 57) (g : ¬ 4096 ≤ n * 10 + ((s[k]).toNat - 48)) : ixI s = ixF (s.data.toList.drop (k + 1)) (n * 10 + ((s[k]).toNat - 48)) := by
  rw [e, drop_ix s k h]
  conv => lhs; unfold ixF
  rw [if_pos d, if_neg g]
end

set_option maxRecDepth 100000 in
theorem index_any (s : ByteArray) (w : World) (hs : s.size ≤ maxLen) :
    Calls Tryd.prog 4 #[.string s] w fun e w' => e = .returned (.tuple #[.int .i64 (((ixI s).getD 0 : Nat) : Int), .bool (ixI s).isSome]) ∧ w' = w := by
  have hlim : (s.size : Int) ≤ 9223372036854775807 := by unfold maxLen at hs; omega
  by_cases c0 : s.size = 0
  · have hi : ixI s = none := by unfold ixI; rw [if_pos (Or.inl c0)]
    rw [hi]
    have he : s = ⟨#[]⟩ := by
      obtain ⟨d⟩ := s
      have : d.size = 0 := c0
      rw [Array.eq_empty_of_size_eq_zero this]
    subst he
    clear hs hlim c0 hi
    go_enter Tryd.func4, Tryd.ntmps4
    go_wp2
    go_ret2
    exact ⟨rfl, rfl⟩
  · have hne : s.toList.isEmpty = false := by
      have h := Sp.bytes_no (a := s) (b := ⟨#[]⟩) (fun q => c0 (by rw [q]; rfl))
      have e : ByteArray.toList ⟨#[]⟩ = [] := by first | decide +kernel | simp | (rw [ByteArray.toList]; unfold ByteArray.toList.loop; simp)
      rw [e] at h
      cases hq : s.toList with
      | nil => rw [hq] at h; cases h
      | cons => rfl
    have hp : 0 < s.size := by omega
    by_cases c1 : 1 < s.size
    · have d1 : decide ((1 : Int) < (s.size : Int)) = true := decide_eq_true (by omega)
      have d2 : (1 : Int) < (s.size : Int) := by omega
      have hno := nought_ix s c1
      by_cases c48 : s[0]'(by omega) = 48
      · have hi : ixI s = none := by unfold ixI; rw [if_pos (Or.inr (by rw [hno, decide_eq_true c48]))]
        rw [hi]
        have e48 : (((s[0]'(by omega)).toNat : Int) == 48) = true := by rw [c48]; rfl
        clear hno hi c48
        go_enter Tryd.func4, Tryd.ntmps4
        go_wp2_with fail
        go_ret2
        exact ⟨rfl, rfl⟩
      · have hn0 : (s[0]'(by omega)).toNat ≠ 48 := fun q => c48 (by apply UInt8.toNat_inj.1; rw [q]; rfl)
        have e48 : (((s[0]'(by omega)).toNat : Int) == 48) = false := by rw [beq_eq_false_iff_ne]; omega
        have HI : Hid (ixI s = ixF (s.data.toList.drop 0) 0) := by
          show ixI s = _
          unfold ixI
          rw [if_neg (by intro q; rcases q with q | q; exact c0 q; rw [hno, decide_eq_false c48] at q; cases q), List.drop_zero]
        clear hno c48
        go_enter Tryd.func4, Tryd.ntmps4
        go_wp2_with fail
        go_loop [21, 4] (fun p q => ∃ (k n : Nat), k ≤ s.size ∧ n < 4096 ∧ Hid (ixI s = ixF (s.data.toList.drop k) n) ∧ p = .int .i64 (k : Int) ∧ q = .int .i64 (n : Int)) (fun p q => ((s.size : Int) - intOf p).toNat)
        case atStart => exact ⟨0, 0, Nat.zero_le _, by omega, HI, rfl, rfl⟩
        case round =>
          clear HI
          obtain ⟨k, n, hk, hn, HK, rfl, rfl⟩ := hrel
          by_cases c : k < s.size
          · have hd := drop_ix s k c
            have hkk : (k : Int) < (s.size : Int) := by omega
            have hub := (s[k]).toNat_lt
            have HCK : Hid (k < s.size) := c
            by_cases d : 48 ≤ (s[k]).toNat ∧ (s[k]).toNat ≤ 57
            · have hd9 : (((s[k]).toNat : Int) - 48) % 256 ≤ 9 := by omega
              have HE : Hid ((((s[k]).toNat : Int) - 48) % 256 = (((s[k]).toNat - 48 : Nat) : Int)) := by show _ = _; omega
              clear hub hd
              by_cases g : 4096 ≤ n * 10 + ((s[k]).toNat - 48)
              · have HY : Hid (ixI s = none) := ix_big c HK.out d g
                have hg2 : (4096 : Int) ≤ (n : Int) * 10 + (((s[k]).toNat : Int) - 48) % 256 := by rw [HE.out]; omega
                clear g HE d HK
                go_wp2_with fail
                go_ret2
                rw [HY.out]
                exact ⟨rfl, rfl⟩
              · have HY : Hid (ixI s = ixF (s.data.toList.drop (k + 1)) (n * 10 + ((s[k]).toNat - 48)) ∧ n * 10 + ((s[k]).toNat - 48) < 4096) := ⟨ix_next c HK.out d g, by omega⟩
                have hg2 : (n : Int) * 10 + (((s[k]).toNat : Int) - 48) % 256 < 4096 := by rw [HE.out]; omega
                clear g d HK
                go_wp2_with fail
                refine ⟨⟨k + 1, n * 10 + ((s[k]).toNat - 48), by have := HCK.out; omega, HY.out.2, HY.out.1, by go_num, by exact congrArg (Value.int .i64) ((congrArg (fun z => (n : Int) * 10 + z) HE.out).trans (by omega))⟩, ?_⟩
                have := HCK.out
                simp [intOf]
                omega
            · have HY : Hid (ixI s = none) := ix_no c HK.out d
              have hd9 : (9 : Int) < (((s[k]).toNat : Int) - 48) % 256 := by omega
              clear hd HK d hub
              go_wp2_with fail
              go_ret2
              rw [HY.out]
              exact ⟨rfl, rfl⟩
          · have hkk : ¬ ((k : Int) < (s.size : Int)) := by omega
            have HY : Hid (ixI s = some n) := by
              have := HK.out
              rw [List.drop_of_length_le (by rw [Array.length_toList]; exact (by omega : s.size ≤ k))] at this
              exact this
            clear HK
            go_wp2_with fail
            go_ret2
            rw [HY.out]
            exact ⟨rfl, rfl⟩
    · have d1 : decide ((1 : Int) < (s.size : Int)) = false := decide_eq_false (by omega)
      have HI : Hid (ixI s = ixF (s.data.toList.drop 0) 0) := by
        show ixI s = _
        unfold ixI
        rw [if_neg (by intro q; rcases q with q | q; exact c0 q; rw [nought_one s c1] at q; cases q), List.drop_zero]
      go_enter Tryd.func4, Tryd.ntmps4
      go_wp2_with fail
      go_loop [21, 4] (fun p q => ∃ (k n : Nat), k ≤ s.size ∧ n < 4096 ∧ Hid (ixI s = ixF (s.data.toList.drop k) n) ∧ p = .int .i64 (k : Int) ∧ q = .int .i64 (n : Int)) (fun p q => ((s.size : Int) - intOf p).toNat)
      case atStart => exact ⟨0, 0, Nat.zero_le _, by omega, HI, rfl, rfl⟩
      case round =>
        clear HI
        obtain ⟨k, n, hk, hn, HK, rfl, rfl⟩ := hrel
        by_cases c : k < s.size
        · have hd := drop_ix s k c
          have hkk : (k : Int) < (s.size : Int) := by omega
          have hub := (s[k]).toNat_lt
          have HCK : Hid (k < s.size) := c
          by_cases d : 48 ≤ (s[k]).toNat ∧ (s[k]).toNat ≤ 57
          · have hd9 : (((s[k]).toNat : Int) - 48) % 256 ≤ 9 := by omega
            have HE : Hid ((((s[k]).toNat : Int) - 48) % 256 = (((s[k]).toNat - 48 : Nat) : Int)) := by show _ = _; omega
            clear hub hd
            by_cases g : 4096 ≤ n * 10 + ((s[k]).toNat - 48)
            · have HY : Hid (ixI s = none) := ix_big c HK.out d g
              have hg2 : (4096 : Int) ≤ (n : Int) * 10 + (((s[k]).toNat : Int) - 48) % 256 := by rw [HE.out]; omega
              clear g HE d HK
              go_wp2_with fail
              go_ret2
              rw [HY.out]
              exact ⟨rfl, rfl⟩
            · have HY : Hid (ixI s = ixF (s.data.toList.drop (k + 1)) (n * 10 + ((s[k]).toNat - 48)) ∧ n * 10 + ((s[k]).toNat - 48) < 4096) := ⟨ix_next c HK.out d g, by omega⟩
              have hg2 : (n : Int) * 10 + (((s[k]).toNat : Int) - 48) % 256 < 4096 := by rw [HE.out]; omega
              clear g d HK
              go_wp2_with fail
              refine ⟨⟨k + 1, n * 10 + ((s[k]).toNat - 48), by have := HCK.out; omega, HY.out.2, HY.out.1, by go_num, by exact congrArg (Value.int .i64) ((congrArg (fun z => (n : Int) * 10 + z) HE.out).trans (by omega))⟩, ?_⟩
              have := HCK.out
              simp [intOf]
              omega
          · have HY : Hid (ixI s = none) := ix_no c HK.out d
            have hd9 : (9 : Int) < (((s[k]).toNat : Int) - 48) % 256 := by omega
            clear hd HK d hub
            go_wp2_with fail
            go_ret2
            rw [HY.out]
            exact ⟨rfl, rfl⟩
        · have hkk : ¬ ((k : Int) < (s.size : Int)) := by omega
          have HY : Hid (ixI s = some n) := by
            have := HK.out
            rw [List.drop_of_length_le (by rw [Array.length_toList]; exact (by omega : s.size ≤ k))] at this
            exact this
          clear HK
          go_wp2_with fail
          go_ret2
          rw [HY.out]
          exact ⟨rfl, rfl⟩

end Go.Proofs.YtahhionlbfhinaaDoor.Hp
