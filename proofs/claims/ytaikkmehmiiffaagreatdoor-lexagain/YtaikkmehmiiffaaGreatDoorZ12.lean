/- Package lex: strconv.ParseUint of two digits base sixteen; hexByte, escape. -/
import Derived.Test.YtaikkmehmiiffaaGreatDoorZ11
import Derived.Test.YtaikkmehmiiffaaGreatDoorShelfE
import Derived.Lib.Walk
import Derived.Lib.ConvBytes
import Derived.Laws.Strings3
namespace Go.Proofs.YtaikkmehmiiffaaGreatDoor.Lx
open Go.RowKit
set_option linter.unusedVariables false

def hexF (acc : Nat) : List UInt8 → Option Nat
  | [] => some acc
  | c :: r => if pHex c.toNat = true then hexF (acc * 16 + nib c.toNat) r else none

theorem low_or : ∀ c : Fin 256, bits .or .u8 (c.val : Int) 32 = ((c.val ||| 32 : Nat) : Int) ∧ (pHex c.val = true → pDig c.val = false → 97 ≤ c.val ||| 32 ∧ c.val ||| 32 ≤ 102 ∧ nib c.val = (c.val ||| 32) - 87) ∧ (pHex c.val = false → (c.val ||| 32) < 97 ∨ 102 < (c.val ||| 32)) ∧ (c.val ||| 32) < 256 := by decide +kernel

theorem low_of (c : UInt8) : ∃ L : Nat, bits .or .u8 (c.toNat : Int) 32 = (L : Int) ∧ L < 256 ∧ (pHex c.toNat = true → pDig c.toNat = false → 97 ≤ L ∧ L ≤ 102 ∧ nib c.toNat = L - 87) ∧ (pHex c.toNat = false → L < 97 ∨ 102 < L) := by
  have := low_or ⟨c.toNat, c.toNat_lt⟩
  exact ⟨c.toNat ||| 32, this.1, this.2.2.2, this.2.1, this.2.2.1⟩

/-- what the inner ParseUint answers -/
def puV : Option Nat → Value
  | some n => .tuple #[.int .u64 (n : Int), .nilIface]
  | none => .tuple #[.int .u64 0, .iface 148 (.int .i64 2)]

set_option maxHeartbeats 4000000 in
set_option maxRecDepth 100000 in
theorem pu_any (t : ByteArray) (h2 : t.size = 2) (w : World) :
    Calls Tryz.prog 129 #[.string t, .int .i64 16, .int .i64 8] w fun e w' => e = .returned (puV (hexF 0 t.data.toList)) ∧ w' = Lib.bytesWorld w 5 t := by
  have hemp : t.toList.isEmpty = false := by
    rw [← decide_eq_emptyBytes]
    exact decide_eq_false (fun h => by rw [h] at h2; exact absurd h2 (by decide))
  have hcv := Lib.run_convert_string_bytes (P := Tryz.prog) w 9 32 5 t (u := .string) Tryz.underlying9 Tryz.underlying32 Tryz.underlying5
  have hB : ∀ j, j < t.size → (Lib.bytesWorld w 5 t).cell? ⟨w.heap.size, j, none⟩ = some (.int .u8 (t.data.toList.getD j 0).toNat) := fun j hj => Lib.bytesWorld_cell w 5 t j hj
  obtain ⟨W1, hW1⟩ : ∃ W1, W1 = Lib.bytesWorld w 5 t := ⟨_, rfl⟩
  rw [← hW1] at hcv hB ⊢
  clear hW1
  obtain ⟨bs, hL⟩ : ∃ bs, bs = t.data.toList := ⟨_, rfl⟩
  have hLn : bs.length = t.size := by rw [hL, Lib.size_eq]
  rw [← hL] at hB ⊢
  clear hL
  rw [h2] at hB hLn hcv
  go_enter Tryz.func129, Tryz.ntmps129
  go_wp2
  go_loop [12, 13, 101] (fun vu vn vi => ∃ (k acc : Nat) (a : Int), vu = .bool false ∧ vn = .int .u64 a ∧ vi = .int .i64 k ∧ k ≤ 2 ∧ Hid (a = (acc : Int) ∧ acc < 16 ^ k ∧ hexF 0 bs = hexF acc (bs.drop k)))
    (fun _ _ vi => 2 - (intOf vi).toNat)
  case atStart => exact ⟨0, 0, 0, rfl, rfl, rfl, by omega, rfl, by omega, rfl⟩
  case round =>
    obtain ⟨k, acc, a, rfl, rfl, rfl, hk, hh⟩ := hrel
    obtain ⟨ha, hacc, hdec⟩ := hh.out
    clear hh
    have a0 : 0 ≤ a := by omega
    by_cases hkn : k < 2
    · have hc := hB k hkn
      have hdrop : bs.drop k = bs[k]'(by omega) :: bs.drop (k + 1) := List.drop_eq_getElem_cons (by omega)
      have hget : bs.getD k 0 = bs[k]'(by omega) := by simp [List.getD, List.getElem?_eq_getElem (show k < bs.length by omega)]
      rw [hdrop, hexF] at hdec
      rw [hget] at hc
      generalize bs[k]'(by omega) = c at hc hdec
      have hc256 : c.toNat < 256 := c.toNat_lt
      have acc16 : acc < 16 := by
        have : 16 ^ k ≤ 16 := by
          rcases (show k = 0 ∨ k = 1 by omega) with rfl | rfl <;> decide
        omega
      have pw : ∀ d, d < 16 → acc * 16 + d < 16 ^ (k + 1) := by
        intro d hd
        rw [Nat.pow_succ]
        have : acc + 1 ≤ 16 ^ k := hacc
        omega
      have a1 : a < 16 := by omega
      clear hB hdrop hget
      by_cases hdig : pDig c.toNat = true
      · have hx : pHex c.toNat = true := by unfold pHex; rw [hdig]; rfl
        rw [if_pos hx] at hdec
        have hn : nib c.toNat = c.toNat - 48 := by unfold nib; rw [if_pos hdig]
        rw [hn] at hdec
        unfold pDig at hdig
        simp at hdig
        obtain ⟨hd0, hd1⟩ := hdig
        have HN : Hid (a * 16 + ((c.toNat : Int) - 48) = ((acc * 16 + (c.toNat - 48) : Nat) : Int) ∧ acc * 16 + (c.toNat - 48) < 16 ^ (k + 1) ∧ hexF 0 bs = hexF (acc * 16 + (c.toNat - 48)) (bs.drop (k + 1))) := Lib.hid ⟨by omega, pw _ (by omega), hdec⟩
        clear hdec hx hn pw hacc ha
        go_wp2
        refine ⟨⟨k + 1, acc * 16 + (c.toNat - 48), a * 16 + ((c.toNat : Int) - 48), rfl, (by first | rfl | (congr 1; omega)), (by first | rfl | (congr 1; omega)), by omega, HN⟩, by simp [intOf]; omega⟩
      · have hdig' : pDig c.toNat = false := by simpa using hdig
        have nd : ¬ (48 ≤ c.toNat ∧ c.toNat ≤ 57) := by
          intro q
          apply hdig
          unfold pDig
          simp [q.1, q.2]
        obtain ⟨L, hL, L256, l1, l2⟩ := low_of c
        have lc := Tryz.internal_strconv_lower (c.toNat : Int)
        rw [hL] at lc
        by_cases hx : pHex c.toNat = true
        · rw [if_pos hx] at hdec
          obtain ⟨m1, m2, m3⟩ := l1 hx hdig'
          have n95 : ((c.toNat : Int) == 95) = false := by
            have : c.toNat ≠ 95 := by
              intro z
              rw [z] at hx
              exact absurd hx (by decide)
            simp
            omega
          rw [m3] at hdec
          have HN : Hid (a * 16 + ((L : Int) - 87) = ((acc * 16 + (L - 87) : Nat) : Int) ∧ acc * 16 + (L - 87) < 16 ^ (k + 1) ∧ hexF 0 bs = hexF (acc * 16 + (L - 87)) (bs.drop (k + 1))) := Lib.hid ⟨by omega, pw _ (by omega), hdec⟩
          clear hdec hx m3 pw hacc ha l1 l2 hdig hdig' hL
          by_cases q : 48 ≤ c.toNat
          · have q2 : ¬ c.toNat ≤ 57 := fun z => nd ⟨q, z⟩
            clear nd
            go_wp2_with (go_at_call 136; refine (lc _).mono ?_; rintro e w' ⟨rfl, rfl⟩)
            refine ⟨⟨k + 1, acc * 16 + (L - 87), a * 16 + ((L : Int) - 87), rfl, (by first | rfl | (congr 1; omega)), (by first | rfl | (congr 1; omega)), by omega, HN⟩, by simp [intOf]; omega⟩
          · clear nd
            go_wp2_with (go_at_call 136; refine (lc _).mono ?_; rintro e w' ⟨rfl, rfl⟩)
            refine ⟨⟨k + 1, acc * 16 + (L - 87), a * 16 + ((L : Int) - 87), rfl, (by first | rfl | (congr 1; omega)), (by first | rfl | (congr 1; omega)), by omega, HN⟩, by simp [intOf]; omega⟩
        · rw [if_neg hx] at hdec
          have HD : Hid (hexF 0 bs = none) := hdec
          have l3 := l2 (by simpa using hx)
          clear hdec hx pw hacc ha l1 l2 hdig hdig'
          by_cases z : c.toNat = 95
          · rw [z] at lc hL hc
            have L127 : L = 127 := by
              have e : bits .or .u8 ((95 : Nat) : Int) 32 = 127 := by decide +kernel
              rw [e] at hL
              omega
            subst L127
            clear hL nd l3 hc256 z
            go_wp2_with (go_at_call 136; refine (lc _).mono ?_; rintro e w' ⟨rfl, rfl⟩)
            all_goals (go_ret2; exact ⟨by rw [HD.out]; rfl, rfl⟩)
          · have n95 : ((c.toNat : Int) == 95) = false := by simp; omega
            clear hL z
            by_cases q : 48 ≤ c.toNat
            · have q2 : ¬ c.toNat ≤ 57 := fun z => nd ⟨q, z⟩
              clear nd
              rcases l3 with l3 | l3
              · go_wp2_with (go_at_call 136; refine (lc _).mono ?_; rintro e w' ⟨rfl, rfl⟩)
                all_goals (go_ret2; exact ⟨by rw [HD.out]; rfl, rfl⟩)
              · by_cases q3 : L ≤ 122
                · go_wp2_with (go_at_call 136; refine (lc _).mono ?_; rintro e w' ⟨rfl, rfl⟩)
                  all_goals (go_ret2; exact ⟨by rw [HD.out]; rfl, rfl⟩)
                · go_wp2_with (go_at_call 136; refine (lc _).mono ?_; rintro e w' ⟨rfl, rfl⟩)
                  all_goals (go_ret2; exact ⟨by rw [HD.out]; rfl, rfl⟩)
            · clear nd
              rcases l3 with l3 | l3
              · go_wp2_with (go_at_call 136; refine (lc _).mono ?_; rintro e w' ⟨rfl, rfl⟩)
                all_goals (go_ret2; exact ⟨by rw [HD.out]; rfl, rfl⟩)
              · by_cases q3 : L ≤ 122
                · go_wp2_with (go_at_call 136; refine (lc _).mono ?_; rintro e w' ⟨rfl, rfl⟩)
                  all_goals (go_ret2; exact ⟨by rw [HD.out]; rfl, rfl⟩)
                · go_wp2_with (go_at_call 136; refine (lc _).mono ?_; rintro e w' ⟨rfl, rfl⟩)
                  all_goals (go_ret2; exact ⟨by rw [HD.out]; rfl, rfl⟩)
    · have hkk : k = 2 := by omega
      subst hkk
      have HF : Hid (hexF 0 bs = some acc) := by
        show _ = _
        rw [hdec, List.drop_eq_nil_of_le (by omega)]
        rfl
      subst ha
      clear hdec hacc
      go_wp2
      go_ret2
      exact ⟨by rw [HF.out]; rfl, rfl⟩

end Go.Proofs.YtaikkmehmiiffaaGreatDoor.Lx
