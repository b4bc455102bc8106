/- The document's kids, among, empty. -/
import Derived.Test.YtihmdcdifakepaaWD
namespace Go.Proofs.Ytihmdcdifakepaa.Sc
open Go.RowKit
set_option linter.unusedVariables false

set_option maxRecDepth 100000 in
theorem kids_any (k : Int) (w : World) : Calls Try.prog 43 #[.int .i64 k] w fun e w' => e = .returned (.int .i64 (kidsR k)) ∧ w' = w := by
  have h : k = 34 ∨ k = 41 ∨ k = 42 ∨ k = 46 ∨ k = 36 ∨ k = 38 ∨ k = 35 ∨ k = 43 ∨ k = 37 ∨ k = 39 ∨ k = 40 ∨ k = 45 ∨ (k ≠ 34 ∧ k ≠ 41 ∧ k ≠ 42 ∧ k ≠ 46 ∧ k ≠ 36 ∧ k ≠ 38 ∧ k ≠ 35 ∧ k ≠ 43 ∧ k ≠ 37 ∧ k ≠ 39 ∧ k ≠ 40 ∧ k ≠ 45) := by omega
  rcases h with h | h | h | h | h | h | h | h | h | h | h | h | ⟨h1, h2, h3, h4, h5, h6, h7, h8, h9, h10, h11, h12⟩
  all_goals
    first
      | subst h
        go_enter Try.func43, Try.ntmps43
        go_wp2
        go_ret
        exact ⟨rfl, rfl⟩
      | have hv : kidsR k = -1 := by unfold kidsR; repeat rw [if_neg (by omega)]
        have HV : Hid (kidsR k = -1) := hv
        clear hv
        go_enter Try.func43, Try.ntmps43
        go_wp2
        go_ret
        rw [HV.out]
        exact ⟨rfl, rfl⟩

/-- texts in memory -/
def StrsAt (w : World) (ad : Option Addr) (zs : List ByteArray) : Prop := zs ≠ [] → ∃ b off, ad = some ⟨b, off, none⟩ ∧ ∀ i z, zs[i]? = some z → w.cell? ⟨b, off + i, none⟩ = some (.string z)

set_option maxRecDepth 100000 in
theorem among_any (s : ByteArray) (ad : Option Addr) (cap : Nat) (zs : List ByteArray) (w : World) (hz : StrsAt w ad zs) (hl : zs.length ≤ 1000) :
    Calls Try.prog 48 #[.string s, .slice ad zs.length cap] w fun e w' => e = .returned (.bool (zs.any fun z => z.toList == s.toList)) ∧ w' = w := by
  have HZ : Hid (StrsAt w ad zs) := hz
  clear hz
  have hl2 : (zs.length : Int) ≤ 1000 := by omega
  go_enter Try.func48, Try.ntmps48
  go_wp2_with fail
  go_loopw [5] (fun i wr => ∃ k : Nat, (k ≤ zs.length ∧ Hid ((zs.take k).any (fun z => z.toList == s.toList) = false) ∧ wr = w) ∧ i = .int .i64 k) (fun i wr => zs.length - (intOf i).toNat)
  case atStart => exact ⟨0, ⟨Nat.zero_le _, rfl, rfl⟩, rfl⟩
  case round =>
    obtain ⟨k, ⟨ple, HR, rfl⟩, rfl⟩ := hrel
    rcases Nat.lt_or_ge k zs.length with c | c
    · have hex : ∃ y, zs[k]? = some y := ⟨_, List.getElem?_eq_getElem c⟩
      obtain ⟨y, hy⟩ := hex
      obtain ⟨b, off, rfl, hc⟩ := HZ.out (by intro e; subst e; simp at c)
      have c0 := hc k y hy
      have HY : Hid (zs[k]? = some y) := hy
      clear hc hy
      cases t : (y.toList == s.toList)
      · have HN : Hid ((zs.take (k + 1)).any (fun z => z.toList == s.toList) = false) := by
          show _ = _
          rw [List.take_add_one, HY.out, List.any_append, HR.out]
          simp [t]
        go_wp2_with fail
        refine ⟨⟨k + 1, ⟨c, HN, trivial⟩, by go_num⟩, ?_⟩
        simp [intOf]
        omega
      · have HN : Hid (zs.any (fun z => z.toList == s.toList) = true) := by
          show _ = _
          rw [List.any_eq_true]
          exact ⟨y, List.mem_of_getElem? HY.out, t⟩
        go_wp2_with fail
        go_ret
        rw [HN.out]
        exact ⟨rfl, rfl⟩
    · have HN : Hid (zs.any (fun z => z.toList == s.toList) = false) := by
        have := HR.out
        rw [List.take_of_length_le c] at this
        exact this
      go_wp2_with fail
      go_ret
      rw [HN.out]
      exact ⟨rfl, rfl⟩
end Go.Proofs.Ytihmdcdifakepaa.Sc
