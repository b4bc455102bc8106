/- ScopeBuiltins: the walk. -/
import Derived.Test.YtihmdcdifakepaaYI
namespace Go.Proofs.Ytihmdcdifakepaa.Sc
open Go.RowKit
set_option linter.unusedVariables false
set_option linter.unusedSimpArgs false

theorem idx_names : ∀ i : Nat, i < 14 → ∃ z, namesB[i]? = some z ∧ idxI z = i := by
  have h : (List.range 14).all (fun i => match namesB[i]? with | some z => idxI z == (i : Int) | none => false) = true := by decide +kernel
  intro i hi
  have := List.all_eq_true.1 h i (List.mem_range.2 hi)
  cases hz : namesB[i]? with
  | none => rw [hz] at this; cases this
  | some z => rw [hz] at this; exact ⟨z, rfl, by simpa using this⟩

theorem StrsAt.kept {w w' : World} {ad : Option Addr} {zs : List ByteArray} (h : StrsAt w ad zs) (hb : Below w.heap.size w w') : StrsAt w' ad zs := by
  intro h0
  obtain ⟨b, off, e, hc⟩ := h h0
  exact ⟨b, off, e, fun i z hi => cells_below hb _ _ (hc i z hi)⟩

theorem StrsAt.get {w : World} {b : Nat} (h : StrsAt w (some ⟨b, 0, none⟩) namesB) {i : Nat} {z : ByteArray} (hz : namesB[i]? = some z) : w.cell? ⟨b, i, none⟩ = some (.string z) := by
  obtain ⟨b', off, e, hc⟩ := h (by decide)
  cases e
  simpa using hc i z hz

structure BuAt (w : World) (b1 b2 : Nat) (wr : World) : Prop where
  l : StrsAt wr (some ⟨b1, 0, none⟩) namesB
  m : StrsAt wr (some ⟨b2, 0, none⟩) namesB
  bel : Below w.heap.size w wr

theorem BuAt.next {w wr w' : World} {b1 b2 : Nat} (h : BuAt w b1 b2 wr) (hb : Below wr.heap.size wr w') : BuAt w b1 b2 w' := ⟨h.l.kept hb, h.m.kept hb, h.bel.trans (hb.mono h.bel.size)⟩

theorem BuAt.drew {w wr : World} {b1 b2 : Nat} (h : BuAt w b1 b2 wr) : BuAt w b1 b2 wr.drew := h.next (Below.refl wr.heap.size wr).drew

set_option maxRecDepth 100000 in
set_option maxHeartbeats 2000000 in
theorem builtins_walk (s : ByteArray) (w : World) : Calls Try.prog 4 #[.string s] w fun e w' => e = .returned (.bool true) ∧ Below w.heap.size w w' := by
  have hb := builtins_any w
  go_enter Try.func4, Try.ntmps4
  go_wp2_with fail
  refine hb.mono ?_
  rintro e w1 ⟨rfl, l1, hb1⟩
  have hn := names_any w1
  have H1 : Hid (StrsAt w1 (some ⟨w.heap.size, 0, none⟩) namesB ∧ Below w.heap.size w w1) := ⟨l1, hb1⟩
  clear l1 hb1 hb
  go_wp2_with fail
  refine hn.mono ?_
  rintro e w2 ⟨rfl, l2, hb2⟩
  have H2 : Hid (BuAt w w.heap.size w1.heap.size w2) := ⟨H1.out.1.kept hb2, l2, H1.out.2.trans (hb2.mono H1.out.2.size)⟩
  clear l2 hb2 hn
  have hal := alive_any w2
  go_wp2_with (go_at_call 8; refine hal.mono ?_; rintro e w3 ⟨rfl, hb3⟩; have H3 : Hid (BuAt w w.heap.size w1.heap.size w3) := H2.out.next hb3; clear hal hb3)
  go_loopw [25] (fun i wr => ∃ k : Nat, (k ≤ 14 ∧ BuAt w w.heap.size w1.heap.size wr) ∧ i = .int .i64 k) (fun i wr => 14 - (intOf i).toNat)
  case atStart => exact ⟨0, ⟨by omega, H3.out⟩, rfl⟩
  case round =>
    obtain ⟨k, ⟨ple, hr⟩, rfl⟩ := hrel
    have HR : Hid (BuAt w w.heap.size w1.heap.size wr) := hr
    clear hr H1 H2 H3
    rcases Nat.lt_or_ge k 14 with c | c
    · obtain ⟨z, hz, hi⟩ := idx_names k c
      have hbi := builtin_any z wr
      rw [hi, Int.max_eq_left (by omega), decide_eq_true (by omega)] at hbi
      have HZ : Hid (namesB[k]? = some z) := hz
      have c1 := HR.out.l.get hz
      have hkk : ((k : Int) != (k : Int)) = false := by simp
      clear hz hi
      go_wp2_with (go_at_call 13; refine hbi.mono ?_; rintro e w4 ⟨rfl, hb4⟩; have H4 : Hid (BuAt w w.heap.size w1.heap.size w4) := HR.out.next hb4; clear hbi hb4 c1; have c1 := H4.out.l.get HZ.out; have c2 := H4.out.m.get HZ.out)
      go_region
      go_wp2_with fail
      refine ⟨⟨k + 1, ⟨c, H4.out.drew⟩, by go_num⟩, ?_⟩
      simp [intOf]
      omega
    · have hk : k = 14 := by omega
      subst hk
      have hb1 := builtin_any s wr
      obtain ⟨X, hX⟩ : ∃ X : Int, X = max (idxI s) 0 := ⟨_, rfl⟩
      obtain ⟨Y, hY⟩ : ∃ Y : Bool, Y = decide (0 ≤ idxI s) := ⟨_, rfl⟩
      rw [← hX, ← hY] at hb1
      have HRB : Hid (∀ w4, Calls Try.prog 14 #[.string s] w4 fun e w' => e = .returned (.tuple #[.int .i64 X, .bool Y]) ∧ Below w4.heap.size w4 w') := by
        intro w4
        rw [hX, hY]
        exact refBuiltin_any s w4
      clear hX hY
      go_wp2_with fail
      refine hb1.mono ?_
      rintro e w4 ⟨rfl, hb4⟩
      have H4 : Hid (Below w.heap.size w w4) := HR.out.bel.trans (hb4.mono HR.out.bel.size)
      have hb2 := HRB.out w4
      clear hb1 hb4
      go_wp2_with fail
      refine hb2.mono ?_
      rintro e w5 ⟨rfl, hb5⟩
      have H5 : Hid (Below w.heap.size w w5) := H4.out.trans (hb5.mono H4.out.size)
      clear hb2 hb5
      go_wp2
      go_ret
      exact ⟨rfl, H5.out⟩
end Go.Proofs.Ytihmdcdifakepaa.Sc
