/- The walk of shortest. -/
import Derived.Test.YtpejebohekcfoabGreatDoorG2
import Derived.Deep.RegionWith
namespace Go.Proofs.YtpejebohekcfoabGreatDoor
open Go.RowKit
set_option linter.unusedVariables false

theorem iv_made (w w1 : World) (cl : Bool) (V L U T : Nat) (v1 v2 v3 v4 : Value) (h : Around w w1 v1 v2 v3 v4 V L U T) :
    Cells5 (w1.alloc (.cells #[v1, v2, v3, v4, .bool cl] 76)) w1.heap.size v1 v2 v3 v4 cl ∧ Hid (Iv (w1.alloc (.cells #[v1, v2, v3, v4, .bool cl] 76)) w.heap.size w1.heap.size V L U T cl ∧ Below w.heap.size w (w1.alloc (.cells #[v1, v2, v3, v4, .bool cl] 76))) := by
  obtain ⟨g1, g2, g3, g4, n1, n2, n3, n4, b1, b2, b3, b4, bl⟩ := h
  have hr := heap_alloc_new w1 (.cells #[v1, v2, v3, v4, .bool cl] 76)
  have ga := grown_alloc w1 (.cells #[v1, v2, v3, v4, .bool cl] 76)
  have a1 := n1.lt
  have a2 := n2.lt
  have a3 := n3.lt
  have a4 := n4.lt
  exact ⟨cells5_of hr, ⟨v1, v2, v3, v4, g1, g2, g3, g4, hr, n1.kept0 ga, n2.kept0 ga, n3.kept0 ga, n4.kept0 ga, by omega, by omega, by omega, by omega, by omega, by omega, by omega, by omega, by omega, by omega, by omega, by omega, by omega, by omega, by omega⟩, bl.alloc bl.size _⟩

theorem iv_nums {w : World} {B b V L U T : Nat} {cl : Bool} {u1 u4 : Value} (h : Iv w B b V L U T cl) (h0 : w.cell? ⟨b, 0, none⟩ = some u1) (h3 : w.cell? ⟨b, 3, none⟩ = some u4) : (∃ g, Num w u1 g V) ∧ (∃ g, Num w u4 g T) := by
  obtain ⟨v1, v2, v3, v4, g1, g2, g3, g4, hb, n1, n2, n3, n4, s⟩ := h
  obtain ⟨c0, c1, c2, c3, c4⟩ := cells5_of hb
  rw [c0] at h0
  rw [c3] at h3
  cases h0
  cases h3
  exact ⟨⟨g1, n1⟩, ⟨g4, n4⟩⟩

theorem st_start {w w5 : World} {B bv V L U T : Nat} {cl : Bool} (h : Hid (Iv w5 B bv V L U T cl ∧ Below B w w5)) :
    Hid (St w (w5.alloc (.cells #[.pointer none, .slice none 0 0] 65)) B bv w5.heap.size [] V L U T cl) := by
  have ga := grown_alloc w5 (.cells #[.pointer none, .slice none 0 0] 65)
  have lt := iv_lt h.out.1
  refine ⟨h.out.1.kept0 ga, Or.inl ⟨lt, .slice none 0 0, heap_alloc_new _ _, ⟨rfl, Or.inl ⟨rfl, rfl⟩⟩, by simp [Value.ownBlock]⟩, h.out.2.alloc lt _⟩

theorem round_facts {w wr : World} {B bv bt : Nat} {V1 L1 U1 T1 K : Nat} {cl : Bool} {pre : List Nat} {V L U f : Nat} (dg : DigAt (T1 + 1) V1 L1 U1 T1 cl pre V L U f) (eU : U = U1 * 10 ^ pre.length) (eL : L = L1 * 10 ^ pre.length)
    (st : St w wr B bv bt pre V L U T1 cl) (hU0 : 0 < U1) (hLU : L1 ≤ U1) (hTK : T1 < 2 ^ K) (hK : K ≤ 100000) :
    pre.length < K ∧
    (Calls Tryz.prog 50 #[.pointer (some ⟨bv, 0, none⟩), .int .i64 1] wr fun e w' => e = .returned (.tuple #[]) ∧ Hid (St w w' B bv bt pre (V * 10) (L * 10) (U * 10) T1 cl)) ∧
    (∀ w2, Hid (St w w2 B bv bt pre (V * 10) (L * 10) (U * 10) T1 cl) → Calls Tryz.prog 51 #[.pointer (some ⟨bv, 0, none⟩)] w2 fun e w' => ∃ k : Nat, e = .returned (.int .u8 (48 + (k : Int))) ∧ k ≤ 9 ∧ Hid (k * T1 ≤ V * 10 ∧ V * 10 - k * T1 < T1 ∧ St w w' B bv bt pre (V * 10 - k * T1) (L * 10) (U * 10) T1 cl)) ∧
    (∀ w3 k, Hid (k * T1 ≤ V * 10 ∧ V * 10 - k * T1 < T1 ∧ St w w3 B bv bt pre (V * 10 - k * T1) (L * 10) (U * 10) T1 cl) → Calls Tryz.prog 52 #[.pointer (some ⟨bv, 0, none⟩)] w3 fun e w' => e = .returned (.tuple #[.bool (inN (V * 10 - k * T1) (L * 10) cl), .bool (inN T1 (V * 10 - k * T1 + U * 10) cl)]) ∧ Hid (St w w' B bv bt pre (V * 10 - k * T1) (L * 10) (U * 10) T1 cl)) ∧
    (∀ w3 k, Hid (k * T1 ≤ V * 10 ∧ V * 10 - k * T1 < T1 ∧ St w w3 B bv bt pre (V * 10 - k * T1) (L * 10) (U * 10) T1 cl) → k ≤ 9 → ∀ w4, Hid (St w w4 B bv bt pre (V * 10 - k * T1) (L * 10) (U * 10) T1 cl) → Calls Tryz.prog 53 #[.pointer (some ⟨bv, 0, none⟩), .int .u8 (48 + (k : Int))] w4 fun e w' => e = .returned (.bool (upN (V * 10 - k * T1) T1 k)) ∧ Hid (St w w' B bv bt pre (V * 10 - k * T1) (L * 10) (U * 10) T1 cl)) ∧
    (∀ (c : Int) (X k : Nat) w4, c = 48 + (k : Int) → k ≤ 10 → Hid (St w w4 B bv bt pre X (L * 10) (U * 10) T1 cl) → Calls Tryz.prog 48 #[.int .u8 c, .pointer (some ⟨bt, 0, none⟩)] w4 fun e w' => e = .returned (.tuple #[]) ∧ Hid (St w w' B bv bt (pre ++ [k]) X (L * 10) (U * 10) T1 cl)) ∧
    (∀ (q : List Nat) (X : Nat) w4, Hid (St w w4 B bv bt q X (L * 10) (U * 10) T1 cl) → Calls Tryz.prog 43 #[.pointer (some ⟨bt, 0, none⟩)] w4 fun e w' => e = .returned (.string (bs (txt q))) ∧ Below B w w') := by
  have hb := dg.below
  have lenK : pre.length < K := pow_bound hU0 (by rw [← eU]; omega) hTK
  have hLU' : L ≤ U := by rw [eU, eL]; exact Nat.mul_le_mul_right _ hLU
  have P4 : 2 ^ (K + 4) = 2 ^ K * 16 := by rw [Nat.pow_add]
  have hp := dg.pos
  refine ⟨lenK, ?_, ?_, ?_, ?_, ?_, ?_⟩
  · exact st_times st (K := K) (by omega) (by omega) (by omega) (by omega)
  · intro w2 h
    exact st_next h.out (K := K + 4) (by omega) (by omega) (by omega) (by omega)
  · intro w3 k h
    have h2 := h.out.2.1
    exact st_end h.out.2.2 (K := K + 4) (by omega) (by omega) (by omega) (by omega) (by omega)
  · intro w3 k h hk w4 h4
    have h2 := h.out.2.1
    exact st_up h4.out (K := K + 4) (by omega) (by omega) (by omega) hk
  · intro c X k w4 hc hk h
    exact st_put c hc h.out (by omega) hk
  · intro q X w4 h
    exact st_str h.out

theorem round_more {w0 : World} {B bv bt : Nat} {V1 L1 U1 T1 : Nat} {cl : Bool} {pre : List Nat} {V L U f : Nat} (dg : DigAt (T1 + 1) V1 L1 U1 T1 cl pre V L U f) (eU : U = U1 * 10 ^ pre.length) (eL : L = L1 * 10 ^ pre.length)
    (w3 : World) (k : Nat) (h : Hid (k * T1 ≤ V * 10 ∧ V * 10 - k * T1 < T1 ∧ St w0 w3 B bv bt pre (V * 10 - k * T1) (L * 10) (U * 10) T1 cl)) (hd : Hid (inN (V * 10 - k * T1) (L * 10) cl = false)) (hu : Hid (inN T1 (V * 10 - k * T1 + U * 10) cl = false))
    (w4 : World) (st : Hid (St w0 w4 B bv bt (pre ++ [k]) (V * 10 - k * T1) (L * 10) (U * 10) T1 cl)) : ShortAt w0 w4 B bv bt V1 L1 U1 T1 cl ∧ Hid (lenB bt w4 = pre.length + 1) := by
  obtain ⟨f', d', _⟩ := dg.more h.out.1 h.out.2.1 hd.out hu.out
  refine ⟨⟨pre ++ [k], _, _, _, f', d', ?_, ?_, st.out⟩, ?_⟩
  · rw [eU, List.length_append, List.length_singleton, Nat.pow_succ, Nat.mul_assoc]
  · rw [eL, List.length_append, List.length_singleton, Nat.pow_succ, Nat.mul_assoc]
  · refine (lenB_is st.out.bd).trans ((txt_len _).trans ?_)
    rw [List.length_append, List.length_singleton]

theorem round_last {V1 L1 U1 T1 : Nat} {cl : Bool} {pre : List Nat} {V L U f : Nat} (dg : DigAt (T1 + 1) V1 L1 U1 T1 cl pre V L U f) {w0 : World} {B bv bt : Nat}
    (w3 : World) (k : Nat) (h : Hid (k * T1 ≤ V * 10 ∧ V * 10 - k * T1 < T1 ∧ St w0 w3 B bv bt pre (V * 10 - k * T1) (L * 10) (U * 10) T1 cl)) (dn up rd : Bool) (hd : Hid (inN (V * 10 - k * T1) (L * 10) cl = dn)) (hu : Hid (inN T1 (V * 10 - k * T1 + U * 10) cl = up))
    (hr : Hid (upN (V * 10 - k * T1) T1 k = rd)) (ho : (dn || up) = true) : pre ++ [if !dn || (up && rd) then k + 1 else k] = digsF (T1 + 1) V1 L1 U1 T1 cl := by
  have := dg.last h.out.1 h.out.2.1 (by rw [hd.out, hu.out]; exact ho)
  rw [hd.out, hu.out, hr.out] at this
  exact this

set_option maxHeartbeats 4000000 in
theorem short_core (A : Int) (w : World) (V L U T : Nat) (cl : Bool) (S1 S4 D G p : Int) (V1 L1 U1 T1 K : Nat) (hn : inN T1 (V1 + U1) cl = false) (hU0 : 0 < U1) (hLU : L1 ≤ U1) (hTK : T1 < 2 ^ K) (hK : K ≤ 100000)
    (hmf : ∀ (fn : Fn) (first cap : Array Value) (w : World), (Instr.makeFunc fn first cap).run Tryz.prog w = .ok (.func fn first cap) w)
    (c1 : Calls Tryz.prog 44 #[.int .u64 A] w fun e w1 => ∃ g1 l1 p1 g2 l2 p2 g3 l3 p3 g4 l4 p4 : Nat, e = .returned (.agg #[.slice (some ⟨g1, 0, none⟩) l1 p1, .slice (some ⟨g2, 0, none⟩) l2 p2, .slice (some ⟨g3, 0, none⟩) l3 p3, .slice (some ⟨g4, 0, none⟩) l4 p4, .bool cl]) ∧ Hid (Around w w1 (.slice (some ⟨g1, 0, none⟩) l1 p1) (.slice (some ⟨g2, 0, none⟩) l2 p2) (.slice (some ⟨g3, 0, none⟩) l3 p3) (.slice (some ⟨g4, 0, none⟩) l4 p4) V L U T))
    (z1 : ∀ (w1 : World) (v : Value) (g : Nat), Num w1 v g V → Calls Tryz.prog 47 #[v] w1 fun e w' => e = .returned (.int .i64 S1) ∧ w' = w1)
    (z4 : ∀ (w1 : World) (v : Value) (g : Nat), Num w1 v g T → Calls Tryz.prog 47 #[v] w1 fun e w' => e = .returned (.int .i64 S4) ∧ w' = w1)
    (hw : IntKind.i64.wrap (S1 - S4) = D)
    (lp : ∀ w1 : World, Calls Tryz.prog 46 #[.int .i64 D] w1 fun e w' => e = .returned (.int .i64 G) ∧ w' = w1)
    (sc : ∀ (w1 : World) (B b : Nat), Iv w1 B b V L U T cl → Calls Tryz.prog 45 #[.pointer (some ⟨b, 0, none⟩), .int .i64 G] w1 fun e w' => e = .returned (.int .i64 p) ∧ Hid (Iv w' B b V1 L1 U1 T1 cl ∧ Below B w1 w')) :
    Calls Tryz.prog 20 #[.int .u64 A] w fun e w' => e = .returned (.tuple #[.string (bs (txt (digsF (T1 + 1) V1 L1 U1 T1 cl))), .int .i64 p]) ∧ Below w.heap.size w w' := by
  go_enter Tryz.func20, Tryz.ntmps20
  go_wp2_with fail
  refine c1.mono ?_
  rintro e w1 ⟨g1, l1, p1, g2, l2, p2, g3, l3, p3, g4, l4, p4, rfl, HA⟩
  go_wp2_with fail
  obtain ⟨C, HI⟩ := iv_made w w1 cl V L U T _ _ _ _ HA.out
  generalize w1.alloc (.cells #[.slice (some ⟨g1, 0, none⟩) l1 p1, .slice (some ⟨g2, 0, none⟩) l2 p2, .slice (some ⟨g3, 0, none⟩) l3 p3, .slice (some ⟨g4, 0, none⟩) l4 p4, .bool cl] 76) = W at C HI ⊢
  obtain ⟨c0, c1, c2, c3, c4⟩ := C
  clear c1 c2 c4 HA
  obtain ⟨⟨k1, n1⟩, ⟨k4, n4⟩⟩ := iv_nums HI.out.1 c0 c3
  have y1 := z1 W.drew _ k1 n1
  have y4 := z4 W.drew _ k4 n4
  have sc' : Calls Tryz.prog 45 #[.pointer (some ⟨w1.heap.size, 0, none⟩), .int .i64 G] W.drew fun e w' => e = .returned (.int .i64 p) ∧ Hid (Iv w' w.heap.size w1.heap.size V1 L1 U1 T1 cl ∧ Below w.heap.size w w') := by
    refine (sc W.drew w.heap.size w1.heap.size HI.out.1).mono ?_
    rintro e w' ⟨rfl, h⟩
    exact ⟨rfl, h.out.1, (HI.out.2.trans (below_none (grown_drew W) (iv_lt HI.out.1))).trans h.out.2⟩
  clear z1 z4 n1 n4 HI sc
  go_region_with (first | (go_at_call_of 47 g1; refine y1.mono ?_; rintro e w5 ⟨rfl, rfl⟩) | (go_at_call_of 47 g4; refine y4.mono ?_; rintro e w5 ⟨rfl, rfl⟩) | (go_at_call 46; refine (lp _).mono ?_; rintro e w5 ⟨rfl, rfl⟩) | (go_at_call 45; refine sc'.mono ?_; rintro e w5 ⟨rfl, H5⟩))
  · clear y1 y4 sc' lp c0 c3 hw c1
    have S0 := st_start H5
    go_wp2_with fail
    go_loopw [] (fun wr => ShortAt w wr w.heap.size w1.heap.size w5.heap.size V1 L1 U1 T1 cl) (fun wr => K + 2 - lenB w5.heap.size wr)
    case atStart => exact ⟨[], V1, L1, U1, T1 + 1, DigAt.start hn hU0, by simp, by simp, S0.out⟩
    case round =>
      obtain ⟨pre, V2, L2, U2, f, dg, eU, eL, st⟩ := hrel
      have HL : Hid (lenB w5.heap.size wr = pre.length) := (lenB_is st.bd).trans (txt_len pre)
      obtain ⟨lenK, k1, k2, k3, k4, k5, k6⟩ := round_facts dg eU eL st hU0 hLU hTK hK
      have nx := round_more dg eU eL (w0 := w) (B := w.heap.size) (bv := w1.heap.size) (bt := w5.heap.size)
      have la := round_last dg (w0 := w) (B := w.heap.size) (bv := w1.heap.size) (bt := w5.heap.size)
      clear st eU eL dg H5 S0
      go_wp2_with fail
      refine k1.mono ?_
      rintro e w6 ⟨rfl, H6⟩
      go_wp2_with fail
      refine (k2 _ H6).mono ?_
      rintro e w7 ⟨k, rfl, hk9, H7⟩
      go_wp2_with fail
      refine (k3 _ _ H7).mono ?_
      rintro e w8 ⟨rfl, H8⟩
      have HD : Hid (inN (V2 * 10 - k * T1) (L2 * 10) cl = inN (V2 * 10 - k * T1) (L2 * 10) cl) := rfl
      generalize hd : inN (V2 * 10 - k * T1) (L2 * 10) cl = dn
      generalize hu : inN T1 (V2 * 10 - k * T1 + U2 * 10) cl = up
      have hd := (show Hid (inN (V2 * 10 - k * T1) (L2 * 10) cl = dn) from hd)
      have hu := (show Hid (inN T1 (V2 * 10 - k * T1 + U2 * 10) cl = up) from hu)
      cases dn <;> cases up
      · have pt := k5 (48 + (k : Int)) _ k w8 rfl (by omega) H8
        go_wp2_with fail
        refine pt.mono ?_
        rintro e w9 ⟨rfl, H9⟩
        obtain ⟨s9, l9⟩ := nx w7 k H7 hd hu w9 H9
        go_wp2_with fail
        refine ⟨s9, ?_⟩
        rw [l9.out, HL.out]
        omega
      · have pt := k5 (48 + (k : Int) + 1) _ (k + 1) w8 (by omega) (by omega) H8
        have la' : Hid (pre ++ [k + 1] = digsF (T1 + 1) V1 L1 U1 T1 cl) := la w7 k H7 false true _ hd hu rfl rfl
        clear k1 k2 k3 k4 k5 nx la H6 H7 hd hu
        go_wp2_with fail
        refine pt.mono ?_
        rintro e w9 ⟨rfl, H9⟩
        go_wp2_with fail
        refine (k6 _ _ w9 H9).mono ?_
        rintro e w10 ⟨rfl, hb10⟩
        go_wp2
        go_ret2
        exact ⟨by rw [la'.out]; rfl, hb10⟩
      · have pt := k5 (48 + (k : Int)) _ k w8 rfl (by omega) H8
        have la' : Hid (pre ++ [k] = digsF (T1 + 1) V1 L1 U1 T1 cl) := la w7 k H7 true false _ hd hu rfl rfl
        clear k1 k2 k3 k4 k5 nx la H6 H7 hd hu
        go_wp2_with fail
        refine pt.mono ?_
        rintro e w9 ⟨rfl, H9⟩
        go_wp2_with fail
        refine (k6 _ _ w9 H9).mono ?_
        rintro e w10 ⟨rfl, hb10⟩
        go_wp2
        go_ret2
        exact ⟨by rw [la'.out]; rfl, hb10⟩
      · have ku := k4 w7 k H7 hk9 w8 H8
        go_wp2_with fail
        refine ku.mono ?_
        rintro e w9 ⟨rfl, H9⟩
        generalize hr : upN (V2 * 10 - k * T1) T1 k = rd
        have hr := (show Hid (upN (V2 * 10 - k * T1) T1 k = rd) from hr)
        cases rd
        · have pt := k5 (48 + (k : Int)) _ k w9 rfl (by omega) H9
          have la' : Hid (pre ++ [k] = digsF (T1 + 1) V1 L1 U1 T1 cl) := la w7 k H7 true true false hd hu hr rfl
          clear k1 k2 k3 k4 k5 nx la H6 H7 hd hu hr ku
          go_wp2_with fail
          refine pt.mono ?_
          rintro e w10 ⟨rfl, H10⟩
          go_wp2_with fail
          refine (k6 _ _ w10 H10).mono ?_
          rintro e w11 ⟨rfl, hb11⟩
          go_wp2
          go_ret2
          exact ⟨by rw [la'.out]; rfl, hb11⟩
        · have pt := k5 (48 + (k : Int) + 1) _ (k + 1) w9 (by omega) (by omega) H9
          have la' : Hid (pre ++ [k + 1] = digsF (T1 + 1) V1 L1 U1 T1 cl) := la w7 k H7 true true true hd hu hr rfl
          clear k1 k2 k3 k4 k5 nx la H6 H7 hd hu hr ku
          go_wp2_with fail
          refine pt.mono ?_
          rintro e w10 ⟨rfl, H10⟩
          go_wp2_with fail
          refine (k6 _ _ w10 H10).mono ?_
          rintro e w11 ⟨rfl, hb11⟩
          go_wp2
          go_ret2
          exact ⟨by rw [la'.out]; rfl, hb11⟩
  · clear y1 y4 sc' lp c0 c3 hw c1
    have S0 := st_start H5
    go_wp2_with fail
    go_loopw [] (fun wr => ShortAt w wr w.heap.size w1.heap.size w5.heap.size V1 L1 U1 T1 cl) (fun wr => K + 2 - lenB w5.heap.size wr)
    case atStart => exact ⟨[], V1, L1, U1, T1 + 1, DigAt.start hn hU0, by simp, by simp, S0.out⟩
    case round =>
      obtain ⟨pre, V2, L2, U2, f, dg, eU, eL, st⟩ := hrel
      have HL : Hid (lenB w5.heap.size wr = pre.length) := (lenB_is st.bd).trans (txt_len pre)
      obtain ⟨lenK, k1, k2, k3, k4, k5, k6⟩ := round_facts dg eU eL st hU0 hLU hTK hK
      have nx := round_more dg eU eL (w0 := w) (B := w.heap.size) (bv := w1.heap.size) (bt := w5.heap.size)
      have la := round_last dg (w0 := w) (B := w.heap.size) (bv := w1.heap.size) (bt := w5.heap.size)
      clear st eU eL dg H5 S0
      go_wp2_with fail
      refine k1.mono ?_
      rintro e w6 ⟨rfl, H6⟩
      go_wp2_with fail
      refine (k2 _ H6).mono ?_
      rintro e w7 ⟨k, rfl, hk9, H7⟩
      go_wp2_with fail
      refine (k3 _ _ H7).mono ?_
      rintro e w8 ⟨rfl, H8⟩
      have HD : Hid (inN (V2 * 10 - k * T1) (L2 * 10) cl = inN (V2 * 10 - k * T1) (L2 * 10) cl) := rfl
      generalize hd : inN (V2 * 10 - k * T1) (L2 * 10) cl = dn
      generalize hu : inN T1 (V2 * 10 - k * T1 + U2 * 10) cl = up
      have hd := (show Hid (inN (V2 * 10 - k * T1) (L2 * 10) cl = dn) from hd)
      have hu := (show Hid (inN T1 (V2 * 10 - k * T1 + U2 * 10) cl = up) from hu)
      cases dn <;> cases up
      · have pt := k5 (48 + (k : Int)) _ k w8 rfl (by omega) H8
        go_wp2_with fail
        refine pt.mono ?_
        rintro e w9 ⟨rfl, H9⟩
        obtain ⟨s9, l9⟩ := nx w7 k H7 hd hu w9 H9
        go_wp2_with fail
        refine ⟨s9, ?_⟩
        rw [l9.out, HL.out]
        omega
      · have pt := k5 (48 + (k : Int) + 1) _ (k + 1) w8 (by omega) (by omega) H8
        have la' : Hid (pre ++ [k + 1] = digsF (T1 + 1) V1 L1 U1 T1 cl) := la w7 k H7 false true _ hd hu rfl rfl
        clear k1 k2 k3 k4 k5 nx la H6 H7 hd hu
        go_wp2_with fail
        refine pt.mono ?_
        rintro e w9 ⟨rfl, H9⟩
        go_wp2_with fail
        refine (k6 _ _ w9 H9).mono ?_
        rintro e w10 ⟨rfl, hb10⟩
        go_wp2
        go_ret2
        exact ⟨by rw [la'.out]; rfl, hb10⟩
      · have pt := k5 (48 + (k : Int)) _ k w8 rfl (by omega) H8
        have la' : Hid (pre ++ [k] = digsF (T1 + 1) V1 L1 U1 T1 cl) := la w7 k H7 true false _ hd hu rfl rfl
        clear k1 k2 k3 k4 k5 nx la H6 H7 hd hu
        go_wp2_with fail
        refine pt.mono ?_
        rintro e w9 ⟨rfl, H9⟩
        go_wp2_with fail
        refine (k6 _ _ w9 H9).mono ?_
        rintro e w10 ⟨rfl, hb10⟩
        go_wp2
        go_ret2
        exact ⟨by rw [la'.out]; rfl, hb10⟩
      · have ku := k4 w7 k H7 hk9 w8 H8
        go_wp2_with fail
        refine ku.mono ?_
        rintro e w9 ⟨rfl, H9⟩
        generalize hr : upN (V2 * 10 - k * T1) T1 k = rd
        have hr := (show Hid (upN (V2 * 10 - k * T1) T1 k = rd) from hr)
        cases rd
        · have pt := k5 (48 + (k : Int)) _ k w9 rfl (by omega) H9
          have la' : Hid (pre ++ [k] = digsF (T1 + 1) V1 L1 U1 T1 cl) := la w7 k H7 true true false hd hu hr rfl
          clear k1 k2 k3 k4 k5 nx la H6 H7 hd hu hr ku
          go_wp2_with fail
          refine pt.mono ?_
          rintro e w10 ⟨rfl, H10⟩
          go_wp2_with fail
          refine (k6 _ _ w10 H10).mono ?_
          rintro e w11 ⟨rfl, hb11⟩
          go_wp2
          go_ret2
          exact ⟨by rw [la'.out]; rfl, hb11⟩
        · have pt := k5 (48 + (k : Int) + 1) _ (k + 1) w9 (by omega) (by omega) H9
          have la' : Hid (pre ++ [k + 1] = digsF (T1 + 1) V1 L1 U1 T1 cl) := la w7 k H7 true true true hd hu hr rfl
          clear k1 k2 k3 k4 k5 nx la H6 H7 hd hu hr ku
          go_wp2_with fail
          refine pt.mono ?_
          rintro e w10 ⟨rfl, H10⟩
          go_wp2_with fail
          refine (k6 _ _ w10 H10).mono ?_
          rintro e w11 ⟨rfl, hb11⟩
          go_wp2
          go_ret2
          exact ⟨by rw [la'.out]; rfl, hb11⟩
  · clear y1 y4 sc' lp c0 c3 hw c1
    have S0 := st_start H5
    go_wp2_with fail
    go_loopw [] (fun wr => ShortAt w wr w.heap.size w1.heap.size w5.heap.size V1 L1 U1 T1 cl) (fun wr => K + 2 - lenB w5.heap.size wr)
    case atStart => exact ⟨[], V1, L1, U1, T1 + 1, DigAt.start hn hU0, by simp, by simp, S0.out⟩
    case round =>
      obtain ⟨pre, V2, L2, U2, f, dg, eU, eL, st⟩ := hrel
      have HL : Hid (lenB w5.heap.size wr = pre.length) := (lenB_is st.bd).trans (txt_len pre)
      obtain ⟨lenK, k1, k2, k3, k4, k5, k6⟩ := round_facts dg eU eL st hU0 hLU hTK hK
      have nx := round_more dg eU eL (w0 := w) (B := w.heap.size) (bv := w1.heap.size) (bt := w5.heap.size)
      have la := round_last dg (w0 := w) (B := w.heap.size) (bv := w1.heap.size) (bt := w5.heap.size)
      clear st eU eL dg H5 S0
      go_wp2_with fail
      refine k1.mono ?_
      rintro e w6 ⟨rfl, H6⟩
      go_wp2_with fail
      refine (k2 _ H6).mono ?_
      rintro e w7 ⟨k, rfl, hk9, H7⟩
      go_wp2_with fail
      refine (k3 _ _ H7).mono ?_
      rintro e w8 ⟨rfl, H8⟩
      have HD : Hid (inN (V2 * 10 - k * T1) (L2 * 10) cl = inN (V2 * 10 - k * T1) (L2 * 10) cl) := rfl
      generalize hd : inN (V2 * 10 - k * T1) (L2 * 10) cl = dn
      generalize hu : inN T1 (V2 * 10 - k * T1 + U2 * 10) cl = up
      have hd := (show Hid (inN (V2 * 10 - k * T1) (L2 * 10) cl = dn) from hd)
      have hu := (show Hid (inN T1 (V2 * 10 - k * T1 + U2 * 10) cl = up) from hu)
      cases dn <;> cases up
      · have pt := k5 (48 + (k : Int)) _ k w8 rfl (by omega) H8
        go_wp2_with fail
        refine pt.mono ?_
        rintro e w9 ⟨rfl, H9⟩
        obtain ⟨s9, l9⟩ := nx w7 k H7 hd hu w9 H9
        go_wp2_with fail
        refine ⟨s9, ?_⟩
        rw [l9.out, HL.out]
        omega
      · have pt := k5 (48 + (k : Int) + 1) _ (k + 1) w8 (by omega) (by omega) H8
        have la' : Hid (pre ++ [k + 1] = digsF (T1 + 1) V1 L1 U1 T1 cl) := la w7 k H7 false true _ hd hu rfl rfl
        clear k1 k2 k3 k4 k5 nx la H6 H7 hd hu
        go_wp2_with fail
        refine pt.mono ?_
        rintro e w9 ⟨rfl, H9⟩
        go_wp2_with fail
        refine (k6 _ _ w9 H9).mono ?_
        rintro e w10 ⟨rfl, hb10⟩
        go_wp2
        go_ret2
        exact ⟨by rw [la'.out]; rfl, hb10⟩
      · have pt := k5 (48 + (k : Int)) _ k w8 rfl (by omega) H8
        have la' : Hid (pre ++ [k] = digsF (T1 + 1) V1 L1 U1 T1 cl) := la w7 k H7 true false _ hd hu rfl rfl
        clear k1 k2 k3 k4 k5 nx la H6 H7 hd hu
        go_wp2_with fail
        refine pt.mono ?_
        rintro e w9 ⟨rfl, H9⟩
        go_wp2_with fail
        refine (k6 _ _ w9 H9).mono ?_
        rintro e w10 ⟨rfl, hb10⟩
        go_wp2
        go_ret2
        exact ⟨by rw [la'.out]; rfl, hb10⟩
      · have ku := k4 w7 k H7 hk9 w8 H8
        go_wp2_with fail
        refine ku.mono ?_
        rintro e w9 ⟨rfl, H9⟩
        generalize hr : upN (V2 * 10 - k * T1) T1 k = rd
        have hr := (show Hid (upN (V2 * 10 - k * T1) T1 k = rd) from hr)
        cases rd
        · have pt := k5 (48 + (k : Int)) _ k w9 rfl (by omega) H9
          have la' : Hid (pre ++ [k] = digsF (T1 + 1) V1 L1 U1 T1 cl) := la w7 k H7 true true false hd hu hr rfl
          clear k1 k2 k3 k4 k5 nx la H6 H7 hd hu hr ku
          go_wp2_with fail
          refine pt.mono ?_
          rintro e w10 ⟨rfl, H10⟩
          go_wp2_with fail
          refine (k6 _ _ w10 H10).mono ?_
          rintro e w11 ⟨rfl, hb11⟩
          go_wp2
          go_ret2
          exact ⟨by rw [la'.out]; rfl, hb11⟩
        · have pt := k5 (48 + (k : Int) + 1) _ (k + 1) w9 (by omega) (by omega) H9
          have la' : Hid (pre ++ [k + 1] = digsF (T1 + 1) V1 L1 U1 T1 cl) := la w7 k H7 true true true hd hu hr rfl
          clear k1 k2 k3 k4 k5 nx la H6 H7 hd hu hr ku
          go_wp2_with fail
          refine pt.mono ?_
          rintro e w10 ⟨rfl, H10⟩
          go_wp2_with fail
          refine (k6 _ _ w10 H10).mono ?_
          rintro e w11 ⟨rfl, hb11⟩
          go_wp2
          go_ret2
          exact ⟨by rw [la'.out]; rfl, hb11⟩

end Go.Proofs.YtpejebohekcfoabGreatDoor
