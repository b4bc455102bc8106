/- Text, TextOf: the walks. -/
import Derived.Test.YtkpdpdllbnihgaaHS
import Derived.Test.YtkpdpdllbnihgaaHL
namespace Go.Proofs.Ytkpdpdllbnihgaa.Hp
open Go.RowKit
set_option linter.unusedVariables false

section
variable {w w' w1 : World} {B hb : Nat} {O S : Nat → Prop} {H H' : He} {M M' : HV} {tg : Nat → Nat}

theorem text_any (n : Int) (w : World) (n0 : 0 ≤ n) (n1 : n < 4294967296) : Calls Try.prog 26 #[.int .u32 n] w fun e w' => e = .returned (.int .u64 (txtW n)) ∧ w' = w := by
  have c := fun w => tagged_any 65532 n w (by omega) (by omega) n0 n1
  unfold txtW
  rw [show (65532 * 281474976710656 : Int) = 18445618173802708992 from rfl] at c
  go_enter Try.func26, Try.ntmps26
  go_wp2_with (go_at_call 45; refine (c _).mono ?_; rintro e w1 ⟨rfl, rfl⟩)
  go_ret
  exact ⟨rfl, rfl⟩

theorem isText_any (a : Int) (w : World) (h0 : 0 ≤ a) (h1 : a < 18446744073709551616) :
    Calls Try.prog 27 #[.int .u64 a] w fun e w' => e = .returned (.tuple #[.int .u32 (payN a 65532), .bool (isT a 65532)]) ∧ w' = w := by
  have c := fun w => payU_any a 65532 w h0 h1 (by omega) (by omega)
  unfold payN
  generalize (if isT a 65532 then a % 4294967296 else 0) = x at *
  generalize isT a 65532 = y at *
  go_enter Try.func27, Try.ntmps27
  go_wp2_with (go_at_call 46; refine (c _).mono ?_; rintro e w1 ⟨rfl, rfl⟩)
  go_ret2
  exact ⟨rfl, rfl⟩

set_option maxRecDepth 100000 in
theorem text_long (h : HeapAt w B hb tg H M) (s : ByteArray) (hs : 4096 < s.size) :
    Calls Try.prog 8 #[.pointer (some ⟨hb, 0, none⟩), .string s] w fun e w' => e = .returned (.tuple #[.int .u64 undW, .bool false]) ∧ w' = w := by
  have hs' : (4096 : Int) < (s.size : Int) := by omega
  unfold undW
  clear h hs
  go_enter Try.func8, Try.ntmps8
  go_wp2_with fail
  go_ret2
  exact ⟨rfl, rfl⟩

set_option maxRecDepth 100000 in
theorem text_known (h : HeapAt w B hb tg H M) (s : ByteArray) (hs : s.size ≤ 4096) {n : Nat} (hn : txI H.tx s = some n) :
    Calls Try.prog 8 #[.pointer (some ⟨hb, 0, none⟩), .string s] w fun e w' => e = .returned (.tuple #[.int .u64 (txtW (n : Int)), .bool true]) ∧ w' = w := by
  have km := made_at h
  obtain ⟨c0, c1, c2, c3, c4, c5, fz⟩ := h.box
  have hp3 : tg M.mb = 3 ∧ MpIs w M.mb .u32 (numd H.tx) := h.prt 3
  have hlk := hp3.2.look (numd_ok h.wf.tn h.wf.ts) Try.underlying51 (zero62 w) (nm := s) (by unfold maxLen; omega)
  rw [numd_lk h.wf.tn, hn] at hlk
  have hlk : (Instr.lookup 51 (.map (some M.mb)) (.string s) true).run Try.prog w = .ok (.tuple #[.int .u32 (n : Int), .bool true]) w := hlk
  have hnl : n < H.tx.length := (List.getElem?_eq_some_iff.1 (txI_some hn)).1
  have htl := h.wf.tl
  have kt := fun w => text_any (n : Int) w (by omega) (by omega)
  have hs' : ¬ (4096 : Int) < (s.size : Int) := by omega
  clear h hs hn c0 c2 c3 c4 c5 fz hp3 hnl htl
  go_enter Try.func8, Try.ntmps8
  go_wp2_with fail
  refine km.mono ?_
  rintro e w2 ⟨rfl, rfl⟩
  clear km
  go_wp2_with fail
  refine (kt _).mono ?_
  rintro e w3 ⟨rfl, rfl⟩
  clear kt
  go_wp2_with fail
  go_ret2
  exact ⟨rfl, rfl⟩

set_option maxRecDepth 100000 in
theorem text_full (h : HeapAt w B hb tg H M) (s : ByteArray) (hs : s.size ≤ 4096) (hn : txI H.tx s = none) (hl : H.tx.length = 16384) :
    Calls Try.prog 8 #[.pointer (some ⟨hb, 0, none⟩), .string s] w fun e w' => e = .returned (.tuple #[.int .u64 undW, .bool false]) ∧ w' = w := by
  have km := made_at h
  obtain ⟨c0, c1, c2, c3, c4, c5, fz⟩ := h.box
  have hp2 : RowIn strC 1 9 B w _ M.vt H.tx := h.prt 2
  obtain ⟨q1, q2, q3, q4⟩ := hp2.open rtStr.len
  have hp3 : tg M.mb = 3 ∧ MpIs w M.mb .u32 (numd H.tx) := h.prt 3
  have hlk := hp3.2.look (numd_ok h.wf.tn h.wf.ts) Try.underlying51 (zero62 w) (nm := s) (by unfold maxLen; omega)
  rw [numd_lk h.wf.tn, hn] at hlk
  have hlk : (Instr.lookup 51 (.map (some M.mb)) (.string s) true).run Try.prog w = .ok (.tuple #[.int .u32 0, .bool false]) w := hlk
  unfold SV.val at c0
  rw [q1, hl] at c0
  have hs' : ¬ (4096 : Int) < (s.size : Int) := by omega
  unfold undW
  clear h hs hn c2 c3 c4 c5 fz hp2 hp3 q1 q2 q3 q4 hl
  go_enter Try.func8, Try.ntmps8
  go_wp2_with fail
  refine km.mono ?_
  rintro e w2 ⟨rfl, rfl⟩
  clear km
  go_wp2_with fail
  go_ret2
  exact ⟨rfl, rfl⟩

set_option maxRecDepth 100000 in
set_option maxHeartbeats 1000000 in
theorem text_new (h : HeapAt w B hb tg H M) (s : ByteArray) (hs : s.size ≤ 4096) (hn : txI H.tx s = none) (hl : H.tx.length < 16384) :
    Calls Try.prog 8 #[.pointer (some ⟨hb, 0, none⟩), .string s] w fun e w' => e = .returned (.tuple #[.int .u64 (txtW (H.tx.length : Int)), .bool true]) ∧ ∃ M', WentM w B hb tg { H with tx := H.tx ++ [s] } M' w' := by
  have km := made_at h
  obtain ⟨c0, c1, c2, c3, c4, c5, fz⟩ := h.box
  have hp2 : RowIn strC 1 9 B w _ M.vt H.tx := h.prt 2
  have hown := hp2.1
  obtain ⟨q1, q2, q3, q4⟩ := hp2.open rtStr.len
  have hp3 : tg M.mb = 3 ∧ MpIs w M.mb .u32 (numd H.tx) := h.prt 3
  have hlk := hp3.2.look (numd_ok h.wf.tn h.wf.ts) Try.underlying51 (zero62 w) (nm := s) (by unfold maxLen; omega)
  rw [numd_lk h.wf.tn, hn] at hlk
  have hlk : (Instr.lookup 51 (.map (some M.mb)) (.string s) true).run Try.prog w = .ok (.tuple #[.int .u32 0, .bool false]) w := hlk
  have hB0 := h.B0
  have ht : ∀ b, M.vt.val.ownBlock = some b → tg b = 2 := hp2.2
  have hnh : ¬ M.vt.val.ownBlock = some hb := fun q => by have := ht hb q; omega
  have HTX : Hid (∀ w6 g6 c6, OwnR strC 1 9 B w6 (.slice (some ⟨g6, 0, none⟩) (H.tx.length + 1) c6) (H.tx ++ [s]) → Chg (fun b => M.vt.val.ownBlock = some b) w w6 → (M.vt.val.ownBlock = some g6 ∨ w.heap.size ≤ g6) → _) := fun w6 g6 c6 r1 r2 r3 => h.text hs hn hl r1 r2 r3
  have HFZ : Hid (∀ W, Chg (fun b => M.vt.val.ownBlock = some b) w W → W.cell? ⟨hb, 0, none⟩ = some M.vt.val ∧ W.frozen? ⟨hb, 0, none⟩ = false) := fun W q => ⟨q.cell c0 hnh, by rw [World.frozen?_of_block (w := w) (q.block hb hB0.2.1 hnh)]; exact fz 0⟩
  have kt := fun w => text_any (H.tx.length : Int) w (by omega) (by omega)
  have hs' : ¬ (4096 : Int) < (s.size : Int) := by omega
  have HBX : Hid (((H.tx.length + 1) + (H.tx.length + 1) / 4 + 192) * 16 ≤ 281474976710656 ∧ H.tx.length + 1 ≤ maxLen) := ⟨by omega, by unfold maxLen; omega⟩
  have HAL : Hid (Below w.heap.size w (w.alloc (.cells #[.string s] 9))) := (Below.refl _ _).alloc (Nat.le_refl _) _
  have HOW : Hid (OwnR strC 1 9 B (w.alloc (.cells #[.string s] 9)) M.vt.val H.tx) := hown.below HAL.out
  have HONE : Hid (Sli.ok strC 1 (w.alloc (.cells #[.string s] 9)) ⟨some ⟨w.heap.size, 0, none⟩, 1, [s]⟩) := one_sli rtStr (at_new _ _) rfl
  have HSZ : Hid (B ≤ (w.alloc (.cells #[.string s] 9)).heap.size) := Nat.le_trans (by omega) HAL.out.size
  have hge : decide ((16384 : Int) ≤ (H.tx.length : Int)) = false := decide_eq_false (by omega)
  have hu : IntKind.u32.wrap (H.tx.length : Int) = (H.tx.length : Int) := by rw [IntKind.wrap_u32]; omega
  unfold SV.val at c0 HTX HFZ HOW
  rw [q1] at c0 HTX HFZ HOW
  generalize hH : { H with tx := H.tx ++ [s] } = HN at *
  generalize M.vt.ad = ad at *
  generalize M.vt.cap = cp at *
  generalize M.mb = mb at *
  have f0 := fz 0
  clear h hs hn c2 c3 c4 c5 fz hp2 hp3 q1 q2 q3 q4 hl hown hB0 ht hnh hH
  generalize H.tx = tx at *
  go_enter Try.func8, Try.ntmps8
  go_wp2_with fail
  refine km.mono ?_
  rintro e w2 ⟨rfl, rfl⟩
  clear km
  go_upto_region 8 with fail
  go_wp2_with (at_builtin; refine app_row rtStr rfl _ _ rfl B (.slice ad tx.length cp) tx ?h1 HOW.out ⟨some ⟨w2.heap.size, 0, none⟩, 1, [s]⟩ ?h3 HONE.out HBX.out.2 HBX.out.1 HSZ.out ?_)
  case h1 => rfl
  case h3 => rfl
  intro v6 w6 ho6 hg6 hl6
  have hll : (tx ++ [s]).length = tx.length + 1 := by simp
  have ho7 : w6.ownsRow B 9 1 v6 (tx.length + 1) ((tx ++ [s]).flatMap strC) := by rw [← hll]; exact ho6
  obtain ⟨g6, c6, rfl, _, _⟩ := ho7.form (by omega)
  have hch : Chg (fun b => (Value.slice ad tx.length cp).ownBlock = some b) w2 w6 := (Chg.of_below HAL.out).trans (Chg.of_grown (S := fun b => (Value.slice ad tx.length cp).ownBlock = some b) hg6 (fun k q => q)) (fun _ _ q => q)
  obtain ⟨w8, r1, r2, r3⟩ := HTX.out w6 g6 c6 (by unfold OwnR; rw [hll]; exact ho7) hch (hl6.imp (fun q => by rw [← q]; rfl) (fun q => by
    have q : g6 = (w2.alloc (.cells #[.string s] 9)).heap.size := by simpa [Value.ownBlock] using q
    rw [q]
    exact HAL.out.size))
  obtain ⟨z1, z2⟩ := HFZ.out w6 hch
  have HR3 := (show Hid _ from r3)
  clear ho6 ho7 hg6 hl6 hch r3 hll HTX HFZ HOW HONE HBX HSZ HAL c0 f0
  go_upto_region 9 with fail
  generalize (w6.setCell ⟨hb, 0, none⟩ (.slice (some ⟨g6, 0, none⟩) (tx.length + 1) c6)) = w7 at *
  go_wp2_with fail
  refine (kt _).mono ?_
  rintro e w9 ⟨rfl, rfl⟩
  clear kt
  go_wp2_with fail
  go_ret2
  exact ⟨rfl, _, HR3.out⟩

set_option maxRecDepth 100000 in
set_option maxHeartbeats 1000000 in
theorem textOf_at (h : HeapAt w B hb tg H M) {n : Nat} {s : ByteArray} (hn : H.tx[n]? = some s) :
    Calls Try.prog 9 #[.pointer (some ⟨hb, 0, none⟩), .int .u64 (txtW (n : Int))] w fun e w' => e = .returned (.tuple #[.string s, .bool true]) ∧ w' = w := by
  have km := made_at h
  obtain ⟨c0, c1, c2, c3, c4, c5, fz⟩ := h.box
  have hp2 : RowIn strC 1 9 B w _ M.vt H.tx := h.prt 2
  obtain ⟨q1, q2, q3, q4⟩ := hp2.open rtStr.len
  have hnl : n < H.tx.length := (List.getElem?_eq_some_iff.1 hn).1
  have htl := h.wf.tl
  obtain ⟨g, e1, _, _, _, hc, _⟩ := q4 (by intro e; rw [e] at hnl; simp at hnl)
  have d0 := hc n s hn 0 _ rfl
  simp only [Nat.mul_one, Nat.add_zero] at d0
  unfold SV.val at c0
  rw [q1, e1] at c0
  have kt := isText_any (txtW (n : Int)) w (by unfold txtW; omega) (by unfold txtW; omega)
  have hti := isT_txt (n : Int) (by omega) (by omega)
  rw [hti.1, hti.2] at kt
  generalize M.vt.cap = cp at *
  have hnn : (n : Int) < (H.tx.length : Int) := by omega
  have hnd : decide ((H.tx.length : Int) ≤ (n : Int)) = false := decide_eq_false (by omega)
  have hlim : (H.tx.length : Int) ≤ 9223372036854775807 := by omega
  generalize txtW (n : Int) = tw at *
  generalize H.tx.length = len at *
  clear h hn c1 c2 c3 c4 c5 fz hp2 q1 q2 q3 q4 hnl htl hc e1 hti
  go_enter Try.func9, Try.ntmps9
  go_wp2_with fail
  refine kt.mono ?_
  rintro e w2 ⟨rfl, rfl⟩
  clear kt
  go_wp2_with fail
  refine km.mono ?_
  rintro e w2 ⟨rfl, rfl⟩
  clear km
  go_wp2_with fail
  go_ret2
  exact ⟨rfl, rfl⟩

end

end Go.Proofs.Ytkpdpdllbnihgaa.Hp
