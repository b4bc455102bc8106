/- HK -/
import Derived.Test.YtkpdpdllbnihgaaGreatB10
set_option linter.unusedVariables false
set_option linter.unusedSimpArgs false
set_option maxRecDepth 100000
set_option maxHeartbeats 40000000
/- Make. -/
namespace Go.Proofs.YtkpdpdllbnihgaaGreat.Hp
open Go.RowKit
def makeH (H : He) (kind proto : Int) : He :=
  { raiseH H proto with L := (Sp.rootD H.most H.L (rootN kind proto)).1, obs := (raiseH H proto).obs ++ [⟨kind, proto, false, false, [], 0, [], [], (Sp.rootD H.most H.L (rootN kind proto)).2.1, (Sp.rootD H.most H.L (rootN kind proto)).2.2, -1, false, []⟩] }
theorem obNew_wf (kind proto sh : Int) (ok : Bool) (k0 : 0 ≤ kind) (k6 : kind ≤ 6) (p0 : 0 ≤ proto) (p1 : proto < 18446744073709551616) : (⟨kind, proto, false, false, [], 0, [], [], sh, ok, -1, false, []⟩ : Ob).wf :=
  ⟨⟨k0, k6⟩, ⟨p0, p1⟩, fun p hp => by simp at hp, fun p hp => by simp at hp, by simp, by simp, by simp⟩
theorem object_wrap (n : Nat) (h : n < 65536) (w : World) : Calls Tryz.prog 67 #[.int .u32 (wrap64 (n : Int) % 4294967296)] w fun e w' => e = .returned (.int .u64 (objW (n : Int))) ∧ w' = w := by
  have e : wrap64 (n : Int) % 4294967296 = (n : Int) := by unfold wrap64; omega
  rw [e]
  exact object_any _ w (by omega) (by omega)
/-- the object that Make lays -/
def obCells (kind proto sh : Int) (ok : Bool) : Array Value := #[.int .i64 kind, .int .u64 proto, .bool false, .bool false, .slice none 0 0, .map none, .int .i64 0, .slice none 0 0, .slice none 0 0, .int .i64 sh, .bool ok, .int .i64 (-1)]
theorem make_mid {w3 : World} {B hb : Nat} {tg3 : Nat → Nat} {H1 : He} {M : HV} (h : HeapAt w3 B hb tg3 H1 M) (kind proto : Int) {wb w5 : World} (hwb : wb = w3.alloc (.cells (obCells kind proto 0 false) 105)) {Ot : Nat → Prop} (hO : ∀ b, Ot b → tg3 b = 5) {L' : List Sp.Sh} (hw : Sp.Went wb.drew B M.tb Ot H1.most L' w5) (sh : Int) (ok : Bool) :
    w5.heap[w3.heap.size]? = some (.cells (obCells kind proto 0 false) 105 (0, 0)) ∧
    ((w5.setCell ⟨w3.heap.size, 9, none⟩ (.int .i64 sh)).setCell ⟨w3.heap.size, 10, none⟩ (.bool ok)).heap[w3.heap.size]? = some (.cells (obCells kind proto sh ok) 105 (0, 0)) ∧
    ∃ tg7, HeapAt ((w5.setCell ⟨w3.heap.size, 9, none⟩ (.int .i64 sh)).setCell ⟨w3.heap.size, 10, none⟩ (.bool ok)) B hb tg7 { H1 with L := L' } M ∧ tg7 w3.heap.size = 0 ∧ Chg (fun b => tg3 b ≠ 0) w3 ((w5.setCell ⟨w3.heap.size, 9, none⟩ (.int .i64 sh)).setCell ⟨w3.heap.size, 10, none⟩ (.bool ok)) ∧ ∀ b, tg7 b ≠ 0 → tg3 b ≠ 0 ∨ w3.heap.size ≤ b := by
  have hB : Below w3.heap.size w3 wb := by rw [hwb]; exact (Below.refl _ _).alloc (Nat.le_refl _) _
  have hbd : HeapAt wb.drew B hb tg3 H1 M := (h.below hB).below ((Below.refl _ _).drew)
  have hx0 : wb.drew.heap[w3.heap.size]? = some (.cells (obCells kind proto 0 false) 105 (0, 0)) := by
    show wb.heap[w3.heap.size]? = _
    rw [hwb]
    exact at_new _ _
  have hsz : w3.heap.size < wb.drew.heap.size := (Array.getElem?_eq_some_iff.1 hx0).1
  have hx3 : tg3 w3.heap.size = 0 := by
    by_cases c : tg3 w3.heap.size = 0
    · exact c
    · have := (h.lt _ c).2; omega
  obtain ⟨⟨tg5, k1, k2, k3⟩, k4⟩ := hbd.tree hO hw
  have hx5 : w5.heap[w3.heap.size]? = some (.cells (obCells kind proto 0 false) 105 (0, 0)) := by
    rw [k4.block _ hsz (by omega)]
    exact hx0
  have hx5z : tg5 w3.heap.size = 0 := by
    by_cases c : tg5 w3.heap.size = 0
    · exact c
    · rcases k3 _ c with q | q
      · exact absurd hx3 q
      · omega
  have h9 := heap_setCell_same w5 w3.heap.size 9 _ _ (.int .i64 sh) hx5
  have h10 := heap_setCell_same (w5.setCell ⟨w3.heap.size, 9, none⟩ (.int .i64 sh)) w3.heap.size 10 _ _ (.bool ok) h9
  have c9 : Chg (fun b => b = w3.heap.size) w5 ((w5.setCell ⟨w3.heap.size, 9, none⟩ (.int .i64 sh)).setCell ⟨w3.heap.size, 10, none⟩ (.bool ok)) := (Chg.set (S := fun b => b = w3.heap.size) w5 ⟨w3.heap.size, 9, none⟩ _ rfl).trans (Chg.set (S := fun b => b = w3.heap.size) _ ⟨w3.heap.size, 10, none⟩ _ rfl) (fun _ _ q => q)
  refine ⟨hx5, h10, tg5, k1.kept c9 (fun b q e => by rw [show b = w3.heap.size from e] at q; exact q hx5z), hx5z, ?_, fun b q => ?_⟩
  · have hd : Chg (fun b => tg3 b ≠ 0) w3 wb.drew := (Chg.of_below hB).drew
    refine (hd.trans k2 (fun _ _ q => q)).trans c9 (fun b hb q => ?_)
    have q : b = w3.heap.size := q
    omega
  · rcases k3 b q with c | c
    · exact Or.inl c
    · have : wb.drew.heap.size = wb.heap.size := rfl
      have := hB.size
      exact Or.inr (by omega)
section
variable {w w' w1 : World} {B hb : Nat} {O S : Nat → Prop} {H H' : He} {M M' : HV} {tg : Nat → Nat}
set_option maxRecDepth 100000 in
set_option maxHeartbeats 4000000 in
theorem make_hit (h : HeapAt w B hb tg H M) (kind proto : Int) (k0 : 0 ≤ kind) (k6 : kind ≤ 6) (p0 : 0 ≤ proto) (p1 : proto < 18446744073709551616) (hp : mayB H proto = true) (hroom : H.obs.length < 65536) :
    Calls Tryz.prog 20 #[.pointer (some ⟨hb, 0, none⟩), .int .i64 kind, .int .u64 proto] w fun e w' => e = .returned (.tuple #[.int .u64 (objW (H.obs.length : Int)), .bool true]) ∧ ∃ M', WentM w B hb tg (makeH H kind proto) M' w' := by
  have km := mayBe_at h proto p0 p1
  rw [hp] at km
  have kd := made_at h
  have kr := raise_at h proto p0 p1
  have hrl := raise_len H proto
  obtain ⟨c0, c1, c2, c3, c4, c5, fz⟩ := h.box
  obtain ⟨ad, cap, hv, hl1, hl2⟩ := h.vol
  rw [hv] at c2
  unfold SV.val at c2
  simp only at c2
  have hge : decide ((65536 : Int) ≤ (H.obs.length : Int)) = false := decide_eq_false (by omega)
  have HH : Hid (HeapAt w B hb tg H M) := h
  have HR : Hid ((raiseH H proto).obs.length = H.obs.length ∧ (raiseH H proto).L = H.L ∧ (raiseH H proto).most = H.most) := hrl
  generalize hN : H.obs.length = n at *
  have HROOM : Hid (n < 65536) := hroom
  have HV : Hid (M.vo = ⟨ad, n, cap⟩) := hv
  have f2 := fz 2
  clear h hrl hp hroom hl1 hl2 hv fz
  go_enter Tryz.func20, Tryz.ntmps20
  go_wp2_with fail
  refine km.mono ?_
  rintro e w2 ⟨rfl, rfl⟩
  clear km
  go_wp2_with fail
  refine kd.mono ?_
  rintro e w2 ⟨rfl, rfl⟩
  clear kd
  go_wp2_with fail
  refine kr.mono ?_
  rintro e w3 ⟨rfl, hw3⟩
  have HW3 := (show Hid _ from hw3)
  clear kr hw3
  go_upto_region 7 with fail
  obtain ⟨tg3, h3, ch3, nw3⟩ := HW3.out
  have HCH3 : Hid (Chg (fun b => tg b ≠ 0) w2 w3 ∧ ∀ b, tg3 b ≠ 0 → tg b ≠ 0 ∨ w2.heap.size ≤ b) := ⟨ch3, nw3⟩
  obtain ⟨hr1, hr2, hr3⟩ := HR.out
  clear HW3 ch3 nw3 c0 c1 c2 c3 c4 c5 f2
  generalize hH1 : raiseH H proto = H1 at *
  obtain ⟨c0, c1, c2, c3, c4, c5, fz⟩ := h3.box
  have hv3 := HV.out
  rw [hv3] at c2
  unfold SV.val at c2
  simp only at c2
  obtain ⟨Ot, ht3, hOt⟩ := h3.prt 5
  have hOt : ∀ b, Ot b → tg3 b = 5 := hOt
  obtain ⟨wb, hwb⟩ : ∃ wb, wb = w3.alloc (.cells (obCells kind proto 0 false) 105) := ⟨_, rfl⟩
  have hB : Below w3.heap.size w3 wb := by rw [hwb]; exact (Below.refl _ _).alloc (Nat.le_refl _) _
  have HMID : Hid (∀ w5, Sp.Went wb.drew B M.tb Ot H1.most (Sp.rootD H1.most H1.L (rootN kind proto)).1 w5 → _) := fun w5 q => make_mid h3 kind proto hwb hOt q (Sp.rootD H1.most H1.L (rootN kind proto)).2.1 (Sp.rootD H1.most H1.L (rootN kind proto)).2.2
  have kroot := Sp.root_any wb.drew B M.tb Ot H1.most H1.L ((ht3.below hB).below ((Below.refl _ _).drew)) (rootN kind proto) (by unfold rootN; omega) (by unfold rootN; omega) (Or.inl (by have := h3.wf.mo; unfold Sp.top; omega))
  have kro := fun w => rootOf_any w kind proto k0 k6 p0 p1
  have e3 := cells_below hB _ _ c3
  have e2 := cells_below hB _ _ c2
  have HB0 : Hid (B ≤ w3.heap.size ∧ hb < w3.heap.size ∧ tg3 hb = 1) := ⟨by have := h3.B0; omega, h3.B0.2.1, h3.B0.1⟩
  have H3 : Hid (HeapAt w3 B hb tg3 H1 M) := h3
  have HTREE : Hid (∀ b, Ot b → tg3 b = 5) := hOt
  rw [show (w3.alloc (.cells #[.int .i64 kind, .int .u64 proto, .bool false, .bool false, .slice none 0 0, .map none, .int .i64 0, .slice none 0 0, .slice none 0 0, .int .i64 0, .bool false, .int .i64 (-1)] 105)) = wb from hwb.symm]
  generalize hsh : (Sp.rootD H1.most H1.L (rootN kind proto)).2.1 = sh at *
  generalize hok : (Sp.rootD H1.most H1.L (rootN kind proto)).2.2 = ok at *
  generalize hL : (Sp.rootD H1.most H1.L (rootN kind proto)).1 = L1 at *
  generalize hrn : rootN kind proto = rn at *
  clear h3 hOt ht3 c0 c1 c3 c4 c5 fz hv3 hB hwb c2
  first
  | (go_region_with (first | (go_at_call 66; refine (kro _).mono ?_; rintro e w4 ⟨rfl, rfl⟩) | (go_at_call 65; refine kroot.mono ?_; rintro e w5 ⟨rfl, hq⟩; have HX := (show Hid _ from HMID.out w5 hq); have m9 : w5.cell? ⟨w3.heap.size, 9, none⟩ = some (.int .i64 0) := cell_of_row w5 w3.heap.size 9 _ _ (0, 0) HX.out.1; have m10 : w5.cell? ⟨w3.heap.size, 10, none⟩ = some (.bool false) := cell_of_row w5 w3.heap.size 10 _ _ (0, 0) HX.out.1; have n9 := frozen_of_row w5 w3.heap.size 9 _ _ HX.out.1; have n10 := frozen_of_row w5 w3.heap.size 10 _ _ HX.out.1; clear hq)))
  | fail
  all_goals
    obtain ⟨hx5, hx7, tg7, h7, z7, ch7, nw7⟩ := HX.out
    clear HX hx5 m9 m10 n9 n10 HMID kroot kro e2 e3
    generalize hw7 : ((w5.setCell ⟨w3.heap.size, 9, none⟩ (.int .i64 sh)).setCell ⟨w3.heap.size, 10, none⟩ (.bool ok)) = w7 at *
    clear hw7
    generalize hxb : w3.heap.size = xb at *
    have g0 : w7.cell? ⟨xb, 0, none⟩ = some (.int .i64 kind) := cell_of_row w7 xb 0 _ _ (0, 0) hx7
    have g1 : w7.cell? ⟨xb, 1, none⟩ = some (.int .u64 proto) := cell_of_row w7 xb 1 _ _ (0, 0) hx7
    have g2 : w7.cell? ⟨xb, 2, none⟩ = some (.bool false) := cell_of_row w7 xb 2 _ _ (0, 0) hx7
    have g3 : w7.cell? ⟨xb, 3, none⟩ = some (.bool false) := cell_of_row w7 xb 3 _ _ (0, 0) hx7
    have g4 : w7.cell? ⟨xb, 4, none⟩ = some (.slice none 0 0) := cell_of_row w7 xb 4 _ _ (0, 0) hx7
    have g5 : w7.cell? ⟨xb, 5, none⟩ = some (.map none) := cell_of_row w7 xb 5 _ _ (0, 0) hx7
    have g6 : w7.cell? ⟨xb, 6, none⟩ = some (.int .i64 0) := cell_of_row w7 xb 6 _ _ (0, 0) hx7
    have g7 : w7.cell? ⟨xb, 7, none⟩ = some (.slice none 0 0) := cell_of_row w7 xb 7 _ _ (0, 0) hx7
    have g8 : w7.cell? ⟨xb, 8, none⟩ = some (.slice none 0 0) := cell_of_row w7 xb 8 _ _ (0, 0) hx7
    have g9 : w7.cell? ⟨xb, 9, none⟩ = some (.int .i64 sh) := cell_of_row w7 xb 9 _ _ (0, 0) hx7
    have g10 : w7.cell? ⟨xb, 10, none⟩ = some (.bool ok) := cell_of_row w7 xb 10 _ _ (0, 0) hx7
    have g11 : w7.cell? ⟨xb, 11, none⟩ = some (.int .i64 (-1)) := cell_of_row w7 xb 11 _ _ (0, 0) hx7
    obtain ⟨c0, c1, c2, c3, c4, c5, fz⟩ := h7.box
    rw [HV.out] at c2
    unfold SV.val at c2
    simp only at c2
    have hvv : M.vo.val = .slice ad n cap := by rw [HV.out]; rfl
    have hp4 : RowIn obC 12 105 B w7 _ M.vo (H1.obs.zip M.ovs) := h7.prt 4
    have hown : OwnR obC 12 105 B w7 (.slice ad n cap) (H1.obs.zip M.ovs) := by rw [← hvv]; exact hp4.1
    have hzl : (H1.obs.zip M.ovs).length = n := by rw [List.length_zip, h7.len]; simp only; omega
    have hb7 := h7.B0
    have HPU : Hid (∀ W G C, OwnR obC 12 105 B W (.slice (some ⟨G, 0, none⟩) (n + 1) C) (H1.obs.zip M.ovs ++ [((⟨kind, proto, false, false, [], 0, [], [], sh, ok, -1, false, []⟩ : Ob), OV.none)]) → Chg (fun b => (Value.slice ad n cap).ownBlock = some b) w7 W → ((Value.slice ad n cap).ownBlock = some G ∨ w7.heap.size ≤ G) → ∃ M', WentM w2 B hb tg (makeH H kind proto) M' (W.setCell ⟨hb, 2, none⟩ (.slice (some ⟨G, 0, none⟩) (n + 1) C)) ∧ (W.setCell ⟨hb, 2, none⟩ (.slice (some ⟨G, 0, none⟩) (n + 1) C)).cell? ⟨hb, 2, none⟩ = some (.slice (some ⟨G, 0, none⟩) (n + 1) C)) := fun W G C q1 q2 q3 => by
      have hH : makeH H kind proto = { { H1 with L := L1 } with obs := ({ H1 with L := L1 } : He).obs ++ [((⟨kind, proto, false, false, [], 0, [], [], sh, ok, -1, false, []⟩ : Ob), OV.none).1] } := by
        unfold makeH
        rw [hH1, hrn, ← hr2, ← hr3, hL, hsh, hok]
      rw [hH]
      refine ⟨{ M with vo := ⟨some ⟨G, 0, none⟩, n + 1, C⟩, ovs := M.ovs ++ [OV.none] }, ?_, ?_⟩
      · exact WentM.trans ⟨tg7, h7, HCH3.out.1.trans ch7 (fun b hb q => by rcases HCH3.out.2 b q with c | c; exact c; omega), fun b q => by rcases nw7 b q with c | c; exact HCH3.out.2 b c; exact Or.inr (by have := HCH3.out.1.size; omega)⟩ (fun tgy hy => by
          have hpw2 := hy.push (w5 := W) (g5 := G) (cap5 := C) (ob := ((⟨kind, proto, false, false, [], 0, [], [], sh, ok, -1, false, []⟩ : Ob), OV.none).1) (by rw [show ({ H1 with L := L1 } : He).obs.length = n from hr1]; exact q1) (by rw [hvv]; exact q2) (by rw [hvv]; exact q3) rfl rfl rfl (obNew_wf kind proto sh ok k0 k6 p0 p1) (by rw [show ({ H1 with L := L1 } : He).obs.length = n from hr1]; have := HROOM.out; omega)
          rw [show ({ H1 with L := L1 } : He).obs.length = n from hr1] at hpw2
          exact hpw2)
      · have hbx : W.heap[hb]? = some (.cells (hpC { H1 with L := L1 } M) 63 (0, 0)) := by
          rw [q2.block hb hb7.2.1 (fun q => by rw [← hvv] at q; have := hp4.2 hb q; have t1 := hb7.1; rw [this] at t1; cases t1)]
          exact (h7.prt 1).2
        rw [cell_of_row _ hb 2 _ _ (0, 0) (heap_setCell_same W hb 2 _ _ (.slice (some ⟨G, 0, none⟩) (n + 1) C) hbx)]
        rfl
    have HFZ : Hid (∀ W, Chg (fun b => (Value.slice ad n cap).ownBlock = some b) w7 W → W.cell? ⟨hb, 2, none⟩ = some (.slice ad n cap) ∧ W.frozen? ⟨hb, 2, none⟩ = false) := fun W q => by
      have hn : ¬ (Value.slice ad n cap).ownBlock = some hb := fun q => by rw [← hvv] at q; have := hp4.2 hb q; have t1 := hb7.1; rw [this] at t1; cases t1
      exact ⟨q.cell c2 hn, by rw [World.frozen?_of_block (w := w7) (q.block hb hb7.2.1 hn)]; exact fz 2⟩
    have f2 := fz 2
    have hne : ¬ hb = w7.heap.size := by omega
    have hnx : ¬ xb = w7.heap.size := by have := (Array.getElem?_eq_some_iff.1 hx7).1; omega
    have HAL : Hid (Below w7.heap.size w7 (w7.drew.alloc (.cells #[.int .i64 kind, .int .u64 proto, .bool false, .bool false, .slice none 0 0, .map none, .int .i64 0, .slice none 0 0, .slice none 0 0, .int .i64 sh, .bool ok, .int .i64 (-1)] 105))) := ((Below.refl w7.heap.size w7).drew).alloc (Nat.le_refl _) _
    have g12 : (w7.alloc (.cells #[.int .i64 kind, .int .u64 proto, .bool false, .bool false, .slice none 0 0, .map none, .int .i64 0, .slice none 0 0, .slice none 0 0, .int .i64 sh, .bool ok, .int .i64 (-1)] 105)).cell? ⟨hb, 2, none⟩ = some (.slice ad n cap) := cells_below ((Below.refl w7.heap.size w7).alloc (Nat.le_refl _) _) _ _ c2
    have HOW : Hid (OwnR obC 12 105 B (w7.drew.alloc (.cells #[.int .i64 kind, .int .u64 proto, .bool false, .bool false, .slice none 0 0, .map none, .int .i64 0, .slice none 0 0, .slice none 0 0, .int .i64 sh, .bool ok, .int .i64 (-1)] 105)) (.slice ad n cap) (H1.obs.zip M.ovs)) := hown.below HAL.out
    have HBB : Hid (B ≤ w7.heap.size) := by show _ ≤ _; omega
    have HBX : Hid ((((H1.obs.zip M.ovs).length + 1) + ((H1.obs.zip M.ovs).length + 1) / 4 + 192) * 136 ≤ 281474976710656 ∧ (H1.obs.zip M.ovs).length + 1 ≤ maxLen) := by
      have := HROOM.out
      rw [hzl]
      refine ⟨by omega, by unfold maxLen; omega⟩
    have HZL : Hid ((H1.obs.zip M.ovs).length = n) := hzl
    have HN : Hid (n < 65536) := HROOM.out
    have hn1 : IntKind.i64.wrap ((n : Int) + 1 - 1) = (n : Int) := by rw [IntKind.wrap_i64]; have := HROOM.out; omega
    have hn2 : IntKind.u32.wrap (n : Int) = (n : Int) := by rw [IntKind.wrap_u32]; have := HROOM.out; omega
    have kobj := fun w => object_wrap n HROOM.out w
    clear hx7 h7 z7 ch7 nw7 c0 c1 c3 c4 c5 fz hp4 hown hzl hb7 hvv hr1 hr2 hr3 hH1 hsh hok hL hrn HR HCH3 HB0 H3 HTREE HV HH
    go_upto_region 8 with fail
    generalize hps : H1.obs.zip M.ovs = ps at *
    clear hps
    go_region_law ((refine step_row rtOb (by rfl) _ _ (by rfl) B (.slice ad n cap) ps (by rfl) (by exact HOW.out) w7.heap.size ((⟨kind, proto, false, false, [], 0, [], [], sh, ok, -1, false, []⟩ : Ob), OV.none) #[.int .i64 kind, .int .u64 proto, .bool false, .bool false, .slice none 0 0, .map none, .int .i64 0, .slice none 0 0, .slice none 0 0, .int .i64 sh, .bool ok, .int .i64 (-1)] 105 (by rfl) (by exact at_new _ _) (by rfl) (by exact HBX.out.2) (by exact HBX.out.1) (by exact Nat.le_trans HBB.out HAL.out.size) ?_; intro g5 cap5 w9 ho5 hg5 hl5; rw [HZL.out] at ho5 ⊢; have HO : Hid (OwnR obC 12 105 B w9 (.slice (some ⟨g5, 0, none⟩) (n + 1) cap5) (ps ++ [((⟨kind, proto, false, false, [], 0, [], [], sh, ok, -1, false, []⟩ : Ob), OV.none)]) ∧ Chg (fun b => (Value.slice ad n cap).ownBlock = some b) w7 w9 ∧ ((Value.slice ad n cap).ownBlock = some g5 ∨ w7.heap.size ≤ g5)) := ⟨ho5, (Chg.of_below HAL.out).trans (Chg.of_grown (S := fun b => (Value.slice ad n cap).ownBlock = some b) hg5 (fun k q => q)) (fun _ _ q => q), hl5.imp id (fun q => by rw [q]; exact HAL.out.size)⟩; obtain ⟨z1, z2⟩ := HFZ.out w9 HO.out.2.1; clear ho5 hg5 hl5))
    all_goals
      obtain ⟨M', hW, hc2⟩ := HPU.out w9 g5 cap5 HO.out.1 HO.out.2.1 HO.out.2.2
      have HWW := (show Hid (WentM w2 B hb tg (makeH H kind proto) M' _) from hW)
      clear hW HO HFZ HOW HBB HAL HPU z1 z2 HBX HZL
      generalize (w9.setCell ⟨hb, 2, none⟩ (.slice (some ⟨g5, 0, none⟩) (n + 1) cap5)) = w10 at *
      go_wp2_with fail
      refine (kobj _).mono ?_
      rintro e w11 ⟨rfl, rfl⟩
      clear kobj
      go_wp2_with fail
      go_ret2
      exact ⟨rfl, M', by first | exact HWW.out | exact HWW.out.drew⟩
end
end Go.Proofs.YtkpdpdllbnihgaaGreat.Hp
