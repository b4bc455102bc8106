/- The resolver's walk: label. -/
import Derived.Test.YtihmdcdifakepabNF
namespace Go.Proofs.Ytihmdcdifakepab.Rv
open Go.RowKit Go.Proofs.Ytihmdcdifakepab.Sc Go.Proofs.Ytihmdcdifakepab.Rz
set_option linter.unusedVariables false
set_option linter.unusedSimpArgs false

theorem Mem.row6 {w : World} {B rb : Nat} {O : Nat → Prop} {s : Rz.RS} {v6 : Value} (h : Mem w B rb O s v6) : OwnR lbC 2 116 B w v6 s.labels ∧ (∀ b, v6.ownBlock = some b → O b ∧ b ≠ rb) ∧ O rb ∧ ∀ j, w.frozen? ⟨rb, j, none⟩ = false := by
  obtain ⟨tg, v0, v1, v2, v3, ms, hm, hO⟩ := h
  refine ⟨hm.r6, fun b q => ⟨(hO b).2 (Or.inr (Or.inr (Or.inr (Or.inr (Or.inr (Or.inl q)))))), fun e => ?_⟩, (hO rb).2 (Or.inl rfl), hm.f⟩
  have h1 := hm.t5 b q
  have h2 := hm.t0
  rw [e] at h1
  omega

set_option maxRecDepth 100000 in
set_option maxHeartbeats 4000000 in
theorem label_any (W0 : World) (n : Nat) (hN : NC W0 n) (w : World) (rb : Nat) (O : Nat → Prop) (s : Rz.RS) (v6 : Value) (h0 : On W0 rb O s v6 w) (x : Nd) (sl : Sli (Tr n)) (ht : okF (n + 1) W0 ((x, sl) : Nd × Sli (Tr n))) (hb : cr s + 8 + 8 * (sl.xs.map (szT n)).sum ≤ lim) (hd : dp s + 4 + 4 * n ≤ lim) :
    Calls Try.prog 55 #[.pointer (some ⟨rb, 0, none⟩), .agg #[.int .i64 x.kind, .int .i64 x.pl, .string x.name, .int .u64 x.num, .string x.op, .slice sl.at' sl.xs.length sl.cap]] w (Out w W0.heap.size rb O v6 (.tuple #[]) (labelP (resP bi n).1 x (leadT (n + 1) ((x, sl) : Nd × Sli (Tr n))) sl.xs s)) := by
  have hmf : ∀ (fn : Fn) (first cap : Array Value) (w : World), (Instr.makeFunc fn first cap).run Try.prog w = .ok (.func fn first cap) w := fun _ _ _ _ => rfl
  obtain ⟨kv, hkv⟩ : ∃ kv, kv = Value.slice sl.at' sl.xs.length sl.cap := ⟨_, rfl⟩
  obtain ⟨wb, hwb⟩ : ∃ wb, wb = w.alloc (.cells #[.int .i64 x.kind, .int .i64 x.pl, .string x.name, .int .u64 x.num, .string x.op, .slice sl.at' sl.xs.length sl.cap] 25) := ⟨_, rfl⟩
  have hbl : Below w.heap.size w wb := by rw [hwb]; exact below_new (Below.refl _ _) (Nat.le_refl _) _
  have hX : NdB w.heap.size x (.slice sl.at' sl.xs.length sl.cap) wb := by rw [hwb]; exact at_new _ _
  have h := h0.below hbl
  have hnO : ¬ O w.heap.size := fun q => by have := (h0.mem.lt _ q).2; omega
  have HB : Hid (Below w.heap.size w wb) := hbl
  have HX : Hid (∀ W, Chg O wb W → NdB w.heap.size x (.slice sl.at' sl.xs.length sl.cap) W) := fun W hc => hX.chg hc hnO
  obtain ⟨s6, hv6, hxs6, hok6⟩ := lab_sl h.mem
  have kc := contains_any (ask_label w.heap.size x (.slice sl.at' sl.xs.length sl.cap)) wb hX s6 hok6
  rw [hxs6] at kc
  unfold fnV at kc
  obtain ⟨_, _, c6⟩ := h.mem.six
  have HLD : Hid (∀ W, Below wb.heap.size wb W → Calls Try.prog 64 #[.agg #[.int .i64 x.kind, .int .i64 x.pl, .string x.name, .int .u64 x.num, .string x.op, .slice sl.at' sl.xs.length sl.cap]] W fun e w' => e = .returned (.bool (leadT (n + 1) ((x, sl) : Nd × Sli (Tr n)))) ∧ Below W.heap.size W w') := fun W hW => lead_any W0 (n + 1) ((x, sl) : Nd × Sli (Tr n)) ht W (h.bel.trans (hW.mono h.bel.size))
  have HM : Hid (∀ W, Below wb.heap.size wb W → Mem W W0.heap.size rb O s v6) := fun W hW => h.mem.below hW
  have HLB : Hid (s.labels.length ≤ 100000000) := by show _ ≤ _; unfold dp lim at hd; omega
  have HEA : Hid (∀ (W : World) (O1 : Nat → Prop) (v1 : Value) (e : ByteArray × Bool), Mem W W0.heap.size rb O1 { s with labels := s.labels ++ [e] } v1 → Below W0.heap.size W0 W → Calls Try.prog 29 #[.pointer (some ⟨rb, 0, none⟩), .slice sl.at' sl.xs.length sl.cap] W (Out W W0.heap.size rb O1 v1 (.tuple #[]) (eachP (resP bi n).1 sl.xs { s with labels := s.labels ++ [e] }))) := fun W O1 v1 e hm hbW => each_any W0 n hN W rb O1 _ v1 ⟨hm, hbW⟩ sl ht.1.2.1 (fun y hy => ⟨ht.1.2.2 y hy, ht.2.2.2.2 y hy⟩) (by show cr s + 2 + _ ≤ _; omega) (by unfold dp at *; simp only [List.length_append, List.length_singleton]; omega)
  have HKP : Hid (∀ (e : ByteArray × Bool) s1, eachP (resP bi n).1 sl.xs { s with labels := s.labels ++ [e] } = .ok s1 → s1.labels = s.labels ++ [e]) := fun e s1 q => (keeps_each (keeps_resP bi n).1 sl.xs _ s1 q).labels
  have HW0 : Hid (Below W0.heap.size W0 wb ∧ ∀ b, O b → W0.heap.size ≤ b) := ⟨h.bel, fun b q => (h.mem.lt b q).1⟩
  obtain ⟨R, hR⟩ : ∃ R, R = labelP (resP bi n).1 x (leadT (n + 1) ((x, sl) : Nd × Sli (Tr n))) sl.xs s := ⟨_, rfl⟩
  rw [← hR]
  unfold labelP at hR
  generalize leadT (n + 1) ((x, sl) : Nd × Sli (Tr n)) = ld at *
  have HR : Hid (R = if s.labels.any (fun e => decide (e.1 = x.name)) = true then .error (x.pl, 75) else (eachP (resP bi n).1 sl.xs { s with labels := s.labels ++ [(x.name, ld)] }).bind fun s1 => .ok { s1 with labels := s.labels }) := hR
  generalize s.labels.any (fun e => decide (e.1 = x.name)) = an at *
  rw [hv6] at c6
  have HV6 : Hid (v6 = .slice s6.at' s.labels.length s6.cap) := hv6
  clear hb hd hN h0 ht hX hok6 hxs6 hR hkv hbl hnO h hv6
  generalize sl.at' = ka at *
  generalize sl.cap = kc' at *
  generalize s6.at' = la at *
  generalize s6.cap = lc at *
  obtain ⟨ll, hll⟩ : ∃ ll, ll = s.labels.length := ⟨_, rfl⟩
  rw [← hll] at c6 kc
  have HLL : Hid (ll = s.labels.length) := hll
  clear hll
  go_enter Try.func55, Try.ntmps55
  go_upto_region 1 with fail
  rw [← hwb]
  clear hwb
  go_wp2_with fail
  refine kc.mono ?_
  rintro e w1 ⟨rfl, hb1⟩
  have HB1 : Hid (Below wb.heap.size wb w1) := hb1
  obtain ⟨a0, a1, a2, a3, a4, a5⟩ := (HX.out w1 (Chg.of_below hb1)).cs
  clear kc hb1 c6
  cases an with
  | true =>
    go_wp2_with fail
    refine ⟨rfl, ?_⟩
    rw [HR.out]
    first | rw [if_pos trivial] | rw [if_pos rfl]
    exact ⟨rfl, Chg.of_below (HB.out.trans (HB1.out.mono HB.out.size))⟩
  | false =>
    have HR2 : Hid (R = (eachP (resP bi n).1 sl.xs { s with labels := s.labels ++ [(x.name, ld)] }).bind fun s1 => .ok { s1 with labels := s.labels }) := by
      show R = _
      have := HR.out
      first | rw [if_neg (fun q => q)] at this | rw [if_neg (by decide)] at this
      exact this
    clear HR
    go_upto_region 4 with fail
    have hcd : Below wb.heap.size wb w1.drew := HB1.out.drew
    have HSB : Hid (∀ W, Chg O wb W → W.cell? ⟨w.heap.size, 0, none⟩ = some (.int .i64 x.kind) ∧ W.cell? ⟨w.heap.size, 1, none⟩ = some (.int .i64 x.pl) ∧ W.cell? ⟨w.heap.size, 2, none⟩ = some (.string x.name) ∧ W.cell? ⟨w.heap.size, 3, none⟩ = some (.int .u64 x.num) ∧ W.cell? ⟨w.heap.size, 4, none⟩ = some (.string x.op) ∧ W.cell? ⟨w.heap.size, 5, none⟩ = some (.slice ka sl.xs.length kc')) := fun W hc => (HX.out W hc).cs
    have HCD : Hid (Below wb.heap.size wb w1.drew) := hcd
    have kld := HLD.out w1.drew hcd
    clear hcd HLD
    go_region_held_law (fun W => W.cell? ⟨w.heap.size, 0, none⟩ = some (.int .i64 x.kind) ∧ W.cell? ⟨w.heap.size, 1, none⟩ = some (.int .i64 x.pl) ∧ W.cell? ⟨w.heap.size, 2, none⟩ = some (.string x.name) ∧ W.cell? ⟨w.heap.size, 3, none⟩ = some (.int .u64 x.num) ∧ W.cell? ⟨w.heap.size, 4, none⟩ = some (.string x.op) ∧ W.cell? ⟨w.heap.size, 5, none⟩ = some (.slice ka sl.xs.length kc'))
      (first | exact HSB.out _ (Chg.of_below HCD.out) | exact HSB.out _ (Chg.of_below HB2.out) | exact HSB.out _ (Chg.of_below (below_new HB2.out HB2.out.size _)) | exact HSB.out _ HC5.out | exact HSB.out _ HC6.out)
      (first
        | (refine step_row2 rtLb (by rfl) _ _ (by rfl) W0.heap.size (.slice la ll lc) s.labels (by rfl) (by exact HO2.out) w2.heap.size (x.name, ld) #[.string x.name, .bool ld] 116 (by rfl) (by exact at_new _ _) (by rfl) (by exact HSZ.out.1) (by exact HSZ.out.2) (by exact HBB.out) ?_
           intro g5 cap5 w5 ho5 hg5 hl5
           have HO5 : Hid (OwnR lbC 2 116 W0.heap.size w5 (.slice (some ⟨g5, 0, none⟩) (s.labels.length + 1) cap5) (s.labels ++ [(x.name, ld)])) := ho5
           have HC5 : Hid (Chg O wb w5) := HCC.out w5 hg5
           obtain ⟨z6, zf⟩ := HZ.out w5 hg5
           have HL5 : Hid (Value.slice la ll lc = .slice (some ⟨g5, 0, none⟩) s.labels.length cap5 ∨ (g5 = (w2.alloc (.cells #[.string x.name, .bool ld] 116)).heap.size ∧ Below (w2.alloc (.cells #[.string x.name, .bool ld] 116)).heap.size (w2.alloc (.cells #[.string x.name, .bool ld] 116)) w5)) := hl5
           have HG5 : Hid ((w2.alloc (.cells #[.string x.name, .bool ld] 116)).grownBy w5 (Value.slice la ll lc).ownBlock) := hg5
           have HC6 : Hid (Chg O wb (w5.setCell ⟨rb, 6, none⟩ (.slice (some ⟨g5, 0, none⟩) (s.labels.length + 1) cap5))) := HC5.out.trans (Chg.set (S := O) w5 ⟨rb, 6, none⟩ _ HORB.out) (fun _ _ q => q)
           clear ho5 hg5 hl5)
        | (go_at_call 64
           refine kld.mono ?_
           rintro ee w2 ⟨rfl, hb2⟩
           have HB2 : Hid (Below wb.heap.size wb w2) := HCD.out.trans (hb2.mono HCD.out.size)
           have HAL : Hid (Below wb.heap.size wb (w2.alloc (.cells #[.string x.name, .bool ld] 116))) := below_new HB2.out HB2.out.size _
           obtain ⟨r6, r6o, rO, rf⟩ := (HM.out _ HAL.out).row6
           have HSZ : Hid (s.labels.length + 1 ≤ maxLen ∧ ((s.labels.length + 1) + (s.labels.length + 1) / 4 + 192) * 24 ≤ 281474976710656) := ⟨by have := HLB.out; unfold maxLen; omega, by have := HLB.out; omega⟩
           have HO2 : Hid (OwnR lbC 2 116 W0.heap.size (w2.alloc (.cells #[.string x.name, .bool ld] 116)) (.slice la ll lc) s.labels) := by rw [HLL.out, ← HV6.out]; exact r6
           have HBB : Hid (W0.heap.size ≤ (w2.alloc (.cells #[.string x.name, .bool ld] 116)).heap.size) := Nat.le_trans HW0.out.1.size HAL.out.size
           have HORB : Hid (O rb) := rO
           have HVO : Hid (∀ b, (Value.slice la ll lc).ownBlock = some b → O b ∧ b ≠ rb) := by rw [HLL.out, ← HV6.out]; exact r6o
           have HCC : Hid (∀ w5, (w2.alloc (.cells #[.string x.name, .bool ld] 116)).grownBy w5 (Value.slice la ll lc).ownBlock → Chg O wb w5) := fun w5 hg => (Chg.of_below HAL.out).trans (Chg.of_grown (S := O) hg (fun k q => (HVO.out k q).1)) (fun _ _ q => q)
           have HZ : Hid (∀ w5, (w2.alloc (.cells #[.string x.name, .bool ld] 116)).grownBy w5 (Value.slice la ll lc).ownBlock → w5.cell? ⟨rb, 6, none⟩ = some v6 ∧ w5.frozen? ⟨rb, 6, none⟩ = false) := fun w5 hg => by
             have hc := Chg.of_grown (S := fun b => (Value.slice la ll lc).ownBlock = some b) hg (fun k q => q)
             have hne : ¬ (Value.slice la ll lc).ownBlock = some rb := fun q => (HVO.out rb q).2 rfl
             obtain ⟨_, _, q6⟩ := (HM.out _ HAL.out).six
             exact ⟨hc.cell q6 hne, by rw [World.frozen?_of_block (w := w2.alloc (.cells #[.string x.name, .bool ld] 116)) (a := ⟨rb, 6, none⟩) (hc.block rb (HM.out _ HAL.out).rlt hne)]; exact rf 6⟩
           clear hb2 r6 r6o rO rf))
    obtain ⟨w6, hw6⟩ : ∃ w6, w6 = w5.setCell ⟨rb, 6, none⟩ (.slice (some ⟨g5, 0, none⟩) (s.labels.length + 1) cap5) := ⟨_, rfl⟩
    have hlab := (HM.out _ HAL.out).label (w5 := w5) (v6' := .slice (some ⟨g5, 0, none⟩) (s.labels.length + 1) cap5) (e := (x.name, ld)) (by
        have q := HG5.out
        rw [HLL.out, ← HV6.out] at q
        exact Chg.of_grown q (fun k q => q)) HO5.out (by
        rcases HL5.out with q | ⟨q1, q2⟩
        · exact Or.inl ⟨g5, cap5, by rw [HV6.out, ← q, HLL.out], rfl⟩
        · exact Or.inr ⟨fun b q => by
            have : g5 = b := by simpa [Value.ownBlock] using q
            omega, q2⟩)
    obtain ⟨O1, m1, c1, o1, bk⟩ := hlab
    rw [← hw6] at m1 c1 bk
    have HC6' : Hid (Chg O wb w6) := by rw [hw6]; exact HC6.out
    have ke := HEA.out w6 O1 _ (x.name, ld) m1 (HC6'.out.below HW0.out.1 HW0.out.1.size (fun b q => HW0.out.2 b q))
    obtain ⟨_, _, _, _, _, a5'⟩ := (HX.out w6 HC6'.out).cs
    have HO1 : Hid (∀ b, O1 b → O b ∨ wb.heap.size ≤ b) := fun b q => (o1 b q).imp id (fun c => Nat.le_trans HAL.out.size c)
    have BK : Hid (∀ s2 w2', Went w6 W0.heap.size rb O1 s2 (.slice (some ⟨g5, 0, none⟩) (s.labels.length + 1) cap5) w2' → s2.labels = s.labels ++ [(x.name, ld)] → Went wb W0.heap.size rb O { s2 with labels := s.labels } v6 (w2'.setCell ⟨rb, 6, none⟩ v6)) := fun s2 w2' q1 q2 => went_then (Chg.of_below HAL.out) (fun b q => Or.inl q) (bk s2 w2' q1 q2)
    have HCX : Hid (∀ W, Chg O1 w6 W → Chg O w W) := fun W hc => ((Chg.of_below HB.out).trans HC6'.out (fun _ _ q => q)).trans hc (fun a ha q => by
      rcases HO1.out a q with k | k
      · exact k
      · have := HB.out.size; omega)
    have KP := (show Hid _ from HKP.out (x.name, ld))
    rw [← hw6]
    clear hw6 m1 c1 o1 bk HC6 HSB HM HEA HKP kld a0 a1 a2 a3 a4 a5 z6 zf HX
    generalize eachP (resP bi n).1 sl.xs { s with labels := s.labels ++ [(x.name, ld)] } = E at *
    go_wp2_with fail
    refine ke.mono ?_
    intro e w7 ho
    clear ke a5'
    cases E with
    | error er =>
      obtain ⟨rfl, g7⟩ := ho
      refine ⟨rfl, ?_⟩
      rw [HR2.out]
      exact ⟨rfl, HCX.out _ g7⟩
    | ok s1 =>
      obtain ⟨rfl, g7⟩ := ho
      have hlb := KP.out s1 rfl
      obtain ⟨q6, qf⟩ : w7.cell? ⟨rb, 6, none⟩ = some (.slice (some ⟨g5, 0, none⟩) (s.labels.length + 1) cap5) ∧ w7.frozen? ⟨rb, 6, none⟩ = false := by
        obtain ⟨_, mm, _, _⟩ := g7
        exact ⟨mm.six.2.2, (mm.row6).2.2.2 6⟩
      have hfin := (BK.out s1 w7 g7 hlb).behind HB.out
      have HG : Hid (Went w W0.heap.size rb O { s1 with labels := s.labels } v6 (w7.setCell ⟨rb, 6, none⟩ (.slice la ll lc))) := by
        have hv : v6 = .slice la ll lc := by rw [HV6.out, HLL.out]
        rw [hv] at hfin
        rw [← hv] at hfin
        rw [← hv]
        exact hfin
      clear g7 hlb hfin BK KP HCX
      go_wp2_with fail
      go_end0
      rw [HR2.out]
      exact ⟨rfl, HG.out⟩
end Go.Proofs.Ytihmdcdifakepab.Rv
