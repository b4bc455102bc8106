/- add, as long as there is no map. -/
import Derived.Test.YtahhionlbfhinaaGreatDoorB11
namespace Go.Proofs.YtahhionlbfhinaaGreatDoor.Hp
open Go.RowKit
set_option linter.unusedVariables false

def Ob.added (o : Ob) (k : ByteArray) (d : De) : Ob := { o with ps := o.ps ++ [⟨k, o.next, d⟩], next := o.next + 1 }

section
variable {w w' w1 : World} {B hb : Nat} {O S : Nat → Prop} {H H' : He} {M M' : HV} {tg : Nat → Nat}

theorem add_mid (h : HeapAt w B hb tg H M) {i g cap : Nat} {ob : Ob} {ov : OV} (hi : H.obs[i]? = some ob) (hv : M.ovs[i]? = some ov) (hvo : M.vo = ⟨some ⟨g, 0, none⟩, H.obs.length, cap⟩) (k : ByteArray) (hk : k.size ≤ maxLen) (d : De) (hd : 0 ≤ d.fl ∧ d.fl ≤ 15) (hlen : ob.ps.length + 1 ≤ 2000000000001) (hnx : ob.next < 2000000000001)
    {W W1 W2 : World} {G C : Nat} (q1 : OwnR prC 5 129 B W (.slice (some ⟨G, 0, none⟩) (ob.ps.length + 1) C) (ob.ps ++ [⟨k, ob.next, d⟩])) (q2 : Chg (fun b => ov.vl.val.ownBlock = some b) w W) (q3 : ov.vl.val.ownBlock = some G ∨ w.heap.size ≤ G)
    (e1 : W1 = W.setCell ⟨g, i * 12 + 4, none⟩ (.slice (some ⟨G, 0, none⟩) (ob.ps.length + 1) C)) (e2 : W2 = W1.setCell ⟨g, i * 12 + 6, none⟩ (.int .i64 (ob.next + 1))) :
    W1.cell? ⟨g, i * 12 + 4, none⟩ = some (.slice (some ⟨G, 0, none⟩) (ob.ps.length + 1) C) ∧ W1.cell? ⟨g, i * 12 + 5, none⟩ = some (.map ov.vm) ∧ W1.cell? ⟨g, i * 12 + 6, none⟩ = some (.int .i64 ob.next) ∧ W1.frozen? ⟨g, i * 12 + 6, none⟩ = false ∧ WentM w B hb tg { H with obs := H.obs.set i (ob.added k d) } { M with ovs := M.ovs.set i { ov with vl := ⟨some ⟨G, 0, none⟩, ob.ps.length + 1, C⟩ } } W2 := by
  have hwf := h.wf.ob ob (List.mem_of_getElem? hi)
  have hr : RowIn prC 5 _ B w _ ov.vl ob.ps := h.part hi hv 0 (by omega)
  have ht : ∀ b, ov.vl.val.ownBlock = some b → tg b = 7 + 4 * i + 0 := hr.2
  have hc : Chg (fun b => tg b = 7 + 4 * i + 0) w W := q2.mono ht
  have hks : ∀ p ∈ ob.ps ++ [⟨k, ob.next, d⟩], p.key.size ≤ maxLen := fun p hp => by
    rcases List.mem_append.1 hp with q | q
    · exact hwf.ks p q
    · rw [List.mem_singleton.1 q]; exact hk
  have hfl : ∀ p ∈ ob.ps ++ [⟨k, ob.next, d⟩], 0 ≤ p.de.fl ∧ p.de.fl ≤ 15 := fun p hp => by
    rcases List.mem_append.1 hp with q | q
    · exact hwf.fl p q
    · rw [List.mem_singleton.1 q]; exact hd
  have hll : (ob.ps ++ [(⟨k, ob.next, d⟩ : Pr)]).length = ob.ps.length + 1 := by simp
  obtain ⟨p1, p2⟩ := h.put hi hv hvo 0 (by omega) hc { ob with ps := ob.ps ++ [⟨k, ob.next, d⟩] } { ov with vl := ⟨some ⟨G, 0, none⟩, ob.ps.length + 1, C⟩ } (j := 4) (u := .slice (some ⟨G, 0, none⟩) (ob.ps.length + 1) C) (by omega) rfl (fun O o1 o2 => by
    refine ⟨q1, fun b q => ?_⟩
    have hbg : b = G := by simpa [SV.val, Value.ownBlock] using q.symm
    subst hbg
    rcases q3 with c | c
    · exact o1 b (h.lt b (by have := ht b c; omega)).2 (ht b c)
    · exact o2 b c (q1.lt b rfl).2) (fun c' W' O' c4 cn q => by
    match c', q with
    | 0, q => exact absurd rfl cn
    | 1, q => exact q
    | 2, q => exact q
    | _ + 3, q => exact q) ⟨hwf.kd, hwf.pr, hks, hfl, ⟨hwf.nx.1, hwf.nx.2.1, by simp only [hll]; exact hlen⟩, hwf.el, hwf.inn⟩
  rw [← e1] at p1 p2
  have hil : i < H.obs.length := (List.getElem?_eq_some_iff.1 hi).1
  have hil2 : i < M.ovs.length := (List.getElem?_eq_some_iff.1 hv).1
  have hi1 : ({ H with obs := H.obs.set i { ob with ps := ob.ps ++ [⟨k, ob.next, d⟩] } } : He).obs[i]? = some { ob with ps := ob.ps ++ [⟨k, ob.next, d⟩] } := List.getElem?_set_self hil
  have hv1 : ({ M with ovs := M.ovs.set i { ov with vl := ⟨some ⟨G, 0, none⟩, ob.ps.length + 1, C⟩ } } : HV).ovs[i]? = some { ov with vl := ⟨some ⟨G, 0, none⟩, ob.ps.length + 1, C⟩ } := List.getElem?_set_self hil2
  have hvo1 : ({ M with ovs := M.ovs.set i { ov with vl := ⟨some ⟨G, 0, none⟩, ob.ps.length + 1, C⟩ } } : HV).vo = ⟨some ⟨g, 0, none⟩, ({ H with obs := H.obs.set i { ob with ps := ob.ps ++ [⟨k, ob.next, d⟩] } } : He).obs.length, cap⟩ := by
    simp only [List.length_set]
    exact hvo
  obtain ⟨g', cap', ov1, hvo', hov1, t4, hne, hgl, hcell, hfz, _⟩ := p1.obj hi1
  rw [hvo1] at hvo'
  injection hvo' with x1 x2 x3
  injection x1 with x1
  injection x1 with x1
  subst x1
  rw [hv1] at hov1
  cases hov1
  have d4 := hcell 4 _ rfl
  have d5 := hcell 5 _ rfl
  have d6 := hcell 6 _ rfl
  simp only at d4 d5 d6
  have pf := p1.fld hi1 hv1 hvo1 (ob.added k d) (j := 6) (u := .int .i64 (ob.next + 1)) (by omega) rfl rfl rfl rfl ⟨hwf.kd, hwf.pr, hks, hfl, ⟨by simp only [Ob.added]; have := hwf.nx.1; omega, by simp only [Ob.added]; omega, by simp only [Ob.added, hll]; exact hlen⟩, hwf.el, hwf.inn⟩
  rw [← e2] at pf
  simp only [List.set_set] at pf
  refine ⟨d4, d5, d6, hfz _, ?_⟩
  have hsz : W1.heap.size = W.heap.size := by rw [e1]; simp
  refine ⟨_, pf.1, (p2.trans pf.2 (fun b hb q => ?_)).mono (fun b q => ?_), fun b q => ?_⟩
  · have q : rtg tg w.heap.size W.heap.size (7 + 4 * i + 0) b = 4 := q
    rw [rtg_old hb] at q
    exact Or.inl q
  · show tg b ≠ 0
    omega
  · by_cases c : b < w.heap.size
    · rw [rtg_old c] at q
      exact Or.inl q
    · exact Or.inr (by omega)

set_option maxRecDepth 100000 in
set_option maxHeartbeats 4000000 in
theorem add_small (h : HeapAt w B hb tg H M) {i g cap : Nat} {ob : Ob} {ov : OV} (hi : H.obs[i]? = some ob) (hv : M.ovs[i]? = some ov) (hvo : M.vo = ⟨some ⟨g, 0, none⟩, H.obs.length, cap⟩) (hm : ob.hm = false) (k : ByteArray) (hk : k.size ≤ maxLen) (d : De) (hd : 0 ≤ d.fl ∧ d.fl ≤ 15) (hlen : ob.ps.length + 1 ≤ 16) (hnx : ob.next < 2000000000000) :
    Calls Tryz.prog 98 #[.pointer (some ⟨g, i * 12 + 4, none⟩), .string k, deV d] w fun e w' => e = .returned (.tuple #[]) ∧ ∃ vl', WentM w B hb tg { H with obs := H.obs.set i (ob.added k d) } { M with ovs := M.ovs.set i { ov with vl := vl' } } w' := by
  obtain ⟨wb, hwb⟩ : ∃ wb, wb = w.alloc (.cells #[.int .u64 d.va, .int .u64 d.se, .int .i64 d.fl] 41) := ⟨_, rfl⟩
  have hB : Below w.heap.size w wb := by rw [hwb]; exact (Below.refl _ _).alloc (Nat.le_refl _) _
  have hbx : wb.heap[w.heap.size]? = some (.cells #[.int .u64 d.va, .int .u64 d.se, .int .i64 d.fl] 41 (0, 0)) := by rw [hwb]; exact at_new _ _
  have h2 := h.below hB
  obtain ⟨g', cap', ov', hvo', hov', t4, hne, hgl, hcell, hfz, _⟩ := h2.obj hi
  rw [hvo] at hvo'
  injection hvo' with x1 x2 x3
  injection x1 with x1
  injection x1 with x1
  subst x1
  rw [hv] at hov'
  cases hov'
  have c4 := hcell 4 _ rfl
  have c6 := hcell 6 _ rfl
  simp only at c4 c6
  have hr : RowIn prC 5 _ B wb _ ov.vl ob.ps := h2.part hi hv 0 (by omega)
  obtain ⟨q1, q2, q3, q4⟩ := hr.open rtPr.len
  have hown := hr.1
  have hB0 := h2.B0
  have ht : ∀ b, ov.vl.val.ownBlock = some b → tg b = 7 + 4 * i + 0 := hr.2
  have hng : ¬ ov.vl.val.ownBlock = some g := fun q => by have := ht g q; omega
  have hwf := h.wf.ob ob (List.mem_of_getElem? hi)
  have HMID : Hid (∀ W G C, OwnR prC 5 129 B W (.slice (some ⟨G, 0, none⟩) (ob.ps.length + 1) C) (ob.ps ++ [⟨k, ob.next, d⟩]) → Chg (fun b => ov.vl.val.ownBlock = some b) wb W → (ov.vl.val.ownBlock = some G ∨ wb.heap.size ≤ G) → ∀ W1 W2, W1 = W.setCell ⟨g, i * 12 + 4, none⟩ (.slice (some ⟨G, 0, none⟩) (ob.ps.length + 1) C) → W2 = W1.setCell ⟨g, i * 12 + 6, none⟩ (.int .i64 (ob.next + 1)) → W1.cell? ⟨g, i * 12 + 4, none⟩ = some (.slice (some ⟨G, 0, none⟩) (ob.ps.length + 1) C) ∧ W1.cell? ⟨g, i * 12 + 5, none⟩ = some (.map none) ∧ W1.cell? ⟨g, i * 12 + 6, none⟩ = some (.int .i64 ob.next) ∧ W1.frozen? ⟨g, i * 12 + 6, none⟩ = false ∧ ∃ vl', WentM w B hb tg { H with obs := H.obs.set i (ob.added k d) } { M with ovs := M.ovs.set i { ov with vl := vl' } } W2) := fun W G C r1 r2 r3 W1 W2 r4 r5 => by
    obtain ⟨s1, s2, s3, s4, s5⟩ := add_mid h2 hi hv hvo k hk d hd (by omega) (by omega) r1 r2 r3 r4 r5
    rw [vm_none (h.part hi hv 1 (by omega)) hm] at s2
    exact ⟨s1, s2, s3, s4, _, WentM.behind hB s5⟩
  have HFZ : Hid (∀ W, Chg (fun b => ov.vl.val.ownBlock = some b) wb W → W.cell? ⟨g, i * 12 + 4, none⟩ = some ov.vl.val ∧ W.frozen? ⟨g, i * 12 + 4, none⟩ = false) := fun W q => ⟨q.cell c4 hng, by rw [World.frozen?_of_block (w := wb) (q.block g hgl hng)]; exact hfz _⟩
  have b0 : wb.cell? ⟨w.heap.size, 0, none⟩ = some (.int .u64 d.va) := cell_of_row wb w.heap.size 0 _ _ (0, 0) hbx
  have b1 : wb.cell? ⟨w.heap.size, 1, none⟩ = some (.int .u64 d.se) := cell_of_row wb w.heap.size 1 _ _ (0, 0) hbx
  have b2 : wb.cell? ⟨w.heap.size, 2, none⟩ = some (.int .i64 d.fl) := cell_of_row wb w.heap.size 2 _ _ (0, 0) hbx
  have HBX : Hid (((ob.ps.length + 1) + (ob.ps.length + 1) / 4 + 192) * 48 ≤ 281474976710656 ∧ ob.ps.length + 1 ≤ maxLen) := ⟨by omega, by unfold maxLen; omega⟩
  have HBB : Hid (B ≤ wb.heap.size) := by show _ ≤ _; omega
  have HAL : Hid (Below wb.heap.size wb (wb.drew.alloc (.cells #[.string k, .int .i64 ob.next, .int .u64 d.va, .int .u64 d.se, .int .i64 d.fl] 129))) := ((Below.refl wb.heap.size wb).drew).alloc (Nat.le_refl _) _
  have HOW : Hid (OwnR prC 5 129 B (wb.drew.alloc (.cells #[.string k, .int .i64 ob.next, .int .u64 d.va, .int .u64 d.se, .int .i64 d.fl] 129)) ov.vl.val ob.ps) := hown.below HAL.out
  have g12 : (wb.alloc (.cells #[.string k, .int .i64 ob.next, .int .u64 d.va, .int .u64 d.se, .int .i64 d.fl] 129)).cell? ⟨g, i * 12 + 4, none⟩ = some ov.vl.val := cells_below ((Below.refl wb.heap.size wb).alloc (Nat.le_refl _) _) _ _ c4
  have f4 := hfz (i * 12 + 4)
  have hgn : ¬ g = wb.heap.size := by omega
  have hxn : ¬ w.heap.size = wb.heap.size := by have := (Array.getElem?_eq_some_iff.1 hbx).1; omega
  have q69 : ∀ (w : World) (r : Option Nat), (binOp .neq 92 (.map r) (.map none)).run Tryz.prog w = .ok (.bool (!r.isNone)) w := fun w r => run_neq_map_nil w _ _ _ r Tryz.underlying92
  have hnw : IntKind.i64.wrap (ob.next + 1) = ob.next + 1 := by rw [IntKind.wrap_i64]; have := hwf.nx.1; omega
  have hl16 : decide ((16 : Int) < ((ob.ps.length + 1 : Nat) : Int)) = false := decide_eq_false (by omega)
  have hl16' : ¬ ((16 : Int) < ((ob.ps.length + 1 : Nat) : Int)) := by omega
  have hl16'' : ¬ ((16 : Int) < ((ob.ps.length : Int) + 1)) := by omega
  unfold SV.val at c4 g12 HMID HFZ HOW
  rw [q1] at c4 g12 HMID HFZ HOW
  generalize hHH : { H with obs := H.obs.set i (ob.added k d) } = HN at *
  generalize hps : ob.ps = ps at *
  generalize ob.next = nx at *
  generalize ov.vl.ad = ad at *
  generalize ov.vl.cap = cp at *
  unfold deV
  obtain ⟨va, se, fl⟩ := d
  simp only at *
  clear h h2 hi hvo hv hB hbx hcell hfz hne hgl t4 hr q2 q3 q4 q1 hown hB0 ht hng hwf hm hk hlen hnx hd hHH hps x2 x3
  go_enter Tryz.func98, Tryz.ntmps98
  go_upto_region 1 with fail
  rw [← hwb]
  clear hwb
  generalize w.heap.size = xb at b0 b1 b2 hxn ⊢
  go_region_law ((refine step_row rtPr (by rfl) _ _ (by rfl) B (.slice ad ps.length cp) ps (by rfl) (by exact HOW.out) wb.heap.size ⟨k, nx, va, se, fl⟩ #[.string k, .int .i64 nx, .int .u64 va, .int .u64 se, .int .i64 fl] 129 (by rfl) (by exact at_new _ _) (by rfl) (by exact HBX.out.2) (by exact HBX.out.1) (by exact Nat.le_trans HBB.out HAL.out.size) ?_; intro g5 cap5 w9 ho5 hg5 hl5; have HO : Hid (OwnR prC 5 129 B w9 (.slice (some ⟨g5, 0, none⟩) (ps.length + 1) cap5) (ps ++ [⟨k, nx, va, se, fl⟩]) ∧ Chg (fun b => (Value.slice ad ps.length cp).ownBlock = some b) wb w9 ∧ ((Value.slice ad ps.length cp).ownBlock = some g5 ∨ wb.heap.size ≤ g5)) := ⟨ho5, (Chg.of_below HAL.out).trans (Chg.of_grown (S := fun b => (Value.slice ad ps.length cp).ownBlock = some b) hg5 (fun k q => q)) (fun _ _ q => q), hl5.imp id (fun q => by rw [q]; exact HAL.out.size)⟩; obtain ⟨z1, z2⟩ := HFZ.out w9 HO.out.2.1; clear ho5 hg5 hl5))
  all_goals
    obtain ⟨s1, s2, s3, s4, s5⟩ := HMID.out w9 g5 cap5 HO.out.1 HO.out.2.1 HO.out.2.2 _ _ rfl rfl
    have HS5 := (show Hid _ from s5)
    clear s5 HO HFZ HOW HBB HAL HMID z1 z2 HBX g12 c4 c6 f4
    generalize (w9.setCell ⟨g, i * 12 + 4, none⟩ (.slice (some ⟨g5, 0, none⟩) (ps.length + 1) cap5)) = w10 at *
    go_wp2_with fail
    go_end0
    obtain ⟨vl', hw'⟩ := HS5.out
    exact ⟨rfl, vl', by first | exact hw' | exact hw'.drew⟩

end

end Go.Proofs.YtahhionlbfhinaaGreatDoor.Hp
