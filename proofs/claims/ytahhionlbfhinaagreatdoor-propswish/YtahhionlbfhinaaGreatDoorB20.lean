/- The document's has, flag. -/
import Derived.Test.YtahhionlbfhinaaGreatDoorB19
import Derived.Test.YtahhionlbfhinaaGreatDoorB1
import Derived.OrdersHeld
import Derived.Test.YtahhionlbfhinaaGreatDoorB13
import Derived.Test.YtahhionlbfhinaaGreatDoorB12
namespace Go.Proofs.YtahhionlbfhinaaGreatDoor.Hp
open Go.RowKit
set_option linter.unusedVariables false

def hasU (u : Ws) (c : Int) : Bool := bits .and .i64 u.has c != 0
def flagU (o : Int) (u : Ws) (c p : Int) : Int := if hasU u c = true then bits .and .i64 u.fl p else bits .and .i64 o p

set_option maxRecDepth 100000 in
theorem has_any (w : World) (u : Ws) (c : Int) : Calls Tryz.prog 63 #[wsV u, .int .i64 c] w fun e w' => e = .returned (.bool (hasU u c)) ∧ Below w.heap.size w w' := by
  have HB : Hid (Below w.heap.size w (w.alloc (.cells #[.int .i64 u.has, .int .u64 u.va, .int .u64 u.ge, .int .u64 u.se, .int .i64 u.fl] 35))) := (Below.refl _ _).alloc (Nat.le_refl _) _
  unfold hasU wsV
  go_enter Tryz.func63, Tryz.ntmps63
  go_wp2_with fail
  go_ret
  exact ⟨rfl, HB.out⟩

set_option maxRecDepth 100000 in
theorem flag_any (w : World) (o : Int) (u : Ws) (c p : Int) : Calls Tryz.prog 106 #[.int .i64 o, wsV u, .int .i64 c, .int .i64 p] w fun e w' => e = .returned (.int .i64 (flagU o u c p)) ∧ Below w.heap.size w w' := by
  obtain ⟨wb, hwb⟩ : ∃ wb, wb = w.alloc (.cells #[.int .i64 u.has, .int .u64 u.va, .int .u64 u.ge, .int .u64 u.se, .int .i64 u.fl] 35) := ⟨_, rfl⟩
  have hB : Below w.heap.size w wb := by rw [hwb]; exact (Below.refl _ _).alloc (Nat.le_refl _) _
  have hbx : Bx5 wb w.heap.size u := by rw [hwb]; exact at_new _ _
  have kh := has_any wb u c
  obtain ⟨y0, y1, y2, y3, y4⟩ := hbx.ce
  have HN : Hid (∀ W, Below wb.heap.size wb W → Bx5 W w.heap.size u ∧ Below w.heap.size w W) := fun W q => ⟨hbx.below q, hB.trans (q.mono hB.size)⟩
  have HE : Hid (flagU o u c p = if hasU u c = true then bits .and .i64 u.fl p else bits .and .i64 o p) := rfl
  generalize flagU o u c p = R at *
  unfold wsV at *
  clear hB hbx
  cases hc : hasU u c with
  | true =>
    rw [hc] at kh
    have HR : Hid (R = bits .and .i64 u.fl p) := by show R = _; rw [HE.out, if_pos hc]
    clear HE hc
    go_enter Tryz.func106, Tryz.ntmps106
    go_upto_region 1 with fail
    rw [← hwb]
    clear hwb
    go_wp2_with fail
    refine kh.mono ?_
    rintro e w2 ⟨rfl, hB2⟩
    obtain ⟨q1, q2⟩ := HN.out w2 hB2
    obtain ⟨y0, y1, y2, y3, y4⟩ := q1.ce
    have HB2 : Hid (Below w.heap.size w w2) := q2
    clear kh hB2 HN q1 q2
    go_wp2_with fail
    go_ret
    rw [HR.out]
    exact ⟨rfl, HB2.out⟩
  | false =>
    rw [hc] at kh
    have HR : Hid (R = bits .and .i64 o p) := by show R = _; rw [HE.out, if_neg (by rw [hc]; simp)]
    clear HE hc
    go_enter Tryz.func106, Tryz.ntmps106
    go_upto_region 1 with fail
    rw [← hwb]
    clear hwb
    go_wp2_with fail
    refine kh.mono ?_
    rintro e w2 ⟨rfl, hB2⟩
    have HB2 : Hid (Below w.heap.size w w2) := (HN.out w2 hB2).2
    clear kh hB2 HN
    go_wp2_with fail
    go_ret
    rw [HR.out]
    exact ⟨rfl, HB2.out⟩

end Go.Proofs.YtahhionlbfhinaaGreatDoor.Hp

/- A region that draws, whose last operation waits for all others: what is held needs to hold ahead of that one alone. -/
namespace Go.Proofs.YtahhionlbfhinaaGreatDoor.Hp
open Go.RowKit
set_option linter.unusedVariables false

section
variable {P : Program} {ops : Array Oper} {Q : Exit → Act → World → Prop} {md : Region.Mode} {S : World → Prop} {s : Nat}

/-- whatever order is picked, and S holds behind each operation but the one numbered s -/
def anyE (P : Program) (md : Region.Mode) (ops : Array Oper) (Q : Exit → Act → World → Prop) (S : World → Prop) (s : Nat) : Nat → Array Bool → Act → World → Prop
  | 0, l, a, w => Region.ready md ops l = [] ∧ Q .normal a w
  | n + 1, l, a, w => (Region.ready md ops l = [] → Q .normal a w) ∧ ∀ i ∈ Region.ready md ops l, wpOp P ops Q i (fun a' w' => (i ≠ s → S w') ∧ anyE P md ops Q S s n (l.setIfInBounds i true) a' w') a w

theorem any_of_E : ∀ (n : Nat) (l : Array Bool) (a : Act) (w : World), anyE P md ops Q S s n l a w → wpAny P md ops Q n l a w
  | 0, _, _, _, h => h
  | n + 1, _, _, _, h => ⟨h.1, fun i hi => wpOp_mono (fun a' w' r => any_of_E n _ a' w' r.2) (h.2 i hi)⟩

/-- number s waits for number i -/
def waitsB (md : Region.Mode) (ops : Array Oper) (s i : Nat) : Bool := ((ops[s]?).map (fun o => o.after.any (fun e => Region.binds md e && e.on == i))).getD false

theorem not_s {l : Array Bool} {i j : Nat} (hw : waitsB md ops s i = true) (hi : i ∈ Region.ready md ops l) (hj : j ∈ Region.ready md ops l) : j ≠ s := by
  intro e
  subst e
  obtain ⟨_, oj, hoj, hall⟩ := mem_ready.1 hj
  unfold waitsB at hw
  rw [hoj] at hw
  obtain ⟨x, hx1, hx2⟩ := Array.any_eq_true'.1 (show oj.after.any (fun e => Region.binds md e && e.on == i) = true from hw)
  rw [Bool.and_eq_true] at hx2
  have hon : x.on = i := by simpa using hx2.2
  have h1 := hall x hx1 hx2.1
  rw [hon] at h1
  have h0 := (mem_ready.1 hi).1
  rcases Nat.lt_or_ge i l.size with c | c
  · simp [c] at h0 h1
    rw [h0] at h1
    cases h1
  · simp [Array.getElem?_eq_none c] at h1

theorem anyE_first {i : Nat} {oi : Oper} {v : Value} (hi : ops[i]? = some oi) (hsel : ∀ (j : Nat) (o : Oper) cs b, ops[j]? = some o → o.op ≠ .select cs b)
    (hQ : ∀ c a w, Q (.panic c) (a.put oi.dst v) w → Q (.panic c) a w) (hw : waitsB md ops s i = true) :
    ∀ (n : Nat) (l : Array Bool) (a : Act) (w : World),
      (∀ j oj, ops[j]? = some oj → j ≠ i → l.getD j true = false → (∀ e ∈ oj.after, Region.binds md e = true → e.on ≠ i) → oi.apart ops oj = true) →
      i ∈ Region.ready md ops l → YieldsIf P ops S oi v a → S w → anyE P md ops Q S s n (l.setIfInBounds i true) (a.put oi.dst v) w → anyE P md ops Q S s (n + 1) l a w
  | 0, l, a, w, _, hr, hy, hS, H => by
    refine ⟨fun e => (by rw [e] at hr; cases hr), fun j hj => ?_⟩
    by_cases c : j = i
    · rw [c]
      exact hy.wpOp hi hS ⟨fun _ => hS, H⟩
    · have := ready_mono hj c
      rw [H.1] at this
      cases this
  | n + 1, l, a, w, hf, hr, hy, hS, H => by
    refine ⟨fun e => (by rw [e] at hr; cases hr), fun j hj => ?_⟩
    by_cases c : j = i
    · rw [c]
      exact hy.wpOp hi hS ⟨fun _ => hS, H⟩
    · have hjs := not_s hw hr hj
      have h1 := H.2 j (ready_mono hj c)
      obtain ⟨hju, oj, hoj, hall⟩ := mem_ready.1 hj
      have hno : ∀ e ∈ oj.after, Region.binds md e = true → e.on ≠ i := fun e he hb hq => by
        have k1 := hall e he hb
        have k0 := (mem_ready.1 hr).1
        rw [hq] at k1
        rcases Nat.lt_or_ge i l.size with d | d
        · simp [d] at k0 k1
          rw [k0] at k1
          cases k1
        · simp [Array.getElem?_eq_none d] at k1
      have h2 := wpOp_putIf hoj (hf j oj hoj c hju hno) (fun cs b => hsel i oi cs b hi) (fun cs b => hsel j oj cs b hoj) hQ hy h1
      refine wpOp_mono (fun a' w' r => ⟨r.2.1, ?_⟩) h2
      refine anyE_first hi hsel hQ hw n (l.setIfInBounds j true) a' w' (fun k ok hk hki hun hnk => hf k ok hk hki ?_ hnk) (ready_mono hr (Ne.symm c)) r.1 (r.2.1 hjs) ?_
      · by_cases d : j = k
        · rw [← d]; exact hju
        · rw [getD_set_ne true d] at hun; exact hun
      · rw [Array.setIfInBounds_comm _ _ c]
        exact r.2.2

theorem anyE_take {i : Nat} {oi : Oper} {v : Value} {n : Nat} {l : Array Bool} {a : Act} {w : World} (hi : ops[i]? = some oi)
    (hs : Region.noSelect ops = true) (hf : Region.free md ops l i = true) (hr : (Region.ready md ops l).contains i = true) (hw : waitsB md ops s i = true)
    (hQ : ∀ c a w, Q (.panic c) (a.put oi.dst v) w → Q (.panic c) a w) (hy : YieldsIf P ops S oi v a) (hS : S w)
    (h : anyE P md ops Q S s n (l.setIfInBounds i true) (a.put oi.dst v) w) : anyE P md ops Q S s (n + 1) l a w :=
  anyE_first hi (Region.noSelect_spec hs) hQ hw n l a w (Region.free_spec hi hf) (by simpa using hr) hy hS h

/-- just one may come up -/
theorem anyE_only {i : Nat} {n : Nat} {l : Array Bool} {a : Act} {w : World} (hr : Region.ready md ops l = [i]) (h : wpOp P ops Q i (fun a' w' => (i ≠ s → S w') ∧ anyE P md ops Q S s n (l.setIfInBounds i true) a' w') a w) : anyE P md ops Q S s (n + 1) l a w :=
  ⟨fun e => (by rw [hr] at e; cases e), fun j hj => by rw [hr] at hj; rw [List.mem_singleton.1 hj]; exact h⟩

theorem anyE_done {l : Array Bool} {a : Act} {w : World} (hr : Region.ready md ops l = []) (h : Q .normal a w) : ∀ n, anyE P md ops Q S s n l a w
  | 0 => ⟨hr, h⟩
  | _ + 1 => ⟨fun _ => h, by rw [hr]; simp⟩

theorem region_E {id : Nat} {a : Act} {w : World} (hm : P.follows .mixedOrders = true) (h : anyE P .any ops Q S s ops.size (Array.replicate ops.size false) a w.drew) : (Code.region id ops true).wp P Q a w :=
  wp_region_any hm (any_of_E _ _ _ _ h)

end

end Go.Proofs.YtahhionlbfhinaaGreatDoor.Hp

/- add: the list, the map, what comes next. -/
namespace Go.Proofs.YtahhionlbfhinaaGreatDoor.Hp
open Go.RowKit
set_option linter.unusedVariables false

section
variable {w w' w1 : World} {B hb : Nat} {O S : Nat → Prop} {H H' : He} {M M' : HV} {tg : Nat → Nat}

/-- the list with a property more -/
theorem add_list (h : HeapAt w B hb tg H M) {i g cap : Nat} {ob : Ob} {ov : OV} (hi : H.obs[i]? = some ob) (hv : M.ovs[i]? = some ov) (hvo : M.vo = ⟨some ⟨g, 0, none⟩, H.obs.length, cap⟩) (k : ByteArray) (hk : k.size ≤ maxLen) (d : De) (hd : 0 ≤ d.fl ∧ d.fl ≤ 15) (hlen : ob.ps.length + 1 ≤ 2000000000001)
    {W : World} {G C : Nat} (q1 : OwnR prC 5 129 B W (.slice (some ⟨G, 0, none⟩) (ob.ps.length + 1) C) (ob.ps ++ [⟨k, ob.next, d⟩])) (q2 : Chg (fun b => ov.vl.val.ownBlock = some b) w W) (q3 : ov.vl.val.ownBlock = some G ∨ w.heap.size ≤ G) :
    WentM w B hb tg { H with obs := H.obs.set i { ob with ps := ob.ps ++ [⟨k, ob.next, d⟩] } } { M with ovs := M.ovs.set i { ov with vl := ⟨some ⟨G, 0, none⟩, ob.ps.length + 1, C⟩ } } (W.setCell ⟨g, i * 12 + 4, none⟩ (.slice (some ⟨G, 0, none⟩) (ob.ps.length + 1) C)) := by
  have hwf := h.wf.ob ob (List.mem_of_getElem? hi)
  have hr : RowIn prC 5 _ B w _ ov.vl ob.ps := h.part hi hv 0 (by omega)
  have ht : ∀ b, ov.vl.val.ownBlock = some b → tg b = 7 + 4 * i + 0 := hr.2
  have hc : Chg (fun b => tg b = 7 + 4 * i + 0) w W := q2.mono ht
  have hks : ∀ p ∈ ob.ps ++ [⟨k, ob.next, d⟩], p.key.size ≤ maxLen := fun p hp => by
    rcases List.mem_append.1 hp with q | q
    · exact hwf.ks p q
    · rw [List.mem_singleton.1 q]; exact hk
  have hfl : ∀ p ∈ ob.ps ++ [⟨k, ob.next, d⟩], 0 ≤ p.de.fl ∧ p.de.fl ≤ 15 := fun p hp => by
    rcases List.mem_append.1 hp with q | q
    · exact hwf.fl p q
    · rw [List.mem_singleton.1 q]; exact hd
  have hll : (ob.ps ++ [(⟨k, ob.next, d⟩ : Pr)]).length = ob.ps.length + 1 := by simp
  obtain ⟨p1, p2⟩ := h.put hi hv hvo 0 (by omega) hc { ob with ps := ob.ps ++ [⟨k, ob.next, d⟩] } { ov with vl := ⟨some ⟨G, 0, none⟩, ob.ps.length + 1, C⟩ } (j := 4) (u := .slice (some ⟨G, 0, none⟩) (ob.ps.length + 1) C) (by omega) rfl (fun O o1 o2 => by
    refine ⟨q1, fun b q => ?_⟩
    have hbg : b = G := by simpa [SV.val, Value.ownBlock] using q.symm
    subst hbg
    rcases q3 with c | c
    · exact o1 b (h.lt b (by have := ht b c; omega)).2 (ht b c)
    · exact o2 b c (q1.lt b rfl).2) (fun c' W' O' c4 cn q => by
    match c', q with
    | 0, q => exact absurd rfl cn
    | 1, q => exact q
    | 2, q => exact q
    | _ + 3, q => exact q) ⟨hwf.kd, hwf.pr, hks, hfl, ⟨hwf.nx.1, hwf.nx.2.1, by simp only [hll]; exact hlen⟩, hwf.el, hwf.inn⟩
  refine ⟨_, p1, p2.mono (fun b q => by show tg b ≠ 0; omega), fun b q => ?_⟩
  by_cases c : b < w.heap.size
  · rw [rtg_old c] at q
    exact Or.inl q
  · exact Or.inr (by omega)

/-- the cells of a table -/
theorem HeapAt.tab (h : HeapAt w B hb tg H M) {i g cap : Nat} {ob : Ob} {ov : OV} (hi : H.obs[i]? = some ob) (hv : M.ovs[i]? = some ov) (hvo : M.vo = ⟨some ⟨g, 0, none⟩, H.obs.length, cap⟩) :
    w.cell? ⟨g, i * 12 + 4, none⟩ = some (.slice ov.vl.ad ob.ps.length ov.vl.cap) ∧ w.cell? ⟨g, i * 12 + 5, none⟩ = some (.map ov.vm) ∧ w.cell? ⟨g, i * 12 + 6, none⟩ = some (.int .i64 ob.next) ∧ (∀ n, w.frozen? ⟨g, n, none⟩ = false) ∧ g < w.heap.size ∧ tg g = 4 := by
  obtain ⟨g', cap', ov', hvo', hov, t4, hne, hgl, hcell, hfz, _⟩ := h.obj hi
  have hvv := hvo'
  rw [hvo] at hvv
  injection hvv with x1 x2 x3
  injection x1 with x1
  injection x1 with x1
  subst x1
  rw [hv] at hov
  cases hov
  have d4 := hcell 4 _ rfl
  have d5 := hcell 5 _ rfl
  have d6 := hcell 6 _ rfl
  have hr : RowIn prC 5 _ B w _ ov.vl ob.ps := h.part hi hv 0 (by omega)
  obtain ⟨q1, _⟩ := hr.open rtPr.len
  unfold SV.val at d4
  simp only at d4 d5 d6
  rw [q1] at d4
  exact ⟨d4, d5, d6, hfz, hgl, t4⟩

/-- the map with a name more -/
theorem HeapAt.mput (h : HeapAt w B hb tg H M) {i mb : Nat} {ob : Ob} {ov : OV} (hi : H.obs[i]? = some ob) (hv : M.ovs[i]? = some ov) (hvm : ov.vm = some mb) (hok : BkOk ob.mp) {k : ByteArray} (hk : k.size ≤ maxLen) (hno : ∀ x ∈ ob.mp, x.1 ≠ k) (c : Int) :
    ∃ w', (Instr.mapUpdate 92 (.map (some mb)) (.string k) (.int .i64 c)).run Tryz.prog w = .ok () w' ∧ WentM w B hb tg { H with obs := H.obs.set i { ob with mp := ob.mp ++ [(k, c)] } } M w' := by
  have hwf := h.wf.ob ob (List.mem_of_getElem? hi)
  have hp := h.part hi hv 1 (by omega)
  obtain ⟨ht, hmp⟩ := hp.2 mb hvm
  have ht : tg mb = 7 + 4 * i + 1 := ht
  obtain ⟨w', r1, r2, r3, r4⟩ := hmp.put hok Tryz.underlying92 hk hno c
  have hil : i < H.obs.length := (List.getElem?_eq_some_iff.1 hi).1
  have hc : Chg (fun b => tg b = 7 + 4 * i + 1) w w' := Chg.of_grown r3 (fun k q => by cases q; exact ht)
  refine ⟨w', r1, h.wentM (k0 := 7 + 4 * i + 1) hc (fun b _ q => by omega) ?_⟩
  refine h.up (H' := { H with obs := H.obs.set i { ob with mp := ob.mp ++ [(k, c)] } }) (M' := M) hc (fun kj => kj = 7 + 4 * i + 1) (7 + 4 * i + 1) (fun b _ q => ⟨q, by omega⟩) (fun kj q => ?_) (fun kj O q hk => ?_) (by simp only [List.length_set]; exact h.len) ⟨?_, by simp only [List.length_set]; exact h.wf.ol, h.wf.tn, h.wf.ts, h.wf.tl, h.wf.mo, h.wf.br⟩
  · subst q
    rw [show 7 + 4 * i + 1 = (4 * i + 1) + 7 by omega]
    intro ob1 ov1 e1 e2
    rw [show (4 * i + 1) / 4 = i by omega] at e1 e2
    rw [show (4 * i + 1) % 4 = 1 by omega]
    have e1' : (H.obs.set i { ob with mp := ob.mp ++ [(k, c)] })[i]? = some ob1 := e1
    rw [List.getElem?_set_self hil] at e1'
    have e2' : M.ovs[i]? = some ov1 := e2
    rw [hv] at e2'
    cases e1'
    cases e2'
    refine ⟨hp.1, fun mb' e => ?_⟩
    rw [hvm] at e
    cases e
    refine ⟨?_, r2⟩
    show rtg _ _ _ _ _ = _
    rw [rtg_old (h.lt mb (by omega)).2]
    omega
  · match kj, hk, q with
    | 0, hk, q => trivial
    | 1, hk, q => exact hk
    | 2, hk, q => exact hk
    | 3, hk, q => exact hk
    | 4, hk, q =>
      refine ⟨?_, hk.2⟩
      show OwnR obC 12 _ B _ M.vo.val ((H.obs.set i { ob with mp := ob.mp ++ [(k, c)] }).zip M.ovs)
      have hz : (H.obs.set i { ob with mp := ob.mp ++ [(k, c)] }).zip M.ovs = (H.obs.zip M.ovs).set i ({ ob with mp := ob.mp ++ [(k, c)] }, ov) := by
        conv => lhs; rw [← set_self hv]
        rw [zip_set]
      rw [hz]
      exact OwnR.congr hk.1 (by simp) (flat_same (enc := obC) (y := (ob, ov)) (y' := ({ ob with mp := ob.mp ++ [(k, c)] }, ov)) rfl _ i (zip_at hi hv))
    | 5, hk, q => exact hk
    | 6, hk, q => exact hk
    | k' + 7, hk, q =>
      intro ob1 ov1 e1 e2
      have e1' : (H.obs.set i { ob with mp := ob.mp ++ [(k, c)] })[k' / 4]? = some ob1 := e1
      by_cases c2 : i = k' / 4
      · rw [← c2, List.getElem?_set_self hil] at e1'
        cases e1'
        have e2' : M.ovs[i]? = some ov1 := by rw [c2]; exact e2
        rw [hv] at e2'
        cases e2'
        have hk2 := hk ob ov (by rw [← c2]; exact hi) (by rw [← c2]; exact hv)
        have hne : k' % 4 ≠ 1 := fun e => q (by omega)
        generalize k' % 4 = c4 at *
        match c4, hk2, hne with
        | 0, hk2, _ => exact hk2
        | 1, _, hne => exact absurd rfl hne
        | 2, hk2, _ => exact hk2
        | _ + 3, hk2, _ => exact hk2
      · rw [List.getElem?_set_ne c2] at e1'
        exact hk ob1 ov1 e1' e2
  · intro o ho
    rcases List.mem_or_eq_of_mem_set ho with q | q
    · exact h.wf.ob o q
    · rw [q]
      exact ⟨hwf.kd, hwf.pr, hwf.ks, hwf.fl, hwf.nx, hwf.el, hwf.inn⟩

/-- a new map, with no names -/
theorem HeapAt.mnew (h : HeapAt w B hb tg H M) {i g cap : Nat} {ob : Ob} {ov : OV} (hi : H.obs[i]? = some ob) (hv : M.ovs[i]? = some ov) (hvo : M.vo = ⟨some ⟨g, 0, none⟩, H.obs.length, cap⟩) :
    WentM w B hb tg { H with obs := H.obs.set i { ob with hm := true, mp := [] } } { M with ovs := M.ovs.set i { ov with vm := some w.heap.size } } ((w.alloc (.map #[] 0)).setCell ⟨g, i * 12 + 5, none⟩ (.map (some w.heap.size))) := by
  have hwf := h.wf.ob ob (List.mem_of_getElem? hi)
  have hB : Below w.heap.size w (w.alloc (.map #[] 0)) := (Below.refl _ _).alloc (Nat.le_refl _) _
  obtain ⟨p1, p2⟩ := h.put hi hv hvo 1 (by omega) (Chg.of_below hB) { ob with hm := true, mp := [] } { ov with vm := some w.heap.size } (j := 5) (u := .map (some w.heap.size)) (by omega) rfl (fun O o1 o2 => by
    refine ⟨rfl, fun mb e => ?_⟩
    have e : some w.heap.size = some mb := e
    cases e
    exact ⟨o2 _ (Nat.le_refl _) (by rw [size_new]; omega), #[], 0, at_new _ _, rfl⟩) (fun c' W' O' c4 cn q => by
    match c', q with
    | 0, q => exact q
    | 1, q => exact absurd rfl cn
    | 2, q => exact q
    | _ + 3, q => exact q) ⟨hwf.kd, hwf.pr, hwf.ks, hwf.fl, hwf.nx, hwf.el, hwf.inn⟩
  refine ⟨_, p1, p2.mono (fun b q => by show tg b ≠ 0; omega), fun b q => ?_⟩
  by_cases c : b < w.heap.size
  · rw [rtg_old c] at q
    exact Or.inl q
  · exact Or.inr (by omega)

end

end Go.Proofs.YtahhionlbfhinaaGreatDoor.Hp
