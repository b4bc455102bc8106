/- The heap's cells: its own, an object's; a field that is laid anew. -/
import Derived.Test.YtahhionlbfhinaaGreatDoorB8
namespace Go.Proofs.YtahhionlbfhinaaGreatDoor.Hp
open Go.RowKit
set_option linter.unusedVariables false

/-- a cell of a row of the call's own -/
theorem OwnR.at' {β : Type} {enc : β → List Value} {k : Nat} {e : TypeId} {B : Nat} {w : World} {g n cap : Nat} {xs : List β} (hk : ∀ y, (enc y).length = k) (h : OwnR enc k e B w (.slice (some ⟨g, 0, none⟩) n cap) xs) {i : Nat} {y : β} (hi : xs[i]? = some y) {j : Nat} {u : Value} (hj : (enc y)[j]? = some u) :
    w.cell? ⟨g, i * k + j, none⟩ = some u := by
  rcases h.2 with ⟨h1, _⟩ | ⟨g', cap', cur, h1, hb, hg, hnc, hcm, hcs, ht⟩
  · cases h1
  · cases h1
    have hf := flat_at hk xs i y hi j u hj
    rw [cell_of_row w g _ cur e (0, 0) hg]
    have hl := (List.getElem?_eq_some_iff.1 hf).1
    rw [flat_len hk] at hl
    have e1 : (cur.toList.take (xs.length * k))[i * k + j]? = some u := by rw [ht]; exact hf
    rw [List.getElem?_take_of_lt hl] at e1
    simpa using e1

theorem OwnR.fz {β : Type} {enc : β → List Value} {k : Nat} {e : TypeId} {B : Nat} {w : World} {g n cap : Nat} {xs : List β} (h : OwnR enc k e B w (.slice (some ⟨g, 0, none⟩) n cap) xs) (j : Nat) : w.frozen? ⟨g, j, none⟩ = false := by
  rcases h.2 with ⟨h1, _⟩ | ⟨g', cap', cur, h1, hb, hg, hnc, hcm, hcs, ht⟩
  · cases h1
  · cases h1
    exact frozen_of_row w g j cur e hg

theorem flat_set {β : Type} {enc : β → List Value} {k : Nat} (hk : ∀ y, (enc y).length = k) {y y' : β} {j : Nat} {u : Value} (hj : j < k) (he : enc y' = (enc y).set j u) :
    ∀ (xs : List β) (i : Nat), xs[i]? = some y → (xs.set i y').flatMap enc = (xs.flatMap enc).set (i * k + j) u
  | [], i, hi => by simp at hi
  | x :: xs, 0, hi => by
    simp at hi
    subst hi
    rw [List.set_cons_zero, List.flatMap_cons, List.flatMap_cons, Nat.zero_mul, Nat.zero_add, List.set_append_left _ _ (by rw [hk]; exact hj), he]
  | x :: xs, i + 1, hi => by
    simp at hi
    rw [List.set_cons_succ, List.flatMap_cons, List.flatMap_cons, flat_set hk hj he xs i hi, List.set_append_right _ _ (by rw [hk, Nat.succ_mul]; omega)]
    congr 2
    rw [hk, Nat.succ_mul]
    omega

/-- a cell of a row is laid anew -/
theorem OwnR.put {β : Type} {enc : β → List Value} {k : Nat} {e : TypeId} {B : Nat} {w : World} {g n cap : Nat} {xs : List β} (hk : ∀ y, (enc y).length = k) (h : OwnR enc k e B w (.slice (some ⟨g, 0, none⟩) n cap) xs) {i j : Nat} {y y' : β} {u : Value} (hi : xs[i]? = some y) (hj : j < k) (he : enc y' = (enc y).set j u) :
    OwnR enc k e B (w.setCell ⟨g, i * k + j, none⟩ u) (.slice (some ⟨g, 0, none⟩) n cap) (xs.set i y') := by
  rcases h.2 with ⟨h1, h0⟩ | ⟨g', cap', cur, h1, hb, hg, hn, hc, hs, ht⟩
  · cases h1
  · cases h1
    refine ⟨?_, Or.inr ⟨g, cap, cur.setIfInBounds (i * k + j) u, by rw [List.length_set], hb, heap_setCell_same w g (i * k + j) cur e u hg, by rw [List.length_set]; exact hn, hc, by rw [Array.size_setIfInBounds]; exact hs, ?_⟩⟩
    · rw [flat_len hk]
    · rw [Array.toList_setIfInBounds, List.length_set, flat_set hk hj he xs i hi, ← ht, List.take_set]

theorem zip_set {α β : Type} (a : α) (b : β) : ∀ (xs : List α) (ys : List β) (i : Nat), (xs.set i a).zip (ys.set i b) = (xs.zip ys).set i (a, b)
  | [], ys, i => by simp
  | x :: xs, [], i => by simp
  | x :: xs, y :: ys, 0 => by simp
  | x :: xs, y :: ys, i + 1 => by simp [zip_set a b xs ys i]

theorem zip_at {α β : Type} {xs : List α} {ys : List β} {i : Nat} {a : α} {b : β} (h1 : xs[i]? = some a) (h2 : ys[i]? = some b) : (xs.zip ys)[i]? = some (a, b) := by
  rw [List.getElem?_zip_eq_some]
  exact ⟨h1, h2⟩

section
variable {w w5 : World} {B hb : Nat} {O S : Nat → Prop} {H : He} {M : HV} {tg : Nat → Nat}

/-- the heap's own cells -/
theorem HeapAt.box (h : HeapAt w B hb tg H M) : w.cell? ⟨hb, 0, none⟩ = some M.vt.val ∧ w.cell? ⟨hb, 1, none⟩ = some (.map (some M.mb)) ∧ w.cell? ⟨hb, 2, none⟩ = some M.vo.val ∧ w.cell? ⟨hb, 3, none⟩ = some (.pointer (some ⟨M.tb, 0, none⟩)) ∧ w.cell? ⟨hb, 4, none⟩ = some (.pointer (some ⟨M.cb, 0, none⟩)) ∧ w.cell? ⟨hb, 5, none⟩ = some (.int .i64 H.br) ∧ ∀ n, w.frozen? ⟨hb, n, none⟩ = false := by
  have hp := (h.prt 1).2
  refine ⟨?_, ?_, ?_, ?_, ?_, ?_, fun n => frozen_of_row w hb n _ _ hp⟩ <;> rw [cell_of_row w hb _ _ _ (0, 0) hp] <;> rfl

theorem HeapAt.vol (h : HeapAt w B hb tg H M) : ∃ ad cap, M.vo = ⟨ad, H.obs.length, cap⟩ ∧ H.obs.length ≤ cap ∧ cap ≤ maxLen := by
  have hp : RowIn obC 12 _ B w _ M.vo (H.obs.zip M.ovs) := h.prt 4
  have hl : (H.obs.zip M.ovs).length = H.obs.length := by rw [List.length_zip, h.len]; omega
  obtain ⟨⟨ad, cap, xs⟩, h1, h2, h3, _⟩ := hp.1.sl rtOb.len
  simp only at h2
  subst h2
  have h4 := h3.len
  have h5 := h3.cap
  simp only [hl] at h4
  rcases hvo : M.vo with ⟨ad', n', cap'⟩
  rw [hvo] at h1
  unfold SV.val Sli.val at h1
  injection h1 with e1 e2 e3
  simp only at e1 e2 e3 h5
  subst e3
  exact ⟨ad', cap', by rw [e2, hl], h4, h5⟩

/-- an object's cells -/
theorem HeapAt.obj (h : HeapAt w B hb tg H M) {i : Nat} {ob : Ob} (hi : H.obs[i]? = some ob) :
    ∃ g cap ov, M.vo = ⟨some ⟨g, 0, none⟩, H.obs.length, cap⟩ ∧ M.ovs[i]? = some ov ∧ tg g = 4 ∧ g ≠ hb ∧ g < w.heap.size ∧ (∀ j u, (obC (ob, ov))[j]? = some u → w.cell? ⟨g, i * 12 + j, none⟩ = some u) ∧ (∀ n, w.frozen? ⟨g, n, none⟩ = false) ∧ H.obs.length ≤ cap ∧ cap ≤ maxLen ∧ OwnR obC 12 97 B w (.slice (some ⟨g, 0, none⟩) H.obs.length cap) (H.obs.zip M.ovs) := by
  have hp : RowIn obC 12 _ B w _ M.vo (H.obs.zip M.ovs) := h.prt 4
  obtain ⟨ad, cap, hv, h1, h2⟩ := h.vol
  have hil : i < H.obs.length := (List.getElem?_eq_some_iff.1 hi).1
  have hov : ∃ ov, M.ovs[i]? = some ov := ⟨_, List.getElem?_eq_getElem (by rw [h.len]; exact hil)⟩
  obtain ⟨ov, hov⟩ := hov
  have hz := zip_at hi hov
  have hr := hp.1
  have hblk := hp.2
  rw [hv] at hr hblk
  unfold SV.val at hr hblk
  simp only at hr hblk
  rcases hr.2 with ⟨h5, h6⟩ | ⟨g, cap', cur, h5, h6⟩
  · rw [List.eq_nil_of_length_eq_zero h6] at hz
    simp at hz
  · injection h5 with e1 e2 e3
    subst e1 e3
    have t4 : tg g = 4 := hblk g rfl
    have := h.B0
    refine ⟨g, cap, ov, hv, hov, t4, fun e => by rw [e] at t4; omega, (h.lt g (by omega)).2, fun j u hj => hr.at' rtOb.len hz hj, fun n => hr.fz n, h1, h2, hr⟩

/-- a field of an object is laid anew, with the memory that it leads to -/
theorem HeapAt.put (h : HeapAt w B hb tg H M) {i g cap : Nat} {ob : Ob} {ov : OV} (hi : H.obs[i]? = some ob) (hv : M.ovs[i]? = some ov) (hvo : M.vo = ⟨some ⟨g, 0, none⟩, H.obs.length, cap⟩) (c : Nat) (hc4 : c < 4) (hc : Chg (fun b => tg b = 7 + 4 * i + c) w w5)
    (ob' : Ob) (ov' : OV) {j : Nat} {u : Value} (hj : j < 12) (he : obC (ob', ov') = (obC (ob, ov)).set j u)
    (hnew : ∀ O : Nat → Prop, (∀ b, b < w.heap.size → tg b = 7 + 4 * i + c → O b) → (∀ b, w.heap.size ≤ b → b < w5.heap.size → O b) → ObP w5 B O ob' ov' c)
    (hsame : ∀ c' (W : World) (O : Nat → Prop), c' < 4 → c' ≠ c → ObP W B O ob ov c' → ObP W B O ob' ov' c') (hwf : ob'.wf) :
    HeapAt (w5.setCell ⟨g, i * 12 + j, none⟩ u) B hb (rtg tg w.heap.size w5.heap.size (7 + 4 * i + c)) { H with obs := H.obs.set i ob' } { M with ovs := M.ovs.set i ov' } ∧ Chg (fun b => tg b = 4 ∨ tg b = 7 + 4 * i + c) w (w5.setCell ⟨g, i * 12 + j, none⟩ u) := by
  have hp : RowIn obC 12 _ B w _ M.vo (H.obs.zip M.ovs) := h.prt 4
  have hz := zip_at hi hv
  have hr := hp.1
  have hblk := hp.2
  rw [hvo] at hr hblk
  unfold SV.val at hr hblk
  simp only at hr hblk
  have t4 : tg g = 4 := hblk g rfl
  have hg : g < w.heap.size := (h.lt g (by omega)).2
  have hsz : (w5.setCell ⟨g, i * 12 + j, none⟩ u).heap.size = w5.heap.size := by simp
  have hcc : Chg (fun b => tg b = 4 ∨ tg b = 7 + 4 * i + c) w (w5.setCell ⟨g, i * 12 + j, none⟩ u) := (hc.mono (fun b q => Or.inr q)).trans (Chg.set (S := fun b => b = g) w5 ⟨g, i * 12 + j, none⟩ u rfl) (fun b _ q => Or.inl (by rw [show b = g from q]; exact t4))
  have hset : Chg (fun b => b = g) w5 (w5.setCell ⟨g, i * 12 + j, none⟩ u) := Chg.set (S := fun b => b = g) w5 ⟨g, i * 12 + j, none⟩ u rfl
  refine ⟨?_, hcc⟩
  have key := h.up (H' := { H with obs := H.obs.set i ob' }) (M' := { M with ovs := M.ovs.set i ov' }) hcc (fun k => k = 4 ∨ k = 7 + 4 * i + c) (7 + 4 * i + c) (fun b _ q => ⟨q, by omega⟩) (fun k q => ?_) (fun k O q hk => ?_) (by simp only [List.length_set]; exact h.len) ⟨?_, by simp only [List.length_set]; exact h.wf.ol, h.wf.tn, h.wf.ts, h.wf.tl, h.wf.mo, h.wf.br⟩
  · rw [hsz] at key
    exact key
  · rw [hsz]
    rcases q with rfl | rfl
    · show RowIn obC 12 _ B _ _ M.vo ((H.obs.set i ob').zip (M.ovs.set i ov'))
      rw [zip_set, hvo]
      have hr5 : OwnR obC 12 97 B w5 (.slice (some ⟨g, 0, none⟩) H.obs.length cap) (H.obs.zip M.ovs) := hr.kept hc (fun b q s => by have := hblk b q; omega)
      refine ⟨hr5.put rtOb.len hz hj he, fun b q => ?_⟩
      have hbg : b = g := by simpa [SV.val, Value.ownBlock] using q.symm
      show rtg tg w.heap.size w5.heap.size (7 + 4 * i + c) b = 4
      rw [hbg, rtg_old hg]
      exact t4
    · rw [show 7 + 4 * i + c = (4 * i + c) + 7 by omega]
      intro ob1 ov1 e1 e2
      rw [show (4 * i + c) / 4 = i by omega] at e1 e2
      rw [show (4 * i + c) % 4 = c by omega]
      have hil : i < H.obs.length := (List.getElem?_eq_some_iff.1 hi).1
      have hil2 : i < M.ovs.length := (List.getElem?_eq_some_iff.1 hv).1
      have e1' : (H.obs.set i ob')[i]? = some ob1 := e1
      have e2' : (M.ovs.set i ov')[i]? = some ov1 := e2
      rw [List.getElem?_set_self hil] at e1'
      rw [List.getElem?_set_self hil2] at e2'
      cases e1'
      cases e2'
      refine ObP.mono (O := fun b => rtg tg w.heap.size w5.heap.size (4 * i + c + 7) b = 4 * i + c + 7 ∧ b ≠ g) c (ObP.kept c (hnew _ (fun b h1 h2 => ⟨by rw [rtg_old h1]; omega, fun e => by rw [e] at h2; omega⟩) (fun b h1 h2 => ⟨rtg_new h1 h2, by omega⟩)) hset (fun b q => q.2)) (fun b _ q => q.1)
  · match k, hk, q with
    | 0, hk, q => trivial
    | 1, hk, q => exact hk
    | 2, hk, q => exact hk
    | 3, hk, q => exact hk
    | 4, hk, q => exact absurd (Or.inl rfl) q
    | 5, hk, q => exact hk
    | 6, hk, q => exact hk
    | k + 7, hk, q =>
      intro ob1 ov1 e1 e2
      have e1' : (H.obs.set i ob')[k / 4]? = some ob1 := e1
      have e2' : (M.ovs.set i ov')[k / 4]? = some ov1 := e2
      by_cases c2 : i = k / 4
      · have hil : i < H.obs.length := (List.getElem?_eq_some_iff.1 hi).1
        have hil2 : i < M.ovs.length := (List.getElem?_eq_some_iff.1 hv).1
        rw [← c2, List.getElem?_set_self hil] at e1'
        rw [← c2, List.getElem?_set_self hil2] at e2'
        cases e1'
        cases e2'
        exact hsame (k % 4) _ O (by omega) (fun e => q (Or.inr (by omega))) (hk ob ov (by rw [← c2]; exact hi) (by rw [← c2]; exact hv))
      · rw [List.getElem?_set_ne c2] at e1' e2'
        exact hk ob1 ov1 e1' e2'
  · intro o ho
    rcases List.mem_or_eq_of_mem_set ho with q | q
    · exact h.wf.ob o q
    · rw [q]; exact hwf

/-- a plain field of an object is laid anew -/
theorem HeapAt.fld (h : HeapAt w B hb tg H M) {i g cap : Nat} {ob : Ob} {ov : OV} (hi : H.obs[i]? = some ob) (hv : M.ovs[i]? = some ov) (hvo : M.vo = ⟨some ⟨g, 0, none⟩, H.obs.length, cap⟩)
    (ob' : Ob) {j : Nat} {u : Value} (hj : j < 12) (he : obC (ob', ov) = (obC (ob, ov)).set j u) (h1 : ob'.ps = ob.ps) (h2 : ob'.el = ob.el) (h3 : ob'.inn = ob.inn) (hwf : ob'.wf) (h4 : ob'.hm = ob.hm := by rfl) (h5 : ob'.mp = ob.mp := by rfl) :
    HeapAt (w.setCell ⟨g, i * 12 + j, none⟩ u) B hb tg { H with obs := H.obs.set i ob' } M ∧ Chg (fun b => tg b = 4) w (w.setCell ⟨g, i * 12 + j, none⟩ u) := by
  have t4 : tg g = 4 := by
    have hp : RowIn obC 12 _ B w _ M.vo (H.obs.zip M.ovs) := h.prt 4
    have hblk := hp.2
    rw [hvo] at hblk
    exact hblk g rfl
  have hob : ∀ c W (O : Nat → Prop), ObP W B O ob ov c → ObP W B O ob' ov c := by
    intro c W O q
    match c, q with
    | 0, q => show RowIn _ _ _ _ _ _ _ ob'.ps; rw [h1]; exact q
    | 1, q => show ov.vm.isSome = ob'.hm ∧ ∀ mb, ov.vm = some mb → _ ∧ MpIs _ _ _ ob'.mp; rw [h4, h5]; exact q
    | 2, q => show RowIn _ _ _ _ _ _ _ ob'.el; rw [h2]; exact q
    | c + 3, q => show RowIn _ _ _ _ _ _ _ ob'.inn; rw [h3]; exact q
  obtain ⟨k1, k2⟩ := h.put hi hv hvo 0 (by omega) (Chg.refl _ w) ob' ov hj he (fun O q1 q2 => by
    have hp := h.prt ((4 * i) + 7)
    have hp2 := hp ob ov (by rw [show 4 * i / 4 = i by omega]; exact hi) (by rw [show 4 * i / 4 = i by omega]; exact hv)
    rw [show 4 * i % 4 = 0 by omega] at hp2
    exact ObP.mono 0 (hob 0 w _ hp2) (fun b hb q => q1 b hb (by omega))) (fun c' W O _ _ q => hob c' W O q) hwf
  refine ⟨?_, Chg.set (S := fun b => tg b = 4) w ⟨g, i * 12 + j, none⟩ u t4⟩
  have hrt : rtg tg w.heap.size w.heap.size (7 + 4 * i + 0) = tg := by
    funext b
    unfold rtg
    by_cases c : b < w.heap.size
    · rw [if_pos c]
    · rw [if_neg c, if_neg c]
      by_cases c2 : tg b = 0
      · exact c2.symm
      · exact absurd (h.lt b c2).2 c
  rw [hrt] at k1
  have hset : M.ovs.set i ov = M.ovs := by
    have := (List.getElem?_eq_some_iff.1 hv)
    obtain ⟨a, b⟩ := this
    rw [← b]
    exact List.set_getElem_self a
  rw [hset] at k1
  exact k1

end

end Go.Proofs.YtahhionlbfhinaaGreatDoor.Hp
