/- A map from texts to numbers with a name less. -/
import Derived.Test.YtkpdpdllbnihgaaIG
import Derived.ChangeMaps5
import Derived.Test.YtkpdpdllbnihgaaIQ
namespace Go.Proofs.Ytkpdpdllbnihgaa.Hp
open Go.RowKit
set_option linter.unusedVariables false

theorem era_map {α β : Type} (f : α → β) : ∀ (l : List α) (j : Nat), (l.eraseIdx j).map f = (l.map f).eraseIdx j
  | [], _ => rfl
  | _ :: _, 0 => rfl
  | x :: l, j + 1 => by simp [era_map f l j]

theorem MpIs.del {w : World} {mb : Nat} {k : IntKind} {b : List (ByteArray × Int)} {mt et : TypeId} (h : MpIs w mb k b) (hw : BkOk b) (hu : Try.prog.underlying mt = some (.map 9 et)) {nm : ByteArray} {c : Int} {a : Nat} (hn : nm.size ≤ maxLen) (ha : b[a]? = some (nm, c)) :
    ∃ w', (∀ ty, (Builtin.delete_ #[mt, 9] ty #[.map (some mb), .string nm]).run Try.prog w = .ok (.tuple #[]) w') ∧ MpIs w' mb k (b.eraseIdx a) ∧ w.grownBy w' (some mb) ∧ w'.heap.size = w.heap.size := by
  obtain ⟨es, clock, hb, he⟩ := h
  have hz := key_of hn
  rcases key_law.find w hz es.toList (ent_keys hw he) with ⟨f1, f2⟩ | ⟨j, e, f1, f2, f3⟩
  · have h1 := congrArg (·[a]?) he
    simp only [List.getElem?_map, ha, Option.map_some] at h1
    cases hq : es.toList[a]? with
    | none => rw [hq] at h1; simp at h1
    | some e =>
      rw [hq] at h1
      simp at h1
      exact absurd h1.1 (f2 e (List.mem_of_getElem? hq))
  · obtain ⟨x, h1, h1j, h2, h3⟩ := ent_at he j e f2
    have hx : x.1 = nm := by rw [h2] at f3; simpa using f3
    have hja : j = a := by
      have hjl : j < (b.map Prod.fst).length := by
        have := (List.getElem?_eq_some_iff.1 h1j).1
        simpa using this
      refine (List.getElem?_inj hjl hw.nd).1 ?_
      rw [List.getElem?_map, List.getElem?_map, h1j, ha]
      simp [hx]
    subst hja
    have hjs : j < es.size := by
      have := (List.getElem?_eq_some_iff.1 f2).1
      simpa using this
    refine ⟨ChangeMaps.setBlock w mb (.map (es.eraseIdxIfInBounds j) clock), fun ty => ?_, ⟨_, _, ChangeMaps.heap_setBlock_same hb _, ?_⟩, ⟨rfl, rfl, rfl, by simp [ChangeMaps.setBlock], fun i _ hi => ChangeMaps.heap_setBlock_other hb _ (fun e => hi (by rw [e]))⟩, by simp [ChangeMaps.setBlock]⟩
    · simp [Builtin.delete_, run_underlying hu, MapKept.run_getObj_map hb, key_law.check w _ hz, f1, MapKept.run_setObj_map _ hb, Result.andThen, ChangeMaps.setBlock]
    · unfold Array.eraseIdxIfInBounds
      rw [dif_pos hjs, Array.toList_eraseIdx, era_map, he, era_map]

section
variable {w w' w1 : World} {B hb : Nat} {O S : Nat → Prop} {H H' : He} {M M' : HV} {tg : Nat → Nat}

/-- the map with a name less -/
theorem HeapAt.mdel (h : HeapAt w B hb tg H M) {i mb : Nat} {ob : Ob} {ov : OV} (hi : H.obs[i]? = some ob) (hv : M.ovs[i]? = some ov) (hvm : ov.vm = some mb) (hok : BkOk ob.mp) {a : Nat} {k : ByteArray} {c : Int} (hk : k.size ≤ maxLen) (ha : ob.mp[a]? = some (k, c)) :
    ∃ w', (∀ ty, (Builtin.delete_ #[69, 9] ty #[.map (some mb), .string k]).run Try.prog w = .ok (.tuple #[]) w') ∧ Chg (fun b => b = mb) w w' ∧ WentM w B hb tg { H with obs := H.obs.set i { ob with mp := ob.mp.eraseIdx a } } M w' := by
  have hwf := h.wf.ob ob (List.mem_of_getElem? hi)
  have hp := h.part hi hv 1 (by omega)
  obtain ⟨ht, hmp⟩ := hp.2 mb hvm
  have ht : tg mb = 7 + 4 * i + 1 := ht
  obtain ⟨w', r1, r2, r3, r4⟩ := hmp.del hok Try.underlying69 hk ha
  have hil : i < H.obs.length := (List.getElem?_eq_some_iff.1 hi).1
  have hc : Chg (fun b => tg b = 7 + 4 * i + 1) w w' := Chg.of_grown r3 (fun k q => by cases q; exact ht)
  refine ⟨w', r1, Chg.of_grown r3 (fun k q => by cases q; rfl), h.wentM (k0 := 7 + 4 * i + 1) hc (fun b _ q => by omega) ?_⟩
  refine h.up (H' := { H with obs := H.obs.set i { ob with mp := ob.mp.eraseIdx a } }) (M' := M) hc (fun kj => kj = 7 + 4 * i + 1) (7 + 4 * i + 1) (fun b _ q => ⟨q, by omega⟩) (fun kj q => ?_) (fun kj O q hk => ?_) (by simp only [List.length_set]; exact h.len) ⟨?_, by simp only [List.length_set]; exact h.wf.ol, h.wf.tn, h.wf.ts, h.wf.tl, h.wf.mo, h.wf.br⟩
  · subst q
    rw [show 7 + 4 * i + 1 = (4 * i + 1) + 7 by omega]
    intro ob1 ov1 e1 e2
    rw [show (4 * i + 1) / 4 = i by omega] at e1 e2
    rw [show (4 * i + 1) % 4 = 1 by omega]
    have e1' : (H.obs.set i { ob with mp := ob.mp.eraseIdx a })[i]? = some ob1 := e1
    rw [List.getElem?_set_self hil] at e1'
    have e2' : M.ovs[i]? = some ov1 := e2
    rw [hv] at e2'
    cases e1'
    cases e2'
    refine ⟨hp.1, fun mb' e => ?_⟩
    rw [hvm] at e
    cases e
    refine ⟨?_, r2⟩
    show rtg _ _ _ _ _ = _
    rw [rtg_old (h.lt mb (by omega)).2]
    omega
  · match kj, hk, q with
    | 0, hk, q => trivial
    | 1, hk, q => exact hk
    | 2, hk, q => exact hk
    | 3, hk, q => exact hk
    | 4, hk, q =>
      refine ⟨?_, hk.2⟩
      show OwnR obC 12 _ B _ M.vo.val ((H.obs.set i { ob with mp := ob.mp.eraseIdx a }).zip M.ovs)
      have hz : (H.obs.set i { ob with mp := ob.mp.eraseIdx a }).zip M.ovs = (H.obs.zip M.ovs).set i ({ ob with mp := ob.mp.eraseIdx a }, ov) := by
        conv => lhs; rw [← set_self hv]
        rw [zip_set]
      rw [hz]
      exact OwnR.congr hk.1 (by simp) (flat_same (enc := obC) (y := (ob, ov)) (y' := ({ ob with mp := ob.mp.eraseIdx a }, ov)) rfl _ i (zip_at hi hv))
    | 5, hk, q => exact hk
    | 6, hk, q => exact hk
    | k' + 7, hk, q =>
      intro ob1 ov1 e1 e2
      have e1' : (H.obs.set i { ob with mp := ob.mp.eraseIdx a })[k' / 4]? = some ob1 := e1
      by_cases c2 : i = k' / 4
      · rw [← c2, List.getElem?_set_self hil] at e1'
        cases e1'
        have e2' : M.ovs[i]? = some ov1 := by rw [c2]; exact e2
        rw [hv] at e2'
        cases e2'
        have hk2 := hk ob ov (by rw [← c2]; exact hi) (by rw [← c2]; exact hv)
        have hne : k' % 4 ≠ 1 := fun e => q (by omega)
        generalize k' % 4 = c4 at *
        match c4, hk2, hne with
        | 0, hk2, _ => exact hk2
        | 1, _, hne => exact absurd rfl hne
        | 2, hk2, _ => exact hk2
        | _ + 3, hk2, _ => exact hk2
      · rw [List.getElem?_set_ne c2] at e1'
        exact hk ob1 ov1 e1' e2
  · intro o ho
    rcases List.mem_or_eq_of_mem_set ho with q | q
    · exact h.wf.ob o q
    · rw [q]
      exact ⟨hwf.kd, hwf.pr, hwf.ks, hwf.fl, hwf.nx, hwf.el, hwf.inn⟩


end

end Go.Proofs.Ytkpdpdllbnihgaa.Hp

/- table.drop: the walk. -/
namespace Go.Proofs.Ytkpdpdllbnihgaa.Hp
open Go.RowKit
set_option linter.unusedVariables false

/-- 'delete', as one step of a region that draws -/
theorem step_delete {P : Program} {ops : Array Oper} {o : Oper} {a : Act} {w w1 : World} {K : Act → World → Prop} {Q : Exit → Act → World → Prop} {E : Prop}
    (hg : o.guard = none) (s x : Operand) (t k : TypeId) (hop : o.op = Op.call { callee := Callee.builtin Builtin.delete, args := #[s, x], argTypes := #[t, k] })
    (vm vk : Value) (hs : a.eval s = vm) (hx : a.eval x = vk) (hrun : ∀ ty, (Builtin.delete_ #[t, k] ty #[vm, vk]).run P w = .ok (.tuple #[]) w1)
    (hK : K (a.put o.dst (.tuple #[])) w1) : if Region.wanted o (yielded ops a.tmps) = true then Oper.wp P o a w K Q else E := by
  have hw : Region.wanted o (yielded ops a.tmps) = true := by simp [Region.wanted, hg]
  rw [if_pos hw]
  unfold Oper.wp
  simp [execOp, hop, resolve, invoke, builtin, hs, hx, hrun, Result.andThen]
  exact hK

set_option maxHeartbeats 4000000 in
set_option maxRecDepth 1000000 in
theorem drop_walk (w w1 w2 : World) (g off gl a n cap : Nat) (vm : Option Nat) (k : ByteArray) (ha : a < n) (hn : n ≤ 2000000000001)
    (c0 : w.cell? ⟨g, off, none⟩ = some (.slice (some ⟨gl, 0, none⟩) n cap)) (c1 : w.cell? ⟨g, off + 1, none⟩ = some (.map vm)) (ck : w.cell? ⟨gl, a * 5, none⟩ = some (.string k))
    (hrun : ∀ ty, (Builtin.delete_ #[69, 9] ty #[.map vm, .string k]).run Try.prog w.drew = .ok (.tuple #[]) w1)
    (d0 : w1.cell? ⟨g, off, none⟩ = some (.slice (some ⟨gl, 0, none⟩) n cap))
    (kdel : Calls Try.prog 56 #[.slice (some ⟨gl, 0, none⟩) n cap, .int .i64 a, .int .i64 ((a : Int) + 1)] w1 (fun e w' => e = .returned (.slice (some ⟨gl, 0, none⟩) (n - 1) cap) ∧ w' = w2))
    (e0 : w2.cell? ⟨g, off, none⟩ = some (.slice (some ⟨gl, 0, none⟩) n cap)) (f0 : w2.frozen? ⟨g, off, none⟩ = false) :
    Calls Try.prog 40 #[.pointer (some ⟨g, off, none⟩), .int .i64 a] w fun e w' => e = .returned (.tuple #[]) ∧ w' = w2.setCell ⟨g, off, none⟩ (.slice (some ⟨gl, 0, none⟩) (n - 1) cap) := by
  have HR : Hid (∀ ty, (Builtin.delete_ #[69, 9] ty #[.map vm, .string k]).run Try.prog w.drew = .ok (.tuple #[]) w1) := hrun
  have hwr : IntKind.i64.wrap ((a : Int) + 1) = (a : Int) + 1 := by rw [IntKind.wrap_i64]; omega
  have h1 : (0 : Int) ≤ (a : Int) := by omega
  have h2 : (a : Int) < (n : Int) := by omega
  clear hrun
  go_enter Try.func40, Try.ntmps40
  go_wp2_with fail
  go_region_law (refine step_delete rfl (.tmp 7) (.tmp 15) 69 9 rfl (.map vm) (.string k) (by simp [Act.eval]) (by simp [Act.eval]) HR.out ?_)
  all_goals (go_wp2_with (go_at_call 56; refine kdel.mono ?_; rintro e w5 ⟨rfl, rfl⟩))
  all_goals go_end0
  all_goals exact ⟨rfl, rfl⟩

end Go.Proofs.Ytkpdpdllbnihgaa.Hp
