/- VJ, IW, VK -/
import Derived.Test.YtkpdpdllbnihgaaGreatB33
import Derived.Test.YtkpdpdllbnihgaaGreatB34
import Derived.Test.YtkpdpdllbnihgaaGreatB35
import Derived.Test.YtkpdpdllbnihgaaGreatB28
import Derived.Test.YtkpdpdllbnihgaaGreatB36
set_option linter.unusedVariables false
set_option linter.unusedSimpArgs false
set_option maxRecDepth 100000
set_option maxHeartbeats 40000000
/- Make, SetLen, SetElem, SetInner, Put, Drop, Text: done and refused. -/
namespace Go.Proofs.YtkpdpdllbnihgaaGreat.Hp
open Go.RowKit
/-- what a call leaves of a heap: whatever its values that lead to memory -/
def WentH (w : World) (B hb : Nat) (tg : Nat → Nat) (H : He) (w' : World) : Prop := ∃ M', WentM w B hb tg H M' w'
section
variable {w w' w1 : World} {B hb : Nat} {O S : Nat → Prop} {H H' : He} {M M' : HV} {tg : Nat → Nat}
theorem WentH.same (h : HeapAt w B hb tg H M) (hb' : Below w.heap.size w w') : WentH w B hb tg H w' := ⟨M, WentM.same h hb'⟩
/-- Make: is it refused? -/
def mkNo (H : He) (kind p : Int) : Bool := decide (kind < 0) || decide (6 < kind) || !mayB H p || decide (65536 ≤ H.obs.length)
def makeF (H : He) (kind p : Int) : He := if mkNo H kind p = true then H else makeH H kind p
set_option maxRecDepth 100000 in
set_option maxHeartbeats 2000000 in
theorem make_full (h : HeapAt w B hb tg H M) (kind p : Int) (p0 : 0 ≤ p) (p1 : p < 18446744073709551616) :
    Calls Tryz.prog 20 #[.pointer (some ⟨hb, 0, none⟩), .int .i64 kind, .int .u64 p] w fun e w' => e = .returned (.tuple #[.int .u64 (if mkNo H kind p = true then undW else objW (H.obs.length : Int)), .bool (!mkNo H kind p)]) ∧ WentH w B hb tg (makeF H kind p) w' := by
  cases hq : mkNo H kind p with
  | false =>
    have hq2 := hq
    unfold mkNo at hq2
    simp only [Bool.or_eq_false_iff, decide_eq_false_iff_not, Bool.not_eq_false'] at hq2
    obtain ⟨⟨⟨a, b⟩, c⟩, d⟩ := hq2
    have e : makeF H kind p = makeH H kind p := by unfold makeF; rw [if_neg (by rw [hq]; simp)]
    rw [e, if_neg (by simp)]
    exact make_hit h kind p (by omega) (by omega) p0 p1 c (by omega)
  | true =>
    have e : makeF H kind p = H := by unfold makeF; rw [if_pos hq]
    rw [e, if_pos rfl]
    have HW : Hid (WentH w B hb tg H w) := WentH.same h (Below.refl _ _)
    have km := mayBe_at h p p0 p1
    unfold undW
    simp only [Bool.not_true]
    by_cases a : kind < 0
    · have a1 : decide (kind < 0) = true := decide_eq_true a
      clear h hq e km
      go_enter Tryz.func20, Tryz.ntmps20
      go_wp2_with fail
      go_ret2
      exact ⟨rfl, HW.out⟩
    have a1 : decide (kind < 0) = false := decide_eq_false a
    by_cases b : 6 < kind
    · have b1 : decide (6 < kind) = true := decide_eq_true b
      clear h hq e km
      go_enter Tryz.func20, Tryz.ntmps20
      go_wp2_with fail
      go_ret2
      exact ⟨rfl, HW.out⟩
    have b1 : decide (6 < kind) = false := decide_eq_false b
    cases c : mayB H p with
    | false =>
      rw [c] at km
      clear h hq e c
      go_enter Tryz.func20, Tryz.ntmps20
      go_wp2_with fail
      refine km.mono ?_
      rintro e w2 ⟨rfl, rfl⟩
      clear km
      go_wp2_with fail
      go_ret2
      exact ⟨rfl, HW.out⟩
    | true =>
      rw [c] at km
      have d : 65536 ≤ H.obs.length := by
        unfold mkNo at hq
        rw [a1, b1, c] at hq
        simpa using hq
      have kd := made_at h
      obtain ⟨c0, c1, c2, c3, c4, c5, fz⟩ := h.box
      obtain ⟨ad, cap, hv, hl1, hl2⟩ := h.vol
      rw [hv] at c2
      unfold SV.val at c2
      simp only at c2
      have hge : decide ((65536 : Int) ≤ (H.obs.length : Int)) = true := decide_eq_true (by omega)
      generalize H.obs.length = n at *
      clear h hq e c hv hl1 hl2 c0 c1 c3 c4 c5 fz d
      go_enter Tryz.func20, Tryz.ntmps20
      go_wp2_with fail
      refine km.mono ?_
      rintro e w2 ⟨rfl, rfl⟩
      clear km
      go_wp2_with fail
      refine kd.mono ?_
      rintro e w2 ⟨rfl, rfl⟩
      clear kd
      go_wp2_with fail
      go_ret2
      exact ⟨rfl, HW.out⟩
def lenF (H : He) (o n : Int) : He × Bool := match obI H o with
  | none => (H, false)
  | some i => match H.obs[i]? with
    | none => (H, false)
    | some ob => if n < 0 ∨ 4096 < n then (H, false) else (elH H i ob (resL ob.el n.toNat), true)
theorem lenF_no {H : He} {o n : Int} (h : obO H o = none) : lenF H o n = (H, false) := by unfold lenF; rw [obO_none h]
theorem lenF_at {H : He} {o n : Int} {i : Nat} {ob : Ob} (ho : obI H o = some i) (hi : H.obs[i]? = some ob) : lenF H o n = if n < 0 ∨ 4096 < n then (H, false) else (elH H i ob (resL ob.el n.toNat), true) := by unfold lenF; rw [ho]; simp only [hi]
set_option maxRecDepth 100000 in
theorem setLen_full (h : HeapAt w B hb tg H M) (o : Int) (o0 : 0 ≤ o) (o1 : o < 18446744073709551616) (n : Int) :
    Calls Tryz.prog 34 #[.pointer (some ⟨hb, 0, none⟩), .int .u64 o, .int .i64 n] w fun e w' => e = .returned (.bool (lenF H o n).2) ∧ WentH w B hb tg (lenF H o n).1 w' := by
  cases hq : obO H o with
  | none =>
    rw [lenF_no hq]
    have ka := at_miss h o o0 o1 (obO_none hq)
    have HW : Hid (WentH w B hb tg H w) := WentH.same h (Below.refl _ _)
    clear h hq
    go_enter Tryz.func34, Tryz.ntmps34
    go_wp2_with fail
    refine ka.mono ?_
    rintro e w2 ⟨rfl, rfl⟩
    clear ka
    go_wp2_with fail
    go_ret
    exact ⟨rfl, HW.out⟩
  | some ob =>
    obtain ⟨i, ho, hi⟩ := obO_some hq
    rw [lenF_at ho hi]
    by_cases c : n < 0 ∨ 4096 < n
    · rw [if_pos c]
      refine (setLen_no h o o0 o1 ho hi n c).mono ?_
      rintro e w' ⟨rfl, rfl⟩
      exact ⟨rfl, WentH.same h (Below.refl _ _)⟩
    · rw [if_neg c]
      obtain ⟨m, rfl⟩ : ∃ m : Nat, n = (m : Int) := ⟨n.toNat, by omega⟩
      exact setLen_at h o o0 o1 ho hi m (by omega)
def elemF (H : He) (o n v : Int) : He × Bool := match obI H o with
  | none => (H, false)
  | some i => match H.obs[i]? with
    | none => (H, false)
    | some ob => if n < 0 ∨ 4096 ≤ n then (H, false) else (elH H i ob (setL ob.el n.toNat v), true)
theorem elemF_no {H : He} {o n v : Int} (h : obO H o = none) : elemF H o n v = (H, false) := by unfold elemF; rw [obO_none h]
theorem elemF_at {H : He} {o n v : Int} {i : Nat} {ob : Ob} (ho : obI H o = some i) (hi : H.obs[i]? = some ob) : elemF H o n v = if n < 0 ∨ 4096 ≤ n then (H, false) else (elH H i ob (setL ob.el n.toNat v), true) := by unfold elemF; rw [ho]; simp only [hi]
set_option maxRecDepth 100000 in
theorem setElem_full (h : HeapAt w B hb tg H M) (o : Int) (o0 : 0 ≤ o) (o1 : o < 18446744073709551616) (n v : Int) :
    Calls Tryz.prog 31 #[.pointer (some ⟨hb, 0, none⟩), .int .u64 o, .int .i64 n, .int .u64 v] w fun e w' => e = .returned (.bool (elemF H o n v).2) ∧ WentH w B hb tg (elemF H o n v).1 w' := by
  cases hq : obO H o with
  | none =>
    rw [elemF_no hq]
    have ka := at_miss h o o0 o1 (obO_none hq)
    have HW : Hid (WentH w B hb tg H w) := WentH.same h (Below.refl _ _)
    clear h hq
    go_enter Tryz.func31, Tryz.ntmps31
    go_wp2_with fail
    refine ka.mono ?_
    rintro e w2 ⟨rfl, rfl⟩
    clear ka
    go_wp2_with fail
    go_ret
    exact ⟨rfl, HW.out⟩
  | some ob =>
    obtain ⟨i, ho, hi⟩ := obO_some hq
    rw [elemF_at ho hi]
    by_cases c : n < 0 ∨ 4096 ≤ n
    · rw [if_pos c]
      refine (setElem_no h o o0 o1 ho hi n v c).mono ?_
      rintro e w' ⟨rfl, rfl⟩
      exact ⟨rfl, WentH.same h (Below.refl _ _)⟩
    · rw [if_neg c]
      obtain ⟨m, rfl⟩ : ∃ m : Nat, n = (m : Int) := ⟨n.toNat, by omega⟩
      exact setElem_at h o o0 o1 ho hi m (by omega) v
def innF (H : He) (o : Int) (l : List Int) : He := match obI H o with
  | none => H
  | some i => match H.obs[i]? with
    | none => H
    | some ob => H.setO i { ob with inn := l }
theorem innF_no {H : He} {o : Int} {l : List Int} (h : obO H o = none) : innF H o l = H := by unfold innF; rw [obO_none h]
theorem innF_at {H : He} {o : Int} {l : List Int} {i : Nat} {ob : Ob} (ho : obI H o = some i) (hi : H.obs[i]? = some ob) : innF H o l = H.setO i { ob with inn := l } := by unfold innF; rw [ho]; simp only [hi]
set_option maxRecDepth 100000 in
theorem setInner_full (h : HeapAt w B hb tg H M) (o : Int) (o0 : 0 ≤ o) (o1 : o < 18446744073709551616) (m : Sli Int) (hm : m.ok wC 1 w) (hl : m.xs.length ≤ 17592186044416) :
    Calls Tryz.prog 38 #[.pointer (some ⟨hb, 0, none⟩), .int .u64 o, m.val] w fun e w' => e = .returned (.tuple #[]) ∧ WentH w B hb tg (innF H o m.xs) w' := by
  cases hq : obO H o with
  | none =>
    rw [innF_no hq]
    unfold Sli.val
    generalize m.xs.length = ml at *
    generalize m.at' = ma at *
    generalize m.cap = mc at *
    clear hm
    have ka := at_miss h o o0 o1 (obO_none hq)
    have HW : Hid (WentH w B hb tg H w) := WentH.same h (Below.refl _ _)
    clear h hq
    go_enter Tryz.func38, Tryz.ntmps38
    go_wp2_with fail
    refine ka.mono ?_
    rintro e w2 ⟨rfl, rfl⟩
    clear ka
    go_wp2_with fail
    go_end0
    exact ⟨rfl, HW.out⟩
  | some ob =>
    obtain ⟨i, ho, hi⟩ := obO_some hq
    rw [innF_at ho hi]
    exact setInner_at h o o0 o1 ho hi m hm hl
def dropF (H : He) (o : Int) (k : ByteArray) : He × Bool := match obI H o with
  | none => (H, false)
  | some i => match H.obs[i]? with
    | none => (H, false)
    | some ob => match plc ob.ps k with
      | none => (H, false)
      | some n => (dropH H i ob n, true)
theorem dropF_no {H : He} {o : Int} {k : ByteArray} (h : obO H o = none) : dropF H o k = (H, false) := by unfold dropF; rw [obO_none h]
theorem dropF_at {H : He} {o : Int} {k : ByteArray} {i : Nat} {ob : Ob} (ho : obI H o = some i) (hi : H.obs[i]? = some ob) : dropF H o k = match plc ob.ps k with | none => (H, false) | some n => (dropH H i ob n, true) := by unfold dropF; rw [ho]; simp only [hi]
set_option maxRecDepth 100000 in
theorem drop_full (h : HeapAt w B hb tg H M) (hn : H.neat) (o : Int) (o0 : 0 ≤ o) (o1 : o < 18446744073709551616) (k : ByteArray) (hk : k.size ≤ maxLen) :
    Calls Tryz.prog 27 #[.pointer (some ⟨hb, 0, none⟩), .int .u64 o, .string k] w fun e w' => e = .returned (.bool (dropF H o k).2) ∧ WentH w B hb tg (dropF H o k).1 w' := by
  cases hq : obO H o with
  | none =>
    rw [dropF_no hq]
    have ka := at_miss h o o0 o1 (obO_none hq)
    have HW : Hid (WentH w B hb tg H w) := WentH.same h (Below.refl _ _)
    clear h hq
    go_enter Tryz.func27, Tryz.ntmps27
    go_wp2_with fail
    refine ka.mono ?_
    rintro e w2 ⟨rfl, rfl⟩
    clear ka
    go_wp2_with fail
    go_ret
    exact ⟨rfl, HW.out⟩
  | some ob =>
    obtain ⟨i, ho, hi⟩ := obO_some hq
    rw [dropF_at ho hi]
    have hnt := hn ob (List.mem_of_getElem? hi)
    cases hp : plc ob.ps k with
    | none =>
      refine (drop_miss h o o0 o1 ho hi hnt k hk hp).mono ?_
      rintro e w' ⟨rfl, hb2⟩
      exact ⟨rfl, WentH.same h hb2⟩
    | some n =>
      refine (drop_hit h o o0 o1 ho hi hnt k hk hp).mono ?_
      rintro e w' ⟨rfl, M', _, hw⟩
      exact ⟨rfl, M', hw⟩
def putF (H : He) (o : Int) (k : ByteArray) (d : De) : He := match obI H o with
  | none => H
  | some i => match H.obs[i]? with
    | none => H
    | some ob => putH H i ob k d
theorem putF_no {H : He} {o : Int} {k : ByteArray} {d : De} (h : obO H o = none) : putF H o k d = H := by unfold putF; rw [obO_none h]
theorem putF_at {H : He} {o : Int} {k : ByteArray} {d : De} {i : Nat} {ob : Ob} (ho : obI H o = some i) (hi : H.obs[i]? = some ob) : putF H o k d = putH H i ob k d := by unfold putF; rw [ho]; simp only [hi]
set_option maxRecDepth 100000 in
theorem put_full (h : HeapAt w B hb tg H M) {n : Int} (hn : H.inv n) (hnx : n < 2000000000000) (o : Int) (o0 : 0 ≤ o) (o1 : o < 18446744073709551616) (k : ByteArray) (hk : k.size ≤ maxLen) (d : De) :
    Calls Tryz.prog 21 #[.pointer (some ⟨hb, 0, none⟩), .int .u64 o, .string k, deV d] w fun e w' => e = .returned (.tuple #[]) ∧ WentH w B hb tg (putF H o k d) w' := by
  cases hq : obO H o with
  | none =>
    rw [putF_no hq]
    obtain ⟨wb, hwb⟩ : ∃ wb, wb = w.alloc (.cells #[.int .u64 d.va, .int .u64 d.se, .int .i64 d.fl] 35) := ⟨_, rfl⟩
    have hB : Below w.heap.size w wb := by rw [hwb]; exact (Below.refl _ _).alloc (Nat.le_refl _) _
    have ka := at_miss (h.below hB) o o0 o1 (obO_none hq)
    have HW : Hid (WentH w B hb tg H wb) := WentH.same h hB
    unfold deV
    clear h hq hn hB
    go_enter Tryz.func21, Tryz.ntmps21
    go_upto_region 1 with fail
    rw [← hwb]
    clear hwb
    go_wp2_with fail
    refine ka.mono ?_
    rintro e w2 ⟨rfl, rfl⟩
    clear ka
    go_wp2_with fail
    refine bodyPost_ret (results_none rfl _ _ _) rfl ?_
    exact ⟨rfl, HW.out⟩
  | some ob =>
    obtain ⟨i, ho, hi⟩ := obO_some hq
    rw [putF_at ho hi]
    have hob := List.mem_of_getElem? hi
    refine (put_any h o o0 o1 ho hi (hn.neat ob hob) (hn.hms ob hob) k hk d (by have := hn.nx ob hob; omega)).mono ?_
    rintro e w' ⟨rfl, M', _, hw⟩
    exact ⟨rfl, M', hw⟩
def textF (H : He) (s : ByteArray) : He × Int × Bool := if 4096 < s.size then (H, undW, false) else match txI H.tx s with
  | some n => (H, txtW (n : Int), true)
  | none => if 16384 ≤ H.tx.length then (H, undW, false) else ({ H with tx := H.tx ++ [s] }, txtW (H.tx.length : Int), true)
theorem text_all (h : HeapAt w B hb tg H M) (s : ByteArray) :
    Calls Tryz.prog 40 #[.pointer (some ⟨hb, 0, none⟩), .string s] w fun e w' => e = .returned (.tuple #[.int .u64 (textF H s).2.1, .bool (textF H s).2.2]) ∧ WentH w B hb tg (textF H s).1 w' := by
  unfold textF
  by_cases c : 4096 < s.size
  · rw [if_pos c]
    refine (text_long h s c).mono ?_
    rintro e w' ⟨rfl, rfl⟩
    exact ⟨rfl, WentH.same h (Below.refl _ _)⟩
  · rw [if_neg c]
    cases hn : txI H.tx s with
    | some n =>
      refine (text_known h s (by omega) hn).mono ?_
      rintro e w' ⟨rfl, rfl⟩
      exact ⟨rfl, WentH.same h (Below.refl _ _)⟩
    | none =>
      simp only
      by_cases d : 16384 ≤ H.tx.length
      · rw [if_pos d]
        have := h.wf.tl
        refine (text_full h s (by omega) hn (by omega)).mono ?_
        rintro e w' ⟨rfl, rfl⟩
        exact ⟨rfl, WentH.same h (Below.refl _ _)⟩
      · rw [if_neg d]
        exact text_new h s (by omega) hn (by omega)
end
end Go.Proofs.YtkpdpdllbnihgaaGreat.Hp
/- neat is kept. -/
namespace Go.Proofs.YtkpdpdllbnihgaaGreat.Hp
open Go.RowKit
theorem Ob.neat.lost {o : Ob} (h : o.neat) : o.lost.neat := ⟨h.kn, h.cm, h.c0, h.pl, h.mp⟩
theorem Ob.neat.less {o : Ob} (h : o.neat) (a : Nat) : (o.less a).neat := by
  have hs : (o.ps.eraseIdx a).Sublist o.ps := List.eraseIdx_sublist _ _
  refine ⟨(hs.map Pr.key).nodup h.kn, h.cm.sublist hs, fun p hp => h.c0 p (hs.subset hp), ?_, fun hm => ?_⟩
  · have h1 : (o.ps.eraseIdx a).length ≤ o.ps.length := hs.length_le
    have h2 := h.pl
    show ((o.ps.eraseIdx a).length : Int) ≤ o.next
    omega
  · have hm : o.hm = true := hm
    show (if o.hm = true then o.mp.eraseIdx a else o.mp) = camd (o.ps.eraseIdx a)
    rw [if_pos hm, h.mp hm]
    unfold camd
    rw [era_map]
theorem more_neat {o : Ob} (h : o.neat) {k : ByteArray} (hno : plc o.ps k = none) (d : De) :
    ((o.ps ++ [(⟨k, o.next, d⟩ : Pr)]).map Pr.key).Nodup ∧ (o.ps ++ [(⟨k, o.next, d⟩ : Pr)]).Pairwise (fun a b => a.came < b.came) ∧ (∀ p ∈ o.ps ++ [(⟨k, o.next, d⟩ : Pr)], 0 ≤ p.came ∧ p.came < o.next + 1) ∧ ((o.ps ++ [(⟨k, o.next, d⟩ : Pr)]).length : Int) ≤ o.next + 1 := by
  have hpl := h.pl
  refine ⟨?_, ?_, fun p hp => ?_, ?_⟩
  · rw [List.map_append, List.nodup_append]
    refine ⟨h.kn, by simp, fun a ha b hb => ?_⟩
    have hb : b = k := by simpa using hb
    obtain ⟨p, hp, rfl⟩ := List.mem_map.1 ha
    rw [hb]
    exact plc_none hno p hp
  · rw [List.pairwise_append]
    refine ⟨h.cm, by simp, fun a ha b hb => ?_⟩
    have hb : b = ⟨k, o.next, d⟩ := by simpa using hb
    rw [hb]
    exact (h.c0 a ha).2
  · rcases List.mem_append.1 hp with q | q
    · have := h.c0 p q
      omega
    · rw [List.mem_singleton.1 q]
      show 0 ≤ o.next ∧ o.next < o.next + 1
      omega
  · rw [List.length_append]
    simp only [List.length_cons, List.length_nil]
    omega
theorem Ob.neat.plus {o : Ob} (h : o.neat) {k : ByteArray} (hno : plc o.ps k = none) (d : De) : (o.plus k d).neat := by
  obtain ⟨h1, h2, h3, h4⟩ := more_neat h hno d
  unfold Ob.plus
  split
  · exact ⟨h1, h2, h3, h4, fun _ => rfl⟩
  · rename_i c
    exact ⟨h1, h2, h3, h4, fun hm => absurd (Or.inl hm) c⟩
theorem Ob.neat.bare {o : Ob} (h : o.neat) {k : ByteArray} (hno : plc o.ps k = none) (d : De) : (o.bare k d).neat := by
  unfold Ob.bare
  split
  · exact (h.plus hno d).lost
  · exact h.plus hno d
/-- a property laid anew in its place: keys and times of coming are as they were -/
theorem setD_same {ps : List Pr} {n : Nat} {p : Pr} (hp : ps[n]? = some p) (d : De) {α : Type} (f : Pr → α) (hf : ∀ d', f ⟨p.key, p.came, d'⟩ = f p) : (setD ps n p d).map f = ps.map f := by
  unfold setD
  rw [List.map_set, hf]
  apply List.ext_getElem?
  intro j
  by_cases c : n = j
  · subst c
    have hl : n < (ps.map f).length := by rw [List.length_map]; exact (List.getElem?_eq_some_iff.1 hp).1
    rw [List.getElem?_set_self hl, List.getElem?_map, hp]
    rfl
  · rw [List.getElem?_set_ne c]
theorem setD_neat {o : Ob} (h : o.neat) {n : Nat} {p : Pr} (hp : o.ps[n]? = some p) (d : De) (sh : Int) (sd : Bool) : ({ o with ps := setD o.ps n p d, shape := sh, shaped := sd } : Ob).neat := by
  have e1 := setD_same hp d Pr.key (fun _ => rfl)
  have e2 := setD_same hp d Pr.came (fun _ => rfl)
  have e3 : camd (setD o.ps n p d) = camd o.ps := setD_same hp d (fun p => (p.key, p.came)) (fun _ => rfl)
  refine ⟨?_, ?_, fun q hq => ?_, ?_, fun hm => ?_⟩
  · show ((setD o.ps n p d).map Pr.key).Nodup
    rw [e1]
    exact h.kn
  · show (setD o.ps n p d).Pairwise _
    have h1 : ((setD o.ps n p d).map Pr.came).Pairwise (· < ·) := by
      rw [e2]
      exact List.pairwise_map.2 h.cm
    exact List.pairwise_map.1 h1
  · have h1 : q.came ∈ (setD o.ps n p d).map Pr.came := List.mem_map.2 ⟨q, hq, rfl⟩
    rw [e2] at h1
    obtain ⟨r, hr, e⟩ := List.mem_map.1 h1
    rw [← e]
    exact h.c0 r hr
  · show ((setD o.ps n p d).length : Int) ≤ o.next
    have : (setD o.ps n p d).length = o.ps.length := by unfold setD; rw [List.length_set]
    rw [this]
    exact h.pl
  · show o.mp = camd (setD o.ps n p d)
    rw [e3]
    exact h.mp hm
end Go.Proofs.YtkpdpdllbnihgaaGreat.Hp
/- A heap in order stays so: each call. -/
namespace Go.Proofs.YtkpdpdllbnihgaaGreat.Hp
open Go.RowKit
theorem Ob.neat.shp {o : Ob} (h : o.neat) (sh : Int) (sd : Bool) (c : Int) (pr : Int) (shut above : Bool) (el inn : List Int) : ({ o with shape := sh, shaped := sd, cell := c, proto := pr, shut := shut, above := above, el := el, inn := inn } : Ob).neat := ⟨h.kn, h.cm, h.c0, h.pl, h.mp⟩
section
variable {H : He} {n : Int}
theorem He.inv.mono {n' : Int} (h : H.inv n) (hn : n ≤ n') : H.inv n' := h.obs rfl hn
theorem inv_close (h : H.inv n) (o : Int) : (closeH H o).inv n := by
  unfold closeH
  cases ho : obI H o with
  | none => exact h
  | some i =>
    simp only
    cases hi : H.obs[i]? with
    | none => exact h
    | some ob =>
      have hob := List.mem_of_getElem? hi
      exact h.one (n' := n) hi rfl rfl id ((h.neat ob hob).shp _ _ _ _ _ _ _ _) (h.hms ob hob) (h.nx ob hob) (Int.le_refl _)
theorem inv_inn (h : H.inv n) (o : Int) (l : List Int) : (innF H o l).inv n := by
  unfold innF
  cases ho : obI H o with
  | none => exact h
  | some i =>
    simp only
    cases hi : H.obs[i]? with
    | none => exact h
    | some ob =>
      have hob := List.mem_of_getElem? hi
      exact h.one (n' := n) hi rfl rfl id ((h.neat ob hob).shp _ _ _ _ _ _ _ _) (h.hms ob hob) (h.nx ob hob) (Int.le_refl _)
theorem inv_el (h : H.inv n) {i : Nat} {ob : Ob} (hi : H.obs[i]? = some ob) (el : List Int) : (elH H i ob el).inv n := by
  have hob := List.mem_of_getElem? hi
  exact h.one (n' := n) hi rfl rfl id ((h.neat ob hob).shp _ _ _ _ _ _ _ _) (h.hms ob hob) (h.nx ob hob) (Int.le_refl _)
theorem inv_len (h : H.inv n) (o m : Int) : (lenF H o m).1.inv n := by
  unfold lenF
  cases ho : obI H o with
  | none => exact h
  | some i =>
    simp only
    cases hi : H.obs[i]? with
    | none => exact h
    | some ob =>
      simp only
      split
      · exact h
      · exact inv_el h hi _
theorem inv_elem (h : H.inv n) (o m v : Int) : (elemF H o m v).1.inv n := by
  unfold elemF
  cases ho : obI H o with
  | none => exact h
  | some i =>
    simp only
    cases hi : H.obs[i]? with
    | none => exact h
    | some ob =>
      simp only
      split
      · exact h
      · exact inv_el h hi _
theorem inv_text (h : H.inv n) (s : ByteArray) : (textF H s).1.inv n := by
  unfold textF
  split
  · exact h
  · split
    · exact h
    · split
      · exact h
      · exact h.obs rfl (Int.le_refl _)
theorem inv_drop (h : H.inv n) (o : Int) (k : ByteArray) : (dropF H o k).1.inv n := by
  unfold dropF
  cases ho : obI H o with
  | none => exact h
  | some i =>
    simp only
    cases hi : H.obs[i]? with
    | none => exact h
    | some ob =>
      simp only
      cases hp : plc ob.ps k with
      | none => exact h
      | some m =>
        have hob := List.mem_of_getElem? hi
        exact h.one (n' := n) hi rfl rfl id ((h.neat ob hob).less m).lost (fun e => by cases e) (h.nx ob hob) (Int.le_refl _)
theorem inv_write (h : H.inv n) (o m v : Int) : (writeH H o m v).inv n := by
  unfold writeH
  cases ho : obI H o with
  | none => exact h
  | some i =>
    simp only
    cases hi : H.obs[i]? with
    | none => exact h
    | some ob =>
      simp only
      cases hp : slotO H o m with
      | none => exact h
      | some p =>
        have hob := List.mem_of_getElem? hi
        have hps : ob.ps[m.toNat]? = some p := by
          unfold slotO obO at hp
          rw [ho] at hp
          simp only [Option.bind_some, hi] at hp
          split at hp
          · exact hp
          · cases hp
        exact h.one (n' := n) hi rfl rfl id (setD_neat (h.neat ob hob) hps _ ob.shape ob.shaped) (h.hms ob hob) (h.nx ob hob) (Int.le_refl _)
theorem inv_touch (h : H.inv n) (c : Int) : (touchH H c).inv n := h.obs rfl (Int.le_refl _)
theorem plus_fields (o : Ob) (k : ByteArray) (d : De) : (o.plus k d).proto = o.proto ∧ (o.plus k d).above = o.above ∧ (o.plus k d).next = o.next + 1 := by
  unfold Ob.plus
  split
  · unfold Ob.mapped; exact ⟨rfl, rfl, rfl⟩
  · unfold Ob.added; exact ⟨rfl, rfl, rfl⟩
theorem bare_fields (o : Ob) (k : ByteArray) (d : De) : (o.bare k d).proto = o.proto ∧ (o.bare k d).above = o.above ∧ (o.bare k d).next = o.next + 1 := by
  obtain ⟨a, b, c⟩ := plus_fields o k d
  unfold Ob.bare
  split
  · unfold Ob.lost; exact ⟨a, b, c⟩
  · exact ⟨a, b, c⟩
theorem inv_put (h : H.inv n) (o : Int) (k : ByteArray) (d : De) : (putF H o k d).inv (n + 1) := by
  unfold putF
  cases ho : obI H o with
  | none => exact h.mono (by omega)
  | some i =>
    simp only
    cases hi : H.obs[i]? with
    | none => exact h.mono (by omega)
    | some ob =>
      simp only
      have hob := List.mem_of_getElem? hi
      have hnt := h.neat ob hob
      have hnx := h.nx ob hob
      have hms := h.hms ob hob
      unfold putH
      cases hp : plc ob.ps k with
      | some m =>
        simp only
        obtain ⟨⟨p, hps, _⟩, _⟩ := plc_some hp
        have hpa : prAt ob.ps m = p := by unfold prAt; rw [hps]; rfl
        rw [hpa]
        unfold replH
        split
        · exact h.one (n' := n + 1) hi rfl rfl id (setD_neat hnt hps _ _ _) (fun e => hms (by assumption)) (by show ob.next ≤ _; omega) (by omega)
        · exact h.one (n' := n + 1) hi rfl rfl id (setD_neat hnt hps _ ob.shape ob.shaped) hms (by show ob.next ≤ _; omega) (by omega)
      | none =>
        simp only
        split
        · rename_i c
          have hm := hms c.1
          have hpl : ob.plus k (keptD d) = ob.added k (keptD d) := by
            unfold Ob.plus
            rw [if_neg (by rw [hm]; simp; omega)]
          have hn2 := hnt.plus hp (keptD d)
          rw [hpl] at hn2
          exact h.one (n' := n + 1) (H' := layH (touchH H ob.cell) i ob k (keptD d)) hi rfl rfl id (hn2.shp _ _ _ _ _ _ _ _) (fun _ => hm) (by show ob.next + 1 ≤ _; omega) (by omega)
        · rename_i c
          obtain ⟨b1, b2, b3⟩ := bare_fields ob k (keptD d)
          refine h.one (n' := n + 1) (H' := { touchH H ob.cell with obs := H.obs.set i (ob.bare k (keptD d)) }) hi rfl b1 (fun e => by rw [b2]; exact e) (hnt.bare hp (keptD d)) (fun e => ?_) (by rw [b3]; omega) (by omega)
          unfold Ob.bare at e ⊢
          split at e
          · cases e
          · rename_i c16
            have hsd : (ob.plus k (keptD d)).shaped = ob.shaped := by
              unfold Ob.plus
              split
              · unfold Ob.mapped; rfl
              · unfold Ob.added; rfl
            rw [hsd] at e
            exact absurd ⟨e, by omega⟩ c
theorem inv_make (h : H.inv n) (hn : 0 ≤ n) (kind p : Int) : (makeF H kind p).inv n := by
  unfold makeF
  split
  · exact h
  · rename_i c
    have hp : mayB H p = true := by
      unfold mkNo at c
      simp only [Bool.or_eq_true, decide_eq_true_eq, Bool.not_eq_true', not_or] at c
      cases q : mayB H p with
      | true => rfl
      | false => exact absurd q c.1.2
    have hr := h.raise p
    have hlen := (raise_len H p).1
    exact hr.push (H' := makeH H kind p) (p := p) (by rw [mayB_len hlen]; exact hp) (fun y hy => raised hy) rfl rfl ⟨List.nodup_nil, List.Pairwise.nil, fun q hq => by simp at hq, by simp, fun e => by cases e⟩ (fun _ => rfl) hn
theorem inv_cell (h : H.inv n) (i : Nat) (c : Int) : (cellH i (H, c)).1.inv n := by
  unfold cellH
  simp only
  cases hi : H.obs[i]? with
  | none => exact h.obs rfl (Int.le_refl _)
  | some ob =>
    have hob := List.mem_of_getElem? hi
    exact h.one (n' := n) hi rfl rfl id ((h.neat ob hob).shp _ _ _ _ _ _ _ _) (h.hms ob hob) (h.nx ob hob) (Int.le_refl _)
theorem inv_cells (h : H.inv n) (c : Int) : ∀ l : List Nat, (l.foldr cellH (H, c)).1.inv n
  | [] => h
  | i :: l => by
    rw [List.foldr_cons]
    have := inv_cells h c l
    generalize l.foldr cellH (H, c) = S at *
    obtain ⟨SH, sc⟩ := S
    exact inv_cell this i sc
theorem inv_guard (h : H.inv n) (p : Int) : (guardH H p).1.inv n := inv_cells h _ _
theorem abv_same {H' : He} (hs : ∀ o, (obO H' o).map Ob.proto = (obO H o).map Ob.proto) (o : Int) : ∀ (N : Nat) (p : Int), abvF H' o N p = abvF H o N p
  | 0, p => rfl
  | N + 1, p => by
    have hh := hs p
    cases hq : obO H p with
    | none =>
      rw [hq] at hh
      have : obO H' p = none := by simpa using hh
      rw [abv_none hq, abv_none this]
    | some ob =>
      rw [hq] at hh
      cases hq' : obO H' p with
      | none => rw [hq'] at hh; simp at hh
      | some ob' =>
        rw [hq'] at hh
        have e : ob'.proto = ob.proto := by simpa using hh
        rw [abv_step hq, abv_step hq', e, abv_same hs o N ob.proto]
theorem raise_proto (H : He) (p q : Int) : (obO (raiseH H p) q).map Ob.proto = (obO H q).map Ob.proto := by
  unfold raiseH
  cases hp : obI H p with
  | none => rfl
  | some j =>
    simp only
    cases hj : H.obs[j]? with
    | none => rfl
    | some ob =>
      simp only
      have := setO_at (H := H) (ob' := { ob with above := true }) (o := q) (List.getElem?_eq_some_iff.1 hj).1
      show (obO (H.setO j { ob with above := true }) q).map Ob.proto = _
      rw [this]
      by_cases c : obI H q = some j
      · rw [if_pos c]
        have : obO H q = some ob := by unfold obO; rw [c]; exact hj
        rw [this]
        rfl
      · rw [if_neg c]
/-- another prototype -/
theorem inv_other (h : H.inv n) {o p : Int} {i : Nat} {ob : Ob} (ho : obI H o = some i) (hi : H.obs[i]? = some ob) (hne : ¬ p = o) (hm : mayB H p = true) (hab : abvF H o H.obs.length p = false) (hr : ∀ y, obO H p = some y → y.above = true) : (H.setO i { ob with proto := p }).inv n := by
  have hil := (List.getElem?_eq_some_iff.1 hi).1
  have hob := List.mem_of_getElem? hi
  have huniq : ∀ q, obI H q = some i → q = o := fun q hq => by
    have e1 := (obI_some hq).2.2.2
    have e2 := (obI_some ho).2.2.2
    rw [e1, e2]
  have hmem : ∀ x ∈ (H.setO i { ob with proto := p }).obs, x ∈ H.obs ∨ x = { ob with proto := p } := fun x hx => List.mem_or_eq_of_mem_set hx
  have hlen : (H.setO i { ob with proto := p }).obs.length = H.obs.length := by unfold He.setO; simp
  refine ⟨fun x hx => ?_, fun x hx => ?_, fun x hx => ?_, acy_proto h.acy ho hi huniq hne hab, fun x hx ob2 h2 => ?_, fun x hx => ?_⟩
  · rcases hmem x hx with q | rfl
    · exact h.neat x q
    · exact (h.neat ob hob).shp _ _ _ _ _ _ _ _
  · rcases hmem x hx with q | rfl
    · exact h.hms x q
    · exact h.hms ob hob
  · rcases hmem x hx with q | rfl
    · exact h.nx x q
    · exact h.nx ob hob
  · have key : ∀ q, (∀ y, obO H q = some y → y.above = true) → ∀ y, obO (H.setO i { ob with proto := p }) q = some y → y.above = true := fun q hq y hy => by
      rw [setO_at hil] at hy
      by_cases c : obI H q = some i
      · rw [if_pos c] at hy
        obtain rfl := Option.some.inj hy
        exact hq ob (by unfold obO; rw [c]; exact hi)
      · rw [if_neg c] at hy
        exact hq y hy
    rcases hmem x hx with q | rfl
    · exact key _ (fun y hy => h.abv x q y hy) ob2 h2
    · exact key p hr ob2 h2
  · rw [mayB_len hlen]
    rcases hmem x hx with q | rfl
    · exact h.pr x q
    · exact hm
theorem inv_proto (h : H.inv n) (o p : Int) : (setPF H o p).inv n := by
  unfold setPF
  cases ho : obI H o with
  | none => exact h
  | some i =>
    simp only
    cases hi : H.obs[i]? with
    | none => exact h
    | some ob =>
      simp only
      split
      · exact h
      · rename_i c
        have hm : mayB H p = true := by
          cases q : mayB H p with
          | true => rfl
          | false => exact absurd (Or.inr (Or.inl q)) c
        have hs : saB H o p = false := by
          cases q : saB H o p with
          | false => rfl
          | true => exact absurd (Or.inr (Or.inr q)) c
        have hne : ¬ p = o := fun e => by
          unfold saB at hs
          rw [decide_eq_true e] at hs
          cases hs
        have hab : abvF H o H.obs.length p = false := by
          unfold saB at hs
          rw [decide_eq_false hne] at hs
          simpa using hs
        have hpo : obI H p ≠ some i := fun e => hne (by
          have e1 := (obI_some e).2.2.2
          have e2 := (obI_some ho).2.2.2
          rw [e1, e2])
        have hr := (inv_touch h ob.cell).raise p
        have hlen := (raise_len (touchH H ob.cell) p).1
        have hi3 : (raiseH (touchH H ob.cell) p).obs[i]? = some ob := raise_other (H := touchH H ob.cell) hi hpo
        have ho3 : obI (raiseH (touchH H ob.cell) p) o = some i := by rw [obI_len hlen]; exact ho
        have hsame : ∀ q, (obO (raiseH (touchH H ob.cell) p) q).map Ob.proto = (obO H q).map Ob.proto := fun q => by
          rw [raise_proto]
          rfl
        have habv : abvF (raiseH (touchH H ob.cell) p) o (raiseH (touchH H ob.cell) p).obs.length p = false := by
          rw [hlen, abv_same hsame]
          exact hab
        have hpre : (preH H i ob p).inv n := inv_other hr ho3 hi3 hne (by rw [mayB_len hlen]; exact hm) habv (fun y hy => raised hy)
        unfold setPH
        split
        · have hob := List.mem_of_getElem? hi
          have hi4 : (preH H i ob p).obs[i]? = some { ob with proto := p } := by
            unfold preH
            exact List.getElem?_set_self (List.getElem?_eq_some_iff.1 hi3).1
          refine hpre.one (n' := n) hi4 rfl rfl id ((h.neat ob hob).shp _ _ _ _ _ _ _ _) (fun _ => h.hms ob hob (by assumption)) (h.nx ob hob) (Int.le_refl _)
        · exact hpre
end
end Go.Proofs.YtkpdpdllbnihgaaGreat.Hp
