/- Drop. -/
import Derived.Test.YtkpdpdllbnihgaaIT
import Derived.Test.YtkpdpdllbnihgaaIK
namespace Go.Proofs.Ytkpdpdllbnihgaa.Hp
open Go.RowKit
set_option linter.unusedVariables false

/-- what Drop leaves, where the name is there -/
def dropH (H : He) (i : Nat) (ob : Ob) (n : Nat) : He := { touchH H ob.cell with obs := H.obs.set i (ob.less n).lost }

section
variable {w w' w1 : World} {B hb : Nat} {O S : Nat → Prop} {H H' : He} {M M' : HV} {tg : Nat → Nat}

set_option maxRecDepth 100000 in
set_option maxHeartbeats 4000000 in
theorem drop_miss (h : HeapAt w B hb tg H M) (o : Int) (o0 : 0 ≤ o) (o1 : o < 18446744073709551616) {i : Nat} {ob : Ob} (ho : obI H o = some i) (hi : H.obs[i]? = some ob) (hnt : ob.neat) (k : ByteArray) (hk : k.size ≤ maxLen) (hno : plc ob.ps k = none) :
    Calls Try.prog 18 #[.pointer (some ⟨hb, 0, none⟩), .int .u64 o, .string k] w fun e w' => e = .returned (.bool false) ∧ Below w.heap.size w w' := by
  obtain ⟨g, cap, ov, hvo, hov, _⟩ := h.obj hi
  have ka := at_hit h o o0 o1 i g cap ho hvo
  have kf := (show FindB _ _ _ _ _ from find_any (ob := ob) h hi hvo hnt k hk)
  rw [hno] at kf
  unfold FindB at kf
  rw [show nOf none = 0 from rfl] at kf
  simp only [Option.isSome_none] at kf
  clear h ho hi hnt hk hno hvo hov
  go_enter Try.func18, Try.ntmps18
  go_wp2_with fail
  refine ka.mono ?_
  rintro e w2 ⟨rfl, rfl⟩
  clear ka
  go_wp2_with fail
  refine kf.mono ?_
  rintro e w3 ⟨rfl, hB⟩
  have HB := (show Hid _ from hB)
  clear kf hB
  go_wp2_with fail
  go_ret
  exact ⟨rfl, HB.out⟩

set_option maxRecDepth 100000 in
set_option maxHeartbeats 4000000 in
theorem drop_hit (h : HeapAt w B hb tg H M) (o : Int) (o0 : 0 ≤ o) (o1 : o < 18446744073709551616) {i : Nat} {ob : Ob} (ho : obI H o = some i) (hi : H.obs[i]? = some ob) (hnt : ob.neat) (k : ByteArray) (hk : k.size ≤ maxLen) {n : Nat} (hn : plc ob.ps k = some n) :
    Calls Try.prog 18 #[.pointer (some ⟨hb, 0, none⟩), .int .u64 o, .string k] w fun e w' => e = .returned (.bool true) ∧ ∃ M', M'.vo = M.vo ∧ WentM w B hb tg (dropH H i ob n) M' w' := by
  obtain ⟨g, cap, ov, hvo, hov, _⟩ := h.obj hi
  have hil : i < H.obs.length := (List.getElem?_eq_some_iff.1 hi).1
  have ka := at_hit h o o0 o1 i g cap ho hvo
  have kf := (show FindB _ _ _ _ _ from find_any (ob := ob) h hi hvo hnt k hk)
  obtain ⟨⟨p, hp, _⟩, _⟩ := plc_some hn
  have hnl : n < ob.ps.length := (List.getElem?_eq_some_iff.1 hp).1
  rw [hn] at kf
  unfold FindB at kf
  rw [show nOf (some n) = (n : Int) from rfl] at kf
  simp only [Option.isSome_some] at kf
  have HT : Hid (∀ w2, Below w.heap.size w w2 → Calls Try.prog 34 #[.pointer (some ⟨hb, 0, none⟩), .pointer (some ⟨g, i * 12, none⟩)] w2 (fun e w3 => e = .returned (.tuple #[]) ∧
      Calls Try.prog 40 #[.pointer (some ⟨g, i * 12 + 4, none⟩), .int .i64 n] w3 (fun e w4 => e = .returned (.tuple #[]) ∧
      Calls Try.prog 41 #[.pointer (some ⟨g, i * 12, none⟩)] w4 (fun e w5 => e = .returned (.tuple #[]) ∧ ∃ M', M'.vo = M.vo ∧ WentM w B hb tg (dropH H i ob n) M' w5)))) := fun w2 hB => by
    refine (touch_at (h.below hB) hi hvo).mono ?_
    rintro e w3 ⟨rfl, tg3, h3, s1, s2⟩
    refine ⟨rfl, (drop_at (ob := ob) h3 hi hvo hnt hnl).mono ?_⟩
    rintro e w4 ⟨rfl, M4, hM4, tg4, h4, s3, s4⟩
    have hi4 : ({ touchH H ob.cell with obs := (touchH H ob.cell).obs.set i (ob.less n) } : He).obs[i]? = some (ob.less n) := List.getElem?_set_self hil
    refine ⟨rfl, (lose_at h4 hi4 (g := g) (cap := cap) (by rw [hM4]; simp only [List.length_set]; exact hvo)).mono ?_⟩
    rintro e w5 ⟨rfl, hq⟩
    refine ⟨rfl, M4, hM4, ?_⟩
    simp only [List.set_set] at hq
    exact WentM.behind hB (WentM.next s1 s2 (WentM.next s3 s4 hq))
  generalize dropH H i ob n = HN at *
  clear h ho hi hnt hk hn hvo hov hil hp hnl
  go_enter Try.func18, Try.ntmps18
  go_wp2_with fail
  refine ka.mono ?_
  rintro e w2 ⟨rfl, rfl⟩
  clear ka
  go_wp2_with fail
  refine kf.mono ?_
  rintro e w3 ⟨rfl, hB⟩
  have kt := HT.out w3 hB
  clear kf hB HT
  go_wp2_with fail
  refine kt.mono ?_
  rintro e w4 ⟨rfl, kd⟩
  clear kt
  go_wp2_with fail
  refine kd.mono ?_
  rintro e w5 ⟨rfl, kl⟩
  clear kd
  go_wp2_with fail
  refine kl.mono ?_
  rintro e w6 ⟨rfl, hq⟩
  have HQ := (show Hid _ from hq)
  clear kl hq
  go_wp2_with fail
  go_ret
  exact ⟨rfl, HQ.out⟩

end

end Go.Proofs.Ytkpdpdllbnihgaa.Hp

/- replace: its region that draws. -/
namespace Go.Proofs.Ytkpdpdllbnihgaa.Hp
open Go.RowKit
set_option linter.unusedVariables false

/-- a region of a body, by its number -/
def regN (n : Nat) : Code → Option Code
  | .region k ops d => if k = n then some (.region k ops d) else none
  | .seq a b => match regN n a with
    | some c => some c
    | none => regN n b
  | .cond _ a b => match regN n a with
    | some c => some c
    | none => regN n b
  | .block _ c => regN n c
  | .loop c => regN n c
  | .scope c => regN n c
  | _ => none

def PQ (Q : World → Prop) : Exit → Act → World → Prop := fun e a w' => match e with
  | .normal => a.defers = [] ∧ Q w'
  | _ => False

set_option maxRecDepth 100000 in
set_option maxHeartbeats 8000000 in
theorem replReg (w3 : World) (hb g off gl lo xb tb : Nat) (sh fl sh2 : Int) (ok2 : Bool) (pk : ByteArray) (Q : World → Prop)
    (a0 : w3.cell? ⟨xb, 2, none⟩ = some (.int .i64 fl)) (a1 : w3.cell? ⟨hb, 3, none⟩ = some (.pointer (some ⟨tb, 0, none⟩))) (a2 : w3.cell? ⟨g, off + 9, none⟩ = some (.int .i64 sh)) (a4 : w3.cell? ⟨gl, lo, none⟩ = some (.string pk))
    (ktr : Calls Try.prog 52 #[.pointer (some ⟨tb, 0, none⟩), .int .i64 sh, .string pk, .int .i64 fl] w3.drew (fun e w' => e = .returned (.tuple #[.int .i64 sh2, .bool ok2]) ∧ ((w'.cell? ⟨g, off + 9, none⟩ = some (.int .i64 sh) ∧ w'.cell? ⟨g, off + 10, none⟩ = some (.bool true) ∧ w'.frozen? ⟨g, off + 9, none⟩ = false ∧ w'.frozen? ⟨g, off + 10, none⟩ = false) ∧ Q ((w'.setCell ⟨g, off + 9, none⟩ (.int .i64 sh2)).setCell ⟨g, off + 10, none⟩ (.bool ok2)))))
    (c2 c3 c4 c5 c6 c9 c10 c11 c12 c13 c14 c15 c16 c17 c18 c19 c20 c21 c22 c23 c24 c25 c26 c27 c28 c29 c30 c31 c32 c33 c34 c35 c36 c37 c38 c39 c40 c41 c42 c43 c44 c45 c46 c47 : Value) :
    Code.wp Try.prog ((Try.f38.body.bind (regN 4)).getD .skip) (PQ Q) ⟨#[.pointer (some ⟨hb, 0, none⟩), .pointer (some ⟨g, off, none⟩), c2, c3, c4, c5, c6, .pointer (some ⟨xb, 0, none⟩), .pointer (some ⟨gl, lo, none⟩), c9, c10, c11, c12, c13, c14, c15, c16, c17, c18, c19, c20, c21, c22, c23, c24, c25, c26, c27, c28, c29, c30, c31, c32, c33, c34, c35, c36, c37, c38, c39, c40, c41, c42, c43, c44, c45, c46, c47], []⟩ w3 := by
  conv => arg 2; whnf
  first
  | (go_region_with ((go_at_call 52; refine ktr.mono ?_; rintro e w5 ⟨rfl, ⟨y1, y2, y3, y4⟩, hq⟩; have HQ := (show Hid _ from hq); clear hq)))
  | fail
  all_goals exact ⟨rfl, HQ.out⟩

end Go.Proofs.Ytkpdpdllbnihgaa.Hp
