/- Lookup. -/
import Derived.Test.YtahhionlbfhinaaDoorB15
namespace Go.Proofs.YtahhionlbfhinaaDoor.Hp
open Go.RowKit
set_option linter.unusedVariables false

/-- from a word on prototypes come to an end within n -/
def EndsH (H : He) : Nat → Int → Prop
  | 0, o => obO H o = none
  | n + 1, o => obO H o = none ∨ ∃ ob, obO H o = some ob ∧ EndsH H n ob.proto
def lookF (H : He) (k : ByteArray) : Nat → Int → Option (Int × De)
  | 0, _ => none
  | n + 1, o => match obO H o with
    | none => none
    | some ob => match ownO ob k with
      | some d => some (o, d)
      | none => lookF H k n ob.proto

theorem look_none {H : He} {k : ByteArray} {o : Int} (h : obO H o = none) : ∀ n, lookF H k n o = none
  | 0 => rfl
  | n + 1 => by unfold lookF; rw [h]

theorem ends_step {H : He} {g : Nat} {o : Int} {ob : Ob} (he : EndsH H g o) (hq : obO H o = some ob) : ∃ g', g = g' + 1 ∧ EndsH H g' ob.proto := by
  cases g with
  | zero =>
    have he : obO H o = none := he
    rw [hq] at he
    cases he
  | succ g' =>
    have he : obO H o = none ∨ ∃ ob, obO H o = some ob ∧ EndsH H g' ob.proto := he
    rcases he with q | ⟨ob', q1, q2⟩
    · rw [hq] at q; cases q
    · rw [hq] at q1; cases q1; exact ⟨g', rfl, q2⟩
theorem look_step {H : He} {k : ByteArray} {n : Nat} {o : Int} {ob : Ob} (hq : obO H o = some ob) : lookF H k (n + 1) o = match ownO ob k with
    | some d => some (o, d)
    | none => lookF H k n ob.proto := by
  rw [lookF, hq]

section
variable {w w' w1 : World} {B hb : Nat} {O S : Nat → Prop} {H H' : He} {M M' : HV} {tg : Nat → Nat}

/-- on the way up -/
structure LkAt (w W : World) (H : He) (k : ByteArray) (R : Option (Int × De)) (o : Int) (g : Nat) : Prop where
  o0 : 0 ≤ o
  o1 : o < 18446744073709551616
  bel : Below w.heap.size w W
  bx : Bx3 W w.heap.size zDe
  en : EndsH H g o
  lk : R = lookF H k g o

set_option maxRecDepth 100000 in
set_option maxHeartbeats 1000000 in
theorem lookup_at (h : HeapAt w B hb tg H M) (hn : H.neat) (o : Int) (o0 : 0 ≤ o) (o1 : o < 18446744073709551616) (k : ByteArray) (hk : k.size ≤ maxLen) (N : Nat) (he : EndsH H N o) :
    Calls Tryd.prog 12 #[.pointer (some ⟨hb, 0, none⟩), .int .u64 o, .string k] w fun e w' => e = .returned (.tuple #[.int .u64 (((lookF H k N o).map Prod.fst).getD undW), deV (((lookF H k N o).map Prod.snd).getD zDe), .bool (lookF H k N o).isSome]) ∧ Below w.heap.size w w' := by
  generalize hR : lookF H k N o = R at *
  obtain ⟨wb, hwb⟩ : ∃ wb, wb = w.alloc (.cells #[.int .u64 0, .int .u64 0, .int .i64 0] 37) := ⟨_, rfl⟩
  have hB : Below w.heap.size w wb := by rw [hwb]; exact (Below.refl _ _).alloc (Nat.le_refl _) _
  have hbx : Bx3 wb w.heap.size zDe := by rw [hwb]; exact Bx3.new w
  have HS : Hid (LkAt w wb H k R o N) := ⟨o0, o1, hB, hbx, he, hR.symm⟩
  have HH : Hid (HeapAt w B hb tg H M) := h
  have HN : Hid H.neat := hn
  have HK : Hid (k.size ≤ maxLen) := hk
  clear h hn hk he hR hB hbx o0 o1
  go_enter Tryd.func12, Tryd.ntmps12
  go_wp2_with fail
  rw [← hwb]
  clear hwb
  go_loopg [1] N (fun g s1 W0 => ∃ o', s1 = .int .u64 o' ∧ Hid (LkAt w W0 H k R o' g))
  case atStart => exact ⟨o, rfl, HS⟩
  case round =>
    clear HS
    obtain ⟨o', rfl, HL⟩ := hrel
    have hw := HH.out.below HL.out.bel
    have ki := isObject_at hw o' HL.out.o0 HL.out.o1
    cases hq : obO H o' with
    | none =>
      have HR : Hid (R = none) := by show R = _; rw [HL.out.lk]; exact look_none hq _
      rw [hq] at ki
      simp only [Option.isSome_none] at ki
      obtain ⟨f0, f1, f2⟩ := HL.out.bx.fz
      obtain ⟨b0, b1, b2⟩ := HL.out.bx.ce
      unfold zDe at b0 b1 b2
      have HF : Hid (Bx3 (st3 wr w.heap.size zDe) w.heap.size zDe ∧ Below w.heap.size w (st3 wr w.heap.size zDe)) := ⟨HL.out.bx.put _, st3_below HL.out.bel (Nat.le_refl _) _⟩
      clear HL hw HH HN HK hq
      go_wp2_with fail
      refine ki.mono ?_
      rintro e w2 ⟨rfl, rfl⟩
      clear ki
      go_wp2_with fail
      refine bodyPost_ret (res3 rfl _ _ w.heap.size 37 _ (0, 0) _ rfl HF.out.1 Tryd.underlying37 rfl (by kernel_rfl)) rfl ?_
      rw [HR.out]
      exact ⟨rfl, HF.out.2⟩
    | some ob =>
      rw [hq] at ki
      simp only [Option.isSome_some] at ki
      have ko := own_at hw HN.out o' HL.out.o0 HL.out.o1 k HK.out
      have kp := fun W (q : Below wr.heap.size wr W) => proto_any (HH.out.below (HL.out.bel.trans (q.mono HL.out.bel.size))) o' HL.out.o0 HL.out.o1
      rw [hq] at kp
      simp only [Option.map_some, Option.getD_some] at kp
      have hoo : ownH H o' k = ownO ob k := by unfold ownH; rw [hq]; rfl
      rw [hoo] at ko
      obtain ⟨g', rfl, hen⟩ := ends_step HL.out.en hq
      have hlk := HL.out.lk
      rw [look_step hq] at hlk
      have hpr := (HH.out.wf.ob ob (obO_mem hq)).pr
      have HBX : Hid (∀ W, Below wr.heap.size wr W → ∀ d, Bx3 W w.heap.size zDe ∧ Bx3 (st3 W w.heap.size d) w.heap.size d ∧ Below w.heap.size w W ∧ Below w.heap.size w (st3 W w.heap.size d)) := fun W q d => by
        have q2 := HL.out.bel.trans (q.mono HL.out.bel.size)
        exact ⟨HL.out.bx.below q, (HL.out.bx.below q).put _, q2, st3_below q2 (Nat.le_refl _) _⟩
      cases hw2 : ownO ob k with
      | some d =>
        rw [hw2] at hlk ko
        simp only [Option.getD_some, Option.isSome_some] at ko
        have HR : Hid (R = some (o', d)) := hlk
        clear hlk
        unfold deV at *
        clear HL hw HH HN HK hq kp hoo hen hpr hw2
        go_wp2_with fail
        refine ki.mono ?_
        rintro e w2 ⟨rfl, rfl⟩
        clear ki
        go_wp2_with fail
        refine ko.mono ?_
        rintro e w3 ⟨rfl, hB3⟩
        have hB4 : Below w2.heap.size w2 (w3.alloc (.cells #[.int .u64 d.va, .int .u64 d.se, .int .i64 d.fl] 37)) := hB3.alloc hB3.size _
        have hb4 := Bx3.box w3 d
        obtain ⟨q1, q2, q3, q4⟩ := HBX.out _ hB4 d
        obtain ⟨f0, f1, f2⟩ := q1.fz
        obtain ⟨b0, b1, b2⟩ := q1.ce
        unfold zDe at b0 b1 b2
        obtain ⟨c0, c1, c2⟩ := hb4.ce
        have HF : Hid (Bx3 (st3 (w3.alloc (.cells #[.int .u64 d.va, .int .u64 d.se, .int .i64 d.fl] 37)) w.heap.size d) w.heap.size d ∧ Below w.heap.size w (st3 (w3.alloc (.cells #[.int .u64 d.va, .int .u64 d.se, .int .i64 d.fl] 37)) w.heap.size d)) := ⟨q2, q4⟩
        clear ko HBX hB3 hB4 hb4 q1 q2 q3 q4
        go_wp2_with fail
        generalize w3.alloc (.cells #[.int .u64 d.va, .int .u64 d.se, .int .i64 d.fl] 37) = w4 at *
        go_region
        all_goals
          go_wp2_with fail
          refine bodyPost_ret (res3 rfl _ _ w.heap.size 37 _ (0, 0) _ rfl HF.out.1 Tryd.underlying37 rfl (by kernel_rfl)) rfl ?_
          rw [HR.out]
          exact ⟨rfl, ⟨HF.out.2.os, HF.out.2.tape, HF.out.2.output, HF.out.2.size, HF.out.2.block⟩⟩
      | none =>
        rw [hw2] at hlk ko
        simp only [Option.getD_none, Option.isSome_none] at ko
        have HNX : Hid (∀ W, Below wr.heap.size wr W → LkAt w W H k R ob.proto g') := fun W q => ⟨hpr.1, hpr.2, (HBX.out W q zDe).2.2.1, (HBX.out W q zDe).1, hen, hlk⟩
        generalize ob.proto = o2 at *
        unfold deV zDe at ko
        clear HL hw HH HN HK hq hoo hen hpr hw2 hlk HBX
        go_wp2_with fail
        refine ki.mono ?_
        rintro e w2 ⟨rfl, rfl⟩
        clear ki
        go_wp2_with fail
        refine ko.mono ?_
        rintro e w3 ⟨rfl, hB3⟩
        have hB4 : Below w2.heap.size w2 (w3.alloc (.cells #[.int .u64 0, .int .u64 0, .int .i64 0] 37)) := hB3.alloc hB3.size _
        have kp2 := kp _ hB4
        have HN2 : Hid (LkAt w (w3.alloc (.cells #[.int .u64 0, .int .u64 0, .int .i64 0] 37)) H k R o2 g') := HNX.out _ hB4
        clear ko kp hB4 HNX hB3
        go_wp2_with fail
        refine kp2.mono ?_
        rintro e w5 ⟨rfl, rfl⟩
        clear kp2
        go_wp2_with fail
        go_roundg g'
        case measure => omega
        case rel => exact ⟨o2, rfl, HN2⟩

end

end Go.Proofs.YtahhionlbfhinaaDoor.Hp
