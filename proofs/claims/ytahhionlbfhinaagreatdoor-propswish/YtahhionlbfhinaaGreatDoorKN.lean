/- props.lay. -/
import Derived.Test.YtahhionlbfhinaaGreatDoorKI
import Derived.Test.YtahhionlbfhinaaGreatDoorB22
import Derived.Test.YtahhionlbfhinaaGreatDoorB23
namespace Go.Proofs.YtahhionlbfhinaaGreatDoor.Hp
open Go.RowKit
set_option linter.unusedVariables false

def payZ (a : Int) : Int := if isT a 65529 then wrap32 (a % 4294967296) else 0

set_option maxHeartbeats 400000 in
theorem payI_any (a t : Int) (w : World) (h0 : 0 ≤ a) (h1 : a < 18446744073709551616) (t0 : 0 ≤ t) (t1 : t < 65536) :
    Calls Tryz.prog 123 #[.int .u64 a, .int .u64 t] w fun e w' => e = .returned (.tuple #[.int .i32 (if isT a t then wrap32 (a % 4294967296) else 0), .bool (isT a t)]) ∧ w' = w := by
  have hw : IntKind.u64.wrap (t * 65536) = t * 65536 := by rw [IntKind.wrap_u64]; omega
  have hu : wrap32 a = wrap32 (a % 4294967296) := by unfold wrap32; omega
  cases hc : isT a t with
  | true =>
    have hn : (a / 4294967296 != t * 65536) = false := by unfold isT at hc; rw [bne, hc]; rfl
    rw [if_pos rfl, ← hu]
    clear hc hu
    go_enter Tryz.func123, Tryz.ntmps123
    go_wp2
    go_ret2
    exact ⟨rfl, rfl⟩
  | false =>
    have hn : (a / 4294967296 != t * 65536) = true := by unfold isT at hc; rw [bne, hc]; rfl
    rw [if_neg (by decide)]
    clear hc hu
    go_enter Tryz.func123, Tryz.ntmps123
    go_wp2
    go_ret2
    exact ⟨rfl, rfl⟩

set_option maxHeartbeats 400000 in
theorem isInt_any (a : Int) (w : World) (h0 : 0 ≤ a) (h1 : a < 18446744073709551616) :
    Calls Tryz.prog 103 #[.int .u64 a] w fun e w' => e = .returned (.tuple #[.int .i32 (payZ a), .bool (isT a 65529)]) ∧ w' = w := by
  have c := fun w => payI_any a 65529 w h0 h1 (by omega) (by omega)
  unfold payZ
  generalize (if isT a 65529 then wrap32 (a % 4294967296) else 0) = x at *
  generalize isT a 65529 = y at *
  go_enter Tryz.func103, Tryz.ntmps103
  go_wp2_with (go_at_call 123; refine (c _).mono ?_; rintro e w1 ⟨rfl, rfl⟩)
  go_ret2
  exact ⟨rfl, rfl⟩

/-- what lay does -/
def layP (H : He) (i : Nat) (ob : Ob) (k : ByteArray) (d : De) : Bool × He :=
  if ob.kind = 1 then
    if k = lenS then
      if isT d.va 65529 = true ∧ d.fl = 1 ∧ 0 ≤ payZ d.va ∧ payZ d.va ≤ 4096 then (true, elH H i ob (resL ob.el (payZ d.va).toNat)) else (false, H)
    else match ixI k with
      | some n => if d.fl = 7 then (true, elH H i ob (setL ob.el n d.va)) else (false, H)
      | none => (true, putH H i ob k d)
  else (true, putH H i ob k d)

theorem ix_lt {k : ByteArray} {n : Nat} (h : ixI k = some n) : n < 4096 := by
  rw [ix_same] at h
  unfold rxI at h
  split at h
  · cases h
  · obtain ⟨_, h2⟩ := Option.filter_eq_some_iff.1 h
    exact of_decide_eq_true h2

section
variable {w w' w1 : World} {B hb : Nat} {O S : Nat → Prop} {H H' : He} {M M' : HV} {tg : Nat → Nat}

set_option maxRecDepth 100000 in
set_option maxHeartbeats 1000000 in
theorem lay_at (h : HeapAt w B hb tg H M) (o : Int) (o0 : 0 ≤ o) (o1 : o < 18446744073709551616) {i : Nat} {ob : Ob} (ho : obI H o = some i) (hi : H.obs[i]? = some ob) (hnt : ob.neat) (hms : ob.shaped = true → ob.hm = false) (k : ByteArray) (hk : k.size ≤ maxLen) (d : De) (hv : ob.kind = 1 → k = lenS → 0 ≤ d.va ∧ d.va < 18446744073709551616) (hnx : ob.next < 2000000000000) :
    Calls Tryz.prog 59 #[.pointer (some ⟨hb, 0, none⟩), .int .u64 o, .string k, deV d] w fun e w' => e = .returned (.bool (layP H i ob k d).1) ∧ ∃ M', WentM w B hb tg (layP H i ob k d).2 M' w' := by
  obtain ⟨wb, hwb⟩ : ∃ wb, wb = w.alloc (.cells #[.int .u64 d.va, .int .u64 d.se, .int .i64 d.fl] 41) := ⟨_, rfl⟩
  have hB : Below w.heap.size w wb := by rw [hwb]; exact (Below.refl _ _).alloc (Nat.le_refl _) _
  have hbx : Bx3 wb w.heap.size d := by rw [hwb]; exact Bx3.box w d
  have h2 := h.below hB
  have hq : obO H o = some ob := by unfold obO; rw [ho]; exact hi
  have ka := isArray_at h2 o o0 o1
  have harr : arrB H o = (ob.kind == 1) := by unfold arrB; rw [hq]; rfl
  rw [harr] at ka
  have kp := put_any h2 o o0 o1 ho hi hnt hms k hk d hnx
  obtain ⟨x0, x1, x2⟩ := hbx.ce
  have HW0 : Hid (∃ M', WentM w B hb tg H M' wb) := ⟨M, WentM.same h hB⟩
  have HBW : Hid (∀ H' M' w', WentM wb B hb tg H' M' w' → WentM w B hb tg H' M' w') := fun H' M' w' q => q.behind hB
  unfold layP
  unfold deV at *
  by_cases ck : ob.kind = 1
  · rw [show (ob.kind == 1) = true from by simpa using ck] at ka
    rw [if_pos ck]
    by_cases cl : k = lenS
    · rw [if_pos cl]
      have hee : (k.toList == [108, 101, 110, 103, 116, 104]) = true := by rw [cl, lenS_l]; rfl
      have hv := hv ck cl
      have ki := fun w => isInt_any d.va w hv.1 hv.2
      by_cases ct : isT d.va 65529 = true
      · rw [ct] at ki
        by_cases cf : d.fl = 1
        · by_cases cn : 0 ≤ payZ d.va ∧ payZ d.va ≤ 4096
          · rw [if_pos ⟨ct, cf, cn⟩]
            have hcv : IntKind.i64.wrap (payZ d.va) = payZ d.va := by rw [IntKind.wrap_i64]; omega
            obtain ⟨n, hn⟩ : ∃ n : Nat, payZ d.va = n := ⟨(payZ d.va).toNat, by omega⟩
            rw [hn] at ki cn
            have ks := setLen_at h2 o o0 o1 ho hi n (by omega)
            rw [hn, Int.toNat_natCast]
            have cf1 : (d.fl == 1) = true := by rw [cf]; rfl
            have hnn : (n : Int) ≤ 4096 := by omega
            generalize elH H i ob (resL ob.el n) = HR at *
            clear h h2 hB hbx hq harr kp ho hi hnt hms hk hv hnx ck cl ct cf cn hcv hn HW0
            go_enter Tryz.func59, Tryz.ntmps59
            go_upto_region 1 with fail
            rw [← hwb]
            clear hwb
            go_wp2_with fail
            refine ka.mono ?_
            rintro e w2 ⟨rfl, rfl⟩
            clear ka
            go_wp2_with fail
            refine (ki _).mono ?_
            rintro e w2 ⟨rfl, rfl⟩
            clear ki
            go_wp2_with fail
            refine ks.mono ?_
            rintro e w3 ⟨rfl, M3, hw3⟩
            have HW3 := (show Hid _ from HBW.out _ _ _ hw3)
            clear ks hw3 HBW
            go_wp2_with fail
            go_ret
            exact ⟨rfl, M3, HW3.out⟩
          · rw [if_neg (fun q => cn q.2.2)]
            have ks := setLen_no h2 o o0 o1 ho hi (payZ d.va) (by omega)
            have cf1 : (d.fl == 1) = true := by rw [cf]; rfl
            have hr : -2147483648 ≤ payZ d.va ∧ payZ d.va ≤ 2147483647 := by unfold payZ; split <;> (try unfold wrap32) <;> omega
            have HZ := (show Hid _ from hr)
            obtain ⟨hr1, hr2⟩ := hr
            generalize payZ d.va = z at *
            clear h h2 hB hbx hq harr kp ho hi hnt hms hk hv hnx ck cl ct cf cn HBW
            go_enter Tryz.func59, Tryz.ntmps59
            go_upto_region 1 with fail
            rw [← hwb]
            clear hwb
            go_wp2_with fail
            refine ka.mono ?_
            rintro e w2 ⟨rfl, rfl⟩
            clear ka
            go_wp2_with fail
            refine (ki _).mono ?_
            rintro e w2 ⟨rfl, rfl⟩
            clear ki
            go_wp2_with fail
            refine ks.mono ?_
            rintro e w3 ⟨rfl, rfl⟩
            clear ks
            go_wp2_with fail
            go_ret
            exact ⟨rfl, HW0.out⟩
        · rw [if_neg (fun q => cf q.2.1)]
          have cf1 : (d.fl == 1) = false := by simpa using cf
          generalize payZ d.va = z at *
          clear h h2 hB hbx hq harr kp ho hi hnt hms hk hv hnx ck cl ct cf HBW
          go_enter Tryz.func59, Tryz.ntmps59
          go_upto_region 1 with fail
          rw [← hwb]
          clear hwb
          go_wp2_with fail
          refine ka.mono ?_
          rintro e w2 ⟨rfl, rfl⟩
          clear ka
          go_wp2_with fail
          refine (ki _).mono ?_
          rintro e w2 ⟨rfl, rfl⟩
          clear ki
          go_wp2_with fail
          go_ret
          exact ⟨rfl, HW0.out⟩
      · rw [if_neg (fun q => ct q.1)]
        rw [show isT d.va 65529 = false from by simpa using ct] at ki
        generalize payZ d.va = z at *
        clear h h2 hB hbx hq harr kp ho hi hnt hms hk hv hnx ck cl ct HBW
        go_enter Tryz.func59, Tryz.ntmps59
        go_upto_region 1 with fail
        rw [← hwb]
        clear hwb
        go_wp2_with fail
        refine ka.mono ?_
        rintro e w2 ⟨rfl, rfl⟩
        clear ka
        go_wp2_with fail
        refine (ki _).mono ?_
        rintro e w2 ⟨rfl, rfl⟩
        clear ki
        go_wp2_with fail
        go_ret
        exact ⟨rfl, HW0.out⟩
    · rw [if_neg cl]
      have hee : (k.toList == [108, 101, 110, 103, 116, 104]) = false := by rw [← lenS_l]; exact Sp.bytes_no cl
      have kx := fun w => index_any k w hk
      cases hx : ixI k with
      | some n =>
        rw [hx] at kx
        simp only [Option.getD_some, Option.isSome_some] at kx
        have hn4 := ix_lt hx
        by_cases cf : d.fl = 7
        · have ks := setElem_at h2 o o0 o1 ho hi n hn4 d.va
          simp only [if_pos cf]
          have cf1 : (d.fl == 7) = true := by rw [cf]; rfl
          generalize elH H i ob (setL ob.el n d.va) = HR at *
          clear h h2 hB hbx hq harr kp ho hi hnt hms hk hv hnx ck cl cf HW0 hx hn4
          go_enter Tryz.func59, Tryz.ntmps59
          go_upto_region 1 with fail
          rw [← hwb]
          clear hwb
          go_wp2_with fail
          refine ka.mono ?_
          rintro e w2 ⟨rfl, rfl⟩
          clear ka
          go_wp2_with fail
          refine (kx _).mono ?_
          rintro e w2 ⟨rfl, rfl⟩
          clear kx
          go_wp2_with fail
          refine ks.mono ?_
          rintro e w3 ⟨rfl, M3, hw3⟩
          have HW3 := (show Hid _ from HBW.out _ _ _ hw3)
          clear ks hw3 HBW
          go_wp2_with fail
          go_ret
          exact ⟨rfl, M3, HW3.out⟩
        · simp only [if_neg cf]
          have cf1 : (d.fl == 7) = false := by simpa using cf
          clear h h2 hB hbx hq harr kp ho hi hnt hms hk hv hnx ck cl cf HBW hx hn4
          go_enter Tryz.func59, Tryz.ntmps59
          go_upto_region 1 with fail
          rw [← hwb]
          clear hwb
          go_wp2_with fail
          refine ka.mono ?_
          rintro e w2 ⟨rfl, rfl⟩
          clear ka
          go_wp2_with fail
          refine (kx _).mono ?_
          rintro e w2 ⟨rfl, rfl⟩
          clear kx
          go_wp2_with fail
          go_ret
          exact ⟨rfl, HW0.out⟩
      | none =>
        rw [hx] at kx
        simp only [Option.getD_none, Option.isSome_none] at kx
        simp only
        generalize putH H i ob k d = HR at *
        clear h h2 hB hbx hq harr ho hi hnt hms hk hv hnx ck cl HW0 hx
        go_enter Tryz.func59, Tryz.ntmps59
        go_upto_region 1 with fail
        rw [← hwb]
        clear hwb
        go_wp2_with fail
        refine ka.mono ?_
        rintro e w2 ⟨rfl, rfl⟩
        clear ka
        go_wp2_with fail
        refine (kx _).mono ?_
        rintro e w2 ⟨rfl, rfl⟩
        clear kx
        go_wp2_with fail
        refine kp.mono ?_
        rintro e w3 ⟨rfl, M3, _, hw3⟩
        have HW3 := (show Hid _ from HBW.out _ _ _ hw3)
        clear kp hw3 HBW
        go_wp2_with fail
        go_ret
        exact ⟨rfl, M3, HW3.out⟩
  · rw [show (ob.kind == 1) = false from by simpa using ck] at ka
    rw [if_neg ck]
    generalize putH H i ob k d = HR at *
    clear h h2 hB hbx hq harr ho hi hnt hms hk hv hnx ck HW0
    go_enter Tryz.func59, Tryz.ntmps59
    go_upto_region 1 with fail
    rw [← hwb]
    clear hwb
    go_wp2_with fail
    refine ka.mono ?_
    rintro e w2 ⟨rfl, rfl⟩
    clear ka
    go_wp2_with fail
    refine kp.mono ?_
    rintro e w3 ⟨rfl, M3, _, hw3⟩
    have HW3 := (show Hid _ from HBW.out _ _ _ hw3)
    clear kp hw3 HBW
    go_wp2_with fail
    go_ret
    exact ⟨rfl, M3, HW3.out⟩

end

end Go.Proofs.YtahhionlbfhinaaGreatDoor.Hp
