/- Assign. -/
import Derived.Test.YtahhionlbfhinaaGreatDoorKO
import Derived.Test.YtahhionlbfhinaaGreatDoorB24
namespace Go.Proofs.YtahhionlbfhinaaGreatDoor.Hp
open Go.RowKit
set_option linter.unusedVariables false

def wsAll (v : Int) : Ws := ⟨15, v, 0, 0, 7⟩
def wsVal (v : Int) : Ws := ⟨1, v, 0, 0, 0⟩
theorem wsAll_ok {v : Int} (hv : 0 ≤ v ∧ v < 18446744073709551616) : (wsAll v).ok := ⟨hv, (by decide : (0 : Int) ≤ 0), (by decide : (0 : Int) < 18446744073709551616)⟩
theorem wsVal_ok {v : Int} (hv : 0 ≤ v ∧ v < 18446744073709551616) : (wsVal v).ok := ⟨hv, (by decide : (0 : Int) ≤ 0), (by decide : (0 : Int) < 18446744073709551616)⟩

/-- the end of Assign -/
def asgE (r : Bool × He) : Int × Int × He := (undW, if r.1 = true then 0 else 1, r.2)
/-- what Assign does -/
def asgP (H : He) (o : Int) (k : ByteArray) (v : Int) (N : Nat) : Int × Int × He :=
  match lookF H k N o with
  | none => asgE (defP H o k (wsAll v))
  | some (p, d) =>
    if accB d = true then (if d.se = undW then (undW, 1, H) else (d.se, 2, H))
    else if (bits .and .i64 d.fl 1 == 0) = true then (undW, 1, H)
    else if p = o then asgE (defP H o k (wsVal v)) else asgE (defP H o k (wsAll v))

theorem box5 (w : World) (u : Ws) : Bx5 (w.alloc (.cells #[.int .i64 u.has, .int .u64 u.va, .int .u64 u.ge, .int .u64 u.se, .int .i64 u.fl] 35)) w.heap.size u := at_new _ _
theorem Bx5.fz {W : World} {b : Nat} {u : Ws} (h : Bx5 W b u) : W.frozen? ⟨b, 0, none⟩ = false ∧ W.frozen? ⟨b, 4, none⟩ = false := ⟨frozen_of_row W b 0 _ _ h, frozen_of_row W b 4 _ _ h⟩
theorem Bx5.two {W : World} {b : Nat} {u : Ws} (h : Bx5 W b u) (x y : Int) : Bx5 ((W.setCell ⟨b, 0, none⟩ (.int .i64 x)).setCell ⟨b, 4, none⟩ (.int .i64 y)) b { u with has := x, fl := y } := by
  have s0 := heap_setCell_same W b 0 _ _ (.int .i64 x) h
  exact heap_setCell_same _ b 4 _ _ (.int .i64 y) s0

section
variable {w w' w1 : World} {B hb : Nat} {O S : Nat → Prop} {H H' : He} {M M' : HV} {tg : Nat → Nat}

set_option maxRecDepth 100000 in
set_option maxHeartbeats 1000000 in
theorem assign_at (h : HeapAt w B hb tg H M) (hF : FpAt w) {n : Int} (hg : H.gd n) (hn : n < 2000000000000) (o : Int) (o0 : 0 ≤ o) (o1 : o < 18446744073709551616) (k : ByteArray) (hk : k.size ≤ maxLen) (v : Int) (hv : 0 ≤ v ∧ v < 18446744073709551616) (N : Nat) (he : EndsH H N o) :
    Calls Tryz.prog 31 #[.pointer (some ⟨hb, 0, none⟩), .int .u64 o, .string k, .int .u64 v] w fun e w' => e = .returned (.tuple #[.int .u64 (asgP H o k v N).1, .int .i64 (asgP H o k v N).2.1]) ∧ ∃ M', WentM w B hb tg (asgP H o k v N).2.2 M' w' := by
  have kl := lookup_at h hg.neat o o0 o1 k hk N he
  have HS : Hid (∀ W, Below w.heap.size w W → ∃ M', WentM w B hb tg H M' W) := fun W q => ⟨M, WentM.same h q⟩
  have HD : Hid (∀ W u, Below w.heap.size w W → u.ok → Calls Tryz.prog 16 #[.pointer (some ⟨hb, 0, none⟩), .int .u64 o, .string k, wsV u] W fun e w' => e = .returned (.bool (defP H o k u).1) ∧ ∃ M', WentM w B hb tg (defP H o k u).2 M' w') := fun W u q hu => (define_at (h.below q) (hF.below q) hg hn o o0 o1 k hk u hu).mono fun e w' ⟨e1, M', e2⟩ => ⟨e1, M', e2.behind q⟩
  have HV : Hid (0 ≤ v ∧ v < 18446744073709551616) := hv
  have hor : bits .or .i64 1 14 = 15 := by decide
  unfold asgP
  clear h hF hg hk he
  cases hl : lookF H k N o with
  | none =>
    rw [hl] at kl
    simp only [Option.map_none, Option.getD_none, Option.isSome_none] at kl
    simp only
    unfold deV zDe undW at kl
    clear hl
    generalize hr : defP H o k (wsAll v) = r at *
    obtain ⟨rb, rh⟩ := r
    cases rb with
    | true =>
      simp only [asgE, if_true]
      have HR : Hid (defP H o k (wsAll v) = (true, rh)) := hr
      clear hr
      go_enter Tryz.func31, Tryz.ntmps31
      go_wp2_with fail
      refine kl.mono ?_
      rintro e w2 ⟨rfl, hB2⟩
      have hB3 := hB2.alloc hB2.size (.cells #[.int .u64 0, .int .u64 0, .int .i64 0] 41)
      have HB3 : Hid (Below w.heap.size w (w2.alloc (.cells #[.int .u64 0, .int .u64 0, .int .i64 0] 41))) := hB3
      clear kl hB2 hB3
      have hB5 := (HB3.out).alloc (HB3.out).size (.cells #[.int .i64 15, .int .u64 v, .int .u64 0, .int .u64 0, .int .i64 7] 35)
      have kd := HD.out _ (wsAll v) hB5 (wsAll_ok HV.out)
      unfold wsV wsAll at kd
      simp only at kd
      clear hB5 HD HS
      rw [show defP H o k ⟨15, v, 0, 0, 7⟩ = (true, rh) from HR.out] at kd
      simp only at kd
      clear HR HB3
      go_wp2_with fail
      refine kd.mono ?_
      rintro e w9 ⟨rfl, M9, hw9⟩
      have HW9 := (show Hid _ from hw9)
      clear kd hw9
      go_wp2_with fail
      go_ret2
      exact ⟨rfl, M9, HW9.out⟩
    | false =>
      simp only [asgE, Bool.false_eq_true, if_false]
      have HR : Hid (defP H o k (wsAll v) = (false, rh)) := hr
      clear hr
      go_enter Tryz.func31, Tryz.ntmps31
      go_wp2_with fail
      refine kl.mono ?_
      rintro e w2 ⟨rfl, hB2⟩
      have hB3 := hB2.alloc hB2.size (.cells #[.int .u64 0, .int .u64 0, .int .i64 0] 41)
      have HB3 : Hid (Below w.heap.size w (w2.alloc (.cells #[.int .u64 0, .int .u64 0, .int .i64 0] 41))) := hB3
      clear kl hB2 hB3
      have hB5 := (HB3.out).alloc (HB3.out).size (.cells #[.int .i64 15, .int .u64 v, .int .u64 0, .int .u64 0, .int .i64 7] 35)
      have kd := HD.out _ (wsAll v) hB5 (wsAll_ok HV.out)
      unfold wsV wsAll at kd
      simp only at kd
      clear hB5 HD HS
      rw [show defP H o k ⟨15, v, 0, 0, 7⟩ = (false, rh) from HR.out] at kd
      simp only at kd
      clear HR HB3
      go_wp2_with fail
      refine kd.mono ?_
      rintro e w9 ⟨rfl, M9, hw9⟩
      have HW9 := (show Hid _ from hw9)
      clear kd hw9
      go_wp2_with fail
      go_ret2
      exact ⟨rfl, M9, HW9.out⟩
  | some q =>
    obtain ⟨p, d⟩ := q
    rw [hl] at kl
    simp only [Option.map_some, Option.getD_some, Option.isSome_some] at kl
    simp only
    unfold deV at kl
    have ka := fun W => isAcc_any W d
    unfold deV at ka
    clear hl
    cases hac : accB d with
    | true =>
      rw [hac] at ka
      simp only [if_true]
      by_cases cs : d.se = undW
      · rw [if_pos cs]
        have cs1 : (d.se == 18445336698825998336) = true := by rw [cs]; rfl
        clear cs
        go_enter Tryz.func31, Tryz.ntmps31
        go_wp2_with fail
        refine kl.mono ?_
        rintro e w2 ⟨rfl, hB2⟩
        have hB3 := hB2.alloc hB2.size (.cells #[.int .u64 d.va, .int .u64 d.se, .int .i64 d.fl] 41)
        have hx := Bx3.box w2 d
        obtain ⟨x0, x1, x2⟩ := hx.ce
        have HB3 : Hid (Below w.heap.size w (w2.alloc (.cells #[.int .u64 d.va, .int .u64 d.se, .int .i64 d.fl] 41)) ∧ Bx3 (w2.alloc (.cells #[.int .u64 d.va, .int .u64 d.se, .int .i64 d.fl] 41)) w2.heap.size d) := ⟨hB3, hx⟩
        clear kl hB2 hB3 hx
        go_wp2_with fail
        refine (ka _).mono ?_
        rintro e w4 ⟨rfl, hB4⟩
        obtain ⟨x0, x1, x2⟩ := (HB3.out.2.below hB4).ce
        have HR := (show Hid _ from HS.out w4 (bel_sm HB3.out.1 hB4))
        clear ka hB4 HB3 HS HD
        go_wp2_with fail
        go_ret2
        exact ⟨rfl, HR.out⟩
      · rw [if_neg cs]
        have cs1 : (d.se == 18445336698825998336) = false := by simpa [undW] using cs
        clear cs
        go_enter Tryz.func31, Tryz.ntmps31
        go_wp2_with fail
        refine kl.mono ?_
        rintro e w2 ⟨rfl, hB2⟩
        have hB3 := hB2.alloc hB2.size (.cells #[.int .u64 d.va, .int .u64 d.se, .int .i64 d.fl] 41)
        have hx := Bx3.box w2 d
        obtain ⟨x0, x1, x2⟩ := hx.ce
        have HB3 : Hid (Below w.heap.size w (w2.alloc (.cells #[.int .u64 d.va, .int .u64 d.se, .int .i64 d.fl] 41)) ∧ Bx3 (w2.alloc (.cells #[.int .u64 d.va, .int .u64 d.se, .int .i64 d.fl] 41)) w2.heap.size d) := ⟨hB3, hx⟩
        clear kl hB2 hB3 hx
        go_wp2_with fail
        refine (ka _).mono ?_
        rintro e w4 ⟨rfl, hB4⟩
        obtain ⟨x0, x1, x2⟩ := (HB3.out.2.below hB4).ce
        have HR := (show Hid _ from HS.out w4 (bel_sm HB3.out.1 hB4))
        clear ka hB4 HB3 HS HD
        go_wp2_with fail
        go_ret2
        exact ⟨rfl, HR.out⟩
    | false =>
      rw [hac] at ka
      simp only [Bool.false_eq_true, if_false]
      cases hw : (bits .and .i64 d.fl 1 == 0) with
      | true =>
        simp only [if_true]
        go_enter Tryz.func31, Tryz.ntmps31
        go_wp2_with fail
        refine kl.mono ?_
        rintro e w2 ⟨rfl, hB2⟩
        have hB3 := hB2.alloc hB2.size (.cells #[.int .u64 d.va, .int .u64 d.se, .int .i64 d.fl] 41)
        have hx := Bx3.box w2 d
        obtain ⟨x0, x1, x2⟩ := hx.ce
        have HB3 : Hid (Below w.heap.size w (w2.alloc (.cells #[.int .u64 d.va, .int .u64 d.se, .int .i64 d.fl] 41)) ∧ Bx3 (w2.alloc (.cells #[.int .u64 d.va, .int .u64 d.se, .int .i64 d.fl] 41)) w2.heap.size d) := ⟨hB3, hx⟩
        clear kl hB2 hB3 hx
        go_wp2_with fail
        refine (ka _).mono ?_
        rintro e w4 ⟨rfl, hB4⟩
        obtain ⟨x0, x1, x2⟩ := (HB3.out.2.below hB4).ce
        have HR := (show Hid _ from HS.out w4 (bel_sm HB3.out.1 hB4))
        clear ka hB4 HB3 HS HD
        go_wp2_with fail
        go_ret2
        exact ⟨rfl, HR.out⟩
      | false =>
        simp only [Bool.false_eq_true, if_false]
        by_cases cp : p = o
        · rw [if_pos cp]
          have cp1 : (p != o) = false := by rw [cp]; simp
          generalize hr : defP H o k (wsVal v) = r at *
          obtain ⟨rb, rh⟩ := r
          cases rb with
          | true =>
            simp only [asgE, if_true]
            have HR : Hid (defP H o k (wsVal v) = (true, rh)) := hr
            clear hr cp
            go_enter Tryz.func31, Tryz.ntmps31
            go_wp2_with fail
            refine kl.mono ?_
            rintro e w2 ⟨rfl, hB2⟩
            have hB3 := hB2.alloc hB2.size (.cells #[.int .u64 d.va, .int .u64 d.se, .int .i64 d.fl] 41)
            have hx := Bx3.box w2 d
            obtain ⟨x0, x1, x2⟩ := hx.ce
            have HB3 : Hid (Below w.heap.size w (w2.alloc (.cells #[.int .u64 d.va, .int .u64 d.se, .int .i64 d.fl] 41)) ∧ Bx3 (w2.alloc (.cells #[.int .u64 d.va, .int .u64 d.se, .int .i64 d.fl] 41)) w2.heap.size d) := ⟨hB3, hx⟩
            clear kl hB2 hB3 hx
            go_wp2_with fail
            refine (ka _).mono ?_
            rintro e w4 ⟨rfl, hB4⟩
            obtain ⟨x0, x1, x2⟩ := (HB3.out.2.below hB4).ce
            have HB4 : Hid (Below w.heap.size w w4) := bel_sm HB3.out.1 hB4
            clear ka hB4 HB3
            have hB5 := (HB4.out).alloc (HB4.out).size (.cells #[.int .i64 1, .int .u64 v, .int .u64 0, .int .u64 0, .int .i64 0] 35)
            have kd := HD.out _ (wsVal v) hB5 (wsVal_ok HV.out)
            unfold wsV wsVal at kd
            simp only at kd
            clear hB5 HD HS
            rw [show defP H o k ⟨1, v, 0, 0, 0⟩ = (true, rh) from HR.out] at kd
            simp only at kd
            clear HR HB4
            go_wp2_with fail
            refine kd.mono ?_
            rintro e w9 ⟨rfl, M9, hw9⟩
            have HW9 := (show Hid _ from hw9)
            clear kd hw9
            go_wp2_with fail
            go_ret2
            exact ⟨rfl, M9, HW9.out⟩
          | false =>
            simp only [asgE, Bool.false_eq_true, if_false]
            have HR : Hid (defP H o k (wsVal v) = (false, rh)) := hr
            clear hr cp
            go_enter Tryz.func31, Tryz.ntmps31
            go_wp2_with fail
            refine kl.mono ?_
            rintro e w2 ⟨rfl, hB2⟩
            have hB3 := hB2.alloc hB2.size (.cells #[.int .u64 d.va, .int .u64 d.se, .int .i64 d.fl] 41)
            have hx := Bx3.box w2 d
            obtain ⟨x0, x1, x2⟩ := hx.ce
            have HB3 : Hid (Below w.heap.size w (w2.alloc (.cells #[.int .u64 d.va, .int .u64 d.se, .int .i64 d.fl] 41)) ∧ Bx3 (w2.alloc (.cells #[.int .u64 d.va, .int .u64 d.se, .int .i64 d.fl] 41)) w2.heap.size d) := ⟨hB3, hx⟩
            clear kl hB2 hB3 hx
            go_wp2_with fail
            refine (ka _).mono ?_
            rintro e w4 ⟨rfl, hB4⟩
            obtain ⟨x0, x1, x2⟩ := (HB3.out.2.below hB4).ce
            have HB4 : Hid (Below w.heap.size w w4) := bel_sm HB3.out.1 hB4
            clear ka hB4 HB3
            have hB5 := (HB4.out).alloc (HB4.out).size (.cells #[.int .i64 1, .int .u64 v, .int .u64 0, .int .u64 0, .int .i64 0] 35)
            have kd := HD.out _ (wsVal v) hB5 (wsVal_ok HV.out)
            unfold wsV wsVal at kd
            simp only at kd
            clear hB5 HD HS
            rw [show defP H o k ⟨1, v, 0, 0, 0⟩ = (false, rh) from HR.out] at kd
            simp only at kd
            clear HR HB4
            go_wp2_with fail
            refine kd.mono ?_
            rintro e w9 ⟨rfl, M9, hw9⟩
            have HW9 := (show Hid _ from hw9)
            clear kd hw9
            go_wp2_with fail
            go_ret2
            exact ⟨rfl, M9, HW9.out⟩
        · rw [if_neg cp]
          have cp1 : (p != o) = true := by simpa using cp
          generalize hr : defP H o k (wsAll v) = r at *
          obtain ⟨rb, rh⟩ := r
          cases rb with
          | true =>
            simp only [asgE, if_true]
            have HR : Hid (defP H o k (wsAll v) = (true, rh)) := hr
            clear hr cp
            go_enter Tryz.func31, Tryz.ntmps31
            go_wp2_with fail
            refine kl.mono ?_
            rintro e w2 ⟨rfl, hB2⟩
            have hB3 := hB2.alloc hB2.size (.cells #[.int .u64 d.va, .int .u64 d.se, .int .i64 d.fl] 41)
            have hx := Bx3.box w2 d
            obtain ⟨x0, x1, x2⟩ := hx.ce
            have HB3 : Hid (Below w.heap.size w (w2.alloc (.cells #[.int .u64 d.va, .int .u64 d.se, .int .i64 d.fl] 41)) ∧ Bx3 (w2.alloc (.cells #[.int .u64 d.va, .int .u64 d.se, .int .i64 d.fl] 41)) w2.heap.size d) := ⟨hB3, hx⟩
            clear kl hB2 hB3 hx
            go_wp2_with fail
            refine (ka _).mono ?_
            rintro e w4 ⟨rfl, hB4⟩
            obtain ⟨x0, x1, x2⟩ := (HB3.out.2.below hB4).ce
            have HB4 : Hid (Below w.heap.size w w4) := bel_sm HB3.out.1 hB4
            clear ka hB4 HB3
            have hB5 := (HB4.out).alloc (HB4.out).size (.cells #[.int .i64 15, .int .u64 v, .int .u64 0, .int .u64 0, .int .i64 7] 35)
            have kd := HD.out _ (wsAll v) hB5 (wsAll_ok HV.out)
            unfold wsV wsAll at kd
            simp only at kd
            clear hB5 HD HS
            rw [show defP H o k ⟨15, v, 0, 0, 7⟩ = (true, rh) from HR.out] at kd
            simp only at kd
            clear HR HB4
            go_wp2_with fail
            refine kd.mono ?_
            rintro e w9 ⟨rfl, M9, hw9⟩
            have HW9 := (show Hid _ from hw9)
            clear kd hw9
            go_wp2_with fail
            go_ret2
            exact ⟨rfl, M9, HW9.out⟩
          | false =>
            simp only [asgE, Bool.false_eq_true, if_false]
            have HR : Hid (defP H o k (wsAll v) = (false, rh)) := hr
            clear hr cp
            go_enter Tryz.func31, Tryz.ntmps31
            go_wp2_with fail
            refine kl.mono ?_
            rintro e w2 ⟨rfl, hB2⟩
            have hB3 := hB2.alloc hB2.size (.cells #[.int .u64 d.va, .int .u64 d.se, .int .i64 d.fl] 41)
            have hx := Bx3.box w2 d
            obtain ⟨x0, x1, x2⟩ := hx.ce
            have HB3 : Hid (Below w.heap.size w (w2.alloc (.cells #[.int .u64 d.va, .int .u64 d.se, .int .i64 d.fl] 41)) ∧ Bx3 (w2.alloc (.cells #[.int .u64 d.va, .int .u64 d.se, .int .i64 d.fl] 41)) w2.heap.size d) := ⟨hB3, hx⟩
            clear kl hB2 hB3 hx
            go_wp2_with fail
            refine (ka _).mono ?_
            rintro e w4 ⟨rfl, hB4⟩
            obtain ⟨x0, x1, x2⟩ := (HB3.out.2.below hB4).ce
            have HB4 : Hid (Below w.heap.size w w4) := bel_sm HB3.out.1 hB4
            clear ka hB4 HB3
            have hB5 := (HB4.out).alloc (HB4.out).size (.cells #[.int .i64 15, .int .u64 v, .int .u64 0, .int .u64 0, .int .i64 7] 35)
            have kd := HD.out _ (wsAll v) hB5 (wsAll_ok HV.out)
            unfold wsV wsAll at kd
            simp only at kd
            clear hB5 HD HS
            rw [show defP H o k ⟨15, v, 0, 0, 7⟩ = (false, rh) from HR.out] at kd
            simp only at kd
            clear HR HB4
            go_wp2_with fail
            refine kd.mono ?_
            rintro e w9 ⟨rfl, M9, hw9⟩
            have HW9 := (show Hid _ from hw9)
            clear kd hw9
            go_wp2_with fail
            go_ret2
            exact ⟨rfl, M9, HW9.out⟩

end

end Go.Proofs.YtahhionlbfhinaaGreatDoor.Hp
