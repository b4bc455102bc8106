/- Own. -/
import Derived.Test.YtahhionlbfhinaaDoorB14
import Derived.Test.YtahhionlbfhinaaDoorKE
namespace Go.Proofs.YtahhionlbfhinaaDoor.Hp
open Go.RowKit
set_option linter.unusedVariables false

def lenS : ByteArray := ⟨#[108, 101, 110, 103, 116, 104]⟩
/-- what an object has of its own -/
def ownO (ob : Ob) (k : ByteArray) : Option De :=
  if ob.kind = 1 then
    if k = lenS then some ⟨intW (ob.el.length : Int), undW, 1⟩
    else match (ixI k).bind (fun n => elemI ob.el (n : Int)) with
      | some v => some ⟨v, undW, 7⟩
      | none => getO ob k
  else getO ob k
def ownH (H : He) (o : Int) (k : ByteArray) : Option De := (obO H o).bind (fun ob => ownO ob k)

theorem wInt_any (n : Int) (w : World) : Calls Tryd.prog 37 #[.int .i32 n] w fun e w' => e = .returned (.int .u64 (intW n)) ∧ w' = w := by
  have hw : IntKind.u32.wrap n = n % 4294967296 := IntKind.wrap_u32 n
  have c := fun w => tagged_any 65529 (n % 4294967296) w (by omega) (by omega) (by omega) (by omega)
  unfold intW
  rw [show (65529 * 281474976710656 : Int) = 18444773748872577024 from rfl] at c
  generalize n % 4294967296 = m at *
  go_enter Tryd.func37, Tryd.ntmps37
  go_wp2_with (go_at_call 29; refine (c _).mono ?_; rintro e w1 ⟨rfl, rfl⟩)
  go_ret
  exact ⟨rfl, rfl⟩

set_option maxRecDepth 100000 in
theorem dataOf_any (w : World) (va fl : Int) : Calls Tryd.prog 33 #[.int .u64 va, .int .i64 fl] w fun e w' => e = .returned (deV ⟨va, undW, fl⟩) ∧ Below w.heap.size w w' := by
  obtain ⟨wb, hwb⟩ : ∃ wb, wb = w.alloc (.cells #[.int .u64 0, .int .u64 0, .int .i64 0] 37) := ⟨_, rfl⟩
  have hB : Below w.heap.size w wb := by rw [hwb]; exact (Below.refl _ _).alloc (Nat.le_refl _) _
  have hbx : Bx3 wb w.heap.size zDe := by rw [hwb]; exact Bx3.new w
  have HF : Hid (Bx3 (st3 wb w.heap.size ⟨va, undW, fl⟩) w.heap.size ⟨va, undW, fl⟩ ∧ Below w.heap.size w (st3 wb w.heap.size ⟨va, undW, fl⟩)) := ⟨hbx.put _, st3_below hB (Nat.le_refl _) _⟩
  obtain ⟨f0, f1, f2⟩ := hbx.fz
  obtain ⟨b0, b1, b2⟩ := hbx.ce
  unfold zDe at b0 b1 b2
  clear hbx hB
  go_enter Tryd.func33, Tryd.ntmps33
  go_upto_region 1 with fail
  rw [← hwb]
  clear hwb
  go_wp2_with fail
  refine bodyPost_ret (res1 rfl _ _ w.heap.size 37 _ (0, 0) _ rfl HF.out.1 Tryd.underlying37 rfl (by kernel_rfl)) rfl ?_
  exact ⟨rfl, HF.out.2⟩

section
variable {w w' w1 : World} {B hb : Nat} {O S : Nat → Prop} {H H' : He} {M M' : HV} {tg : Nat → Nat}

theorem isObject_at (h : HeapAt w B hb tg H M) (o : Int) (o0 : 0 ≤ o) (o1 : o < 18446744073709551616) :
    Calls Tryd.prog 23 #[.pointer (some ⟨hb, 0, none⟩), .int .u64 o] w fun e w' => e = .returned (.bool (obO H o).isSome) ∧ w' = w := by
  have c := kind_any h o o0 o1
  generalize ((obO H o).map Ob.kind).getD 0 = kd at *
  generalize (obO H o).isSome = ok at *
  clear h
  go_enter Tryd.func23, Tryd.ntmps23
  go_wp2_with fail
  refine c.mono ?_
  rintro e w2 ⟨rfl, rfl⟩
  clear c
  go_wp2_with fail
  go_ret
  exact ⟨rfl, rfl⟩

def arrB (H : He) (o : Int) : Bool := ((obO H o).map Ob.kind).getD 0 == 1

theorem isArray_at (h : HeapAt w B hb tg H M) (o : Int) (o0 : 0 ≤ o) (o1 : o < 18446744073709551616) :
    Calls Tryd.prog 36 #[.pointer (some ⟨hb, 0, none⟩), .int .u64 o] w fun e w' => e = .returned (.bool (arrB H o)) ∧ w' = w := by
  have c := kind_any h o o0 o1
  unfold arrB
  generalize ((obO H o).map Ob.kind).getD 0 = kd at *
  generalize (obO H o).isSome = ok at *
  clear h
  go_enter Tryd.func36, Tryd.ntmps36
  go_wp2_with fail
  refine c.mono ?_
  rintro e w2 ⟨rfl, rfl⟩
  clear c
  go_wp2_with fail
  go_ret
  exact ⟨rfl, rfl⟩

theorem element_at (h : HeapAt w B hb tg H M) (o : Int) (o0 : 0 ≤ o) (o1 : o < 18446744073709551616) {ob : Ob} (hq : obO H o = some ob) (k : ByteArray) (hk : k.size ≤ maxLen) :
    Calls Tryd.prog 39 #[.pointer (some ⟨hb, 0, none⟩), .int .u64 o, .string k] w fun e w' => e = .returned (.tuple #[.int .u64 (((ixI k).bind (fun n => elemI ob.el (n : Int))).getD undW), .bool ((ixI k).bind (fun n => elemI ob.el (n : Int))).isSome]) ∧ w' = w := by
  obtain ⟨i, ho, hi⟩ := obO_some hq
  have ci := index_any k w hk
  cases hx : ixI k with
  | none =>
    rw [hx] at ci
    simp only [Option.bind_none, Option.getD_none, Option.isSome_none] at ci ⊢
    unfold undW
    clear h hq hi ho hx
    go_enter Tryd.func39, Tryd.ntmps39
    go_wp2_with fail
    refine ci.mono ?_
    rintro e w2 ⟨rfl, rfl⟩
    clear ci
    go_wp2_with fail
    go_ret2
    exact ⟨rfl, rfl⟩
  | some n =>
    rw [hx] at ci
    have ce := elem_at h o o0 o1 ho hi (n : Int)
    simp only [Option.bind_some, Option.getD_some, Option.isSome_some] at ci ⊢
    generalize (elemI ob.el (n : Int)).getD undW = v at *
    generalize (elemI ob.el (n : Int)).isSome = ok at *
    clear h hq hi ho hx
    go_enter Tryd.func39, Tryd.ntmps39
    go_wp2_with fail
    refine ci.mono ?_
    rintro e w2 ⟨rfl, rfl⟩
    clear ci
    go_wp2_with fail
    refine ce.mono ?_
    rintro e w2 ⟨rfl, rfl⟩
    clear ce
    go_wp2_with fail
    go_ret2
    exact ⟨rfl, rfl⟩

end

end Go.Proofs.YtahhionlbfhinaaDoor.Hp

/- Own, whole. -/
namespace Go.Proofs.YtahhionlbfhinaaDoor.Hp
open Go.RowKit
set_option linter.unusedVariables false

section
variable {w w' w1 : World} {B hb : Nat} {O S : Nat → Prop} {H H' : He} {M M' : HV} {tg : Nat → Nat}

theorem own_plain {o : Int} (ha : arrB H o = false) (k : ByteArray) : ownH H o k = getH H o k := by
  unfold ownH getH
  cases hq : obO H o with
  | none => rfl
  | some ob =>
    show ownO ob k = getO ob k
    unfold ownO
    rw [if_neg]
    intro q
    unfold arrB at ha
    rw [hq] at ha
    simp only [Option.map_some, Option.getD_some, q] at ha
    exact absurd ha (by decide)
theorem arr_ob {o : Int} (ha : arrB H o = true) : ∃ ob, obO H o = some ob ∧ ob.kind = 1 := by
  unfold arrB at ha
  cases hq : obO H o with
  | none => rw [hq] at ha; exact absurd ha (by decide)
  | some ob =>
    rw [hq] at ha
    simp only [Option.map_some, Option.getD_some] at ha
    exact ⟨ob, rfl, by simpa using ha⟩

theorem lenS_l : lenS.toList = [108, 101, 110, 103, 116, 104] := by first | decide +kernel | simp [lenS, ByteArray.toList, ByteArray.toList.loop]

/-- a call's end: the property, and whether there is one, are stored in the result -/
theorem fin3 {wb w6 : World} (hB : Below w.heap.size w wb) (hbx : Bx3 wb w.heap.size zDe) (q : Below wb.heap.size wb w6) (d : De) : Bx3 w6 w.heap.size zDe ∧ Bx3 (st3 w6 w.heap.size d) w.heap.size d ∧ Below w.heap.size w (st3 w6 w.heap.size d) :=
  ⟨hbx.below q, (hbx.below q).put _, st3_below (hB.trans (q.mono (Nat.le_of_lt hbx.lt))) (Nat.le_refl _) _⟩

set_option maxRecDepth 100000 in
theorem own_at (h : HeapAt w B hb tg H M) (hn : H.neat) (o : Int) (o0 : 0 ≤ o) (o1 : o < 18446744073709551616) (k : ByteArray) (hk : k.size ≤ maxLen) :
    Calls Tryd.prog 24 #[.pointer (some ⟨hb, 0, none⟩), .int .u64 o, .string k] w fun e w' => e = .returned (.tuple #[deV ((ownH H o k).getD zDe), .bool (ownH H o k).isSome]) ∧ Below w.heap.size w w' := by
  obtain ⟨wb, hwb⟩ : ∃ wb, wb = w.alloc (.cells #[.int .u64 0, .int .u64 0, .int .i64 0] 37) := ⟨_, rfl⟩
  have hB : Below w.heap.size w wb := by rw [hwb]; exact (Below.refl _ _).alloc (Nat.le_refl _) _
  have hbx : Bx3 wb w.heap.size zDe := by rw [hwb]; exact Bx3.new w
  have HFI : Hid (∀ w6 d, Below wb.heap.size wb w6 → Bx3 w6 w.heap.size zDe ∧ Bx3 (st3 w6 w.heap.size d) w.heap.size d ∧ Below w.heap.size w (st3 w6 w.heap.size d)) := fun w6 d q => fin3 hB hbx q d
  have h2 := h.below hB
  have ka := isArray_at h2 o o0 o1
  have kg := get_full h2 hn o o0 o1 k hk
  cases ha : arrB H o with
  | false =>
    rw [own_plain ha]
    rw [ha] at ka
    generalize (getH H o k).getD zDe = d at *
    generalize (getH H o k).isSome = ok at *
    unfold deV at *
    clear h h2 hn hB hbx ha
    go_enter Tryd.func24, Tryd.ntmps24
    go_upto_region 1 with fail
    rw [← hwb]
    clear hwb
    go_wp2_with fail
    refine ka.mono ?_
    rintro e w2 ⟨rfl, rfl⟩
    clear ka
    go_wp2_with fail
    refine kg.mono ?_
    rintro e w6 ⟨rfl, hB6⟩
    obtain ⟨q1, q2, q3⟩ := HFI.out w6 d hB6
    obtain ⟨f0, f1, f2⟩ := q1.fz
    obtain ⟨b0, b1, b2⟩ := q1.ce
    unfold zDe at b0 b1 b2
    have HF : Hid (Bx3 (st3 w6 w.heap.size d) w.heap.size d ∧ Below w.heap.size w (st3 w6 w.heap.size d)) := ⟨q2, q3⟩
    clear kg HFI hB6 q1 q2 q3
    go_wp2_with fail
    refine bodyPost_ret (res2 rfl _ _ w.heap.size 37 _ (0, 0) _ rfl HF.out.1 Tryd.underlying37 rfl (by kernel_rfl)) rfl ?_
    exact ⟨rfl, HF.out.2⟩
  | true =>
    obtain ⟨ob, hq, hkd⟩ := arr_ob ha
    obtain ⟨i, ho, hi⟩ := obO_some hq
    rw [ha] at ka
    have hoo : ownH H o k = ownO ob k := by unfold ownH; rw [hq]; rfl
    have hgo : getH H o k = getO ob k := by unfold getH; rw [hq]; rfl
    rw [hoo]
    rw [hgo] at kg
    unfold ownO
    rw [if_pos hkd]
    have hel := (h.wf.ob ob (List.mem_of_getElem? hi)).el
    by_cases cl : k = lenS
    · rw [if_pos cl]
      have kl := len_at h2 o o0 o1 ho hi
      have hcv : wrap32 (ob.el.length : Int) = (ob.el.length : Int) := by
        unfold wrap32
        omega
      have ki := fun w => wInt_any (ob.el.length : Int) w
      have kd := fun w => dataOf_any w (intW (ob.el.length : Int)) 1
      have hlim : (ob.el.length : Int) ≤ 4096 := by omega
      have hee : (k.toList == [108, 101, 110, 103, 116, 104]) = true := by rw [cl, lenS_l]; rfl
      simp only [Option.getD_some, Option.isSome_some]
      generalize intW (ob.el.length : Int) = iw at *
      generalize (ob.el.length : Int) = n at *
      unfold deV at *
      clear h h2 hn hB hbx ha hq ho hi hkd hoo hgo kg hel cl hk
      go_enter Tryd.func24, Tryd.ntmps24
      go_upto_region 1 with fail
      rw [← hwb]
      clear hwb
      go_wp2_with fail
      refine ka.mono ?_
      rintro e w2 ⟨rfl, rfl⟩
      clear ka
      go_wp2_with fail
      refine kl.mono ?_
      rintro e w2 ⟨rfl, rfl⟩
      clear kl
      go_wp2_with fail
      refine (ki _).mono ?_
      rintro e w2 ⟨rfl, rfl⟩
      clear ki
      go_wp2_with fail
      refine (kd _).mono ?_
      rintro e w6 ⟨rfl, hB6⟩
      obtain ⟨q1, q2, q3⟩ := HFI.out w6 ⟨iw, undW, 1⟩ hB6
      obtain ⟨f0, f1, f2⟩ := q1.fz
      obtain ⟨b0, b1, b2⟩ := q1.ce
      unfold zDe at b0 b1 b2
      have HF : Hid (Bx3 (st3 w6 w.heap.size ⟨iw, undW, 1⟩) w.heap.size ⟨iw, undW, 1⟩ ∧ Below w.heap.size w (st3 w6 w.heap.size ⟨iw, undW, 1⟩)) := ⟨q2, q3⟩
      clear kd HFI hB6 q1 q2 q3
      go_wp2_with fail
      refine bodyPost_ret (res2 rfl _ _ w.heap.size 37 _ (0, 0) _ rfl HF.out.1 Tryd.underlying37 rfl (by kernel_rfl)) rfl ?_
      exact ⟨rfl, HF.out.2⟩
    · rw [if_neg cl]
      have ke := element_at h2 o o0 o1 hq k hk
      have hee : (k.toList == [108, 101, 110, 103, 116, 104]) = false := by rw [← lenS_l]; exact Sp.bytes_no cl
      generalize hx : (ixI k).bind (fun n => elemI ob.el (n : Int)) = r at *
      cases r with
      | some v =>
        have kd := fun w => dataOf_any w v 7
        simp only [Option.getD_some, Option.isSome_some] at ke ⊢
        unfold deV at *
        clear h h2 hn hB hbx ha hq ho hi hkd hoo hgo kg hel cl hk hx
        go_enter Tryd.func24, Tryd.ntmps24
        go_upto_region 1 with fail
        rw [← hwb]
        clear hwb
        go_wp2_with fail
        refine ka.mono ?_
        rintro e w2 ⟨rfl, rfl⟩
        clear ka
        go_wp2_with fail
        refine ke.mono ?_
        rintro e w2 ⟨rfl, rfl⟩
        clear ke
        go_wp2_with fail
        refine (kd _).mono ?_
        rintro e w6 ⟨rfl, hB6⟩
        obtain ⟨q1, q2, q3⟩ := HFI.out w6 ⟨v, undW, 7⟩ hB6
        obtain ⟨f0, f1, f2⟩ := q1.fz
        obtain ⟨b0, b1, b2⟩ := q1.ce
        unfold zDe at b0 b1 b2
        have HF : Hid (Bx3 (st3 w6 w.heap.size ⟨v, undW, 7⟩) w.heap.size ⟨v, undW, 7⟩ ∧ Below w.heap.size w (st3 w6 w.heap.size ⟨v, undW, 7⟩)) := ⟨q2, q3⟩
        clear kd HFI hB6 q1 q2 q3
        go_wp2_with fail
        refine bodyPost_ret (res2 rfl _ _ w.heap.size 37 _ (0, 0) _ rfl HF.out.1 Tryd.underlying37 rfl (by kernel_rfl)) rfl ?_
        exact ⟨rfl, HF.out.2⟩
      | none =>
        simp only [Option.getD_none, Option.isSome_none] at ke ⊢
        generalize (getO ob k).getD zDe = d at *
        generalize (getO ob k).isSome = ok at *
        unfold deV at *
        unfold undW at ke
        clear h h2 hn hB hbx ha hq ho hi hkd hoo hgo hel cl hk hx
        go_enter Tryd.func24, Tryd.ntmps24
        go_upto_region 1 with fail
        rw [← hwb]
        clear hwb
        go_wp2_with fail
        refine ka.mono ?_
        rintro e w2 ⟨rfl, rfl⟩
        clear ka
        go_wp2_with fail
        refine ke.mono ?_
        rintro e w2 ⟨rfl, rfl⟩
        clear ke
        go_wp2_with fail
        refine kg.mono ?_
        rintro e w6 ⟨rfl, hB6⟩
        obtain ⟨q1, q2, q3⟩ := HFI.out w6 d hB6
        obtain ⟨f0, f1, f2⟩ := q1.fz
        obtain ⟨b0, b1, b2⟩ := q1.ce
        unfold zDe at b0 b1 b2
        have HF : Hid (Bx3 (st3 w6 w.heap.size d) w.heap.size d ∧ Below w.heap.size w (st3 w6 w.heap.size d)) := ⟨q2, q3⟩
        clear kg HFI hB6 q1 q2 q3
        go_wp2_with fail
        refine bodyPost_ret (res2 rfl _ _ w.heap.size 37 _ (0, 0) _ rfl HF.out.1 Tryd.underlying37 rfl (by kernel_rfl)) rfl ?_
        exact ⟨rfl, HF.out.2⟩

end

end Go.Proofs.YtahhionlbfhinaaDoor.Hp
