/- Own, whole. -/
import Derived.Test.YtahhionlbfhinaaGreatDoorB19
namespace Go.Proofs.YtahhionlbfhinaaGreatDoor.Hp
open Go.RowKit
set_option linter.unusedVariables false

section
variable {w w' w1 : World} {B hb : Nat} {O S : Nat → Prop} {H H' : He} {M M' : HV} {tg : Nat → Nat}

theorem own_plain {o : Int} (ha : arrB H o = false) (k : ByteArray) : ownH H o k = getH H o k := by
  unfold ownH getH
  cases hq : obO H o with
  | none => rfl
  | some ob =>
    show ownO ob k = getO ob k
    unfold ownO
    rw [if_neg]
    intro q
    unfold arrB at ha
    rw [hq] at ha
    simp only [Option.map_some, Option.getD_some, q] at ha
    exact absurd ha (by decide)
theorem arr_ob {o : Int} (ha : arrB H o = true) : ∃ ob, obO H o = some ob ∧ ob.kind = 1 := by
  unfold arrB at ha
  cases hq : obO H o with
  | none => rw [hq] at ha; exact absurd ha (by decide)
  | some ob =>
    rw [hq] at ha
    simp only [Option.map_some, Option.getD_some] at ha
    exact ⟨ob, rfl, by simpa using ha⟩

theorem lenS_l : lenS.toList = [108, 101, 110, 103, 116, 104] := by first | decide +kernel | simp [lenS, ByteArray.toList, ByteArray.toList.loop]

/-- a call's end: the property, and whether there is one, are stored in the result -/
theorem fin3 {wb w6 : World} (hB : Below w.heap.size w wb) (hbx : Bx3 wb w.heap.size zDe) (q : Below wb.heap.size wb w6) (d : De) : Bx3 w6 w.heap.size zDe ∧ Bx3 (st3 w6 w.heap.size d) w.heap.size d ∧ Below w.heap.size w (st3 w6 w.heap.size d) :=
  ⟨hbx.below q, (hbx.below q).put _, st3_below (hB.trans (q.mono (Nat.le_of_lt hbx.lt))) (Nat.le_refl _) _⟩

set_option maxRecDepth 100000 in
theorem own_at (h : HeapAt w B hb tg H M) (hn : H.neat) (o : Int) (o0 : 0 ≤ o) (o1 : o < 18446744073709551616) (k : ByteArray) (hk : k.size ≤ maxLen) :
    Calls Tryz.prog 18 #[.pointer (some ⟨hb, 0, none⟩), .int .u64 o, .string k] w fun e w' => e = .returned (.tuple #[deV ((ownH H o k).getD zDe), .bool (ownH H o k).isSome]) ∧ Below w.heap.size w w' := by
  obtain ⟨wb, hwb⟩ : ∃ wb, wb = w.alloc (.cells #[.int .u64 0, .int .u64 0, .int .i64 0] 41) := ⟨_, rfl⟩
  have hB : Below w.heap.size w wb := by rw [hwb]; exact (Below.refl _ _).alloc (Nat.le_refl _) _
  have hbx : Bx3 wb w.heap.size zDe := by rw [hwb]; exact Bx3.new w
  have HFI : Hid (∀ w6 d, Below wb.heap.size wb w6 → Bx3 w6 w.heap.size zDe ∧ Bx3 (st3 w6 w.heap.size d) w.heap.size d ∧ Below w.heap.size w (st3 w6 w.heap.size d)) := fun w6 d q => fin3 hB hbx q d
  have h2 := h.below hB
  have ka := isArray_at h2 o o0 o1
  have kg := get_full h2 hn o o0 o1 k hk
  cases ha : arrB H o with
  | false =>
    rw [own_plain ha]
    rw [ha] at ka
    generalize (getH H o k).getD zDe = d at *
    generalize (getH H o k).isSome = ok at *
    unfold deV at *
    clear h h2 hn hB hbx ha
    go_enter Tryz.func18, Tryz.ntmps18
    go_upto_region 1 with fail
    rw [← hwb]
    clear hwb
    go_wp2_with fail
    refine ka.mono ?_
    rintro e w2 ⟨rfl, rfl⟩
    clear ka
    go_wp2_with fail
    refine kg.mono ?_
    rintro e w6 ⟨rfl, hB6⟩
    obtain ⟨q1, q2, q3⟩ := HFI.out w6 d hB6
    obtain ⟨f0, f1, f2⟩ := q1.fz
    obtain ⟨b0, b1, b2⟩ := q1.ce
    unfold zDe at b0 b1 b2
    have HF : Hid (Bx3 (st3 w6 w.heap.size d) w.heap.size d ∧ Below w.heap.size w (st3 w6 w.heap.size d)) := ⟨q2, q3⟩
    clear kg HFI hB6 q1 q2 q3
    go_wp2_with fail
    refine bodyPost_ret (res2 rfl _ _ w.heap.size 41 _ (0, 0) _ rfl HF.out.1 Tryz.underlying41 rfl (by kernel_rfl)) rfl ?_
    exact ⟨rfl, HF.out.2⟩
  | true =>
    obtain ⟨ob, hq, hkd⟩ := arr_ob ha
    obtain ⟨i, ho, hi⟩ := obO_some hq
    rw [ha] at ka
    have hoo : ownH H o k = ownO ob k := by unfold ownH; rw [hq]; rfl
    have hgo : getH H o k = getO ob k := by unfold getH; rw [hq]; rfl
    rw [hoo]
    rw [hgo] at kg
    unfold ownO
    rw [if_pos hkd]
    have hel := (h.wf.ob ob (List.mem_of_getElem? hi)).el
    by_cases cl : k = lenS
    · rw [if_pos cl]
      have kl := len_at h2 o o0 o1 ho hi
      have hcv : wrap32 (ob.el.length : Int) = (ob.el.length : Int) := by
        unfold wrap32
        omega
      have ki := fun w => wInt_any (ob.el.length : Int) w
      have kd := fun w => dataOf_any w (intW (ob.el.length : Int)) 1
      have hlim : (ob.el.length : Int) ≤ 4096 := by omega
      have hee : (k.toList == [108, 101, 110, 103, 116, 104]) = true := by rw [cl, lenS_l]; rfl
      simp only [Option.getD_some, Option.isSome_some]
      generalize intW (ob.el.length : Int) = iw at *
      generalize (ob.el.length : Int) = n at *
      unfold deV at *
      clear h h2 hn hB hbx ha hq ho hi hkd hoo hgo kg hel cl hk
      go_enter Tryz.func18, Tryz.ntmps18
      go_upto_region 1 with fail
      rw [← hwb]
      clear hwb
      go_wp2_with fail
      refine ka.mono ?_
      rintro e w2 ⟨rfl, rfl⟩
      clear ka
      go_wp2_with fail
      refine kl.mono ?_
      rintro e w2 ⟨rfl, rfl⟩
      clear kl
      go_wp2_with fail
      refine (ki _).mono ?_
      rintro e w2 ⟨rfl, rfl⟩
      clear ki
      go_wp2_with fail
      refine (kd _).mono ?_
      rintro e w6 ⟨rfl, hB6⟩
      obtain ⟨q1, q2, q3⟩ := HFI.out w6 ⟨iw, undW, 1⟩ hB6
      obtain ⟨f0, f1, f2⟩ := q1.fz
      obtain ⟨b0, b1, b2⟩ := q1.ce
      unfold zDe at b0 b1 b2
      have HF : Hid (Bx3 (st3 w6 w.heap.size ⟨iw, undW, 1⟩) w.heap.size ⟨iw, undW, 1⟩ ∧ Below w.heap.size w (st3 w6 w.heap.size ⟨iw, undW, 1⟩)) := ⟨q2, q3⟩
      clear kd HFI hB6 q1 q2 q3
      go_wp2_with fail
      refine bodyPost_ret (res2 rfl _ _ w.heap.size 41 _ (0, 0) _ rfl HF.out.1 Tryz.underlying41 rfl (by kernel_rfl)) rfl ?_
      exact ⟨rfl, HF.out.2⟩
    · rw [if_neg cl]
      have ke := element_at h2 o o0 o1 hq k hk
      have hee : (k.toList == [108, 101, 110, 103, 116, 104]) = false := by rw [← lenS_l]; exact Sp.bytes_no cl
      generalize hx : (ixI k).bind (fun n => elemI ob.el (n : Int)) = r at *
      cases r with
      | some v =>
        have kd := fun w => dataOf_any w v 7
        simp only [Option.getD_some, Option.isSome_some] at ke ⊢
        unfold deV at *
        clear h h2 hn hB hbx ha hq ho hi hkd hoo hgo kg hel cl hk hx
        go_enter Tryz.func18, Tryz.ntmps18
        go_upto_region 1 with fail
        rw [← hwb]
        clear hwb
        go_wp2_with fail
        refine ka.mono ?_
        rintro e w2 ⟨rfl, rfl⟩
        clear ka
        go_wp2_with fail
        refine ke.mono ?_
        rintro e w2 ⟨rfl, rfl⟩
        clear ke
        go_wp2_with fail
        refine (kd _).mono ?_
        rintro e w6 ⟨rfl, hB6⟩
        obtain ⟨q1, q2, q3⟩ := HFI.out w6 ⟨v, undW, 7⟩ hB6
        obtain ⟨f0, f1, f2⟩ := q1.fz
        obtain ⟨b0, b1, b2⟩ := q1.ce
        unfold zDe at b0 b1 b2
        have HF : Hid (Bx3 (st3 w6 w.heap.size ⟨v, undW, 7⟩) w.heap.size ⟨v, undW, 7⟩ ∧ Below w.heap.size w (st3 w6 w.heap.size ⟨v, undW, 7⟩)) := ⟨q2, q3⟩
        clear kd HFI hB6 q1 q2 q3
        go_wp2_with fail
        refine bodyPost_ret (res2 rfl _ _ w.heap.size 41 _ (0, 0) _ rfl HF.out.1 Tryz.underlying41 rfl (by kernel_rfl)) rfl ?_
        exact ⟨rfl, HF.out.2⟩
      | none =>
        simp only [Option.getD_none, Option.isSome_none] at ke ⊢
        generalize (getO ob k).getD zDe = d at *
        generalize (getO ob k).isSome = ok at *
        unfold deV at *
        unfold undW at ke
        clear h h2 hn hB hbx ha hq ho hi hkd hoo hgo hel cl hk hx
        go_enter Tryz.func18, Tryz.ntmps18
        go_upto_region 1 with fail
        rw [← hwb]
        clear hwb
        go_wp2_with fail
        refine ka.mono ?_
        rintro e w2 ⟨rfl, rfl⟩
        clear ka
        go_wp2_with fail
        refine ke.mono ?_
        rintro e w2 ⟨rfl, rfl⟩
        clear ke
        go_wp2_with fail
        refine kg.mono ?_
        rintro e w6 ⟨rfl, hB6⟩
        obtain ⟨q1, q2, q3⟩ := HFI.out w6 d hB6
        obtain ⟨f0, f1, f2⟩ := q1.fz
        obtain ⟨b0, b1, b2⟩ := q1.ce
        unfold zDe at b0 b1 b2
        have HF : Hid (Bx3 (st3 w6 w.heap.size d) w.heap.size d ∧ Below w.heap.size w (st3 w6 w.heap.size d)) := ⟨q2, q3⟩
        clear kg HFI hB6 q1 q2 q3
        go_wp2_with fail
        refine bodyPost_ret (res2 rfl _ _ w.heap.size 41 _ (0, 0) _ rfl HF.out.1 Tryz.underlying41 rfl (by kernel_rfl)) rfl ?_
        exact ⟨rfl, HF.out.2⟩

end

end Go.Proofs.YtahhionlbfhinaaGreatDoor.Hp
