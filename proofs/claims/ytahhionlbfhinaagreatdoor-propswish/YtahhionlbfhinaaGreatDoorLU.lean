/- The document's Define of what is no array. -/
import Derived.Test.YtahhionlbfhinaaGreatDoorLL
import Derived.Test.YtahhionlbfhinaaGreatDoorB18
import Derived.Test.YtahhionlbfhinaaGreatDoorLR
import Derived.Test.YtahhionlbfhinaaGreatDoorB22
namespace Go.Proofs.YtahhionlbfhinaaGreatDoor.Hp
open Go.RowKit
set_option linter.unusedVariables false

def newE : De := ⟨undW, undW, 0⟩
def rnoB (u : Ws) : Bool := (hasU u 16 || hasU u 32) && (hasU u 1 || hasU u 2)
def rdefS (x : So) (k : ByteArray) (u : Ws) : Bool × So :=
  if rnoB u = true then (false, x)
  else match getS x k with
    | none => if x.shut = true then (false, x) else (true, putS x k (rWishD newE u))
    | some old => if rmayD old (rWishD old u) = true then (true, putS x k (rWishD old u)) else (false, x)

def wDf (w : World) (vo vt : SV) (u : Ws) : World := ((w.alloc (.cells #[vo.val, vt.val] 28)).alloc (.cells #[.int .i64 u.has, .int .u64 u.va, .int .u64 u.ge, .int .u64 u.se, .int .i64 u.fl] 35)).alloc (.cells #[.slice none 0 0, .slice none 0 0] 28)
/-- what Define has at hand -/
structure DfS (w W : World) (B : Nat) (tg : Nat → Nat) (S : List So) (vo vt : SV) (qs : List QV) (u : Ws) : Prop where
  st : StAt W B tg S vo qs
  bs : BxS W w.heap.size vo vt
  bw : Bx5 W (w.heap.size + 1) u
  br : BxS W (w.heap.size + 2) .nil .nil
  bel : Below w.heap.size w W

section
variable {w W W' : World} {B : Nat} {tg : Nat → Nat} {S : List So} {vo vt : SV} {qs : List QV} {u : Ws} {i : Nat} {x : So}

theorem DfS.new (h : StAt w B tg S vo qs) (vt : SV) (u : Ws) : DfS w (wDf w vo vt u) B tg S vo vt qs u := by
  have s1 : (w.alloc (.cells #[vo.val, vt.val] 28)).heap.size = w.heap.size + 1 := size_new _ _
  have s2 : ((w.alloc (.cells #[vo.val, vt.val] 28)).alloc (.cells #[.int .i64 u.has, .int .u64 u.va, .int .u64 u.ge, .int .u64 u.se, .int .i64 u.fl] 35)).heap.size = w.heap.size + 2 := by rw [size_new, s1]
  have hb : Below w.heap.size w (wDf w vo vt u) := below_new (below_new (below_new (Below.refl _ _) (Nat.le_refl _) _) (by rw [s1]; omega) _) (by rw [s2]; omega) _
  refine ⟨h.below hb, at_old _ _ _ _ (at_old _ _ _ _ (at_new _ _)), at_old _ _ _ _ (at_two w _ _), ?_, hb⟩
  have := at_new ((w.alloc (.cells #[vo.val, vt.val] 28)).alloc (.cells #[.int .i64 u.has, .int .u64 u.va, .int .u64 u.ge, .int .u64 u.se, .int .i64 u.fl] 35)) (.cells #[.slice none 0 0, .slice none 0 0] 28)
  rw [s2] at this
  exact this
theorem DfS.below (h : DfS w W B tg S vo vt qs u) (hb : Below W.heap.size W W') : DfS w W' B tg S vo vt qs u := ⟨h.st.below hb, h.bs.below hb, h.bw.below hb, h.br.below hb, h.bel.trans (hb.mono h.bel.size)⟩
theorem set_same2 {α : Type} {l : List α} {i : Nat} {a : α} (h : l[i]? = some a) : l.set i a = l := by
  obtain ⟨h1, h2⟩ := List.getElem?_eq_some_iff.1 h
  rw [← h2]
  exact List.set_getElem_self h1
/-- nothing was done: the result is stored -/
theorem DfS.no (h0 : StAt w B tg S vo qs) (hi : S[i]? = some x) (h : DfS w W B tg S vo vt qs u) : ((W.setCell ⟨w.heap.size + 2, 0, none⟩ vo.val).setCell ⟨w.heap.size + 2, 1, none⟩ vt.val).heap[w.heap.size + 2]? = some (.cells #[vo.val, vt.val] 28 (0, 0)) ∧ SWent w B tg (S.set i x) vo ((W.setCell ⟨w.heap.size + 2, 0, none⟩ vo.val).setCell ⟨w.heap.size + 2, 1, none⟩ vt.val) := by
  have z0 := heap_setCell_same _ (w.heap.size + 2) 0 _ _ vo.val h.br
  have z1 := heap_setCell_same _ (w.heap.size + 2) 1 _ _ vt.val z0
  refine ⟨z1, ?_⟩
  rw [set_same2 hi]
  exact SWent.same h0 ((h.bel.setCell (by simp) _).setCell (by simp) _)
/-- something was put -/
theorem DfS.yes {S' : List So} (h0 : StAt w B tg S vo qs) (h : DfS w W B tg S vo vt qs u) (hp : SWent W B tg S' vo W') : BxS W' (w.heap.size + 2) .nil .nil ∧ ((W'.setCell ⟨w.heap.size + 2, 0, none⟩ vo.val).setCell ⟨w.heap.size + 2, 1, none⟩ vt.val).heap[w.heap.size + 2]? = some (.cells #[vo.val, vt.val] 28 (0, 0)) ∧ SWent w B tg S' vo ((W'.setCell ⟨w.heap.size + 2, 0, none⟩ vo.val).setCell ⟨w.heap.size + 2, 1, none⟩ vt.val) := by
  obtain ⟨tg', qs', g1, g2, g3⟩ := hp
  have hz : tg (w.heap.size + 2) = 0 := by
    rcases Nat.eq_zero_or_pos (tg (w.heap.size + 2)) with e | e
    · exact e
    · have := (h0.lt _ (by omega : tg (w.heap.size + 2) ≠ 0)).2
      omega
  have hb := h.br.kept g2 (fun r => r hz)
  have z0 := heap_setCell_same _ (w.heap.size + 2) 0 _ _ vo.val hb
  have z1 := heap_setCell_same _ (w.heap.size + 2) 1 _ _ vt.val z0
  have hs : Chg (fun b => b = w.heap.size + 2) W' ((W'.setCell ⟨w.heap.size + 2, 0, none⟩ vo.val).setCell ⟨w.heap.size + 2, 1, none⟩ vt.val) := (Chg.set (S := fun b => b = w.heap.size + 2) W' ⟨w.heap.size + 2, 0, none⟩ _ rfl).trans (Chg.set (S := fun b => b = w.heap.size + 2) _ ⟨w.heap.size + 2, 1, none⟩ _ rfl) (fun _ _ q => q)
  have hz' : tg' (w.heap.size + 2) = 0 := by
    rcases Nat.eq_zero_or_pos (tg' (w.heap.size + 2)) with e | e
    · exact e
    · rcases g3 _ (by omega : tg' (w.heap.size + 2) ≠ 0) with r | r
      · exact absurd hz r
      · have := h.br.lt
        omega
  refine ⟨hb, z1, tg', qs', g1.kept hs (fun b r e => r (by rw [e]; exact hz')), ?_, fun b r => ?_⟩
  · have c1 : Chg (fun b => tg b ≠ 0 ∨ w.heap.size ≤ b) w ((W'.setCell ⟨w.heap.size + 2, 0, none⟩ vo.val).setCell ⟨w.heap.size + 2, 1, none⟩ vt.val) := (((Chg.of_below h.bel).trans g2 (fun b _ r => Or.inl r)).trans hs (fun b _ r => Or.inr (by omega)))
    exact ⟨c1.os, c1.tape, c1.output, c1.size, fun b hb' hn => c1.block b hb' (fun r => by rcases r with r | r; exact hn r; omega)⟩
  · rcases g3 b r with q | q
    · exact Or.inl q
    · exact Or.inr (Nat.le_trans h.bel.size q)

set_option maxRecDepth 100000 in
set_option maxHeartbeats 8000000 in
theorem rdefine_plain (h : StAt w B tg S vo qs) (vt : SV) (hi : S[i]? = some x) (hk1 : x.kind ≠ 1) (k : ByteArray) (hnl : x.nm.length ≤ 1000000) (u : Ws) :
    Calls Tryz.prog 17 #[stV vo vt, .int .u64 (objW (i : Int)), .string k, wsV u] w fun e w' => e = .returned (.tuple #[stV vo vt, .bool (rdefS x k u).1]) ∧ SWent w B tg (S.set i (rdefS x k u).2) vo w' := by
  obtain ⟨wb, hwb⟩ : ∃ wb, wb = wDf w vo vt u := ⟨_, rfl⟩
  have h0 := DfS.new h vt u
  rw [← hwb] at h0
  have HD0 : Hid (DfS w wb B tg S vo vt qs u) := h0
  have hil : i < S.length := (List.getElem?_eq_some_iff.1 hi).1
  have HAT : Hid (∀ {W : World}, DfS w W B tg S vo vt qs u → Calls Tryz.prog 20 #[stV vo vt, .int .u64 (objW (i : Int))] W fun e w' => e = .returned (.int .i64 (i : Int)) ∧ Below W.heap.size W w') := fun {W} a => rat_any a.st vt hil
  have HOW : Hid (∀ {W : World}, DfS w W B tg S vo vt qs u → Calls Tryz.prog 19 #[stV vo vt, .int .u64 (objW (i : Int)), .string k] W fun e w' => e = .returned (.tuple #[deV ((getS x k).getD zDe), .bool (getS x k).isSome]) ∧ Below W.heap.size W w') := fun {W} a => rown_plain a.st vt hi hk1 k
  have HOP : Hid (∀ {W : World}, DfS w W B tg S vo vt qs u → Calls Tryz.prog 43 #[stV vo vt, .int .u64 (objW (i : Int))] W fun e w' => e = .returned (.bool (!x.shut)) ∧ Below W.heap.size W w') := fun {W} a => ropen_any a.st vt hi
  have HAR : Hid (∀ {W : World}, DfS w W B tg S vo vt qs u → Calls Tryz.prog 24 #[stV vo vt, .int .u64 (objW (i : Int))] W fun e w' => e = .returned (.bool false) ∧ Below W.heap.size W w') := fun {W} a => by
    have := rarray_any a.st vt hi
    rw [show (x.kind == 1) = false from by simpa using hk1] at this
    exact this
  have HPU : Hid (∀ {W : World} (d : De), DfS w W B tg S vo vt qs u → Calls Tryz.prog 15 #[stV vo vt, .int .u64 (objW (i : Int)), .string k, deV d] W fun e w' => e = .returned (stV vo vt) ∧ SWent W B tg (S.set i (putS x k d)) vo w') := fun {W} d a => rput_any a.st vt hi k hnl d
  have HNO : Hid (∀ {W : World}, DfS w W B tg S vo vt qs u → ((W.setCell ⟨w.heap.size + 2, 0, none⟩ vo.val).setCell ⟨w.heap.size + 2, 1, none⟩ vt.val).heap[w.heap.size + 2]? = some (.cells #[vo.val, vt.val] 28 (0, 0)) ∧ SWent w B tg (S.set i x) vo ((W.setCell ⟨w.heap.size + 2, 0, none⟩ vo.val).setCell ⟨w.heap.size + 2, 1, none⟩ vt.val)) := fun {W} a => DfS.no h hi a
  have HYE : Hid (∀ {W W' : World} {S' : List So}, DfS w W B tg S vo vt qs u → SWent W B tg S' vo W' → BxS W' (w.heap.size + 2) .nil .nil ∧ ((W'.setCell ⟨w.heap.size + 2, 0, none⟩ vo.val).setCell ⟨w.heap.size + 2, 1, none⟩ vt.val).heap[w.heap.size + 2]? = some (.cells #[vo.val, vt.val] 28 (0, 0)) ∧ SWent w B tg S' vo ((W'.setCell ⟨w.heap.size + 2, 0, none⟩ vo.val).setCell ⟨w.heap.size + 2, 1, none⟩ vt.val)) := fun {W W' S'} a b => DfS.yes h a b
  have kh16 := fun W => has_any W u 16
  have kh32 := fun W => has_any W u 32
  have kh1 := fun W => has_any W u 1
  have kh2 := fun W => has_any W u 2
  have kwi := fun W d => rwished_any W d u
  have kma := fun W o d => rmay_any W o d
  have h0i : ¬ ((i : Int) < 0) := by omega
  obtain ⟨b0, b1⟩ := h0.bs.ce
  obtain ⟨y0, y1, y2, y3, y4⟩ := h0.bw.ce
  have HE : Hid (rdefS x k u = if rnoB u = true then (false, x) else match getS x k with
    | none => if x.shut = true then (false, x) else (true, putS x k (rWishD newE u))
    | some old => if rmayD old (rWishD old u) = true then (true, putS x k (rWishD old u)) else (false, x)) := rfl
  generalize hR : rdefS x k u = R at *
  obtain ⟨va, vl, vc⟩ := vo
  obtain ⟨ta, tl, tc⟩ := vt
  unfold wDf at hwb
  unfold stV at *
  rw [show (SV.mk va vl vc).val = .slice va vl vc from rfl, show (SV.mk ta tl tc).val = .slice ta tl tc from rfl] at *
  generalize objW (i : Int) = o at *
  unfold wsV at *
  have HTG : Hid (∀ b, tg b ≠ 0 → b < w.heap.size) := fun b r => (h.lt b r).2
  clear h h0 hi hk1 hnl hR hil
  cases a16 : hasU u 16 with
  | true =>
    rw [a16] at kh16
    cases a1 : hasU u 1 with
    | true =>
      rw [a1] at kh1
      have hno : rnoB u = true := by unfold rnoB; simp [a16, a1]
      have HR : Hid (R = (false, x)) := by show R = _; rw [HE.out, if_pos hno]
      clear HE
      go_enter Tryz.func17, Tryz.ntmps17
      go_upto_region 1 with fail
      rw [← hwb]
      clear hwb
      go_wp2_with fail
      refine (HAT.out HD0.out).mono ?_
      rintro e wc1 ⟨rfl, hBc⟩
      have HD1 := (show Hid _ from HD0.out.below hBc)
      obtain ⟨b0, b1⟩ := HD1.out.bs.ce
      obtain ⟨y0, y1, y2, y3, y4⟩ := HD1.out.bw.ce
      rw [show (SV.mk va vl vc).val = .slice va vl vc from rfl] at b0
      rw [show (SV.mk ta tl tc).val = .slice ta tl tc from rfl] at b1
      clear hBc
      go_wp2_with fail
      refine (kh16 _).mono ?_
      rintro e wc2 ⟨rfl, hBc⟩
      have HD2 := (show Hid _ from HD1.out.below hBc)
      obtain ⟨b0, b1⟩ := HD2.out.bs.ce
      obtain ⟨y0, y1, y2, y3, y4⟩ := HD2.out.bw.ce
      rw [show (SV.mk va vl vc).val = .slice va vl vc from rfl] at b0
      rw [show (SV.mk ta tl tc).val = .slice ta tl tc from rfl] at b1
      clear hBc
      go_wp2_with fail
      refine (kh1 _).mono ?_
      rintro e wc3 ⟨rfl, hBc⟩
      have HD3 := (show Hid _ from HD2.out.below hBc)
      obtain ⟨b0, b1⟩ := HD3.out.bs.ce
      obtain ⟨y0, y1, y2, y3, y4⟩ := HD3.out.bw.ce
      rw [show (SV.mk va vl vc).val = .slice va vl vc from rfl] at b0
      rw [show (SV.mk ta tl tc).val = .slice ta tl tc from rfl] at b1
      clear hBc
      obtain ⟨z1, z2⟩ := HNO.out HD3.out
      have HZ := (show Hid _ from And.intro z1 z2)
      obtain ⟨r0, r1⟩ := HD3.out.br.ce
      obtain ⟨rf0, rf1⟩ := HD3.out.br.fz
      clear z1 z2
      go_wp2_with fail
      refine bodyPost_ret (res2 rfl _ _ (w.heap.size + 2) 28 _ (0, 0) _ rfl HZ.out.1 Tryz.underlying28 rfl (by kernel_rfl)) rfl ?_
      rw [HR.out]
      exact ⟨rfl, HZ.out.2⟩
    | false =>
      rw [a1] at kh1
      cases a2 : hasU u 2 with
      | true =>
        rw [a2] at kh2
        have hno : rnoB u = true := by unfold rnoB; simp [a16, a1, a2]
        have HR : Hid (R = (false, x)) := by show R = _; rw [HE.out, if_pos hno]
        clear HE
        go_enter Tryz.func17, Tryz.ntmps17
        go_upto_region 1 with fail
        rw [← hwb]
        clear hwb
        go_wp2_with fail
        refine (HAT.out HD0.out).mono ?_
        rintro e wc1 ⟨rfl, hBc⟩
        have HD1 := (show Hid _ from HD0.out.below hBc)
        obtain ⟨b0, b1⟩ := HD1.out.bs.ce
        obtain ⟨y0, y1, y2, y3, y4⟩ := HD1.out.bw.ce
        rw [show (SV.mk va vl vc).val = .slice va vl vc from rfl] at b0
        rw [show (SV.mk ta tl tc).val = .slice ta tl tc from rfl] at b1
        clear hBc
        go_wp2_with fail
        refine (kh16 _).mono ?_
        rintro e wc2 ⟨rfl, hBc⟩
        have HD2 := (show Hid _ from HD1.out.below hBc)
        obtain ⟨b0, b1⟩ := HD2.out.bs.ce
        obtain ⟨y0, y1, y2, y3, y4⟩ := HD2.out.bw.ce
        rw [show (SV.mk va vl vc).val = .slice va vl vc from rfl] at b0
        rw [show (SV.mk ta tl tc).val = .slice ta tl tc from rfl] at b1
        clear hBc
        go_wp2_with fail
        refine (kh1 _).mono ?_
        rintro e wc3 ⟨rfl, hBc⟩
        have HD3 := (show Hid _ from HD2.out.below hBc)
        obtain ⟨b0, b1⟩ := HD3.out.bs.ce
        obtain ⟨y0, y1, y2, y3, y4⟩ := HD3.out.bw.ce
        rw [show (SV.mk va vl vc).val = .slice va vl vc from rfl] at b0
        rw [show (SV.mk ta tl tc).val = .slice ta tl tc from rfl] at b1
        clear hBc
        go_wp2_with fail
        refine (kh2 _).mono ?_
        rintro e wc4 ⟨rfl, hBc⟩
        have HD4 := (show Hid _ from HD3.out.below hBc)
        obtain ⟨b0, b1⟩ := HD4.out.bs.ce
        obtain ⟨y0, y1, y2, y3, y4⟩ := HD4.out.bw.ce
        rw [show (SV.mk va vl vc).val = .slice va vl vc from rfl] at b0
        rw [show (SV.mk ta tl tc).val = .slice ta tl tc from rfl] at b1
        clear hBc
        obtain ⟨z1, z2⟩ := HNO.out HD4.out
        have HZ := (show Hid _ from And.intro z1 z2)
        obtain ⟨r0, r1⟩ := HD4.out.br.ce
        obtain ⟨rf0, rf1⟩ := HD4.out.br.fz
        clear z1 z2
        go_wp2_with fail
        refine bodyPost_ret (res2 rfl _ _ (w.heap.size + 2) 28 _ (0, 0) _ rfl HZ.out.1 Tryz.underlying28 rfl (by kernel_rfl)) rfl ?_
        rw [HR.out]
        exact ⟨rfl, HZ.out.2⟩
      | false =>
        rw [a2] at kh2
        have hno : rnoB u = false := by unfold rnoB; simp [a1, a2]
        cases hg : getS x k with
        | none =>
          have kow : ∀ {W : World}, DfS w W B tg S ⟨va, vl, vc⟩ ⟨ta, tl, tc⟩ qs u → Calls Tryz.prog 19 #[.agg #[.slice va vl vc, .slice ta tl tc], .int .u64 o, .string k] W fun e w' => e = .returned (.tuple #[.agg #[.int .u64 0, .int .u64 0, .int .i64 0], .bool false]) ∧ Below W.heap.size W w' := fun {W} a => by have := HOW.out a; rw [hg] at this; exact this
          cases hs : x.shut with
          | true =>
            have kop : ∀ {W : World}, DfS w W B tg S ⟨va, vl, vc⟩ ⟨ta, tl, tc⟩ qs u → Calls Tryz.prog 43 #[.agg #[.slice va vl vc, .slice ta tl tc], .int .u64 o] W fun e w' => e = .returned (.bool false) ∧ Below W.heap.size W w' := fun {W} a => by have := HOP.out a; rw [hs] at this; exact this
            have HR : Hid (R = (false, x)) := by show R = _; rw [HE.out, if_neg (by rw [hno]; simp), hg]; simp only [hs, if_true]
            clear HE
            go_enter Tryz.func17, Tryz.ntmps17
            go_upto_region 1 with fail
            rw [← hwb]
            clear hwb
            go_wp2_with fail
            refine (HAT.out HD0.out).mono ?_
            rintro e wc1 ⟨rfl, hBc⟩
            have HD1 := (show Hid _ from HD0.out.below hBc)
            obtain ⟨b0, b1⟩ := HD1.out.bs.ce
            obtain ⟨y0, y1, y2, y3, y4⟩ := HD1.out.bw.ce
            rw [show (SV.mk va vl vc).val = .slice va vl vc from rfl] at b0
            rw [show (SV.mk ta tl tc).val = .slice ta tl tc from rfl] at b1
            clear hBc
            go_wp2_with fail
            refine (kh16 _).mono ?_
            rintro e wc2 ⟨rfl, hBc⟩
            have HD2 := (show Hid _ from HD1.out.below hBc)
            obtain ⟨b0, b1⟩ := HD2.out.bs.ce
            obtain ⟨y0, y1, y2, y3, y4⟩ := HD2.out.bw.ce
            rw [show (SV.mk va vl vc).val = .slice va vl vc from rfl] at b0
            rw [show (SV.mk ta tl tc).val = .slice ta tl tc from rfl] at b1
            clear hBc
            go_wp2_with fail
            refine (kh1 _).mono ?_
            rintro e wc3 ⟨rfl, hBc⟩
            have HD3 := (show Hid _ from HD2.out.below hBc)
            obtain ⟨b0, b1⟩ := HD3.out.bs.ce
            obtain ⟨y0, y1, y2, y3, y4⟩ := HD3.out.bw.ce
            rw [show (SV.mk va vl vc).val = .slice va vl vc from rfl] at b0
            rw [show (SV.mk ta tl tc).val = .slice ta tl tc from rfl] at b1
            clear hBc
            go_wp2_with fail
            refine (kh2 _).mono ?_
            rintro e wc4 ⟨rfl, hBc⟩
            have HD4 := (show Hid _ from HD3.out.below hBc)
            obtain ⟨b0, b1⟩ := HD4.out.bs.ce
            obtain ⟨y0, y1, y2, y3, y4⟩ := HD4.out.bw.ce
            rw [show (SV.mk va vl vc).val = .slice va vl vc from rfl] at b0
            rw [show (SV.mk ta tl tc).val = .slice ta tl tc from rfl] at b1
            clear hBc
            go_wp2_with fail
            refine (kow HD4.out).mono ?_
            rintro e wc5 ⟨rfl, hBc⟩
            have HD5 := (show Hid _ from HD4.out.below hBc)
            obtain ⟨b0, b1⟩ := HD5.out.bs.ce
            obtain ⟨y0, y1, y2, y3, y4⟩ := HD5.out.bw.ce
            rw [show (SV.mk va vl vc).val = .slice va vl vc from rfl] at b0
            rw [show (SV.mk ta tl tc).val = .slice ta tl tc from rfl] at b1
            clear hBc
            have HA := (show Hid _ from HD5.out.below ((Below.refl _ _).alloc (Nat.le_refl _) (.cells #[.int .u64 0, .int .u64 0, .int .i64 0] 41)))
            have HT0 : Hid (Bx3 (wc5.alloc (.cells #[.int .u64 0, .int .u64 0, .int .i64 0] 41)) wc5.heap.size zDe ∧ w.heap.size + 3 ≤ wc5.heap.size) := ⟨at_new _ _, by have := HD5.out.br.lt; omega⟩
            obtain ⟨b0, b1⟩ := HA.out.bs.ce
            obtain ⟨y0, y1, y2, y3, y4⟩ := HA.out.bw.ce
            rw [show (SV.mk va vl vc).val = .slice va vl vc from rfl] at b0
            rw [show (SV.mk ta tl tc).val = .slice ta tl tc from rfl] at b1
            go_upto_region 4 with fail
            generalize (wc5.alloc (.cells #[.int .u64 0, .int .u64 0, .int .i64 0] 41)) = wa at *
            generalize wc5.heap.size = bt at *
            go_wp2_with fail
            refine (kop HA.out).mono ?_
            rintro e wo ⟨rfl, hBo⟩
            have HO := (show Hid _ from HA.out.below hBo)
            have HT1 : Hid (Bx3 wo bt zDe) := HT0.out.1.below hBo
            have HTL : Hid (w.heap.size + 3 ≤ bt) := HT0.out.2
            obtain ⟨b0, b1⟩ := HO.out.bs.ce
            obtain ⟨y0, y1, y2, y3, y4⟩ := HO.out.bw.ce
            rw [show (SV.mk va vl vc).val = .slice va vl vc from rfl] at b0
            rw [show (SV.mk ta tl tc).val = .slice ta tl tc from rfl] at b1
            obtain ⟨t0, t1, t2⟩ := HT1.out.ce
            obtain ⟨tf0, tf1, tf2⟩ := HT1.out.fz
            clear hBo HT0 HA
            unfold zDe at t0 t1 t2
            obtain ⟨z1, z2⟩ := HNO.out HO.out
            have HZ := (show Hid _ from And.intro z1 z2)
            obtain ⟨r0, r1⟩ := HO.out.br.ce
            obtain ⟨rf0, rf1⟩ := HO.out.br.fz
            clear z1 z2
            go_wp2_with fail
            refine bodyPost_ret (res2 rfl _ _ (w.heap.size + 2) 28 _ (0, 0) _ rfl HZ.out.1 Tryz.underlying28 rfl (by kernel_rfl)) rfl ?_
            rw [HR.out]
            exact ⟨rfl, HZ.out.2⟩
          | false =>
            have kop : ∀ {W : World}, DfS w W B tg S ⟨va, vl, vc⟩ ⟨ta, tl, tc⟩ qs u → Calls Tryz.prog 43 #[.agg #[.slice va vl vc, .slice ta tl tc], .int .u64 o] W fun e w' => e = .returned (.bool true) ∧ Below W.heap.size W w' := fun {W} a => by have := HOP.out a; rw [hs] at this; exact this
            have kwo := fun W => kwi W newE
            have HR : Hid (R = (true, putS x k (rWishD newE u))) := by show R = _; rw [HE.out, if_neg (by rw [hno]; simp), hg]; simp only [hs, Bool.false_eq_true, if_false]
            generalize rWishD newE u = nd at *
            unfold deV newE undW at kwo
            simp only at kwo
            clear HE
            go_enter Tryz.func17, Tryz.ntmps17
            go_upto_region 1 with fail
            rw [← hwb]
            clear hwb
            go_wp2_with fail
            refine (HAT.out HD0.out).mono ?_
            rintro e wc1 ⟨rfl, hBc⟩
            have HD1 := (show Hid _ from HD0.out.below hBc)
            obtain ⟨b0, b1⟩ := HD1.out.bs.ce
            obtain ⟨y0, y1, y2, y3, y4⟩ := HD1.out.bw.ce
            rw [show (SV.mk va vl vc).val = .slice va vl vc from rfl] at b0
            rw [show (SV.mk ta tl tc).val = .slice ta tl tc from rfl] at b1
            clear hBc
            go_wp2_with fail
            refine (kh16 _).mono ?_
            rintro e wc2 ⟨rfl, hBc⟩
            have HD2 := (show Hid _ from HD1.out.below hBc)
            obtain ⟨b0, b1⟩ := HD2.out.bs.ce
            obtain ⟨y0, y1, y2, y3, y4⟩ := HD2.out.bw.ce
            rw [show (SV.mk va vl vc).val = .slice va vl vc from rfl] at b0
            rw [show (SV.mk ta tl tc).val = .slice ta tl tc from rfl] at b1
            clear hBc
            go_wp2_with fail
            refine (kh1 _).mono ?_
            rintro e wc3 ⟨rfl, hBc⟩
            have HD3 := (show Hid _ from HD2.out.below hBc)
            obtain ⟨b0, b1⟩ := HD3.out.bs.ce
            obtain ⟨y0, y1, y2, y3, y4⟩ := HD3.out.bw.ce
            rw [show (SV.mk va vl vc).val = .slice va vl vc from rfl] at b0
            rw [show (SV.mk ta tl tc).val = .slice ta tl tc from rfl] at b1
            clear hBc
            go_wp2_with fail
            refine (kh2 _).mono ?_
            rintro e wc4 ⟨rfl, hBc⟩
            have HD4 := (show Hid _ from HD3.out.below hBc)
            obtain ⟨b0, b1⟩ := HD4.out.bs.ce
            obtain ⟨y0, y1, y2, y3, y4⟩ := HD4.out.bw.ce
            rw [show (SV.mk va vl vc).val = .slice va vl vc from rfl] at b0
            rw [show (SV.mk ta tl tc).val = .slice ta tl tc from rfl] at b1
            clear hBc
            go_wp2_with fail
            refine (kow HD4.out).mono ?_
            rintro e wc5 ⟨rfl, hBc⟩
            have HD5 := (show Hid _ from HD4.out.below hBc)
            obtain ⟨b0, b1⟩ := HD5.out.bs.ce
            obtain ⟨y0, y1, y2, y3, y4⟩ := HD5.out.bw.ce
            rw [show (SV.mk va vl vc).val = .slice va vl vc from rfl] at b0
            rw [show (SV.mk ta tl tc).val = .slice ta tl tc from rfl] at b1
            clear hBc
            have HA := (show Hid _ from HD5.out.below ((Below.refl _ _).alloc (Nat.le_refl _) (.cells #[.int .u64 0, .int .u64 0, .int .i64 0] 41)))
            have HT0 : Hid (Bx3 (wc5.alloc (.cells #[.int .u64 0, .int .u64 0, .int .i64 0] 41)) wc5.heap.size zDe ∧ w.heap.size + 3 ≤ wc5.heap.size) := ⟨at_new _ _, by have := HD5.out.br.lt; omega⟩
            obtain ⟨b0, b1⟩ := HA.out.bs.ce
            obtain ⟨y0, y1, y2, y3, y4⟩ := HA.out.bw.ce
            rw [show (SV.mk va vl vc).val = .slice va vl vc from rfl] at b0
            rw [show (SV.mk ta tl tc).val = .slice ta tl tc from rfl] at b1
            go_upto_region 4 with fail
            generalize (wc5.alloc (.cells #[.int .u64 0, .int .u64 0, .int .i64 0] 41)) = wa at *
            generalize wc5.heap.size = bt at *
            go_wp2_with fail
            refine (kop HA.out).mono ?_
            rintro e wo ⟨rfl, hBo⟩
            have HO := (show Hid _ from HA.out.below hBo)
            have HT1 : Hid (Bx3 wo bt zDe) := HT0.out.1.below hBo
            have HTL : Hid (w.heap.size + 3 ≤ bt) := HT0.out.2
            obtain ⟨b0, b1⟩ := HO.out.bs.ce
            obtain ⟨y0, y1, y2, y3, y4⟩ := HO.out.bw.ce
            rw [show (SV.mk va vl vc).val = .slice va vl vc from rfl] at b0
            rw [show (SV.mk ta tl tc).val = .slice ta tl tc from rfl] at b1
            obtain ⟨t0, t1, t2⟩ := HT1.out.ce
            obtain ⟨tf0, tf1, tf2⟩ := HT1.out.fz
            clear hBo HT0 HA
            unfold zDe at t0 t1 t2
            have HS8 : Hid (DfS w (st3 wo bt newE) B tg S ⟨va, vl, vc⟩ ⟨ta, tl, tc⟩ qs u ∧ Bx3 (st3 wo bt newE) bt newE) := by
              have hl := HTL.out
              have hc : Chg (fun b => b = bt) wo (st3 wo bt newE) := ((Chg.set (S := fun b => b = bt) wo ⟨bt, 0, none⟩ _ rfl).trans (Chg.set (S := fun b => b = bt) _ ⟨bt, 1, none⟩ _ rfl) (fun _ _ q => q)).trans (Chg.set (S := fun b => b = bt) _ ⟨bt, 2, none⟩ _ rfl) (fun _ _ q => q)
              have htg : ∀ b, tg b ≠ 0 → ¬ b = bt := fun b r e => by
                have := HTG.out b r
                omega
              exact ⟨⟨HO.out.st.kept hc htg, HO.out.bs.kept hc (by omega), by unfold Bx5; rw [st3_other _ _ _ (by omega)]; exact HO.out.bw, HO.out.br.kept hc (by omega), st3_below HO.out.bel (by omega) _⟩, HT1.out.put _⟩
            go_upto_region 9 with fail
            have hst : st3 wo bt newE = ((wo.setCell ⟨bt, 0, none⟩ (.int .u64 18445336698825998336)).setCell ⟨bt, 1, none⟩ (.int .u64 18445336698825998336)).setCell ⟨bt, 2, none⟩ (.int .i64 0) := rfl
            rw [← hst]
            generalize st3 wo bt newE = wp at *
            clear hst
            have HP := (show Hid _ from HS8.out.1)
            have HT2 : Hid (Bx3 wp bt newE) := HS8.out.2
            obtain ⟨b0, b1⟩ := HP.out.bs.ce
            obtain ⟨y0, y1, y2, y3, y4⟩ := HP.out.bw.ce
            rw [show (SV.mk va vl vc).val = .slice va vl vc from rfl] at b0
            rw [show (SV.mk ta tl tc).val = .slice ta tl tc from rfl] at b1
            obtain ⟨t0, t1, t2⟩ := HT2.out.ce
            unfold newE undW at t0 t1 t2
            simp only at t0 t1 t2
            clear HS8 tf0 tf1 tf2
            go_wp2_with fail
            refine (kwo _).mono ?_
            rintro e ww ⟨rfl, hBw⟩
            have HW := (show Hid _ from HP.out.below hBw)
            have HWA := (show Hid _ from HW.out.below ((Below.refl _ _).alloc (Nat.le_refl _) (.cells #[.int .u64 nd.va, .int .u64 nd.se, .int .i64 nd.fl] 41)))
            have HTA : Hid (Bx3 (ww.alloc (.cells #[.int .u64 nd.va, .int .u64 nd.se, .int .i64 nd.fl] 41)) bt newE) := (HT2.out.below hBw).below ((Below.refl _ _).alloc (Nat.le_refl _) _)
            have HTN : Hid (Bx3 (ww.alloc (.cells #[.int .u64 nd.va, .int .u64 nd.se, .int .i64 nd.fl] 41)) ww.heap.size nd) := Bx3.box ww nd
            obtain ⟨b0, b1⟩ := HWA.out.bs.ce
            obtain ⟨y0, y1, y2, y3, y4⟩ := HWA.out.bw.ce
            rw [show (SV.mk va vl vc).val = .slice va vl vc from rfl] at b0
            rw [show (SV.mk ta tl tc).val = .slice ta tl tc from rfl] at b1
            obtain ⟨t0, t1, t2⟩ := HTA.out.ce
            obtain ⟨n0, n1, n2⟩ := HTN.out.ce
            clear hBw HP HT2 HW
            go_upto_region 10 with fail
            generalize (ww.alloc (.cells #[.int .u64 nd.va, .int .u64 nd.se, .int .i64 nd.fl] 41)) = wz at *
            generalize ww.heap.size = bn at *
            go_wp2_with fail
            refine (HAR.out HWA.out).mono ?_
            rintro e wr ⟨rfl, hBr⟩
            have HRR := (show Hid _ from HWA.out.below hBr)
            have HTR : Hid (Bx3 wr bn nd) := HTN.out.below hBr
            obtain ⟨b0, b1⟩ := HRR.out.bs.ce
            obtain ⟨y0, y1, y2, y3, y4⟩ := HRR.out.bw.ce
            rw [show (SV.mk va vl vc).val = .slice va vl vc from rfl] at b0
            rw [show (SV.mk ta tl tc).val = .slice ta tl tc from rfl] at b1
            obtain ⟨n0, n1, n2⟩ := HTR.out.ce
            clear hBr HWA HTN
            have kpu := HPU.out nd HRR.out
            unfold deV at kpu
            go_wp2_with fail
            refine kpu.mono ?_
            rintro e wf ⟨rfl, hsw⟩
            obtain ⟨hbr, z1, z2⟩ := HYE.out HRR.out hsw
            have HZ := (show Hid _ from And.intro z1 z2)
            obtain ⟨r0, r1⟩ := hbr.ce
            obtain ⟨rf0, rf1⟩ := hbr.fz
            clear z1 z2 hsw hbr kpu
            go_wp2_with fail
            refine bodyPost_ret (res2 rfl _ _ (w.heap.size + 2) 28 _ (0, 0) _ rfl HZ.out.1 Tryz.underlying28 rfl (by kernel_rfl)) rfl ?_
            rw [HR.out]
            exact ⟨rfl, HZ.out.2⟩
        | some old =>
          have kow : ∀ {W : World}, DfS w W B tg S ⟨va, vl, vc⟩ ⟨ta, tl, tc⟩ qs u → Calls Tryz.prog 19 #[.agg #[.slice va vl vc, .slice ta tl tc], .int .u64 o, .string k] W fun e w' => e = .returned (.tuple #[.agg #[.int .u64 old.va, .int .u64 old.se, .int .i64 old.fl], .bool true]) ∧ Below W.heap.size W w' := fun {W} a => by have := HOW.out a; rw [hg] at this; exact this
          have kop : ∀ {W : World}, DfS w W B tg S ⟨va, vl, vc⟩ ⟨ta, tl, tc⟩ qs u → Calls Tryz.prog 43 #[.agg #[.slice va vl vc, .slice ta tl tc], .int .u64 o] W fun e w' => e = .returned (.bool (!x.shut)) ∧ Below W.heap.size W w' := fun {W} a => HOP.out a
          have kwo := fun W => kwi W old
          have kmo := fun W => kma W old (rWishD old u)
          cases hm : rmayD old (rWishD old u) with
          | true =>
            rw [hm] at kmo
            have HR : Hid (R = (true, putS x k (rWishD old u))) := by show R = _; rw [HE.out, if_neg (by rw [hno]; simp), hg]; simp only [hm, if_true]
            generalize rWishD old u = nd at *
            unfold deV at kwo kmo
            clear HE
            go_enter Tryz.func17, Tryz.ntmps17
            go_upto_region 1 with fail
            rw [← hwb]
            clear hwb
            go_wp2_with fail
            refine (HAT.out HD0.out).mono ?_
            rintro e wc1 ⟨rfl, hBc⟩
            have HD1 := (show Hid _ from HD0.out.below hBc)
            obtain ⟨b0, b1⟩ := HD1.out.bs.ce
            obtain ⟨y0, y1, y2, y3, y4⟩ := HD1.out.bw.ce
            rw [show (SV.mk va vl vc).val = .slice va vl vc from rfl] at b0
            rw [show (SV.mk ta tl tc).val = .slice ta tl tc from rfl] at b1
            clear hBc
            go_wp2_with fail
            refine (kh16 _).mono ?_
            rintro e wc2 ⟨rfl, hBc⟩
            have HD2 := (show Hid _ from HD1.out.below hBc)
            obtain ⟨b0, b1⟩ := HD2.out.bs.ce
            obtain ⟨y0, y1, y2, y3, y4⟩ := HD2.out.bw.ce
            rw [show (SV.mk va vl vc).val = .slice va vl vc from rfl] at b0
            rw [show (SV.mk ta tl tc).val = .slice ta tl tc from rfl] at b1
            clear hBc
            go_wp2_with fail
            refine (kh1 _).mono ?_
            rintro e wc3 ⟨rfl, hBc⟩
            have HD3 := (show Hid _ from HD2.out.below hBc)
            obtain ⟨b0, b1⟩ := HD3.out.bs.ce
            obtain ⟨y0, y1, y2, y3, y4⟩ := HD3.out.bw.ce
            rw [show (SV.mk va vl vc).val = .slice va vl vc from rfl] at b0
            rw [show (SV.mk ta tl tc).val = .slice ta tl tc from rfl] at b1
            clear hBc
            go_wp2_with fail
            refine (kh2 _).mono ?_
            rintro e wc4 ⟨rfl, hBc⟩
            have HD4 := (show Hid _ from HD3.out.below hBc)
            obtain ⟨b0, b1⟩ := HD4.out.bs.ce
            obtain ⟨y0, y1, y2, y3, y4⟩ := HD4.out.bw.ce
            rw [show (SV.mk va vl vc).val = .slice va vl vc from rfl] at b0
            rw [show (SV.mk ta tl tc).val = .slice ta tl tc from rfl] at b1
            clear hBc
            go_wp2_with fail
            refine (kow HD4.out).mono ?_
            rintro e wc5 ⟨rfl, hBc⟩
            have HD5 := (show Hid _ from HD4.out.below hBc)
            obtain ⟨b0, b1⟩ := HD5.out.bs.ce
            obtain ⟨y0, y1, y2, y3, y4⟩ := HD5.out.bw.ce
            rw [show (SV.mk va vl vc).val = .slice va vl vc from rfl] at b0
            rw [show (SV.mk ta tl tc).val = .slice ta tl tc from rfl] at b1
            clear hBc
            have HA := (show Hid _ from HD5.out.below ((Below.refl _ _).alloc (Nat.le_refl _) (.cells #[.int .u64 old.va, .int .u64 old.se, .int .i64 old.fl] 41)))
            have HT0 : Hid (Bx3 (wc5.alloc (.cells #[.int .u64 old.va, .int .u64 old.se, .int .i64 old.fl] 41)) wc5.heap.size old ∧ w.heap.size + 3 ≤ wc5.heap.size) := ⟨at_new _ _, by have := HD5.out.br.lt; omega⟩
            obtain ⟨b0, b1⟩ := HA.out.bs.ce
            obtain ⟨y0, y1, y2, y3, y4⟩ := HA.out.bw.ce
            rw [show (SV.mk va vl vc).val = .slice va vl vc from rfl] at b0
            rw [show (SV.mk ta tl tc).val = .slice ta tl tc from rfl] at b1
            go_upto_region 4 with fail
            generalize (wc5.alloc (.cells #[.int .u64 old.va, .int .u64 old.se, .int .i64 old.fl] 41)) = wa at *
            generalize wc5.heap.size = bt at *
            go_wp2_with fail
            refine (kop HA.out).mono ?_
            rintro e wo ⟨rfl, hBo⟩
            have HO := (show Hid _ from HA.out.below hBo)
            have HT1 : Hid (Bx3 wo bt old) := HT0.out.1.below hBo
            have HTL : Hid (w.heap.size + 3 ≤ bt) := HT0.out.2
            obtain ⟨b0, b1⟩ := HO.out.bs.ce
            obtain ⟨y0, y1, y2, y3, y4⟩ := HO.out.bw.ce
            rw [show (SV.mk va vl vc).val = .slice va vl vc from rfl] at b0
            rw [show (SV.mk ta tl tc).val = .slice ta tl tc from rfl] at b1
            obtain ⟨t0, t1, t2⟩ := HT1.out.ce
            obtain ⟨tf0, tf1, tf2⟩ := HT1.out.fz
            clear hBo HT0 HA
            go_wp2_with fail
            refine (kwo _).mono ?_
            rintro e ww ⟨rfl, hBw⟩
            have HW := (show Hid _ from HO.out.below hBw)
            have HWA := (show Hid _ from HW.out.below ((Below.refl _ _).alloc (Nat.le_refl _) (.cells #[.int .u64 nd.va, .int .u64 nd.se, .int .i64 nd.fl] 41)))
            have HTA : Hid (Bx3 (ww.alloc (.cells #[.int .u64 nd.va, .int .u64 nd.se, .int .i64 nd.fl] 41)) bt old) := (HT1.out.below hBw).below ((Below.refl _ _).alloc (Nat.le_refl _) _)
            have HTN : Hid (Bx3 (ww.alloc (.cells #[.int .u64 nd.va, .int .u64 nd.se, .int .i64 nd.fl] 41)) ww.heap.size nd) := Bx3.box ww nd
            obtain ⟨b0, b1⟩ := HWA.out.bs.ce
            obtain ⟨y0, y1, y2, y3, y4⟩ := HWA.out.bw.ce
            rw [show (SV.mk va vl vc).val = .slice va vl vc from rfl] at b0
            rw [show (SV.mk ta tl tc).val = .slice ta tl tc from rfl] at b1
            obtain ⟨t0, t1, t2⟩ := HTA.out.ce
            obtain ⟨n0, n1, n2⟩ := HTN.out.ce
            clear hBw HO HT1 HW
            go_upto_region 10 with fail
            generalize (ww.alloc (.cells #[.int .u64 nd.va, .int .u64 nd.se, .int .i64 nd.fl] 41)) = wz at *
            generalize ww.heap.size = bn at *
            go_wp2_with fail
            refine (kmo _).mono ?_
            rintro e wm ⟨rfl, hBm⟩
            have HM := (show Hid _ from HWA.out.below hBm)
            have HTM : Hid (Bx3 wm bn nd) := HTN.out.below hBm
            obtain ⟨b0, b1⟩ := HM.out.bs.ce
            obtain ⟨y0, y1, y2, y3, y4⟩ := HM.out.bw.ce
            rw [show (SV.mk va vl vc).val = .slice va vl vc from rfl] at b0
            rw [show (SV.mk ta tl tc).val = .slice ta tl tc from rfl] at b1
            obtain ⟨n0, n1, n2⟩ := HTM.out.ce
            clear hBm HWA HTN HTA
            go_wp2_with fail
            refine (HAR.out HM.out).mono ?_
            rintro e wr ⟨rfl, hBr⟩
            have HRR := (show Hid _ from HM.out.below hBr)
            have HTR : Hid (Bx3 wr bn nd) := HTM.out.below hBr
            obtain ⟨b0, b1⟩ := HRR.out.bs.ce
            obtain ⟨y0, y1, y2, y3, y4⟩ := HRR.out.bw.ce
            rw [show (SV.mk va vl vc).val = .slice va vl vc from rfl] at b0
            rw [show (SV.mk ta tl tc).val = .slice ta tl tc from rfl] at b1
            obtain ⟨n0, n1, n2⟩ := HTR.out.ce
            clear hBr HM HTM
            have kpu := HPU.out nd HRR.out
            unfold deV at kpu
            go_wp2_with fail
            refine kpu.mono ?_
            rintro e wf ⟨rfl, hsw⟩
            obtain ⟨hbr, z1, z2⟩ := HYE.out HRR.out hsw
            have HZ := (show Hid _ from And.intro z1 z2)
            obtain ⟨r0, r1⟩ := hbr.ce
            obtain ⟨rf0, rf1⟩ := hbr.fz
            clear z1 z2 hsw hbr kpu
            go_wp2_with fail
            refine bodyPost_ret (res2 rfl _ _ (w.heap.size + 2) 28 _ (0, 0) _ rfl HZ.out.1 Tryz.underlying28 rfl (by kernel_rfl)) rfl ?_
            rw [HR.out]
            exact ⟨rfl, HZ.out.2⟩
          | false =>
            rw [hm] at kmo
            have HR : Hid (R = (false, x)) := by show R = _; rw [HE.out, if_neg (by rw [hno]; simp), hg]; simp only [hm, Bool.false_eq_true, if_false]
            generalize rWishD old u = nd at *
            unfold deV at kwo kmo
            clear HE
            go_enter Tryz.func17, Tryz.ntmps17
            go_upto_region 1 with fail
            rw [← hwb]
            clear hwb
            go_wp2_with fail
            refine (HAT.out HD0.out).mono ?_
            rintro e wc1 ⟨rfl, hBc⟩
            have HD1 := (show Hid _ from HD0.out.below hBc)
            obtain ⟨b0, b1⟩ := HD1.out.bs.ce
            obtain ⟨y0, y1, y2, y3, y4⟩ := HD1.out.bw.ce
            rw [show (SV.mk va vl vc).val = .slice va vl vc from rfl] at b0
            rw [show (SV.mk ta tl tc).val = .slice ta tl tc from rfl] at b1
            clear hBc
            go_wp2_with fail
            refine (kh16 _).mono ?_
            rintro e wc2 ⟨rfl, hBc⟩
            have HD2 := (show Hid _ from HD1.out.below hBc)
            obtain ⟨b0, b1⟩ := HD2.out.bs.ce
            obtain ⟨y0, y1, y2, y3, y4⟩ := HD2.out.bw.ce
            rw [show (SV.mk va vl vc).val = .slice va vl vc from rfl] at b0
            rw [show (SV.mk ta tl tc).val = .slice ta tl tc from rfl] at b1
            clear hBc
            go_wp2_with fail
            refine (kh1 _).mono ?_
            rintro e wc3 ⟨rfl, hBc⟩
            have HD3 := (show Hid _ from HD2.out.below hBc)
            obtain ⟨b0, b1⟩ := HD3.out.bs.ce
            obtain ⟨y0, y1, y2, y3, y4⟩ := HD3.out.bw.ce
            rw [show (SV.mk va vl vc).val = .slice va vl vc from rfl] at b0
            rw [show (SV.mk ta tl tc).val = .slice ta tl tc from rfl] at b1
            clear hBc
            go_wp2_with fail
            refine (kh2 _).mono ?_
            rintro e wc4 ⟨rfl, hBc⟩
            have HD4 := (show Hid _ from HD3.out.below hBc)
            obtain ⟨b0, b1⟩ := HD4.out.bs.ce
            obtain ⟨y0, y1, y2, y3, y4⟩ := HD4.out.bw.ce
            rw [show (SV.mk va vl vc).val = .slice va vl vc from rfl] at b0
            rw [show (SV.mk ta tl tc).val = .slice ta tl tc from rfl] at b1
            clear hBc
            go_wp2_with fail
            refine (kow HD4.out).mono ?_
            rintro e wc5 ⟨rfl, hBc⟩
            have HD5 := (show Hid _ from HD4.out.below hBc)
            obtain ⟨b0, b1⟩ := HD5.out.bs.ce
            obtain ⟨y0, y1, y2, y3, y4⟩ := HD5.out.bw.ce
            rw [show (SV.mk va vl vc).val = .slice va vl vc from rfl] at b0
            rw [show (SV.mk ta tl tc).val = .slice ta tl tc from rfl] at b1
            clear hBc
            have HA := (show Hid _ from HD5.out.below ((Below.refl _ _).alloc (Nat.le_refl _) (.cells #[.int .u64 old.va, .int .u64 old.se, .int .i64 old.fl] 41)))
            have HT0 : Hid (Bx3 (wc5.alloc (.cells #[.int .u64 old.va, .int .u64 old.se, .int .i64 old.fl] 41)) wc5.heap.size old ∧ w.heap.size + 3 ≤ wc5.heap.size) := ⟨at_new _ _, by have := HD5.out.br.lt; omega⟩
            obtain ⟨b0, b1⟩ := HA.out.bs.ce
            obtain ⟨y0, y1, y2, y3, y4⟩ := HA.out.bw.ce
            rw [show (SV.mk va vl vc).val = .slice va vl vc from rfl] at b0
            rw [show (SV.mk ta tl tc).val = .slice ta tl tc from rfl] at b1
            go_upto_region 4 with fail
            generalize (wc5.alloc (.cells #[.int .u64 old.va, .int .u64 old.se, .int .i64 old.fl] 41)) = wa at *
            generalize wc5.heap.size = bt at *
            go_wp2_with fail
            refine (kop HA.out).mono ?_
            rintro e wo ⟨rfl, hBo⟩
            have HO := (show Hid _ from HA.out.below hBo)
            have HT1 : Hid (Bx3 wo bt old) := HT0.out.1.below hBo
            have HTL : Hid (w.heap.size + 3 ≤ bt) := HT0.out.2
            obtain ⟨b0, b1⟩ := HO.out.bs.ce
            obtain ⟨y0, y1, y2, y3, y4⟩ := HO.out.bw.ce
            rw [show (SV.mk va vl vc).val = .slice va vl vc from rfl] at b0
            rw [show (SV.mk ta tl tc).val = .slice ta tl tc from rfl] at b1
            obtain ⟨t0, t1, t2⟩ := HT1.out.ce
            obtain ⟨tf0, tf1, tf2⟩ := HT1.out.fz
            clear hBo HT0 HA
            go_wp2_with fail
            refine (kwo _).mono ?_
            rintro e ww ⟨rfl, hBw⟩
            have HW := (show Hid _ from HO.out.below hBw)
            have HWA := (show Hid _ from HW.out.below ((Below.refl _ _).alloc (Nat.le_refl _) (.cells #[.int .u64 nd.va, .int .u64 nd.se, .int .i64 nd.fl] 41)))
            have HTA : Hid (Bx3 (ww.alloc (.cells #[.int .u64 nd.va, .int .u64 nd.se, .int .i64 nd.fl] 41)) bt old) := (HT1.out.below hBw).below ((Below.refl _ _).alloc (Nat.le_refl _) _)
            have HTN : Hid (Bx3 (ww.alloc (.cells #[.int .u64 nd.va, .int .u64 nd.se, .int .i64 nd.fl] 41)) ww.heap.size nd) := Bx3.box ww nd
            obtain ⟨b0, b1⟩ := HWA.out.bs.ce
            obtain ⟨y0, y1, y2, y3, y4⟩ := HWA.out.bw.ce
            rw [show (SV.mk va vl vc).val = .slice va vl vc from rfl] at b0
            rw [show (SV.mk ta tl tc).val = .slice ta tl tc from rfl] at b1
            obtain ⟨t0, t1, t2⟩ := HTA.out.ce
            obtain ⟨n0, n1, n2⟩ := HTN.out.ce
            clear hBw HO HT1 HW
            go_upto_region 10 with fail
            generalize (ww.alloc (.cells #[.int .u64 nd.va, .int .u64 nd.se, .int .i64 nd.fl] 41)) = wz at *
            generalize ww.heap.size = bn at *
            go_wp2_with fail
            refine (kmo _).mono ?_
            rintro e wm ⟨rfl, hBm⟩
            have HM := (show Hid _ from HWA.out.below hBm)
            have HTM : Hid (Bx3 wm bn nd) := HTN.out.below hBm
            obtain ⟨b0, b1⟩ := HM.out.bs.ce
            obtain ⟨y0, y1, y2, y3, y4⟩ := HM.out.bw.ce
            rw [show (SV.mk va vl vc).val = .slice va vl vc from rfl] at b0
            rw [show (SV.mk ta tl tc).val = .slice ta tl tc from rfl] at b1
            obtain ⟨n0, n1, n2⟩ := HTM.out.ce
            clear hBm HWA HTN HTA
            obtain ⟨z1, z2⟩ := HNO.out HM.out
            have HZ := (show Hid _ from And.intro z1 z2)
            obtain ⟨r0, r1⟩ := HM.out.br.ce
            obtain ⟨rf0, rf1⟩ := HM.out.br.fz
            clear z1 z2
            go_wp2_with fail
            refine bodyPost_ret (res2 rfl _ _ (w.heap.size + 2) 28 _ (0, 0) _ rfl HZ.out.1 Tryz.underlying28 rfl (by kernel_rfl)) rfl ?_
            rw [HR.out]
            exact ⟨rfl, HZ.out.2⟩
  | false =>
    rw [a16] at kh16
    cases a32 : hasU u 32 with
    | true =>
      rw [a32] at kh32
      cases a1 : hasU u 1 with
      | true =>
        rw [a1] at kh1
        have hno : rnoB u = true := by unfold rnoB; simp [a16, a32, a1]
        have HR : Hid (R = (false, x)) := by show R = _; rw [HE.out, if_pos hno]
        clear HE
        go_enter Tryz.func17, Tryz.ntmps17
        go_upto_region 1 with fail
        rw [← hwb]
        clear hwb
        go_wp2_with fail
        refine (HAT.out HD0.out).mono ?_
        rintro e wc1 ⟨rfl, hBc⟩
        have HD1 := (show Hid _ from HD0.out.below hBc)
        obtain ⟨b0, b1⟩ := HD1.out.bs.ce
        obtain ⟨y0, y1, y2, y3, y4⟩ := HD1.out.bw.ce
        rw [show (SV.mk va vl vc).val = .slice va vl vc from rfl] at b0
        rw [show (SV.mk ta tl tc).val = .slice ta tl tc from rfl] at b1
        clear hBc
        go_wp2_with fail
        refine (kh16 _).mono ?_
        rintro e wc2 ⟨rfl, hBc⟩
        have HD2 := (show Hid _ from HD1.out.below hBc)
        obtain ⟨b0, b1⟩ := HD2.out.bs.ce
        obtain ⟨y0, y1, y2, y3, y4⟩ := HD2.out.bw.ce
        rw [show (SV.mk va vl vc).val = .slice va vl vc from rfl] at b0
        rw [show (SV.mk ta tl tc).val = .slice ta tl tc from rfl] at b1
        clear hBc
        go_wp2_with fail
        refine (kh32 _).mono ?_
        rintro e wc3 ⟨rfl, hBc⟩
        have HD3 := (show Hid _ from HD2.out.below hBc)
        obtain ⟨b0, b1⟩ := HD3.out.bs.ce
        obtain ⟨y0, y1, y2, y3, y4⟩ := HD3.out.bw.ce
        rw [show (SV.mk va vl vc).val = .slice va vl vc from rfl] at b0
        rw [show (SV.mk ta tl tc).val = .slice ta tl tc from rfl] at b1
        clear hBc
        go_wp2_with fail
        refine (kh1 _).mono ?_
        rintro e wc4 ⟨rfl, hBc⟩
        have HD4 := (show Hid _ from HD3.out.below hBc)
        obtain ⟨b0, b1⟩ := HD4.out.bs.ce
        obtain ⟨y0, y1, y2, y3, y4⟩ := HD4.out.bw.ce
        rw [show (SV.mk va vl vc).val = .slice va vl vc from rfl] at b0
        rw [show (SV.mk ta tl tc).val = .slice ta tl tc from rfl] at b1
        clear hBc
        obtain ⟨z1, z2⟩ := HNO.out HD4.out
        have HZ := (show Hid _ from And.intro z1 z2)
        obtain ⟨r0, r1⟩ := HD4.out.br.ce
        obtain ⟨rf0, rf1⟩ := HD4.out.br.fz
        clear z1 z2
        go_wp2_with fail
        refine bodyPost_ret (res2 rfl _ _ (w.heap.size + 2) 28 _ (0, 0) _ rfl HZ.out.1 Tryz.underlying28 rfl (by kernel_rfl)) rfl ?_
        rw [HR.out]
        exact ⟨rfl, HZ.out.2⟩
      | false =>
        rw [a1] at kh1
        cases a2 : hasU u 2 with
        | true =>
          rw [a2] at kh2
          have hno : rnoB u = true := by unfold rnoB; simp [a16, a32, a1, a2]
          have HR : Hid (R = (false, x)) := by show R = _; rw [HE.out, if_pos hno]
          clear HE
          go_enter Tryz.func17, Tryz.ntmps17
          go_upto_region 1 with fail
          rw [← hwb]
          clear hwb
          go_wp2_with fail
          refine (HAT.out HD0.out).mono ?_
          rintro e wc1 ⟨rfl, hBc⟩
          have HD1 := (show Hid _ from HD0.out.below hBc)
          obtain ⟨b0, b1⟩ := HD1.out.bs.ce
          obtain ⟨y0, y1, y2, y3, y4⟩ := HD1.out.bw.ce
          rw [show (SV.mk va vl vc).val = .slice va vl vc from rfl] at b0
          rw [show (SV.mk ta tl tc).val = .slice ta tl tc from rfl] at b1
          clear hBc
          go_wp2_with fail
          refine (kh16 _).mono ?_
          rintro e wc2 ⟨rfl, hBc⟩
          have HD2 := (show Hid _ from HD1.out.below hBc)
          obtain ⟨b0, b1⟩ := HD2.out.bs.ce
          obtain ⟨y0, y1, y2, y3, y4⟩ := HD2.out.bw.ce
          rw [show (SV.mk va vl vc).val = .slice va vl vc from rfl] at b0
          rw [show (SV.mk ta tl tc).val = .slice ta tl tc from rfl] at b1
          clear hBc
          go_wp2_with fail
          refine (kh32 _).mono ?_
          rintro e wc3 ⟨rfl, hBc⟩
          have HD3 := (show Hid _ from HD2.out.below hBc)
          obtain ⟨b0, b1⟩ := HD3.out.bs.ce
          obtain ⟨y0, y1, y2, y3, y4⟩ := HD3.out.bw.ce
          rw [show (SV.mk va vl vc).val = .slice va vl vc from rfl] at b0
          rw [show (SV.mk ta tl tc).val = .slice ta tl tc from rfl] at b1
          clear hBc
          go_wp2_with fail
          refine (kh1 _).mono ?_
          rintro e wc4 ⟨rfl, hBc⟩
          have HD4 := (show Hid _ from HD3.out.below hBc)
          obtain ⟨b0, b1⟩ := HD4.out.bs.ce
          obtain ⟨y0, y1, y2, y3, y4⟩ := HD4.out.bw.ce
          rw [show (SV.mk va vl vc).val = .slice va vl vc from rfl] at b0
          rw [show (SV.mk ta tl tc).val = .slice ta tl tc from rfl] at b1
          clear hBc
          go_wp2_with fail
          refine (kh2 _).mono ?_
          rintro e wc5 ⟨rfl, hBc⟩
          have HD5 := (show Hid _ from HD4.out.below hBc)
          obtain ⟨b0, b1⟩ := HD5.out.bs.ce
          obtain ⟨y0, y1, y2, y3, y4⟩ := HD5.out.bw.ce
          rw [show (SV.mk va vl vc).val = .slice va vl vc from rfl] at b0
          rw [show (SV.mk ta tl tc).val = .slice ta tl tc from rfl] at b1
          clear hBc
          obtain ⟨z1, z2⟩ := HNO.out HD5.out
          have HZ := (show Hid _ from And.intro z1 z2)
          obtain ⟨r0, r1⟩ := HD5.out.br.ce
          obtain ⟨rf0, rf1⟩ := HD5.out.br.fz
          clear z1 z2
          go_wp2_with fail
          refine bodyPost_ret (res2 rfl _ _ (w.heap.size + 2) 28 _ (0, 0) _ rfl HZ.out.1 Tryz.underlying28 rfl (by kernel_rfl)) rfl ?_
          rw [HR.out]
          exact ⟨rfl, HZ.out.2⟩
        | false =>
          rw [a2] at kh2
          have hno : rnoB u = false := by unfold rnoB; simp [a1, a2]
          cases hg : getS x k with
          | none =>
            have kow : ∀ {W : World}, DfS w W B tg S ⟨va, vl, vc⟩ ⟨ta, tl, tc⟩ qs u → Calls Tryz.prog 19 #[.agg #[.slice va vl vc, .slice ta tl tc], .int .u64 o, .string k] W fun e w' => e = .returned (.tuple #[.agg #[.int .u64 0, .int .u64 0, .int .i64 0], .bool false]) ∧ Below W.heap.size W w' := fun {W} a => by have := HOW.out a; rw [hg] at this; exact this
            cases hs : x.shut with
            | true =>
              have kop : ∀ {W : World}, DfS w W B tg S ⟨va, vl, vc⟩ ⟨ta, tl, tc⟩ qs u → Calls Tryz.prog 43 #[.agg #[.slice va vl vc, .slice ta tl tc], .int .u64 o] W fun e w' => e = .returned (.bool false) ∧ Below W.heap.size W w' := fun {W} a => by have := HOP.out a; rw [hs] at this; exact this
              have HR : Hid (R = (false, x)) := by show R = _; rw [HE.out, if_neg (by rw [hno]; simp), hg]; simp only [hs, if_true]
              clear HE
              go_enter Tryz.func17, Tryz.ntmps17
              go_upto_region 1 with fail
              rw [← hwb]
              clear hwb
              go_wp2_with fail
              refine (HAT.out HD0.out).mono ?_
              rintro e wc1 ⟨rfl, hBc⟩
              have HD1 := (show Hid _ from HD0.out.below hBc)
              obtain ⟨b0, b1⟩ := HD1.out.bs.ce
              obtain ⟨y0, y1, y2, y3, y4⟩ := HD1.out.bw.ce
              rw [show (SV.mk va vl vc).val = .slice va vl vc from rfl] at b0
              rw [show (SV.mk ta tl tc).val = .slice ta tl tc from rfl] at b1
              clear hBc
              go_wp2_with fail
              refine (kh16 _).mono ?_
              rintro e wc2 ⟨rfl, hBc⟩
              have HD2 := (show Hid _ from HD1.out.below hBc)
              obtain ⟨b0, b1⟩ := HD2.out.bs.ce
              obtain ⟨y0, y1, y2, y3, y4⟩ := HD2.out.bw.ce
              rw [show (SV.mk va vl vc).val = .slice va vl vc from rfl] at b0
              rw [show (SV.mk ta tl tc).val = .slice ta tl tc from rfl] at b1
              clear hBc
              go_wp2_with fail
              refine (kh32 _).mono ?_
              rintro e wc3 ⟨rfl, hBc⟩
              have HD3 := (show Hid _ from HD2.out.below hBc)
              obtain ⟨b0, b1⟩ := HD3.out.bs.ce
              obtain ⟨y0, y1, y2, y3, y4⟩ := HD3.out.bw.ce
              rw [show (SV.mk va vl vc).val = .slice va vl vc from rfl] at b0
              rw [show (SV.mk ta tl tc).val = .slice ta tl tc from rfl] at b1
              clear hBc
              go_wp2_with fail
              refine (kh1 _).mono ?_
              rintro e wc4 ⟨rfl, hBc⟩
              have HD4 := (show Hid _ from HD3.out.below hBc)
              obtain ⟨b0, b1⟩ := HD4.out.bs.ce
              obtain ⟨y0, y1, y2, y3, y4⟩ := HD4.out.bw.ce
              rw [show (SV.mk va vl vc).val = .slice va vl vc from rfl] at b0
              rw [show (SV.mk ta tl tc).val = .slice ta tl tc from rfl] at b1
              clear hBc
              go_wp2_with fail
              refine (kh2 _).mono ?_
              rintro e wc5 ⟨rfl, hBc⟩
              have HD5 := (show Hid _ from HD4.out.below hBc)
              obtain ⟨b0, b1⟩ := HD5.out.bs.ce
              obtain ⟨y0, y1, y2, y3, y4⟩ := HD5.out.bw.ce
              rw [show (SV.mk va vl vc).val = .slice va vl vc from rfl] at b0
              rw [show (SV.mk ta tl tc).val = .slice ta tl tc from rfl] at b1
              clear hBc
              go_wp2_with fail
              refine (kow HD5.out).mono ?_
              rintro e wc6 ⟨rfl, hBc⟩
              have HD6 := (show Hid _ from HD5.out.below hBc)
              obtain ⟨b0, b1⟩ := HD6.out.bs.ce
              obtain ⟨y0, y1, y2, y3, y4⟩ := HD6.out.bw.ce
              rw [show (SV.mk va vl vc).val = .slice va vl vc from rfl] at b0
              rw [show (SV.mk ta tl tc).val = .slice ta tl tc from rfl] at b1
              clear hBc
              have HA := (show Hid _ from HD6.out.below ((Below.refl _ _).alloc (Nat.le_refl _) (.cells #[.int .u64 0, .int .u64 0, .int .i64 0] 41)))
              have HT0 : Hid (Bx3 (wc6.alloc (.cells #[.int .u64 0, .int .u64 0, .int .i64 0] 41)) wc6.heap.size zDe ∧ w.heap.size + 3 ≤ wc6.heap.size) := ⟨at_new _ _, by have := HD6.out.br.lt; omega⟩
              obtain ⟨b0, b1⟩ := HA.out.bs.ce
              obtain ⟨y0, y1, y2, y3, y4⟩ := HA.out.bw.ce
              rw [show (SV.mk va vl vc).val = .slice va vl vc from rfl] at b0
              rw [show (SV.mk ta tl tc).val = .slice ta tl tc from rfl] at b1
              go_upto_region 4 with fail
              generalize (wc6.alloc (.cells #[.int .u64 0, .int .u64 0, .int .i64 0] 41)) = wa at *
              generalize wc6.heap.size = bt at *
              go_wp2_with fail
              refine (kop HA.out).mono ?_
              rintro e wo ⟨rfl, hBo⟩
              have HO := (show Hid _ from HA.out.below hBo)
              have HT1 : Hid (Bx3 wo bt zDe) := HT0.out.1.below hBo
              have HTL : Hid (w.heap.size + 3 ≤ bt) := HT0.out.2
              obtain ⟨b0, b1⟩ := HO.out.bs.ce
              obtain ⟨y0, y1, y2, y3, y4⟩ := HO.out.bw.ce
              rw [show (SV.mk va vl vc).val = .slice va vl vc from rfl] at b0
              rw [show (SV.mk ta tl tc).val = .slice ta tl tc from rfl] at b1
              obtain ⟨t0, t1, t2⟩ := HT1.out.ce
              obtain ⟨tf0, tf1, tf2⟩ := HT1.out.fz
              clear hBo HT0 HA
              unfold zDe at t0 t1 t2
              obtain ⟨z1, z2⟩ := HNO.out HO.out
              have HZ := (show Hid _ from And.intro z1 z2)
              obtain ⟨r0, r1⟩ := HO.out.br.ce
              obtain ⟨rf0, rf1⟩ := HO.out.br.fz
              clear z1 z2
              go_wp2_with fail
              refine bodyPost_ret (res2 rfl _ _ (w.heap.size + 2) 28 _ (0, 0) _ rfl HZ.out.1 Tryz.underlying28 rfl (by kernel_rfl)) rfl ?_
              rw [HR.out]
              exact ⟨rfl, HZ.out.2⟩
            | false =>
              have kop : ∀ {W : World}, DfS w W B tg S ⟨va, vl, vc⟩ ⟨ta, tl, tc⟩ qs u → Calls Tryz.prog 43 #[.agg #[.slice va vl vc, .slice ta tl tc], .int .u64 o] W fun e w' => e = .returned (.bool true) ∧ Below W.heap.size W w' := fun {W} a => by have := HOP.out a; rw [hs] at this; exact this
              have kwo := fun W => kwi W newE
              have HR : Hid (R = (true, putS x k (rWishD newE u))) := by show R = _; rw [HE.out, if_neg (by rw [hno]; simp), hg]; simp only [hs, Bool.false_eq_true, if_false]
              generalize rWishD newE u = nd at *
              unfold deV newE undW at kwo
              simp only at kwo
              clear HE
              go_enter Tryz.func17, Tryz.ntmps17
              go_upto_region 1 with fail
              rw [← hwb]
              clear hwb
              go_wp2_with fail
              refine (HAT.out HD0.out).mono ?_
              rintro e wc1 ⟨rfl, hBc⟩
              have HD1 := (show Hid _ from HD0.out.below hBc)
              obtain ⟨b0, b1⟩ := HD1.out.bs.ce
              obtain ⟨y0, y1, y2, y3, y4⟩ := HD1.out.bw.ce
              rw [show (SV.mk va vl vc).val = .slice va vl vc from rfl] at b0
              rw [show (SV.mk ta tl tc).val = .slice ta tl tc from rfl] at b1
              clear hBc
              go_wp2_with fail
              refine (kh16 _).mono ?_
              rintro e wc2 ⟨rfl, hBc⟩
              have HD2 := (show Hid _ from HD1.out.below hBc)
              obtain ⟨b0, b1⟩ := HD2.out.bs.ce
              obtain ⟨y0, y1, y2, y3, y4⟩ := HD2.out.bw.ce
              rw [show (SV.mk va vl vc).val = .slice va vl vc from rfl] at b0
              rw [show (SV.mk ta tl tc).val = .slice ta tl tc from rfl] at b1
              clear hBc
              go_wp2_with fail
              refine (kh32 _).mono ?_
              rintro e wc3 ⟨rfl, hBc⟩
              have HD3 := (show Hid _ from HD2.out.below hBc)
              obtain ⟨b0, b1⟩ := HD3.out.bs.ce
              obtain ⟨y0, y1, y2, y3, y4⟩ := HD3.out.bw.ce
              rw [show (SV.mk va vl vc).val = .slice va vl vc from rfl] at b0
              rw [show (SV.mk ta tl tc).val = .slice ta tl tc from rfl] at b1
              clear hBc
              go_wp2_with fail
              refine (kh1 _).mono ?_
              rintro e wc4 ⟨rfl, hBc⟩
              have HD4 := (show Hid _ from HD3.out.below hBc)
              obtain ⟨b0, b1⟩ := HD4.out.bs.ce
              obtain ⟨y0, y1, y2, y3, y4⟩ := HD4.out.bw.ce
              rw [show (SV.mk va vl vc).val = .slice va vl vc from rfl] at b0
              rw [show (SV.mk ta tl tc).val = .slice ta tl tc from rfl] at b1
              clear hBc
              go_wp2_with fail
              refine (kh2 _).mono ?_
              rintro e wc5 ⟨rfl, hBc⟩
              have HD5 := (show Hid _ from HD4.out.below hBc)
              obtain ⟨b0, b1⟩ := HD5.out.bs.ce
              obtain ⟨y0, y1, y2, y3, y4⟩ := HD5.out.bw.ce
              rw [show (SV.mk va vl vc).val = .slice va vl vc from rfl] at b0
              rw [show (SV.mk ta tl tc).val = .slice ta tl tc from rfl] at b1
              clear hBc
              go_wp2_with fail
              refine (kow HD5.out).mono ?_
              rintro e wc6 ⟨rfl, hBc⟩
              have HD6 := (show Hid _ from HD5.out.below hBc)
              obtain ⟨b0, b1⟩ := HD6.out.bs.ce
              obtain ⟨y0, y1, y2, y3, y4⟩ := HD6.out.bw.ce
              rw [show (SV.mk va vl vc).val = .slice va vl vc from rfl] at b0
              rw [show (SV.mk ta tl tc).val = .slice ta tl tc from rfl] at b1
              clear hBc
              have HA := (show Hid _ from HD6.out.below ((Below.refl _ _).alloc (Nat.le_refl _) (.cells #[.int .u64 0, .int .u64 0, .int .i64 0] 41)))
              have HT0 : Hid (Bx3 (wc6.alloc (.cells #[.int .u64 0, .int .u64 0, .int .i64 0] 41)) wc6.heap.size zDe ∧ w.heap.size + 3 ≤ wc6.heap.size) := ⟨at_new _ _, by have := HD6.out.br.lt; omega⟩
              obtain ⟨b0, b1⟩ := HA.out.bs.ce
              obtain ⟨y0, y1, y2, y3, y4⟩ := HA.out.bw.ce
              rw [show (SV.mk va vl vc).val = .slice va vl vc from rfl] at b0
              rw [show (SV.mk ta tl tc).val = .slice ta tl tc from rfl] at b1
              go_upto_region 4 with fail
              generalize (wc6.alloc (.cells #[.int .u64 0, .int .u64 0, .int .i64 0] 41)) = wa at *
              generalize wc6.heap.size = bt at *
              go_wp2_with fail
              refine (kop HA.out).mono ?_
              rintro e wo ⟨rfl, hBo⟩
              have HO := (show Hid _ from HA.out.below hBo)
              have HT1 : Hid (Bx3 wo bt zDe) := HT0.out.1.below hBo
              have HTL : Hid (w.heap.size + 3 ≤ bt) := HT0.out.2
              obtain ⟨b0, b1⟩ := HO.out.bs.ce
              obtain ⟨y0, y1, y2, y3, y4⟩ := HO.out.bw.ce
              rw [show (SV.mk va vl vc).val = .slice va vl vc from rfl] at b0
              rw [show (SV.mk ta tl tc).val = .slice ta tl tc from rfl] at b1
              obtain ⟨t0, t1, t2⟩ := HT1.out.ce
              obtain ⟨tf0, tf1, tf2⟩ := HT1.out.fz
              clear hBo HT0 HA
              unfold zDe at t0 t1 t2
              have HS8 : Hid (DfS w (st3 wo bt newE) B tg S ⟨va, vl, vc⟩ ⟨ta, tl, tc⟩ qs u ∧ Bx3 (st3 wo bt newE) bt newE) := by
                have hl := HTL.out
                have hc : Chg (fun b => b = bt) wo (st3 wo bt newE) := ((Chg.set (S := fun b => b = bt) wo ⟨bt, 0, none⟩ _ rfl).trans (Chg.set (S := fun b => b = bt) _ ⟨bt, 1, none⟩ _ rfl) (fun _ _ q => q)).trans (Chg.set (S := fun b => b = bt) _ ⟨bt, 2, none⟩ _ rfl) (fun _ _ q => q)
                have htg : ∀ b, tg b ≠ 0 → ¬ b = bt := fun b r e => by
                  have := HTG.out b r
                  omega
                exact ⟨⟨HO.out.st.kept hc htg, HO.out.bs.kept hc (by omega), by unfold Bx5; rw [st3_other _ _ _ (by omega)]; exact HO.out.bw, HO.out.br.kept hc (by omega), st3_below HO.out.bel (by omega) _⟩, HT1.out.put _⟩
              go_upto_region 9 with fail
              have hst : st3 wo bt newE = ((wo.setCell ⟨bt, 0, none⟩ (.int .u64 18445336698825998336)).setCell ⟨bt, 1, none⟩ (.int .u64 18445336698825998336)).setCell ⟨bt, 2, none⟩ (.int .i64 0) := rfl
              rw [← hst]
              generalize st3 wo bt newE = wp at *
              clear hst
              have HP := (show Hid _ from HS8.out.1)
              have HT2 : Hid (Bx3 wp bt newE) := HS8.out.2
              obtain ⟨b0, b1⟩ := HP.out.bs.ce
              obtain ⟨y0, y1, y2, y3, y4⟩ := HP.out.bw.ce
              rw [show (SV.mk va vl vc).val = .slice va vl vc from rfl] at b0
              rw [show (SV.mk ta tl tc).val = .slice ta tl tc from rfl] at b1
              obtain ⟨t0, t1, t2⟩ := HT2.out.ce
              unfold newE undW at t0 t1 t2
              simp only at t0 t1 t2
              clear HS8 tf0 tf1 tf2
              go_wp2_with fail
              refine (kwo _).mono ?_
              rintro e ww ⟨rfl, hBw⟩
              have HW := (show Hid _ from HP.out.below hBw)
              have HWA := (show Hid _ from HW.out.below ((Below.refl _ _).alloc (Nat.le_refl _) (.cells #[.int .u64 nd.va, .int .u64 nd.se, .int .i64 nd.fl] 41)))
              have HTA : Hid (Bx3 (ww.alloc (.cells #[.int .u64 nd.va, .int .u64 nd.se, .int .i64 nd.fl] 41)) bt newE) := (HT2.out.below hBw).below ((Below.refl _ _).alloc (Nat.le_refl _) _)
              have HTN : Hid (Bx3 (ww.alloc (.cells #[.int .u64 nd.va, .int .u64 nd.se, .int .i64 nd.fl] 41)) ww.heap.size nd) := Bx3.box ww nd
              obtain ⟨b0, b1⟩ := HWA.out.bs.ce
              obtain ⟨y0, y1, y2, y3, y4⟩ := HWA.out.bw.ce
              rw [show (SV.mk va vl vc).val = .slice va vl vc from rfl] at b0
              rw [show (SV.mk ta tl tc).val = .slice ta tl tc from rfl] at b1
              obtain ⟨t0, t1, t2⟩ := HTA.out.ce
              obtain ⟨n0, n1, n2⟩ := HTN.out.ce
              clear hBw HP HT2 HW
              go_upto_region 10 with fail
              generalize (ww.alloc (.cells #[.int .u64 nd.va, .int .u64 nd.se, .int .i64 nd.fl] 41)) = wz at *
              generalize ww.heap.size = bn at *
              go_wp2_with fail
              refine (HAR.out HWA.out).mono ?_
              rintro e wr ⟨rfl, hBr⟩
              have HRR := (show Hid _ from HWA.out.below hBr)
              have HTR : Hid (Bx3 wr bn nd) := HTN.out.below hBr
              obtain ⟨b0, b1⟩ := HRR.out.bs.ce
              obtain ⟨y0, y1, y2, y3, y4⟩ := HRR.out.bw.ce
              rw [show (SV.mk va vl vc).val = .slice va vl vc from rfl] at b0
              rw [show (SV.mk ta tl tc).val = .slice ta tl tc from rfl] at b1
              obtain ⟨n0, n1, n2⟩ := HTR.out.ce
              clear hBr HWA HTN
              have kpu := HPU.out nd HRR.out
              unfold deV at kpu
              go_wp2_with fail
              refine kpu.mono ?_
              rintro e wf ⟨rfl, hsw⟩
              obtain ⟨hbr, z1, z2⟩ := HYE.out HRR.out hsw
              have HZ := (show Hid _ from And.intro z1 z2)
              obtain ⟨r0, r1⟩ := hbr.ce
              obtain ⟨rf0, rf1⟩ := hbr.fz
              clear z1 z2 hsw hbr kpu
              go_wp2_with fail
              refine bodyPost_ret (res2 rfl _ _ (w.heap.size + 2) 28 _ (0, 0) _ rfl HZ.out.1 Tryz.underlying28 rfl (by kernel_rfl)) rfl ?_
              rw [HR.out]
              exact ⟨rfl, HZ.out.2⟩
          | some old =>
            have kow : ∀ {W : World}, DfS w W B tg S ⟨va, vl, vc⟩ ⟨ta, tl, tc⟩ qs u → Calls Tryz.prog 19 #[.agg #[.slice va vl vc, .slice ta tl tc], .int .u64 o, .string k] W fun e w' => e = .returned (.tuple #[.agg #[.int .u64 old.va, .int .u64 old.se, .int .i64 old.fl], .bool true]) ∧ Below W.heap.size W w' := fun {W} a => by have := HOW.out a; rw [hg] at this; exact this
            have kop : ∀ {W : World}, DfS w W B tg S ⟨va, vl, vc⟩ ⟨ta, tl, tc⟩ qs u → Calls Tryz.prog 43 #[.agg #[.slice va vl vc, .slice ta tl tc], .int .u64 o] W fun e w' => e = .returned (.bool (!x.shut)) ∧ Below W.heap.size W w' := fun {W} a => HOP.out a
            have kwo := fun W => kwi W old
            have kmo := fun W => kma W old (rWishD old u)
            cases hm : rmayD old (rWishD old u) with
            | true =>
              rw [hm] at kmo
              have HR : Hid (R = (true, putS x k (rWishD old u))) := by show R = _; rw [HE.out, if_neg (by rw [hno]; simp), hg]; simp only [hm, if_true]
              generalize rWishD old u = nd at *
              unfold deV at kwo kmo
              clear HE
              go_enter Tryz.func17, Tryz.ntmps17
              go_upto_region 1 with fail
              rw [← hwb]
              clear hwb
              go_wp2_with fail
              refine (HAT.out HD0.out).mono ?_
              rintro e wc1 ⟨rfl, hBc⟩
              have HD1 := (show Hid _ from HD0.out.below hBc)
              obtain ⟨b0, b1⟩ := HD1.out.bs.ce
              obtain ⟨y0, y1, y2, y3, y4⟩ := HD1.out.bw.ce
              rw [show (SV.mk va vl vc).val = .slice va vl vc from rfl] at b0
              rw [show (SV.mk ta tl tc).val = .slice ta tl tc from rfl] at b1
              clear hBc
              go_wp2_with fail
              refine (kh16 _).mono ?_
              rintro e wc2 ⟨rfl, hBc⟩
              have HD2 := (show Hid _ from HD1.out.below hBc)
              obtain ⟨b0, b1⟩ := HD2.out.bs.ce
              obtain ⟨y0, y1, y2, y3, y4⟩ := HD2.out.bw.ce
              rw [show (SV.mk va vl vc).val = .slice va vl vc from rfl] at b0
              rw [show (SV.mk ta tl tc).val = .slice ta tl tc from rfl] at b1
              clear hBc
              go_wp2_with fail
              refine (kh32 _).mono ?_
              rintro e wc3 ⟨rfl, hBc⟩
              have HD3 := (show Hid _ from HD2.out.below hBc)
              obtain ⟨b0, b1⟩ := HD3.out.bs.ce
              obtain ⟨y0, y1, y2, y3, y4⟩ := HD3.out.bw.ce
              rw [show (SV.mk va vl vc).val = .slice va vl vc from rfl] at b0
              rw [show (SV.mk ta tl tc).val = .slice ta tl tc from rfl] at b1
              clear hBc
              go_wp2_with fail
              refine (kh1 _).mono ?_
              rintro e wc4 ⟨rfl, hBc⟩
              have HD4 := (show Hid _ from HD3.out.below hBc)
              obtain ⟨b0, b1⟩ := HD4.out.bs.ce
              obtain ⟨y0, y1, y2, y3, y4⟩ := HD4.out.bw.ce
              rw [show (SV.mk va vl vc).val = .slice va vl vc from rfl] at b0
              rw [show (SV.mk ta tl tc).val = .slice ta tl tc from rfl] at b1
              clear hBc
              go_wp2_with fail
              refine (kh2 _).mono ?_
              rintro e wc5 ⟨rfl, hBc⟩
              have HD5 := (show Hid _ from HD4.out.below hBc)
              obtain ⟨b0, b1⟩ := HD5.out.bs.ce
              obtain ⟨y0, y1, y2, y3, y4⟩ := HD5.out.bw.ce
              rw [show (SV.mk va vl vc).val = .slice va vl vc from rfl] at b0
              rw [show (SV.mk ta tl tc).val = .slice ta tl tc from rfl] at b1
              clear hBc
              go_wp2_with fail
              refine (kow HD5.out).mono ?_
              rintro e wc6 ⟨rfl, hBc⟩
              have HD6 := (show Hid _ from HD5.out.below hBc)
              obtain ⟨b0, b1⟩ := HD6.out.bs.ce
              obtain ⟨y0, y1, y2, y3, y4⟩ := HD6.out.bw.ce
              rw [show (SV.mk va vl vc).val = .slice va vl vc from rfl] at b0
              rw [show (SV.mk ta tl tc).val = .slice ta tl tc from rfl] at b1
              clear hBc
              have HA := (show Hid _ from HD6.out.below ((Below.refl _ _).alloc (Nat.le_refl _) (.cells #[.int .u64 old.va, .int .u64 old.se, .int .i64 old.fl] 41)))
              have HT0 : Hid (Bx3 (wc6.alloc (.cells #[.int .u64 old.va, .int .u64 old.se, .int .i64 old.fl] 41)) wc6.heap.size old ∧ w.heap.size + 3 ≤ wc6.heap.size) := ⟨at_new _ _, by have := HD6.out.br.lt; omega⟩
              obtain ⟨b0, b1⟩ := HA.out.bs.ce
              obtain ⟨y0, y1, y2, y3, y4⟩ := HA.out.bw.ce
              rw [show (SV.mk va vl vc).val = .slice va vl vc from rfl] at b0
              rw [show (SV.mk ta tl tc).val = .slice ta tl tc from rfl] at b1
              go_upto_region 4 with fail
              generalize (wc6.alloc (.cells #[.int .u64 old.va, .int .u64 old.se, .int .i64 old.fl] 41)) = wa at *
              generalize wc6.heap.size = bt at *
              go_wp2_with fail
              refine (kop HA.out).mono ?_
              rintro e wo ⟨rfl, hBo⟩
              have HO := (show Hid _ from HA.out.below hBo)
              have HT1 : Hid (Bx3 wo bt old) := HT0.out.1.below hBo
              have HTL : Hid (w.heap.size + 3 ≤ bt) := HT0.out.2
              obtain ⟨b0, b1⟩ := HO.out.bs.ce
              obtain ⟨y0, y1, y2, y3, y4⟩ := HO.out.bw.ce
              rw [show (SV.mk va vl vc).val = .slice va vl vc from rfl] at b0
              rw [show (SV.mk ta tl tc).val = .slice ta tl tc from rfl] at b1
              obtain ⟨t0, t1, t2⟩ := HT1.out.ce
              obtain ⟨tf0, tf1, tf2⟩ := HT1.out.fz
              clear hBo HT0 HA
              go_wp2_with fail
              refine (kwo _).mono ?_
              rintro e ww ⟨rfl, hBw⟩
              have HW := (show Hid _ from HO.out.below hBw)
              have HWA := (show Hid _ from HW.out.below ((Below.refl _ _).alloc (Nat.le_refl _) (.cells #[.int .u64 nd.va, .int .u64 nd.se, .int .i64 nd.fl] 41)))
              have HTA : Hid (Bx3 (ww.alloc (.cells #[.int .u64 nd.va, .int .u64 nd.se, .int .i64 nd.fl] 41)) bt old) := (HT1.out.below hBw).below ((Below.refl _ _).alloc (Nat.le_refl _) _)
              have HTN : Hid (Bx3 (ww.alloc (.cells #[.int .u64 nd.va, .int .u64 nd.se, .int .i64 nd.fl] 41)) ww.heap.size nd) := Bx3.box ww nd
              obtain ⟨b0, b1⟩ := HWA.out.bs.ce
              obtain ⟨y0, y1, y2, y3, y4⟩ := HWA.out.bw.ce
              rw [show (SV.mk va vl vc).val = .slice va vl vc from rfl] at b0
              rw [show (SV.mk ta tl tc).val = .slice ta tl tc from rfl] at b1
              obtain ⟨t0, t1, t2⟩ := HTA.out.ce
              obtain ⟨n0, n1, n2⟩ := HTN.out.ce
              clear hBw HO HT1 HW
              go_upto_region 10 with fail
              generalize (ww.alloc (.cells #[.int .u64 nd.va, .int .u64 nd.se, .int .i64 nd.fl] 41)) = wz at *
              generalize ww.heap.size = bn at *
              go_wp2_with fail
              refine (kmo _).mono ?_
              rintro e wm ⟨rfl, hBm⟩
              have HM := (show Hid _ from HWA.out.below hBm)
              have HTM : Hid (Bx3 wm bn nd) := HTN.out.below hBm
              obtain ⟨b0, b1⟩ := HM.out.bs.ce
              obtain ⟨y0, y1, y2, y3, y4⟩ := HM.out.bw.ce
              rw [show (SV.mk va vl vc).val = .slice va vl vc from rfl] at b0
              rw [show (SV.mk ta tl tc).val = .slice ta tl tc from rfl] at b1
              obtain ⟨n0, n1, n2⟩ := HTM.out.ce
              clear hBm HWA HTN HTA
              go_wp2_with fail
              refine (HAR.out HM.out).mono ?_
              rintro e wr ⟨rfl, hBr⟩
              have HRR := (show Hid _ from HM.out.below hBr)
              have HTR : Hid (Bx3 wr bn nd) := HTM.out.below hBr
              obtain ⟨b0, b1⟩ := HRR.out.bs.ce
              obtain ⟨y0, y1, y2, y3, y4⟩ := HRR.out.bw.ce
              rw [show (SV.mk va vl vc).val = .slice va vl vc from rfl] at b0
              rw [show (SV.mk ta tl tc).val = .slice ta tl tc from rfl] at b1
              obtain ⟨n0, n1, n2⟩ := HTR.out.ce
              clear hBr HM HTM
              have kpu := HPU.out nd HRR.out
              unfold deV at kpu
              go_wp2_with fail
              refine kpu.mono ?_
              rintro e wf ⟨rfl, hsw⟩
              obtain ⟨hbr, z1, z2⟩ := HYE.out HRR.out hsw
              have HZ := (show Hid _ from And.intro z1 z2)
              obtain ⟨r0, r1⟩ := hbr.ce
              obtain ⟨rf0, rf1⟩ := hbr.fz
              clear z1 z2 hsw hbr kpu
              go_wp2_with fail
              refine bodyPost_ret (res2 rfl _ _ (w.heap.size + 2) 28 _ (0, 0) _ rfl HZ.out.1 Tryz.underlying28 rfl (by kernel_rfl)) rfl ?_
              rw [HR.out]
              exact ⟨rfl, HZ.out.2⟩
            | false =>
              rw [hm] at kmo
              have HR : Hid (R = (false, x)) := by show R = _; rw [HE.out, if_neg (by rw [hno]; simp), hg]; simp only [hm, Bool.false_eq_true, if_false]
              generalize rWishD old u = nd at *
              unfold deV at kwo kmo
              clear HE
              go_enter Tryz.func17, Tryz.ntmps17
              go_upto_region 1 with fail
              rw [← hwb]
              clear hwb
              go_wp2_with fail
              refine (HAT.out HD0.out).mono ?_
              rintro e wc1 ⟨rfl, hBc⟩
              have HD1 := (show Hid _ from HD0.out.below hBc)
              obtain ⟨b0, b1⟩ := HD1.out.bs.ce
              obtain ⟨y0, y1, y2, y3, y4⟩ := HD1.out.bw.ce
              rw [show (SV.mk va vl vc).val = .slice va vl vc from rfl] at b0
              rw [show (SV.mk ta tl tc).val = .slice ta tl tc from rfl] at b1
              clear hBc
              go_wp2_with fail
              refine (kh16 _).mono ?_
              rintro e wc2 ⟨rfl, hBc⟩
              have HD2 := (show Hid _ from HD1.out.below hBc)
              obtain ⟨b0, b1⟩ := HD2.out.bs.ce
              obtain ⟨y0, y1, y2, y3, y4⟩ := HD2.out.bw.ce
              rw [show (SV.mk va vl vc).val = .slice va vl vc from rfl] at b0
              rw [show (SV.mk ta tl tc).val = .slice ta tl tc from rfl] at b1
              clear hBc
              go_wp2_with fail
              refine (kh32 _).mono ?_
              rintro e wc3 ⟨rfl, hBc⟩
              have HD3 := (show Hid _ from HD2.out.below hBc)
              obtain ⟨b0, b1⟩ := HD3.out.bs.ce
              obtain ⟨y0, y1, y2, y3, y4⟩ := HD3.out.bw.ce
              rw [show (SV.mk va vl vc).val = .slice va vl vc from rfl] at b0
              rw [show (SV.mk ta tl tc).val = .slice ta tl tc from rfl] at b1
              clear hBc
              go_wp2_with fail
              refine (kh1 _).mono ?_
              rintro e wc4 ⟨rfl, hBc⟩
              have HD4 := (show Hid _ from HD3.out.below hBc)
              obtain ⟨b0, b1⟩ := HD4.out.bs.ce
              obtain ⟨y0, y1, y2, y3, y4⟩ := HD4.out.bw.ce
              rw [show (SV.mk va vl vc).val = .slice va vl vc from rfl] at b0
              rw [show (SV.mk ta tl tc).val = .slice ta tl tc from rfl] at b1
              clear hBc
              go_wp2_with fail
              refine (kh2 _).mono ?_
              rintro e wc5 ⟨rfl, hBc⟩
              have HD5 := (show Hid _ from HD4.out.below hBc)
              obtain ⟨b0, b1⟩ := HD5.out.bs.ce
              obtain ⟨y0, y1, y2, y3, y4⟩ := HD5.out.bw.ce
              rw [show (SV.mk va vl vc).val = .slice va vl vc from rfl] at b0
              rw [show (SV.mk ta tl tc).val = .slice ta tl tc from rfl] at b1
              clear hBc
              go_wp2_with fail
              refine (kow HD5.out).mono ?_
              rintro e wc6 ⟨rfl, hBc⟩
              have HD6 := (show Hid _ from HD5.out.below hBc)
              obtain ⟨b0, b1⟩ := HD6.out.bs.ce
              obtain ⟨y0, y1, y2, y3, y4⟩ := HD6.out.bw.ce
              rw [show (SV.mk va vl vc).val = .slice va vl vc from rfl] at b0
              rw [show (SV.mk ta tl tc).val = .slice ta tl tc from rfl] at b1
              clear hBc
              have HA := (show Hid _ from HD6.out.below ((Below.refl _ _).alloc (Nat.le_refl _) (.cells #[.int .u64 old.va, .int .u64 old.se, .int .i64 old.fl] 41)))
              have HT0 : Hid (Bx3 (wc6.alloc (.cells #[.int .u64 old.va, .int .u64 old.se, .int .i64 old.fl] 41)) wc6.heap.size old ∧ w.heap.size + 3 ≤ wc6.heap.size) := ⟨at_new _ _, by have := HD6.out.br.lt; omega⟩
              obtain ⟨b0, b1⟩ := HA.out.bs.ce
              obtain ⟨y0, y1, y2, y3, y4⟩ := HA.out.bw.ce
              rw [show (SV.mk va vl vc).val = .slice va vl vc from rfl] at b0
              rw [show (SV.mk ta tl tc).val = .slice ta tl tc from rfl] at b1
              go_upto_region 4 with fail
              generalize (wc6.alloc (.cells #[.int .u64 old.va, .int .u64 old.se, .int .i64 old.fl] 41)) = wa at *
              generalize wc6.heap.size = bt at *
              go_wp2_with fail
              refine (kop HA.out).mono ?_
              rintro e wo ⟨rfl, hBo⟩
              have HO := (show Hid _ from HA.out.below hBo)
              have HT1 : Hid (Bx3 wo bt old) := HT0.out.1.below hBo
              have HTL : Hid (w.heap.size + 3 ≤ bt) := HT0.out.2
              obtain ⟨b0, b1⟩ := HO.out.bs.ce
              obtain ⟨y0, y1, y2, y3, y4⟩ := HO.out.bw.ce
              rw [show (SV.mk va vl vc).val = .slice va vl vc from rfl] at b0
              rw [show (SV.mk ta tl tc).val = .slice ta tl tc from rfl] at b1
              obtain ⟨t0, t1, t2⟩ := HT1.out.ce
              obtain ⟨tf0, tf1, tf2⟩ := HT1.out.fz
              clear hBo HT0 HA
              go_wp2_with fail
              refine (kwo _).mono ?_
              rintro e ww ⟨rfl, hBw⟩
              have HW := (show Hid _ from HO.out.below hBw)
              have HWA := (show Hid _ from HW.out.below ((Below.refl _ _).alloc (Nat.le_refl _) (.cells #[.int .u64 nd.va, .int .u64 nd.se, .int .i64 nd.fl] 41)))
              have HTA : Hid (Bx3 (ww.alloc (.cells #[.int .u64 nd.va, .int .u64 nd.se, .int .i64 nd.fl] 41)) bt old) := (HT1.out.below hBw).below ((Below.refl _ _).alloc (Nat.le_refl _) _)
              have HTN : Hid (Bx3 (ww.alloc (.cells #[.int .u64 nd.va, .int .u64 nd.se, .int .i64 nd.fl] 41)) ww.heap.size nd) := Bx3.box ww nd
              obtain ⟨b0, b1⟩ := HWA.out.bs.ce
              obtain ⟨y0, y1, y2, y3, y4⟩ := HWA.out.bw.ce
              rw [show (SV.mk va vl vc).val = .slice va vl vc from rfl] at b0
              rw [show (SV.mk ta tl tc).val = .slice ta tl tc from rfl] at b1
              obtain ⟨t0, t1, t2⟩ := HTA.out.ce
              obtain ⟨n0, n1, n2⟩ := HTN.out.ce
              clear hBw HO HT1 HW
              go_upto_region 10 with fail
              generalize (ww.alloc (.cells #[.int .u64 nd.va, .int .u64 nd.se, .int .i64 nd.fl] 41)) = wz at *
              generalize ww.heap.size = bn at *
              go_wp2_with fail
              refine (kmo _).mono ?_
              rintro e wm ⟨rfl, hBm⟩
              have HM := (show Hid _ from HWA.out.below hBm)
              have HTM : Hid (Bx3 wm bn nd) := HTN.out.below hBm
              obtain ⟨b0, b1⟩ := HM.out.bs.ce
              obtain ⟨y0, y1, y2, y3, y4⟩ := HM.out.bw.ce
              rw [show (SV.mk va vl vc).val = .slice va vl vc from rfl] at b0
              rw [show (SV.mk ta tl tc).val = .slice ta tl tc from rfl] at b1
              obtain ⟨n0, n1, n2⟩ := HTM.out.ce
              clear hBm HWA HTN HTA
              obtain ⟨z1, z2⟩ := HNO.out HM.out
              have HZ := (show Hid _ from And.intro z1 z2)
              obtain ⟨r0, r1⟩ := HM.out.br.ce
              obtain ⟨rf0, rf1⟩ := HM.out.br.fz
              clear z1 z2
              go_wp2_with fail
              refine bodyPost_ret (res2 rfl _ _ (w.heap.size + 2) 28 _ (0, 0) _ rfl HZ.out.1 Tryz.underlying28 rfl (by kernel_rfl)) rfl ?_
              rw [HR.out]
              exact ⟨rfl, HZ.out.2⟩
    | false =>
      rw [a32] at kh32
      have hno : rnoB u = false := by unfold rnoB; simp [a16, a32]
      cases hg : getS x k with
      | none =>
        have kow : ∀ {W : World}, DfS w W B tg S ⟨va, vl, vc⟩ ⟨ta, tl, tc⟩ qs u → Calls Tryz.prog 19 #[.agg #[.slice va vl vc, .slice ta tl tc], .int .u64 o, .string k] W fun e w' => e = .returned (.tuple #[.agg #[.int .u64 0, .int .u64 0, .int .i64 0], .bool false]) ∧ Below W.heap.size W w' := fun {W} a => by have := HOW.out a; rw [hg] at this; exact this
        cases hs : x.shut with
        | true =>
          have kop : ∀ {W : World}, DfS w W B tg S ⟨va, vl, vc⟩ ⟨ta, tl, tc⟩ qs u → Calls Tryz.prog 43 #[.agg #[.slice va vl vc, .slice ta tl tc], .int .u64 o] W fun e w' => e = .returned (.bool false) ∧ Below W.heap.size W w' := fun {W} a => by have := HOP.out a; rw [hs] at this; exact this
          have HR : Hid (R = (false, x)) := by show R = _; rw [HE.out, if_neg (by rw [hno]; simp), hg]; simp only [hs, if_true]
          clear HE
          go_enter Tryz.func17, Tryz.ntmps17
          go_upto_region 1 with fail
          rw [← hwb]
          clear hwb
          go_wp2_with fail
          refine (HAT.out HD0.out).mono ?_
          rintro e wc1 ⟨rfl, hBc⟩
          have HD1 := (show Hid _ from HD0.out.below hBc)
          obtain ⟨b0, b1⟩ := HD1.out.bs.ce
          obtain ⟨y0, y1, y2, y3, y4⟩ := HD1.out.bw.ce
          rw [show (SV.mk va vl vc).val = .slice va vl vc from rfl] at b0
          rw [show (SV.mk ta tl tc).val = .slice ta tl tc from rfl] at b1
          clear hBc
          go_wp2_with fail
          refine (kh16 _).mono ?_
          rintro e wc2 ⟨rfl, hBc⟩
          have HD2 := (show Hid _ from HD1.out.below hBc)
          obtain ⟨b0, b1⟩ := HD2.out.bs.ce
          obtain ⟨y0, y1, y2, y3, y4⟩ := HD2.out.bw.ce
          rw [show (SV.mk va vl vc).val = .slice va vl vc from rfl] at b0
          rw [show (SV.mk ta tl tc).val = .slice ta tl tc from rfl] at b1
          clear hBc
          go_wp2_with fail
          refine (kh32 _).mono ?_
          rintro e wc3 ⟨rfl, hBc⟩
          have HD3 := (show Hid _ from HD2.out.below hBc)
          obtain ⟨b0, b1⟩ := HD3.out.bs.ce
          obtain ⟨y0, y1, y2, y3, y4⟩ := HD3.out.bw.ce
          rw [show (SV.mk va vl vc).val = .slice va vl vc from rfl] at b0
          rw [show (SV.mk ta tl tc).val = .slice ta tl tc from rfl] at b1
          clear hBc
          go_wp2_with fail
          refine (kow HD3.out).mono ?_
          rintro e wc4 ⟨rfl, hBc⟩
          have HD4 := (show Hid _ from HD3.out.below hBc)
          obtain ⟨b0, b1⟩ := HD4.out.bs.ce
          obtain ⟨y0, y1, y2, y3, y4⟩ := HD4.out.bw.ce
          rw [show (SV.mk va vl vc).val = .slice va vl vc from rfl] at b0
          rw [show (SV.mk ta tl tc).val = .slice ta tl tc from rfl] at b1
          clear hBc
          have HA := (show Hid _ from HD4.out.below ((Below.refl _ _).alloc (Nat.le_refl _) (.cells #[.int .u64 0, .int .u64 0, .int .i64 0] 41)))
          have HT0 : Hid (Bx3 (wc4.alloc (.cells #[.int .u64 0, .int .u64 0, .int .i64 0] 41)) wc4.heap.size zDe ∧ w.heap.size + 3 ≤ wc4.heap.size) := ⟨at_new _ _, by have := HD4.out.br.lt; omega⟩
          obtain ⟨b0, b1⟩ := HA.out.bs.ce
          obtain ⟨y0, y1, y2, y3, y4⟩ := HA.out.bw.ce
          rw [show (SV.mk va vl vc).val = .slice va vl vc from rfl] at b0
          rw [show (SV.mk ta tl tc).val = .slice ta tl tc from rfl] at b1
          go_upto_region 4 with fail
          generalize (wc4.alloc (.cells #[.int .u64 0, .int .u64 0, .int .i64 0] 41)) = wa at *
          generalize wc4.heap.size = bt at *
          go_wp2_with fail
          refine (kop HA.out).mono ?_
          rintro e wo ⟨rfl, hBo⟩
          have HO := (show Hid _ from HA.out.below hBo)
          have HT1 : Hid (Bx3 wo bt zDe) := HT0.out.1.below hBo
          have HTL : Hid (w.heap.size + 3 ≤ bt) := HT0.out.2
          obtain ⟨b0, b1⟩ := HO.out.bs.ce
          obtain ⟨y0, y1, y2, y3, y4⟩ := HO.out.bw.ce
          rw [show (SV.mk va vl vc).val = .slice va vl vc from rfl] at b0
          rw [show (SV.mk ta tl tc).val = .slice ta tl tc from rfl] at b1
          obtain ⟨t0, t1, t2⟩ := HT1.out.ce
          obtain ⟨tf0, tf1, tf2⟩ := HT1.out.fz
          clear hBo HT0 HA
          unfold zDe at t0 t1 t2
          obtain ⟨z1, z2⟩ := HNO.out HO.out
          have HZ := (show Hid _ from And.intro z1 z2)
          obtain ⟨r0, r1⟩ := HO.out.br.ce
          obtain ⟨rf0, rf1⟩ := HO.out.br.fz
          clear z1 z2
          go_wp2_with fail
          refine bodyPost_ret (res2 rfl _ _ (w.heap.size + 2) 28 _ (0, 0) _ rfl HZ.out.1 Tryz.underlying28 rfl (by kernel_rfl)) rfl ?_
          rw [HR.out]
          exact ⟨rfl, HZ.out.2⟩
        | false =>
          have kop : ∀ {W : World}, DfS w W B tg S ⟨va, vl, vc⟩ ⟨ta, tl, tc⟩ qs u → Calls Tryz.prog 43 #[.agg #[.slice va vl vc, .slice ta tl tc], .int .u64 o] W fun e w' => e = .returned (.bool true) ∧ Below W.heap.size W w' := fun {W} a => by have := HOP.out a; rw [hs] at this; exact this
          have kwo := fun W => kwi W newE
          have HR : Hid (R = (true, putS x k (rWishD newE u))) := by show R = _; rw [HE.out, if_neg (by rw [hno]; simp), hg]; simp only [hs, Bool.false_eq_true, if_false]
          generalize rWishD newE u = nd at *
          unfold deV newE undW at kwo
          simp only at kwo
          clear HE
          go_enter Tryz.func17, Tryz.ntmps17
          go_upto_region 1 with fail
          rw [← hwb]
          clear hwb
          go_wp2_with fail
          refine (HAT.out HD0.out).mono ?_
          rintro e wc1 ⟨rfl, hBc⟩
          have HD1 := (show Hid _ from HD0.out.below hBc)
          obtain ⟨b0, b1⟩ := HD1.out.bs.ce
          obtain ⟨y0, y1, y2, y3, y4⟩ := HD1.out.bw.ce
          rw [show (SV.mk va vl vc).val = .slice va vl vc from rfl] at b0
          rw [show (SV.mk ta tl tc).val = .slice ta tl tc from rfl] at b1
          clear hBc
          go_wp2_with fail
          refine (kh16 _).mono ?_
          rintro e wc2 ⟨rfl, hBc⟩
          have HD2 := (show Hid _ from HD1.out.below hBc)
          obtain ⟨b0, b1⟩ := HD2.out.bs.ce
          obtain ⟨y0, y1, y2, y3, y4⟩ := HD2.out.bw.ce
          rw [show (SV.mk va vl vc).val = .slice va vl vc from rfl] at b0
          rw [show (SV.mk ta tl tc).val = .slice ta tl tc from rfl] at b1
          clear hBc
          go_wp2_with fail
          refine (kh32 _).mono ?_
          rintro e wc3 ⟨rfl, hBc⟩
          have HD3 := (show Hid _ from HD2.out.below hBc)
          obtain ⟨b0, b1⟩ := HD3.out.bs.ce
          obtain ⟨y0, y1, y2, y3, y4⟩ := HD3.out.bw.ce
          rw [show (SV.mk va vl vc).val = .slice va vl vc from rfl] at b0
          rw [show (SV.mk ta tl tc).val = .slice ta tl tc from rfl] at b1
          clear hBc
          go_wp2_with fail
          refine (kow HD3.out).mono ?_
          rintro e wc4 ⟨rfl, hBc⟩
          have HD4 := (show Hid _ from HD3.out.below hBc)
          obtain ⟨b0, b1⟩ := HD4.out.bs.ce
          obtain ⟨y0, y1, y2, y3, y4⟩ := HD4.out.bw.ce
          rw [show (SV.mk va vl vc).val = .slice va vl vc from rfl] at b0
          rw [show (SV.mk ta tl tc).val = .slice ta tl tc from rfl] at b1
          clear hBc
          have HA := (show Hid _ from HD4.out.below ((Below.refl _ _).alloc (Nat.le_refl _) (.cells #[.int .u64 0, .int .u64 0, .int .i64 0] 41)))
          have HT0 : Hid (Bx3 (wc4.alloc (.cells #[.int .u64 0, .int .u64 0, .int .i64 0] 41)) wc4.heap.size zDe ∧ w.heap.size + 3 ≤ wc4.heap.size) := ⟨at_new _ _, by have := HD4.out.br.lt; omega⟩
          obtain ⟨b0, b1⟩ := HA.out.bs.ce
          obtain ⟨y0, y1, y2, y3, y4⟩ := HA.out.bw.ce
          rw [show (SV.mk va vl vc).val = .slice va vl vc from rfl] at b0
          rw [show (SV.mk ta tl tc).val = .slice ta tl tc from rfl] at b1
          go_upto_region 4 with fail
          generalize (wc4.alloc (.cells #[.int .u64 0, .int .u64 0, .int .i64 0] 41)) = wa at *
          generalize wc4.heap.size = bt at *
          go_wp2_with fail
          refine (kop HA.out).mono ?_
          rintro e wo ⟨rfl, hBo⟩
          have HO := (show Hid _ from HA.out.below hBo)
          have HT1 : Hid (Bx3 wo bt zDe) := HT0.out.1.below hBo
          have HTL : Hid (w.heap.size + 3 ≤ bt) := HT0.out.2
          obtain ⟨b0, b1⟩ := HO.out.bs.ce
          obtain ⟨y0, y1, y2, y3, y4⟩ := HO.out.bw.ce
          rw [show (SV.mk va vl vc).val = .slice va vl vc from rfl] at b0
          rw [show (SV.mk ta tl tc).val = .slice ta tl tc from rfl] at b1
          obtain ⟨t0, t1, t2⟩ := HT1.out.ce
          obtain ⟨tf0, tf1, tf2⟩ := HT1.out.fz
          clear hBo HT0 HA
          unfold zDe at t0 t1 t2
          have HS8 : Hid (DfS w (st3 wo bt newE) B tg S ⟨va, vl, vc⟩ ⟨ta, tl, tc⟩ qs u ∧ Bx3 (st3 wo bt newE) bt newE) := by
            have hl := HTL.out
            have hc : Chg (fun b => b = bt) wo (st3 wo bt newE) := ((Chg.set (S := fun b => b = bt) wo ⟨bt, 0, none⟩ _ rfl).trans (Chg.set (S := fun b => b = bt) _ ⟨bt, 1, none⟩ _ rfl) (fun _ _ q => q)).trans (Chg.set (S := fun b => b = bt) _ ⟨bt, 2, none⟩ _ rfl) (fun _ _ q => q)
            have htg : ∀ b, tg b ≠ 0 → ¬ b = bt := fun b r e => by
              have := HTG.out b r
              omega
            exact ⟨⟨HO.out.st.kept hc htg, HO.out.bs.kept hc (by omega), by unfold Bx5; rw [st3_other _ _ _ (by omega)]; exact HO.out.bw, HO.out.br.kept hc (by omega), st3_below HO.out.bel (by omega) _⟩, HT1.out.put _⟩
          go_upto_region 9 with fail
          have hst : st3 wo bt newE = ((wo.setCell ⟨bt, 0, none⟩ (.int .u64 18445336698825998336)).setCell ⟨bt, 1, none⟩ (.int .u64 18445336698825998336)).setCell ⟨bt, 2, none⟩ (.int .i64 0) := rfl
          rw [← hst]
          generalize st3 wo bt newE = wp at *
          clear hst
          have HP := (show Hid _ from HS8.out.1)
          have HT2 : Hid (Bx3 wp bt newE) := HS8.out.2
          obtain ⟨b0, b1⟩ := HP.out.bs.ce
          obtain ⟨y0, y1, y2, y3, y4⟩ := HP.out.bw.ce
          rw [show (SV.mk va vl vc).val = .slice va vl vc from rfl] at b0
          rw [show (SV.mk ta tl tc).val = .slice ta tl tc from rfl] at b1
          obtain ⟨t0, t1, t2⟩ := HT2.out.ce
          unfold newE undW at t0 t1 t2
          simp only at t0 t1 t2
          clear HS8 tf0 tf1 tf2
          go_wp2_with fail
          refine (kwo _).mono ?_
          rintro e ww ⟨rfl, hBw⟩
          have HW := (show Hid _ from HP.out.below hBw)
          have HWA := (show Hid _ from HW.out.below ((Below.refl _ _).alloc (Nat.le_refl _) (.cells #[.int .u64 nd.va, .int .u64 nd.se, .int .i64 nd.fl] 41)))
          have HTA : Hid (Bx3 (ww.alloc (.cells #[.int .u64 nd.va, .int .u64 nd.se, .int .i64 nd.fl] 41)) bt newE) := (HT2.out.below hBw).below ((Below.refl _ _).alloc (Nat.le_refl _) _)
          have HTN : Hid (Bx3 (ww.alloc (.cells #[.int .u64 nd.va, .int .u64 nd.se, .int .i64 nd.fl] 41)) ww.heap.size nd) := Bx3.box ww nd
          obtain ⟨b0, b1⟩ := HWA.out.bs.ce
          obtain ⟨y0, y1, y2, y3, y4⟩ := HWA.out.bw.ce
          rw [show (SV.mk va vl vc).val = .slice va vl vc from rfl] at b0
          rw [show (SV.mk ta tl tc).val = .slice ta tl tc from rfl] at b1
          obtain ⟨t0, t1, t2⟩ := HTA.out.ce
          obtain ⟨n0, n1, n2⟩ := HTN.out.ce
          clear hBw HP HT2 HW
          go_upto_region 10 with fail
          generalize (ww.alloc (.cells #[.int .u64 nd.va, .int .u64 nd.se, .int .i64 nd.fl] 41)) = wz at *
          generalize ww.heap.size = bn at *
          go_wp2_with fail
          refine (HAR.out HWA.out).mono ?_
          rintro e wr ⟨rfl, hBr⟩
          have HRR := (show Hid _ from HWA.out.below hBr)
          have HTR : Hid (Bx3 wr bn nd) := HTN.out.below hBr
          obtain ⟨b0, b1⟩ := HRR.out.bs.ce
          obtain ⟨y0, y1, y2, y3, y4⟩ := HRR.out.bw.ce
          rw [show (SV.mk va vl vc).val = .slice va vl vc from rfl] at b0
          rw [show (SV.mk ta tl tc).val = .slice ta tl tc from rfl] at b1
          obtain ⟨n0, n1, n2⟩ := HTR.out.ce
          clear hBr HWA HTN
          have kpu := HPU.out nd HRR.out
          unfold deV at kpu
          go_wp2_with fail
          refine kpu.mono ?_
          rintro e wf ⟨rfl, hsw⟩
          obtain ⟨hbr, z1, z2⟩ := HYE.out HRR.out hsw
          have HZ := (show Hid _ from And.intro z1 z2)
          obtain ⟨r0, r1⟩ := hbr.ce
          obtain ⟨rf0, rf1⟩ := hbr.fz
          clear z1 z2 hsw hbr kpu
          go_wp2_with fail
          refine bodyPost_ret (res2 rfl _ _ (w.heap.size + 2) 28 _ (0, 0) _ rfl HZ.out.1 Tryz.underlying28 rfl (by kernel_rfl)) rfl ?_
          rw [HR.out]
          exact ⟨rfl, HZ.out.2⟩
      | some old =>
        have kow : ∀ {W : World}, DfS w W B tg S ⟨va, vl, vc⟩ ⟨ta, tl, tc⟩ qs u → Calls Tryz.prog 19 #[.agg #[.slice va vl vc, .slice ta tl tc], .int .u64 o, .string k] W fun e w' => e = .returned (.tuple #[.agg #[.int .u64 old.va, .int .u64 old.se, .int .i64 old.fl], .bool true]) ∧ Below W.heap.size W w' := fun {W} a => by have := HOW.out a; rw [hg] at this; exact this
        have kop : ∀ {W : World}, DfS w W B tg S ⟨va, vl, vc⟩ ⟨ta, tl, tc⟩ qs u → Calls Tryz.prog 43 #[.agg #[.slice va vl vc, .slice ta tl tc], .int .u64 o] W fun e w' => e = .returned (.bool (!x.shut)) ∧ Below W.heap.size W w' := fun {W} a => HOP.out a
        have kwo := fun W => kwi W old
        have kmo := fun W => kma W old (rWishD old u)
        cases hm : rmayD old (rWishD old u) with
        | true =>
          rw [hm] at kmo
          have HR : Hid (R = (true, putS x k (rWishD old u))) := by show R = _; rw [HE.out, if_neg (by rw [hno]; simp), hg]; simp only [hm, if_true]
          generalize rWishD old u = nd at *
          unfold deV at kwo kmo
          clear HE
          go_enter Tryz.func17, Tryz.ntmps17
          go_upto_region 1 with fail
          rw [← hwb]
          clear hwb
          go_wp2_with fail
          refine (HAT.out HD0.out).mono ?_
          rintro e wc1 ⟨rfl, hBc⟩
          have HD1 := (show Hid _ from HD0.out.below hBc)
          obtain ⟨b0, b1⟩ := HD1.out.bs.ce
          obtain ⟨y0, y1, y2, y3, y4⟩ := HD1.out.bw.ce
          rw [show (SV.mk va vl vc).val = .slice va vl vc from rfl] at b0
          rw [show (SV.mk ta tl tc).val = .slice ta tl tc from rfl] at b1
          clear hBc
          go_wp2_with fail
          refine (kh16 _).mono ?_
          rintro e wc2 ⟨rfl, hBc⟩
          have HD2 := (show Hid _ from HD1.out.below hBc)
          obtain ⟨b0, b1⟩ := HD2.out.bs.ce
          obtain ⟨y0, y1, y2, y3, y4⟩ := HD2.out.bw.ce
          rw [show (SV.mk va vl vc).val = .slice va vl vc from rfl] at b0
          rw [show (SV.mk ta tl tc).val = .slice ta tl tc from rfl] at b1
          clear hBc
          go_wp2_with fail
          refine (kh32 _).mono ?_
          rintro e wc3 ⟨rfl, hBc⟩
          have HD3 := (show Hid _ from HD2.out.below hBc)
          obtain ⟨b0, b1⟩ := HD3.out.bs.ce
          obtain ⟨y0, y1, y2, y3, y4⟩ := HD3.out.bw.ce
          rw [show (SV.mk va vl vc).val = .slice va vl vc from rfl] at b0
          rw [show (SV.mk ta tl tc).val = .slice ta tl tc from rfl] at b1
          clear hBc
          go_wp2_with fail
          refine (kow HD3.out).mono ?_
          rintro e wc4 ⟨rfl, hBc⟩
          have HD4 := (show Hid _ from HD3.out.below hBc)
          obtain ⟨b0, b1⟩ := HD4.out.bs.ce
          obtain ⟨y0, y1, y2, y3, y4⟩ := HD4.out.bw.ce
          rw [show (SV.mk va vl vc).val = .slice va vl vc from rfl] at b0
          rw [show (SV.mk ta tl tc).val = .slice ta tl tc from rfl] at b1
          clear hBc
          have HA := (show Hid _ from HD4.out.below ((Below.refl _ _).alloc (Nat.le_refl _) (.cells #[.int .u64 old.va, .int .u64 old.se, .int .i64 old.fl] 41)))
          have HT0 : Hid (Bx3 (wc4.alloc (.cells #[.int .u64 old.va, .int .u64 old.se, .int .i64 old.fl] 41)) wc4.heap.size old ∧ w.heap.size + 3 ≤ wc4.heap.size) := ⟨at_new _ _, by have := HD4.out.br.lt; omega⟩
          obtain ⟨b0, b1⟩ := HA.out.bs.ce
          obtain ⟨y0, y1, y2, y3, y4⟩ := HA.out.bw.ce
          rw [show (SV.mk va vl vc).val = .slice va vl vc from rfl] at b0
          rw [show (SV.mk ta tl tc).val = .slice ta tl tc from rfl] at b1
          go_upto_region 4 with fail
          generalize (wc4.alloc (.cells #[.int .u64 old.va, .int .u64 old.se, .int .i64 old.fl] 41)) = wa at *
          generalize wc4.heap.size = bt at *
          go_wp2_with fail
          refine (kop HA.out).mono ?_
          rintro e wo ⟨rfl, hBo⟩
          have HO := (show Hid _ from HA.out.below hBo)
          have HT1 : Hid (Bx3 wo bt old) := HT0.out.1.below hBo
          have HTL : Hid (w.heap.size + 3 ≤ bt) := HT0.out.2
          obtain ⟨b0, b1⟩ := HO.out.bs.ce
          obtain ⟨y0, y1, y2, y3, y4⟩ := HO.out.bw.ce
          rw [show (SV.mk va vl vc).val = .slice va vl vc from rfl] at b0
          rw [show (SV.mk ta tl tc).val = .slice ta tl tc from rfl] at b1
          obtain ⟨t0, t1, t2⟩ := HT1.out.ce
          obtain ⟨tf0, tf1, tf2⟩ := HT1.out.fz
          clear hBo HT0 HA
          go_wp2_with fail
          refine (kwo _).mono ?_
          rintro e ww ⟨rfl, hBw⟩
          have HW := (show Hid _ from HO.out.below hBw)
          have HWA := (show Hid _ from HW.out.below ((Below.refl _ _).alloc (Nat.le_refl _) (.cells #[.int .u64 nd.va, .int .u64 nd.se, .int .i64 nd.fl] 41)))
          have HTA : Hid (Bx3 (ww.alloc (.cells #[.int .u64 nd.va, .int .u64 nd.se, .int .i64 nd.fl] 41)) bt old) := (HT1.out.below hBw).below ((Below.refl _ _).alloc (Nat.le_refl _) _)
          have HTN : Hid (Bx3 (ww.alloc (.cells #[.int .u64 nd.va, .int .u64 nd.se, .int .i64 nd.fl] 41)) ww.heap.size nd) := Bx3.box ww nd
          obtain ⟨b0, b1⟩ := HWA.out.bs.ce
          obtain ⟨y0, y1, y2, y3, y4⟩ := HWA.out.bw.ce
          rw [show (SV.mk va vl vc).val = .slice va vl vc from rfl] at b0
          rw [show (SV.mk ta tl tc).val = .slice ta tl tc from rfl] at b1
          obtain ⟨t0, t1, t2⟩ := HTA.out.ce
          obtain ⟨n0, n1, n2⟩ := HTN.out.ce
          clear hBw HO HT1 HW
          go_upto_region 10 with fail
          generalize (ww.alloc (.cells #[.int .u64 nd.va, .int .u64 nd.se, .int .i64 nd.fl] 41)) = wz at *
          generalize ww.heap.size = bn at *
          go_wp2_with fail
          refine (kmo _).mono ?_
          rintro e wm ⟨rfl, hBm⟩
          have HM := (show Hid _ from HWA.out.below hBm)
          have HTM : Hid (Bx3 wm bn nd) := HTN.out.below hBm
          obtain ⟨b0, b1⟩ := HM.out.bs.ce
          obtain ⟨y0, y1, y2, y3, y4⟩ := HM.out.bw.ce
          rw [show (SV.mk va vl vc).val = .slice va vl vc from rfl] at b0
          rw [show (SV.mk ta tl tc).val = .slice ta tl tc from rfl] at b1
          obtain ⟨n0, n1, n2⟩ := HTM.out.ce
          clear hBm HWA HTN HTA
          go_wp2_with fail
          refine (HAR.out HM.out).mono ?_
          rintro e wr ⟨rfl, hBr⟩
          have HRR := (show Hid _ from HM.out.below hBr)
          have HTR : Hid (Bx3 wr bn nd) := HTM.out.below hBr
          obtain ⟨b0, b1⟩ := HRR.out.bs.ce
          obtain ⟨y0, y1, y2, y3, y4⟩ := HRR.out.bw.ce
          rw [show (SV.mk va vl vc).val = .slice va vl vc from rfl] at b0
          rw [show (SV.mk ta tl tc).val = .slice ta tl tc from rfl] at b1
          obtain ⟨n0, n1, n2⟩ := HTR.out.ce
          clear hBr HM HTM
          have kpu := HPU.out nd HRR.out
          unfold deV at kpu
          go_wp2_with fail
          refine kpu.mono ?_
          rintro e wf ⟨rfl, hsw⟩
          obtain ⟨hbr, z1, z2⟩ := HYE.out HRR.out hsw
          have HZ := (show Hid _ from And.intro z1 z2)
          obtain ⟨r0, r1⟩ := hbr.ce
          obtain ⟨rf0, rf1⟩ := hbr.fz
          clear z1 z2 hsw hbr kpu
          go_wp2_with fail
          refine bodyPost_ret (res2 rfl _ _ (w.heap.size + 2) 28 _ (0, 0) _ rfl HZ.out.1 Tryz.underlying28 rfl (by kernel_rfl)) rfl ?_
          rw [HR.out]
          exact ⟨rfl, HZ.out.2⟩
        | false =>
          rw [hm] at kmo
          have HR : Hid (R = (false, x)) := by show R = _; rw [HE.out, if_neg (by rw [hno]; simp), hg]; simp only [hm, Bool.false_eq_true, if_false]
          generalize rWishD old u = nd at *
          unfold deV at kwo kmo
          clear HE
          go_enter Tryz.func17, Tryz.ntmps17
          go_upto_region 1 with fail
          rw [← hwb]
          clear hwb
          go_wp2_with fail
          refine (HAT.out HD0.out).mono ?_
          rintro e wc1 ⟨rfl, hBc⟩
          have HD1 := (show Hid _ from HD0.out.below hBc)
          obtain ⟨b0, b1⟩ := HD1.out.bs.ce
          obtain ⟨y0, y1, y2, y3, y4⟩ := HD1.out.bw.ce
          rw [show (SV.mk va vl vc).val = .slice va vl vc from rfl] at b0
          rw [show (SV.mk ta tl tc).val = .slice ta tl tc from rfl] at b1
          clear hBc
          go_wp2_with fail
          refine (kh16 _).mono ?_
          rintro e wc2 ⟨rfl, hBc⟩
          have HD2 := (show Hid _ from HD1.out.below hBc)
          obtain ⟨b0, b1⟩ := HD2.out.bs.ce
          obtain ⟨y0, y1, y2, y3, y4⟩ := HD2.out.bw.ce
          rw [show (SV.mk va vl vc).val = .slice va vl vc from rfl] at b0
          rw [show (SV.mk ta tl tc).val = .slice ta tl tc from rfl] at b1
          clear hBc
          go_wp2_with fail
          refine (kh32 _).mono ?_
          rintro e wc3 ⟨rfl, hBc⟩
          have HD3 := (show Hid _ from HD2.out.below hBc)
          obtain ⟨b0, b1⟩ := HD3.out.bs.ce
          obtain ⟨y0, y1, y2, y3, y4⟩ := HD3.out.bw.ce
          rw [show (SV.mk va vl vc).val = .slice va vl vc from rfl] at b0
          rw [show (SV.mk ta tl tc).val = .slice ta tl tc from rfl] at b1
          clear hBc
          go_wp2_with fail
          refine (kow HD3.out).mono ?_
          rintro e wc4 ⟨rfl, hBc⟩
          have HD4 := (show Hid _ from HD3.out.below hBc)
          obtain ⟨b0, b1⟩ := HD4.out.bs.ce
          obtain ⟨y0, y1, y2, y3, y4⟩ := HD4.out.bw.ce
          rw [show (SV.mk va vl vc).val = .slice va vl vc from rfl] at b0
          rw [show (SV.mk ta tl tc).val = .slice ta tl tc from rfl] at b1
          clear hBc
          have HA := (show Hid _ from HD4.out.below ((Below.refl _ _).alloc (Nat.le_refl _) (.cells #[.int .u64 old.va, .int .u64 old.se, .int .i64 old.fl] 41)))
          have HT0 : Hid (Bx3 (wc4.alloc (.cells #[.int .u64 old.va, .int .u64 old.se, .int .i64 old.fl] 41)) wc4.heap.size old ∧ w.heap.size + 3 ≤ wc4.heap.size) := ⟨at_new _ _, by have := HD4.out.br.lt; omega⟩
          obtain ⟨b0, b1⟩ := HA.out.bs.ce
          obtain ⟨y0, y1, y2, y3, y4⟩ := HA.out.bw.ce
          rw [show (SV.mk va vl vc).val = .slice va vl vc from rfl] at b0
          rw [show (SV.mk ta tl tc).val = .slice ta tl tc from rfl] at b1
          go_upto_region 4 with fail
          generalize (wc4.alloc (.cells #[.int .u64 old.va, .int .u64 old.se, .int .i64 old.fl] 41)) = wa at *
          generalize wc4.heap.size = bt at *
          go_wp2_with fail
          refine (kop HA.out).mono ?_
          rintro e wo ⟨rfl, hBo⟩
          have HO := (show Hid _ from HA.out.below hBo)
          have HT1 : Hid (Bx3 wo bt old) := HT0.out.1.below hBo
          have HTL : Hid (w.heap.size + 3 ≤ bt) := HT0.out.2
          obtain ⟨b0, b1⟩ := HO.out.bs.ce
          obtain ⟨y0, y1, y2, y3, y4⟩ := HO.out.bw.ce
          rw [show (SV.mk va vl vc).val = .slice va vl vc from rfl] at b0
          rw [show (SV.mk ta tl tc).val = .slice ta tl tc from rfl] at b1
          obtain ⟨t0, t1, t2⟩ := HT1.out.ce
          obtain ⟨tf0, tf1, tf2⟩ := HT1.out.fz
          clear hBo HT0 HA
          go_wp2_with fail
          refine (kwo _).mono ?_
          rintro e ww ⟨rfl, hBw⟩
          have HW := (show Hid _ from HO.out.below hBw)
          have HWA := (show Hid _ from HW.out.below ((Below.refl _ _).alloc (Nat.le_refl _) (.cells #[.int .u64 nd.va, .int .u64 nd.se, .int .i64 nd.fl] 41)))
          have HTA : Hid (Bx3 (ww.alloc (.cells #[.int .u64 nd.va, .int .u64 nd.se, .int .i64 nd.fl] 41)) bt old) := (HT1.out.below hBw).below ((Below.refl _ _).alloc (Nat.le_refl _) _)
          have HTN : Hid (Bx3 (ww.alloc (.cells #[.int .u64 nd.va, .int .u64 nd.se, .int .i64 nd.fl] 41)) ww.heap.size nd) := Bx3.box ww nd
          obtain ⟨b0, b1⟩ := HWA.out.bs.ce
          obtain ⟨y0, y1, y2, y3, y4⟩ := HWA.out.bw.ce
          rw [show (SV.mk va vl vc).val = .slice va vl vc from rfl] at b0
          rw [show (SV.mk ta tl tc).val = .slice ta tl tc from rfl] at b1
          obtain ⟨t0, t1, t2⟩ := HTA.out.ce
          obtain ⟨n0, n1, n2⟩ := HTN.out.ce
          clear hBw HO HT1 HW
          go_upto_region 10 with fail
          generalize (ww.alloc (.cells #[.int .u64 nd.va, .int .u64 nd.se, .int .i64 nd.fl] 41)) = wz at *
          generalize ww.heap.size = bn at *
          go_wp2_with fail
          refine (kmo _).mono ?_
          rintro e wm ⟨rfl, hBm⟩
          have HM := (show Hid _ from HWA.out.below hBm)
          have HTM : Hid (Bx3 wm bn nd) := HTN.out.below hBm
          obtain ⟨b0, b1⟩ := HM.out.bs.ce
          obtain ⟨y0, y1, y2, y3, y4⟩ := HM.out.bw.ce
          rw [show (SV.mk va vl vc).val = .slice va vl vc from rfl] at b0
          rw [show (SV.mk ta tl tc).val = .slice ta tl tc from rfl] at b1
          obtain ⟨n0, n1, n2⟩ := HTM.out.ce
          clear hBm HWA HTN HTA
          obtain ⟨z1, z2⟩ := HNO.out HM.out
          have HZ := (show Hid _ from And.intro z1 z2)
          obtain ⟨r0, r1⟩ := HM.out.br.ce
          obtain ⟨rf0, rf1⟩ := HM.out.br.fz
          clear z1 z2
          go_wp2_with fail
          refine bodyPost_ret (res2 rfl _ _ (w.heap.size + 2) 28 _ (0, 0) _ rfl HZ.out.1 Tryz.underlying28 rfl (by kernel_rfl)) rfl ?_
          rw [HR.out]
          exact ⟨rfl, HZ.out.2⟩

end

end Go.Proofs.YtahhionlbfhinaaGreatDoor.Hp
