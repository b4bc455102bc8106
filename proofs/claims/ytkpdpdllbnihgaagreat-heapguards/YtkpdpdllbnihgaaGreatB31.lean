/- VD, VF, UJ -/
import Derived.Test.YtkpdpdllbnihgaaGreatB29
import Derived.Test.YtkpdpdllbnihgaaGreatB13
import Derived.Test.YtkpdpdllbnihgaaGreatB30
import Derived.Test.YtkpdpdllbnihgaaGreatB25
set_option linter.unusedVariables false
set_option linter.unusedSimpArgs false
set_option maxRecDepth 100000
set_option maxHeartbeats 40000000
/- SetProto. -/
namespace Go.Proofs.YtkpdpdllbnihgaaGreat.Hp
open Go.RowKit
def mvD (H : He) (ob : Ob) (p : Int) : List Sp.Sh × Int × Bool := Sp.moveD H.most H.L ob.shape (rootN ob.kind p)
/-- under p, ahead of the shape -/
def preH (H : He) (i : Nat) (ob : Ob) (p : Int) : He := { raiseH (touchH H ob.cell) p with obs := (raiseH (touchH H ob.cell) p).obs.set i { ob with proto := p } }
/-- what SetProto leaves, if it is done -/
def setPH (H : He) (i : Nat) (ob : Ob) (p : Int) : He :=
  if ob.shaped = true then { preH H i ob p with L := (mvD H ob p).1, obs := (preH H i ob p).obs.set i { ob with proto := p, shape := (mvD H ob p).2.1, shaped := (mvD H ob p).2.2 } } else preH H i ob p
def setPF (H : He) (o p : Int) : He := match obI H o with
  | none => H
  | some i => match H.obs[i]? with
    | none => H
    | some ob => if p = ob.proto ∨ mayB H p = false ∨ saB H o p = true then H else setPH H i ob p
theorem touch_obs (H : He) (n : Int) : (touchH H n).obs = H.obs := rfl
theorem touch_I (H : He) (n o : Int) : obI (touchH H n) o = obI H o := rfl
theorem raise_other {H : He} {p : Int} {i : Nat} {ob : Ob} (hi : H.obs[i]? = some ob) (hp : obI H p ≠ some i) : (raiseH H p).obs[i]? = some ob := by
  unfold raiseH
  cases hq : obI H p with
  | none => exact hi
  | some j =>
    simp only
    cases hj : H.obs[j]? with
    | none => exact hi
    | some ob2 =>
      simp only
      rw [List.getElem?_set_ne (fun e => hp (by rw [hq, e]))]
      exact hi
section
variable {w w' w1 : World} {B hb : Nat} {O S : Nat → Prop} {H H' : He} {M M' : HV} {tg : Nat → Nat}
set_option maxRecDepth 100000 in
set_option maxHeartbeats 8000000 in
theorem setProto_hit (h : HeapAt w B hb tg H M) (hac : Acy H) (hab : AbvOk H) (o p : Int) (o0 : 0 ≤ o) (o1 : o < 18446744073709551616) (p0 : 0 ≤ p) (p1 : p < 18446744073709551616) {i : Nat} {ob : Ob} (ho : obI H o = some i) (hi : H.obs[i]? = some ob) (q1 : ¬ p = ob.proto) (q2 : mayB H p = true) (q3 : saB H o p = false) :
    Calls Tryz.prog 29 #[.pointer (some ⟨hb, 0, none⟩), .int .u64 o, .int .u64 p] w fun e w' => e = .returned (.tuple #[]) ∧ WentM w B hb tg (setPH H i ob p) M w' := by
  obtain ⟨g, cap, ov, hvo, hov, t4, hne, hgl, hcell, hfz, hl1, hl2, hrow⟩ := h.obj hi
  have ka := at_hit h o o0 o1 i g cap ho hvo
  have hq : obO H o = some ob := by unfold obO; rw [ho]; exact hi
  have km := mayBe_at h p p0 p1
  rw [q2] at km
  have ks := stands_any h hac hab o p o0 o1 p0 p1 hq
  rw [q3] at ks
  have kt := touch_at h hi hvo
  have d1 := hcell 1 _ rfl
  simp only at d1
  have hpp : (p == ob.proto) = false := by simpa using q1
  have hil : i < H.obs.length := (List.getElem?_eq_some_iff.1 hi).1
  have hpo : obI H p ≠ some i := fun e => by
    have e1 := (obI_some e).2.2.2
    have e2 := (obI_some ho).2.2.2
    unfold saB at q3
    rw [decide_eq_true (show p = o by rw [e1, e2])] at q3
    cases q3
  have hwf := h.wf.ob ob (List.mem_of_getElem? hi)
  have HT : Hid (∀ w2, WentM w B hb tg (touchH H ob.cell) M w2 → Calls Tryz.prog 64 #[.pointer (some ⟨hb, 0, none⟩), .int .u64 p] w2 fun e w' => e = .returned (.tuple #[]) ∧ WentM w B hb tg (raiseH (touchH H ob.cell) p) M w') := fun w2 q => by
    obtain ⟨tg2, r1, r2, r3⟩ := q
    refine (raise_at r1 p p0 p1).mono ?_
    rintro e w' ⟨rfl, hq⟩
    exact ⟨rfl, WentM.next r2 r3 hq⟩
  have HP : Hid (∀ w3, WentM w B hb tg (raiseH (touchH H ob.cell) p) M w3 → (w3.cell? ⟨g, i * 12 + 1, none⟩ = some (.int .u64 ob.proto) ∧ w3.frozen? ⟨g, i * 12 + 1, none⟩ = false) ∧ WentM w B hb tg (preH H i ob p) M (w3.setCell ⟨g, i * 12 + 1, none⟩ (.int .u64 p))) := fun w3 q => by
    obtain ⟨tg3, r1, r2, r3⟩ := q
    have hi3 : (raiseH (touchH H ob.cell) p).obs[i]? = some ob := raise_other hi hpo
    obtain ⟨g', cap', ov', hvo', hov', t4', _, _, hcell', hfz', _⟩ := r1.obj hi3
    have hlen := (raise_len (touchH H ob.cell) p).1
    have hvo3 : M.vo = ⟨some ⟨g, 0, none⟩, (raiseH (touchH H ob.cell) p).obs.length, cap⟩ := by rw [hlen]; exact hvo
    rw [hvo3] at hvo'
    injection hvo' with x1 x2 x3
    injection x1 with x1
    injection x1 with x1
    subst x1
    have d1' := hcell' 1 _ rfl
    simp only at d1'
    have hf := r1.fld hi3 hov' hvo3 { ob with proto := p } (j := 1) (u := .int .u64 p) (by omega) rfl rfl rfl rfl ⟨hwf.kd, ⟨p0, p1⟩, hwf.ks, hwf.fl, hwf.nx, hwf.el, hwf.inn⟩
    exact ⟨⟨d1', hfz' _⟩, WentM.next r2 r3 (HeapAt.wentF r1 hf.2 (fun b q => by omega) hf.1)⟩
  have HS : Hid (∀ w4, WentM w B hb tg (preH H i ob p) M w4 → (w4.cell? ⟨g, i * 12 + 10, none⟩ = some (.bool ob.shaped) ∧ w4.cell? ⟨g, i * 12 + 9, none⟩ = some (.int .i64 ob.shape) ∧ w4.cell? ⟨g, i * 12 + 0, none⟩ = some (.int .i64 ob.kind) ∧ w4.cell? ⟨hb, 3, none⟩ = some (.pointer (some ⟨M.tb, 0, none⟩))) ∧
      Calls Tryz.prog 77 #[.pointer (some ⟨M.tb, 0, none⟩), .int .i64 ob.shape, .int .u64 (rootN ob.kind p)] w4.drew (fun e w' => e = .returned (.tuple #[.int .i64 (mvD H ob p).2.1, .bool (mvD H ob p).2.2]) ∧
        ((w'.cell? ⟨g, i * 12 + 9, none⟩ = some (.int .i64 ob.shape) ∧ w'.cell? ⟨g, i * 12 + 10, none⟩ = some (.bool ob.shaped) ∧ w'.frozen? ⟨g, i * 12 + 9, none⟩ = false ∧ w'.frozen? ⟨g, i * 12 + 10, none⟩ = false) ∧
          WentM w B hb tg { preH H i ob p with L := (mvD H ob p).1, obs := (preH H i ob p).obs.set i { ob with proto := p, shape := (mvD H ob p).2.1, shaped := (mvD H ob p).2.2 } } M ((w'.setCell ⟨g, i * 12 + 9, none⟩ (.int .i64 (mvD H ob p).2.1)).setCell ⟨g, i * 12 + 10, none⟩ (.bool (mvD H ob p).2.2))))) := fun w4 q => by
    obtain ⟨tg4, r1, r2, r3⟩ := q
    have hlen : (preH H i ob p).obs.length = H.obs.length := by unfold preH; simp only [List.length_set]; exact (raise_len (touchH H ob.cell) p).1
    have hi4 : (preH H i ob p).obs[i]? = some { ob with proto := p } := by unfold preH; exact List.getElem?_set_self (by rw [(raise_len (touchH H ob.cell) p).1]; exact hil)
    have hvo4 : M.vo = ⟨some ⟨g, 0, none⟩, (preH H i ob p).obs.length, cap⟩ := by rw [hlen]; exact hvo
    obtain ⟨g', cap', ov', hvo', hov', t4', _, _, hcell', hfz', _⟩ := r1.obj hi4
    rw [hvo4] at hvo'
    injection hvo' with x1 x2 x3
    injection x1 with x1
    injection x1 with x1
    subst x1
    have e9 := hcell' 9 _ rfl
    have e10 := hcell' 10 _ rfl
    have e0 := hcell' 0 _ rfl
    simp only at e9 e10 e0
    obtain ⟨c0, c1, c2, c3, c4, c5, fz⟩ := r1.box
    refine ⟨⟨e10, e9, e0, c3⟩, ?_⟩
    obtain ⟨Ot, ht, hO⟩ := r1.prt 5
    have hO : ∀ b, Ot b → tg4 b = 5 := hO
    have hL : (preH H i ob p).L = H.L := (raise_len (touchH H ob.cell) p).2.1
    have hm : (preH H i ob p).most = H.most := (raise_len (touchH H ob.cell) p).2.2
    have hr : 0 ≤ rootN ob.kind p ∧ rootN ob.kind p ≤ 18446744073709551615 := by unfold rootN; omega
    have hroom : (preH H i ob p).most ≤ Sp.top := by rw [hm]; have := h.wf.mo; unfold Sp.top; omega
    have kmv := Sp.move_any w4.drew B M.tb Ot _ _ (ht.below ((Below.refl _ _).drew)) ob.shape (rootN ob.kind p) hr.1 hr.2 (Or.inl hroom)
    rw [hL, hm] at kmv
    refine kmv.mono ?_
    rintro e w' ⟨rfl, hq⟩
    refine ⟨rfl, ?_⟩
    have hq2 : Sp.Went w4.drew B M.tb Ot (preH H i ob p).most (mvD H ob p).1 w' := by rw [hm]; exact hq
    obtain ⟨s1, s2⟩ := shape_mid r1 hi4 hvo4 hO hq2 (mvD H ob p).2.1 (mvD H ob p).2.2
    exact ⟨s1, WentM.next r2 r3 s2⟩
  have HK : Hid (0 ≤ ob.kind ∧ ob.kind ≤ 6) := hwf.kd
  have HF : Hid (ob.shaped = true → setPH H i ob p = { preH H i ob p with L := (mvD H ob p).1, obs := (preH H i ob p).obs.set i { ob with proto := p, shape := (mvD H ob p).2.1, shaped := (mvD H ob p).2.2 } }) := fun e => by unfold setPH; rw [if_pos e]
  have HG : Hid (ob.shaped = false → setPH H i ob p = preH H i ob p) := fun e => by unfold setPH; rw [if_neg (by rw [e]; simp)]
  generalize hX1 : { preH H i ob p with L := (mvD H ob p).1, obs := (preH H i ob p).obs.set i { ob with proto := p, shape := (mvD H ob p).2.1, shaped := (mvD H ob p).2.2 } } = HX at *
  generalize setPH H i ob p = HY at *
  generalize preH H i ob p = HZ at *
  generalize raiseH (touchH H ob.cell) p = HR at *
  generalize touchH H ob.cell = H1 at *
  generalize (mvD H ob p).2.1 = sh2 at *
  generalize (mvD H ob p).2.2 = ok2 at *
  generalize ob.shape = sh at *
  generalize ob.proto = pr at *
  generalize ob.kind = kd at *
  generalize ob.shaped = ok at *
  generalize M.tb = tb at *
  have hro := fun W => rootOf_any W kd p HK.out.1 HK.out.2 p0 p1
  generalize rootN kd p = rn at *
  have HPB : Hid (0 ≤ p ∧ p < 18446744073709551616) := ⟨p0, p1⟩
  clear h hac hab ho hi hvo hov t4 hne hgl hcell hfz hl1 hl2 hrow hq q1 q2 q3 hil hpo hwf hX1 HK p0 p1 o0 o1
  go_enter Tryz.func29, Tryz.ntmps29
  go_wp2_with fail
  refine ka.mono ?_
  rintro e w2 ⟨rfl, rfl⟩
  clear ka
  go_wp2_with fail
  refine km.mono ?_
  rintro e w2 ⟨rfl, rfl⟩
  clear km
  go_wp2_with fail
  refine ks.mono ?_
  rintro e w2 ⟨rfl, rfl⟩
  clear ks d1
  go_wp2_with fail
  refine kt.mono ?_
  rintro e w3 ⟨rfl, hw3⟩
  have kr := HT.out w3 hw3
  clear kt hw3 HT
  go_wp2_with fail
  refine kr.mono ?_
  rintro e w4 ⟨rfl, hw4⟩
  obtain ⟨⟨m1, f1⟩, hw5⟩ := HP.out w4 hw4
  obtain ⟨w5, hw5e⟩ : ∃ w5, w5 = w4.setCell ⟨g, i * 12 + 1, none⟩ (.int .u64 p) := ⟨_, rfl⟩
  rw [← hw5e] at hw5
  have H5 : Hid (WentM w2 B hb tg HZ M w5) := hw5
  obtain ⟨⟨e10, e9, e0, c3⟩, kmv⟩ := HS.out w5 hw5
  simp only [Nat.add_zero] at e0
  clear kr hw4 HP hw5 HS
  go_upto_region 5 with fail
  rw [← hw5e]
  clear hw5e m1 f1
  cases ok with
  | false =>
    have HG2 : Hid (HY = HZ) := HG.out rfl
    clear HF HG kmv hro e9 e0 c3
    go_wp2_with fail
    go_end0
    rw [HG2.out]
    exact ⟨rfl, H5.out⟩
  | true =>
    have HF2 : Hid (HY = HX) := HF.out rfl
    have kro := hro w5.drew
    clear HF HG H5 hro
    go_wp2_with fail
    first
    | (go_region_with ((first | (go_at_call 66; refine kro.mono ?_; rintro e w6 ⟨rfl, rfl⟩) | (go_at_call 77; refine kmv.mono ?_; rintro e w7 ⟨rfl, ⟨y1, y2, y3, y4⟩, hq⟩; have HQ := (show Hid _ from hq); clear hq))))
    | fail
    all_goals
      go_wp2_with fail
      go_end0
      rw [HF2.out]
      exact ⟨rfl, by first | exact HQ.out | exact HQ.out.drew⟩
end
end Go.Proofs.YtkpdpdllbnihgaaGreat.Hp
/- SetProto, whatever it is told. -/
namespace Go.Proofs.YtkpdpdllbnihgaaGreat.Hp
open Go.RowKit
section
variable {w w' w1 : World} {B hb : Nat} {O S : Nat → Prop} {H H' : He} {M M' : HV} {tg : Nat → Nat}
set_option maxRecDepth 100000 in
set_option maxHeartbeats 2000000 in
theorem setProto_any (h : HeapAt w B hb tg H M) (hac : Acy H) (hab : AbvOk H) (o p : Int) (o0 : 0 ≤ o) (o1 : o < 18446744073709551616) (p0 : 0 ≤ p) (p1 : p < 18446744073709551616) :
    Calls Tryz.prog 29 #[.pointer (some ⟨hb, 0, none⟩), .int .u64 o, .int .u64 p] w fun e w' => e = .returned (.tuple #[]) ∧ WentM w B hb tg (setPF H o p) M w' := by
  have HW : Hid (WentM w B hb tg H M w) := WentM.same h (Below.refl _ _)
  cases hq : obO H o with
  | none =>
    have ka := at_miss h o o0 o1 (obO_none hq)
    have e : setPF H o p = H := by unfold setPF; rw [obO_none hq]
    rw [e]
    clear h hq e hac hab
    go_enter Tryz.func29, Tryz.ntmps29
    go_wp2_with fail
    refine ka.mono ?_
    rintro e w2 ⟨rfl, rfl⟩
    clear ka
    go_wp2_with fail
    refine bodyPost_ret (results_none rfl _ _ _) rfl ?_
    exact ⟨rfl, HW.out⟩
  | some ob =>
    obtain ⟨i, ho, hi⟩ := obO_some hq
    have e0 : setPF H o p = if p = ob.proto ∨ mayB H p = false ∨ saB H o p = true then H else setPH H i ob p := by unfold setPF; rw [ho]; simp only [hi]
    by_cases c : p = ob.proto ∨ mayB H p = false ∨ saB H o p = true
    · rw [e0, if_pos c]
      obtain ⟨g, cap, ov, hvo, hov, t4, hne, hgl, hcell, hfz, hl1, hl2, hrow⟩ := h.obj hi
      have ka := at_hit h o o0 o1 i g cap ho hvo
      have d1 := hcell 1 _ rfl
      simp only at d1
      by_cases q1 : p = ob.proto
      · have hpp : (p == ob.proto) = true := by simpa using q1
        generalize ob.proto = pr at *
        clear h hq e0 hac hab ho hi c hvo hov t4 hne hgl hcell hfz hl1 hl2 hrow q1
        go_enter Tryz.func29, Tryz.ntmps29
        go_wp2_with fail
        refine ka.mono ?_
        rintro e w2 ⟨rfl, rfl⟩
        clear ka
        go_wp2_with fail
        refine bodyPost_ret (results_none rfl _ _ _) rfl ?_
        exact ⟨rfl, HW.out⟩
      · have hpp : (p == ob.proto) = false := by simpa using q1
        have km := mayBe_at h p p0 p1
        cases hm : mayB H p with
        | false =>
          rw [hm] at km
          generalize ob.proto = pr at *
          clear h hq e0 hac hab ho hi c hvo hov t4 hne hgl hcell hfz hl1 hl2 hrow q1 hm
          go_enter Tryz.func29, Tryz.ntmps29
          go_wp2_with fail
          refine ka.mono ?_
          rintro e w2 ⟨rfl, rfl⟩
          clear ka
          go_wp2_with fail
          refine km.mono ?_
          rintro e w2 ⟨rfl, rfl⟩
          clear km
          go_wp2_with fail
          refine bodyPost_ret (results_none rfl _ _ _) rfl ?_
          exact ⟨rfl, HW.out⟩
        | true =>
          rw [hm] at km
          have hs : saB H o p = true := by
            rcases c with c | c | c
            · exact absurd c q1
            · rw [hm] at c; cases c
            · exact c
          have ks := stands_any h hac hab o p o0 o1 p0 p1 hq
          rw [hs] at ks
          generalize ob.proto = pr at *
          clear h hq e0 hac hab ho hi c hvo hov t4 hne hgl hcell hfz hl1 hl2 hrow q1 hm hs
          go_enter Tryz.func29, Tryz.ntmps29
          go_wp2_with fail
          refine ka.mono ?_
          rintro e w2 ⟨rfl, rfl⟩
          clear ka
          go_wp2_with fail
          refine km.mono ?_
          rintro e w2 ⟨rfl, rfl⟩
          clear km
          go_wp2_with fail
          refine ks.mono ?_
          rintro e w2 ⟨rfl, rfl⟩
          clear ks
          go_wp2_with fail
          refine bodyPost_ret (results_none rfl _ _ _) rfl ?_
          exact ⟨rfl, HW.out⟩
    · rw [e0, if_neg c]
      have q1 : ¬ p = ob.proto := fun e => c (Or.inl e)
      have q2 : mayB H p = true := by
        cases hm : mayB H p with
        | true => rfl
        | false => exact absurd (Or.inr (Or.inl hm)) c
      have q3 : saB H o p = false := by
        cases hm : saB H o p with
        | false => rfl
        | true => exact absurd (Or.inr (Or.inr hm)) c
      exact setProto_hit h hac hab o p o0 o1 p0 p1 ho hi q1 q2 q3
end
end Go.Proofs.YtkpdpdllbnihgaaGreat.Hp
/- Heap's relation between the program's heap and the document's store (without RelO's index keys): plain. -/
namespace Go.Proofs.YtkpdpdllbnihgaaGreat.Hp
open Go.RowKit
/-- the same object, on either side -/
structure RelB (ob : Ob) (x : So) : Prop where
  kd : ob.kind = x.kind
  pr : ob.proto = x.proto
  sh : ob.shut = x.shut
  nm : x.nm = ob.ps.map Pr.key
  ds : x.ds = ob.ps.map Pr.de
  el : ob.el = x.el
  inn : ob.inn = x.inn
/-- the same objects and texts, on either side -/
structure RelG (H : He) (S : List So) (ts : List ByteArray) : Prop where
  len : H.obs.length = S.length
  ob : ∀ (i : Nat) ob x, H.obs[i]? = some ob → S[i]? = some x → RelB ob x
  tx : H.tx = ts
theorem RelO.b {ob : Ob} {x : So} (h : RelO ob x) : RelB ob x := ⟨h.kd, h.pr, h.sh, h.nm, h.ds, h.el, h.inn⟩
theorem RelB.get {ob : Ob} {x : So} (h : RelB ob x) (k : ByteArray) : getO ob k = getS x k := by
  unfold getO getS
  rw [h.nm, plc_plS, h.ds]
  congr 1
  funext n
  rw [List.getElem?_map]
section
variable {H : He} {S : List So} {ts : List ByteArray}
theorem RelG.at (h : RelG H S ts) (o : Int) : obI H o = obS S o := by
  unfold obI obS
  rw [h.len]
theorem RelG.oo (h : RelG H S ts) (o : Int) : (obO H o = none ∧ soO S o = none) ∨ ∃ ob x, obO H o = some ob ∧ soO S o = some x ∧ RelB ob x := by
  unfold obO soO
  rw [h.at o]
  cases hq : obS S o with
  | none => exact Or.inl ⟨rfl, rfl⟩
  | some i =>
    have hil : i < S.length := by
      unfold obS at hq
      split at hq
      · rename_i c
        have e : (payN o 65530).toNat = i := Option.some.inj hq
        have := payN_bd o 65530
        omega
      · cases hq
    have hil2 : i < H.obs.length := by rw [h.len]; exact hil
    have h1 : H.obs[i]? = some H.obs[i] := List.getElem?_eq_getElem hil2
    have h2 : S[i]? = some S[i] := List.getElem?_eq_getElem hil
    exact Or.inr ⟨_, _, h1, h2, h.ob i _ _ h1 h2⟩
/-- an object on either side is another one now -/
theorem RelG.set (h : RelG H S ts) {i : Nat} {ob : Ob} {x : So} (hb : RelB ob x) : RelG (H.setO i ob) (S.set i x) ts := by
  refine ⟨?_, fun j ob' x' h1 h2 => ?_, h.tx⟩
  · show (H.obs.set i ob).length = _
    rw [List.length_set, List.length_set, h.len]
  · have h1 : (H.obs.set i ob)[j]? = some ob' := h1
    by_cases c : i = j
    · subst c
      have hj : i < H.obs.length := by have := (List.getElem?_eq_some_iff.1 h1).1; rw [List.length_set] at this; exact this
      rw [List.getElem?_set_self hj] at h1
      rw [List.getElem?_set_self (by rw [← h.len]; exact hj)] at h2
      cases h1
      cases h2
      exact hb
    · rw [List.getElem?_set_ne c] at h1 h2
      exact h.ob j ob' x' h1 h2
theorem rep_null {o : Int} (hn : soO S 18445336698825998337 = none) (ho : ¬ (18445336698825998337 : Int) = o) : ∀ n, repB S o n 18445336698825998337 = false
  | 0 => rfl
  | n + 1 => by
    rw [repB_no ho]
    have e : upS S 18445336698825998337 = 18445336698825998337 := by unfold upS; rw [hn]; rfl
    rw [e]
    exact rep_null hn ho n
/-- the document's way up is the program's -/
theorem RelG.rep (h : RelG H S ts) {o : Int} (hn : soO S 18445336698825998337 = none) (ho : ¬ (18445336698825998337 : Int) = o) : ∀ (n : Nat) (p : Int), ¬ p = o → repB S o (n + 1) p = abvF H o n p
  | 0, p, hp => by rw [repB_no hp]; rfl
  | n + 1, p, hp => by
    rw [repB_no hp]
    rcases h.oo p with ⟨e1, e2⟩ | ⟨ob, x, e1, e2, e3⟩
    · have e : upS S p = 18445336698825998337 := by unfold upS; rw [e2]; rfl
      rw [abv_none e1, e]
      exact rep_null hn ho _
    · have e : upS S p = ob.proto := by unfold upS; rw [e2, e3.pr]; rfl
      rw [abv_step e1, e]
      by_cases c : ob.proto = o
      · rw [if_pos c, repB_yes c]
      · rw [if_neg c]
        exact h.rep hn ho n _ c
end
end Go.Proofs.YtkpdpdllbnihgaaGreat.Hp
