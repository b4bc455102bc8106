/- CellsNever: the walk. -/
import Derived.Test.YtjahkjkkjccmgaaCV
import Derived.Deep.CutBlock
namespace Go.Proofs.Ytjahkjkkjccmgaa.Ce
open Go.RowKit
set_option linter.unusedVariables false

/-- on the way down: h: it was met; bel: where one is -/
structure DnAt (l : List Cel) (N : Int) (q : Nat) (bel : Int) (h : Bool) (k : Nat) : Prop where
  eq : hitZ l N q = (h || hitR l N bel)
  le : bel + k ≤ q
  lt : q < l.length
  kq : k ≤ q + 1

theorem DnAt.start {l : List Cel} {N : Int} {q : Nat} (hq : q < l.length) : DnAt l N q (q : Int) false 0 := by
  refine ⟨?_, by omega, hq, by omega⟩
  unfold hitR
  rw [decide_eq_true (by omega), Int.toNat_natCast]
  simp


set_option maxRecDepth 100000 in
set_option maxHeartbeats 16000000 in
theorem never_walk (w : World) (sc : Sli Op) (hsc : sc.ok opC 2 w) (hsz : sc.xs.length ≤ 8796093021952) (nn : Int) :
    Calls Try.prog 4 #[sc.val, .int .i64 nn] w fun e w' => e = .returned (.bool true) ∧ Below w.heap.size w w' := by
  obtain ⟨ca, cc, cx⟩ := sc
  unfold Sli.val
  simp only at *
  have kn := new_any w
  have KA : Hid (∀ w, Calls Try.prog 8 #[] w fun e w' => e = .returned (.bool true) ∧ Below w.heap.size w w') := alive_any
  have HC : Hid (∀ W, Below w.heap.size w W → Sli.ok opC 2 W ⟨ca, cc, cx⟩) := fun W hW => hsc.kept (cells_below hW)
  have HWF : Hid (cx.length ≤ 8796093021952) := hsz
  have hcl : (cx.length : Int) ≤ 9223372036854775806 := by omega
  clear hsc hsz
  go_enter Try.func4, Try.ntmps4
  go_wp2_with fail
  refine kn.mono ?_
  rintro e w1 ⟨rfl, hc, hb⟩
  have HX : Hid (CsX NoX w w1 w.heap.size []) := csx_new hc hb
  have ka := KA.out w1
  generalize w.heap.size = cb at HX ⊢
  clear kn hc hb KA
  go_wp2_with fail
  refine ka.mono ?_
  rintro e w2 ⟨rfl, hb2⟩
  have HX2 : Hid (NvAt w w2 cb 0 [] (.slice none 0 0)) := NvAt.start (HX.out.below hb2)
  clear ka hb2 HX
  go_wp2_with fail
  go_loopw [6, 24] (fun s6 s24 wr => ∃ (i : Nat) (l : List Cel), (i ≤ cx.length ∧ NvAt w wr cb i l s6) ∧ s24 = .int .i64 (i : Int)) (fun s6 s24 wr => cx.length - (intOf s24).toNat)
  case atStart => exact ⟨0, [], ⟨Nat.zero_le _, HX2.out⟩, rfl⟩
  case round =>
    clear HX2
    obtain ⟨i, l, ⟨ple, hl⟩, rfl⟩ := hrel
    obtain ⟨⟨ad, cap, xs⟩, e1, e2, hrr⟩ := hl.own.sl rtInt.len
    clear hrr
    simp only at e2
    subst e2
    unfold Sli.val at e1
    simp only at e1
    rw [onsL_len] at e1
    subst e1
    have HL : Hid (NvAt w wr cb i l (.slice ad l.length cap)) := hl
    clear hl
    rcases Nat.lt_or_ge i cx.length with cil0 | c
    · have hex : ∃ o, cx[i]? = some o := ⟨_, List.getElem?_eq_getElem cil0⟩
      obtain ⟨o, ho⟩ := hex
      obtain ⟨b, off, e1, hc⟩ := (HC.out wr HL.out.cs.bel).cells (by intro e; simp only at e; rw [e] at cil0; simp at cil0)
      simp only at e1
      subst e1
      have d0 := hc i o ho 0 _ rfl
      have d1 := hc i o ho 1 _ rfl
      rw [Nat.add_zero] at d0
      have cil : (i : Int) < cx.length := by omega
      obtain ⟨kd, n⟩ := o
      have HT0 : Hid (NwAt w (wr.alloc (.cells #[.int .i64 kd, .int .i64 n] 28)) cb wr.heap.size l l (.slice ad l.length cap) (.slice none 0 0) kd n []) := HL.out.box kd n
      have hxl : l.length ≤ i := HL.out.len
      have HTP : Hid (l.length + 1 ≤ 8796093022208) := by show _ ≤ _; have := HWF.out; omega
      have HIL : Hid (l.length ≤ i ∧ i < cx.length) := ⟨hxl, cil0⟩
      simp only at *
      clear hc ho HL hxl
      go_upto_region 8 with fail
      generalize hwo : wr.alloc (.cells #[.int .i64 kd, .int .i64 n] 28) = wo at *
      clear hwo
      generalize wr.heap.size = ob at *
      have bx := HT0.out.box
      have b0 : wo.cell? ⟨ob, 0, none⟩ = some (.int .i64 kd) := by rw [cell_of_row wo _ 0 _ 28 (0, 0) bx]; rfl
      have b1 : wo.cell? ⟨ob, 1, none⟩ = some (.int .i64 n) := by rw [cell_of_row wo _ 1 _ 28 (0, 0) bx]; rfl
      clear bx d0 d1
      have hll : (l.length : Int) ≤ 9223372036854775806 := by have := HTP.out; omega
      by_cases k0 : kd = 0
      · subst k0
        have k1 := HT0.out.make HTP.out
        go_wp2_with fail
        refine k1.mono ?_
        rintro e w3 ⟨rfl, hm⟩
        have bx := hm.box
        have q1 : w3.cell? ⟨ob, 1, none⟩ = some (.int .i64 n) := by rw [cell_of_row w3 _ 1 _ 28 (0, 0) bx]; rfl
        have HM : Hid (NwAt w w3 cb ob (makeD l n) l (.slice ad l.length cap) (.slice none 0 0) 0 n []) := hm
        have HA : Hid (∀ o, Below w3.heap.size w3 (w3.alloc o)) := fun o => (Below.refl _ _).alloc (Nat.le_refl _) _
        have HBX : Hid (((onsL l).length + 1 + ((onsL l).length + 1) / 4 + 192) * 8 ≤ 281474976710656 ∧ (onsL l).length + 1 ≤ maxLen) := by
          have := HTP.out
          rw [onsL_len]
          refine ⟨by omega, by unfold maxLen; omega⟩
        have HOW : Hid (OwnR intC 1 3 w.heap.size (w3.alloc (.cells #[.int .i64 n] 3)) (.slice ad l.length cap) (onsL l)) := hm.own.below (HA.out _)
        have HON : Hid (Sli.ok intC 1 (w3.alloc (.cells #[.int .i64 n] 3)) ⟨some ⟨w3.heap.size, 0, none⟩, 1, [n]⟩) := one_sli rtInt (at_new _ _) rfl
        have HSZ : Hid (w.heap.size ≤ (w3.alloc (.cells #[.int .i64 n] 3)).heap.size) := Nat.le_trans hm.cs.bel.size (HA.out _).size
        clear k1 hm bx b0 b1 HT0
        go_wp2_with (at_builtin; refine app_row rtInt rfl _ _ rfl w.heap.size (.slice ad l.length cap) (onsL l) ?h1 HOW.out ⟨some ⟨w3.heap.size, 0, none⟩, 1, [n]⟩ ?h3 HON.out HBX.out.2 HBX.out.1 HSZ.out ?_)
        case h1 => rfl
        case h3 => rfl
        intro v6 w6 ho6 hg6 hl6
        have HNX : Hid (NvAt w w6 cb (i + 1) (makeD l n) v6) := HM.out.next (HA.out _) hg6 (by rw [onsL_make]; exact ho6) (by rw [size_new]; exact hl6) (by have := HIL.out; unfold makeD; rw [List.length_append, List.length_singleton]; omega)
        clear ho6 hg6 hl6 HM HOW HON HSZ HBX HA q1
        go_wp2_with fail
        refine ⟨⟨i + 1, makeD l n, ⟨HIL.out.2, HNX.out⟩, by go_num⟩, ?_⟩
        simp [intOf]
        have := HIL.out
        omega
      · have k0' : (kd == 0) = false := by simpa using k0
        go_wp2_with fail
        go_loopw [9, 42] (fun s9 s42 wy => ∃ q : Nat, (q ≤ l.length ∧ NwAt w wy cb ob l l (.slice ad l.length cap) s9 kd n (wasL l q)) ∧ s42 = .int .i64 (q : Int)) (fun s9 s42 wy => l.length - (intOf s42).toNat)
        case atStart => exact ⟨0, ⟨Nat.zero_le _, HT0.out⟩, rfl⟩
        case round =>
          clear HT0 b0 b1
          obtain ⟨q, ⟨hq, hm⟩, rfl⟩ := hrel
          obtain ⟨⟨ua, uc, ux⟩, e5, e6, hrr⟩ := hm.was.sl rtBool.len
          clear hrr
          simp only at e6
          subst e6
          unfold Sli.val at e5
          simp only at e5
          rw [wasL_len] at e5
          subst e5
          rcases Nat.lt_or_ge q l.length with c | c
          · have kv := hm.cs.valid (q : Int)
            have hvq : validD l (q : Int) = okAt l q := by unfold validD; rw [Int.toNat_natCast]; simp
            rw [hvq] at kv
            have HM : Hid (NwAt w wr cb ob l l (.slice ad l.length cap) (.slice ua q uc) kd n (wasL l q)) := hm
            have cql : (q : Int) < l.length := by omega
            have HA : Hid (∀ o, Below wr.heap.size wr (wr.alloc o)) := fun o => (Below.refl _ _).alloc (Nat.le_refl _) _
            have HBX : Hid (((wasL l q).length + 1 + ((wasL l q).length + 1) / 4 + 192) * 1 ≤ 281474976710656 ∧ (wasL l q).length + 1 ≤ maxLen) := by
              have := HTP.out
              rw [wasL_len]
              refine ⟨by omega, by unfold maxLen; omega⟩
            have HOW : Hid (OwnR boolC 1 4 w.heap.size (wr.alloc (.cells #[.bool (okAt l q)] 4)) (.slice ua q uc) (wasL l q)) := hm.was.below (HA.out _)
            have HON : Hid (Sli.ok boolC 1 (wr.alloc (.cells #[.bool (okAt l q)] 4)) ⟨some ⟨wr.heap.size, 0, none⟩, 1, [okAt l q]⟩) := one_sli rtBool (at_new _ _) rfl
            have HSZ : Hid (w.heap.size ≤ (wr.alloc (.cells #[.bool (okAt l q)] 4)).heap.size) := Nat.le_trans hm.cs.bel.size (HA.out _).size
            have HWN := (show Hid _ from wasL_next l q)
            clear hm hvq
            generalize okAt l q = W0 at *
            generalize hwl : wasL l q = WL at *
            clear hwl
            go_wp2_with fail
            refine kv.mono ?_
            rintro e w5 ⟨rfl, rfl⟩
            clear kv
            go_wp2_with (at_builtin; refine app_row rtBool rfl _ _ rfl w.heap.size (.slice ua q uc) WL ?h1 HOW.out ⟨some ⟨w5.heap.size, 0, none⟩, 1, [W0]⟩ ?h3 HON.out HBX.out.2 HBX.out.1 HSZ.out ?_)
            case h1 => rfl
            case h3 => rfl
            intro v6 w6 ho6 hg6 hl6
            have HNX : Hid (NwAt w w6 cb ob l l (.slice ad l.length cap) v6 kd n (wasL l (q + 1))) := HM.out.push (HA.out _) hg6 (by rw [← HWN.out]; exact ho6) (by rw [size_new]; exact hl6)
            clear ho6 hg6 hl6 HM HOW HON HSZ HBX HA
            go_wp2_with fail
            refine ⟨⟨q + 1, ⟨c, HNX.out⟩, by go_num⟩, ?_⟩
            simp [intOf]
            omega
          · have hqe : q = l.length := by omega
            subst hqe
            have cql : ¬ (l.length : Int) < l.length := by omega
            have HM : Hid (NwAt w wr cb ob l l (.slice ad l.length cap) (.slice ua l.length uc) kd n (wasL l l.length)) := hm
            have bx := hm.box
            have b0 : wr.cell? ⟨ob, 0, none⟩ = some (.int .i64 kd) := by rw [cell_of_row wr _ 0 _ 28 (0, 0) bx]; rfl
            have b1 : wr.cell? ⟨ob, 1, none⟩ = some (.int .i64 n) := by rw [cell_of_row wr _ 1 _ 28 (0, 0) bx]; rfl
            clear bx hm c hq
            by_cases k1 : kd = 1
            · subst k1
              have kb := HM.out.brk
              have HINV : Hid (Inv l) := HM.out.cs.inv
              have hbl := break_len (l := l) n
              obtain ⟨lb, hlb⟩ : ∃ lb, (breakD l n).1 = lb := ⟨_, rfl⟩
              have HBE : Hid ((breakD l n).1 = lb) := hlb
              have HOB : Hid (onsL lb = onsL l ∧ lb.length = l.length) := ⟨by rw [← hlb]; exact onsL_break HINV.out n, by rw [← hlb]; exact hbl⟩
              rw [hlb] at kb
              generalize ((breakD l n).2 : Int) = M at *
              clear HM hbl hlb
              go_wp2_with fail
              refine kb.mono ?_
              rintro e w5 ⟨rfl, hm⟩
              have HM : Hid (NwAt w w5 cb ob lb l (.slice ad l.length cap) (.slice ua l.length uc) 1 n (wasL l l.length)) := hm
              clear kb hm b0 b1
              go_wp2_with fail
              go_loopw [61] (fun s61 wy => ∃ q : Nat, (q ≤ l.length ∧ NwAt w wy cb ob lb l (.slice ad l.length cap) (.slice ua l.length uc) 1 n (wasL l l.length)) ∧ s61 = .int .i64 (q : Int)) (fun s61 wy => l.length - (intOf s61).toNat)
              case atStart => exact ⟨0, ⟨Nat.zero_le _, HM.out⟩, rfl⟩
              case round =>
                clear HM
                obtain ⟨q, ⟨hq, hm⟩, rfl⟩ := hrel
                have HM : Hid (NwAt w wr cb ob lb l (.slice ad l.length cap) (.slice ua l.length uc) 1 n (wasL l l.length)) := hm
                clear hm
                rcases Nat.lt_or_ge q l.length with c | c
                · have cql2 : (q : Int) < l.length := by omega
                  have HQL : Hid (q < l.length) := c
                  have bx := HM.out.box
                  have b1 : wr.cell? ⟨ob, 1, none⟩ = some (.int .i64 n) := by rw [cell_of_row wr _ 1 _ 28 (0, 0) bx]; rfl
                  clear bx hq c
                  obtain ⟨⟨sa, sc2, sx⟩, e5, e6, hok5, hr5⟩ := HM.out.own.sl rtInt.len
                  clear hr5
                  simp only at e6
                  subst e6
                  have e7 : (Value.slice ad l.length cap) = .slice sa (onsL l).length sc2 := e5
                  rw [onsL_len] at e7
                  cases e7
                  obtain ⟨gb, off2, e8, hcc⟩ := hok5.cells (by intro e; simp only at e; have e9 := onsL_len l; rw [e] at e9; have := HQL.out; simp at e9; omega)
                  simp only at e8
                  subst e8
                  have HON : Hid (∀ (k : Nat) (c : Cel), l[k]? = some c → wr.cell? ⟨gb, off2 + k, none⟩ = some (.int .i64 c.on)) := fun k c hk => by
                    have := hcc k c.on (onsL_at hk) 0 _ rfl
                    rw [Nat.mul_one, Nat.add_zero] at this
                    exact this
                  clear hcc hok5 e5
                  obtain ⟨⟨sa, sc2, sx⟩, e5, e6, hok5, hr5⟩ := HM.out.was.sl rtBool.len
                  clear hr5
                  simp only at e6
                  subst e6
                  have e7 : (Value.slice ua l.length uc) = .slice sa (wasL l l.length).length sc2 := e5
                  rw [wasL_len] at e7
                  cases e7
                  obtain ⟨gb5, off5, e8, hcc⟩ := hok5.cells (by intro e; simp only at e; have e9 := wasL_len l l.length; rw [e] at e9; have := HQL.out; simp at e9; omega)
                  simp only at e8
                  subst e8
                  have HX5 : Hid (wr.drew.cell? ⟨gb5, off5 + q, none⟩ = some (.bool (okAt l q))) := by
                    have := hcc q _ (wasL_at l HQL.out) 0 _ rfl
                    rw [Nat.mul_one, Nat.add_zero] at this
                    exact this
                  have HMd : Hid (NwAt w wr.drew cb ob lb l (.slice (some ⟨gb, off2, none⟩) l.length cap) (.slice (some ⟨gb5, off5, none⟩) l.length uc) 1 n (wasL l l.length)) := HM.out.below (Below.refl _ _).drew
                  clear hcc hok5 e5
                  go_upto_block 6 with fail
                  go_cut [12, 13, 14] from 65 to 98 (fun s12 s13 s14 wx => s13 = .bool (hitZ l n q) ∧ wx = wr)
                  case first =>
                    go_wp2_with fail
                    go_loopw [12, 13, 14] (fun s12 s13 s14 wy => ∃ (bel : Int) (h : Bool) (k : Nat), DnAt l n q bel h k ∧ wr = wy ∧ s12 = .int .i64 bel ∧ s13 = .bool h ∧ s14 = .int .i64 (k : Int)) (fun s12 s13 s14 wy => l.length + 1 - (intOf s14).toNat)
                    case atStart => exact ⟨_, false, 0, DnAt.start HQL.out, rfl, rfl, rfl, rfl⟩
                    case round =>
                      obtain ⟨bel, h, k, hd, rfl, rfl, rfl, rfl⟩ := hrel
                      have HD : Hid (DnAt l n q bel h k) := hd
                      have hkl : (k : Int) ≤ l.length := by have := hd.kq; have := HQL.out; omega
                      clear hd HX5 HMd HM
                      by_cases c0 : bel < 0
                      · have HIT : Hid (hitZ l n q = h) := by
                          show _ = _
                          rw [HD.out.eq, hitR_low c0, Bool.or_false]
                        clear HD HON b1
                        go_wp2_with fail
                        go_meet
                        exact ⟨by rw [HIT.out], rfl⟩
                      · obtain ⟨m, rfl⟩ : ∃ m : Nat, bel = m := ⟨bel.toNat, by omega⟩
                        have hml : m < l.length := by have := HD.out.le; have := HQL.out; omega
                        have hmi : (m : Int) < l.length := by omega
                        have hm0 : (0 : Int) ≤ (m : Int) := by omega
                        have hex : ∃ c, l[m]? = some c := ⟨_, List.getElem?_eq_getElem hml⟩
                        obtain ⟨c, hc⟩ := hex
                        have y0 := HON.out m c hc
                        cases h with
                        | true =>
                          have HIT : Hid (hitZ l n q = true) := by
                            show _ = _
                            rw [HD.out.eq, Bool.true_or]
                          clear HD HON hc y0 b1
                          go_wp2_with fail
                          go_meet
                          exact ⟨by rw [HIT.out], rfl⟩
                        | false =>
                          by_cases c1 : (m : Int) ≤ c.on
                          · have HIT : Hid (hitZ l n q = ((m : Int) == n)) := by
                              show _ = _
                              rw [HD.out.eq, hitR_up hc c1, Bool.false_or]
                            obtain ⟨co, cn⟩ := c
                            simp only at *
                            clear HD HON hc
                            go_wp2_with fail
                            go_meet
                            exact ⟨by rw [HIT.out], rfl⟩
                          · have HDN : Hid (DnAt l n q c.on ((m : Int) == n) (k + 1)) := by
                              refine ⟨?_, ?_, HD.out.lt, ?_⟩
                              · rw [HD.out.eq, hitR_down hc (by omega), Bool.false_or]
                              · have := HD.out.le; omega
                              · have := HD.out.le; omega
                            have c2 : c.on < (m : Int) := by omega
                            obtain ⟨co, cn⟩ := c
                            simp only at *
                            have HKL : Hid (k ≤ l.length) := by show _ ≤ _; omega
                            clear HD HON hc
                            go_wp2_with fail
                            refine ⟨⟨cn, _, k + 1, HDN.out, trivial, rfl, rfl, by go_num⟩, ?_⟩
                            simp [intOf]
                            have := HKL.out
                            omega
                  case rest =>
                  obtain ⟨rfl, rfl⟩ := hcut
                  go_upto_region 30 with fail
                  have hpl := never_plain HINV.out n HQL.out
                  rw [HBE.out] at hpl
                  have kvd := HMd.out.cs.valid (q : Int)
                  rw [hpl] at kvd
                  have x5d := HX5.out
                  clear hpl HON b1
                  generalize okAt l q = W0 at *
                  generalize hitZ l n q = hh at *
                  cases W0 with
                  | false =>
                    simp only [Bool.false_and] at kvd
                    clear HBE
                    first
                    | (go_region_with ((go_at_call 13; refine kvd.mono ?_; rintro e w7 ⟨rfl, rfl⟩)))
                    | fail
                    all_goals
                      go_wp2_with fail
                      refine ⟨⟨q + 1, ⟨by have := HQL.out; omega, by first | exact HMd.out | exact HMd.out.below (Below.refl _ _).drew⟩, by go_num⟩, ?_⟩
                      simp [intOf]
                      have := HQL.out
                      omega
                  | true =>
                    cases hh with
                    | false =>
                      simp only [Bool.true_and, Bool.not_false] at kvd
                      clear HBE
                      first
                      | (go_region_with ((go_at_call 13; refine kvd.mono ?_; rintro e w7 ⟨rfl, rfl⟩)))
                      | fail
                      all_goals
                        go_wp2_with fail
                        refine ⟨⟨q + 1, ⟨by have := HQL.out; omega, by first | exact HMd.out | exact HMd.out.below (Below.refl _ _).drew⟩, by go_num⟩, ?_⟩
                        simp [intOf]
                        have := HQL.out
                        omega
                    | true =>
                      simp only [Bool.true_and, Bool.not_true] at kvd
                      clear HBE
                      first
                      | (go_region_with ((go_at_call 13; refine kvd.mono ?_; rintro e w7 ⟨rfl, rfl⟩)))
                      | fail
                      all_goals
                        go_wp2_with fail
                        refine ⟨⟨q + 1, ⟨by have := HQL.out; omega, by first | exact HMd.out | exact HMd.out.below (Below.refl _ _).drew⟩, by go_num⟩, ?_⟩
                        simp [intOf]
                        have := HQL.out
                        omega
                · have cql2 : ¬ (q : Int) < l.length := by omega
                  have HNX : Hid (NvAt w wr cb (i + 1) lb (.slice ad l.length cap)) := HM.out.same HOB.out.1 (by rw [HOB.out.2]; have := HIL.out; omega)
                  clear HM HBE
                  go_wp2_with fail
                  refine ⟨⟨i + 1, lb, ⟨HIL.out.2, HNX.out⟩, by go_num⟩, ?_⟩
                  simp [intOf]
                  have := HIL.out
                  omega
            · have k1' : (kd != 1) = true := by simpa using k1
              have HNX : Hid (NvAt w wr cb (i + 1) l (.slice ad l.length cap)) := HM.out.same rfl (by have := HIL.out; omega)
              clear HM
              go_wp2_with fail
              refine ⟨⟨i + 1, l, ⟨HIL.out.2, HNX.out⟩, by go_num⟩, ?_⟩
              simp [intOf]
              have := HIL.out
              omega
    · have hil : ¬ (i : Int) < cx.length := by omega
      have kv := HL.out.cs.valid nn
      have hll : l.length ≤ cx.length := Nat.le_trans HL.out.len ple
      have hll2 : (l.length : Int) ≤ 9223372036854775806 := by omega
      have HB := (show Hid _ from HL.out.cs.bel)
      clear HL hll
      rcases valid_cases l nn with ⟨v1, v2⟩ | ⟨v0, v1, v2⟩ | ⟨j, rfl, v1, c5, v2, v3⟩
      · rw [v2] at kv
        clear v2
        go_wp2_with fail
        refine kv.mono ?_
        rintro e w5 ⟨rfl, rfl⟩
        clear kv
        go_wp2_with fail
        go_ret
        exact ⟨rfl, HB.out⟩
      · rw [v2] at kv
        clear v2
        go_wp2_with fail
        refine kv.mono ?_
        rintro e w5 ⟨rfl, rfl⟩
        clear kv
        go_wp2_with fail
        go_ret
        exact ⟨rfl, HB.out⟩
      · have v1i : (j : Int) < l.length := by omega
        have v0i : (0 : Int) ≤ (j : Int) := by omega
        clear v1 v2 v3
        generalize validD l (j : Int) = V at *
        cases V with
        | false =>
          go_wp2_with fail
          refine kv.mono ?_
          rintro e w5 ⟨rfl, rfl⟩
          clear kv
          go_wp2_with fail
          go_ret
          exact ⟨rfl, HB.out⟩
        | true =>
          go_wp2_with fail
          refine kv.mono ?_
          rintro e w5 ⟨rfl, rfl⟩
          clear kv
          go_wp2_with fail
          go_ret
          exact ⟨rfl, HB.out⟩

end Go.Proofs.Ytjahkjkkjccmgaa.Ce
