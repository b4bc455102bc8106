/- CellsAll: the walk. -/
import Derived.Test.YtjahkjkkjccmgaaCR
import Derived.Test.YtjahkjkkjccmgaaCT
namespace Go.Proofs.Ytjahkjkkjccmgaa.Ce
open Go.RowKit
set_option linter.unusedVariables false

/-- ahead of a call of the script: i were done -/
structure AlAt (w wr : World) (cb i : Nat) (l : List Cel) (v : Value) : Prop where
  cs : CsX (fun b => v.ownBlock = some b) w wr cb l
  own : OwnR celC 2 34 w.heap.size wr v l
  len : l.length ≤ i

/-- both sides in one world, and the call itself in a block -/
structure TlAt (w wt : World) (cb ob : Nat) (L : List Cel) (v : Value) (kd n : Int) : Prop where
  cs : CsX (fun b => v.ownBlock = some b ∨ b = ob) w wt cb L
  own : OwnR celC 2 34 w.heap.size wt v L
  box : wt.heap[ob]? = some (.cells #[.int .i64 kd, .int .i64 n] 28 (0, 0))
  lo : w.heap.size ≤ ob
  ne : v.ownBlock ≠ some ob

theorem AlAt.start {w w2 : World} {cb : Nat} (h : CsX NoX w w2 cb []) : AlAt w w2 cb 0 [] (.slice none 0 0) :=
  ⟨h.mono (Below.refl _ _) (fun b q => by simp [Value.ownBlock] at q), OwnR.nil _ _, Nat.le_refl _⟩

theorem AlAt.box {w wr : World} {cb i : Nat} {l : List Cel} {v : Value} (h : AlAt w wr cb i l v) (kd n : Int) : TlAt w (wr.alloc (.cells #[.int .i64 kd, .int .i64 n] 28)) cb wr.heap.size l v kd n := by
  have hb : Below wr.heap.size wr (wr.alloc (.cells #[.int .i64 kd, .int .i64 n] 28)) := below_new (Below.refl _ _) (Nat.le_refl _) _
  refine ⟨h.cs.mono hb (fun b q => q.imp id (fun e => by omega)), h.own.below hb, at_new _ _, h.cs.bel.size, fun q => ?_⟩
  have := (h.own.lt _ q).2
  omega

theorem TlAt.next {w wt : World} {cb ob i : Nat} {L : List Cel} {v : Value} {kd n : Int} (h : TlAt w wt cb ob L v kd n) (hl : L.length ≤ i) : AlAt w wt cb i L v :=
  ⟨h.cs.mono (Below.refl _ _) (fun b q => Or.inl (Or.inl q)), h.own, hl⟩

theorem TlAt.lt {w wt : World} {cb ob : Nat} {L : List Cel} {v : Value} {kd n : Int} (h : TlAt w wt cb ob L v kd n) : ∀ b, v.ownBlock = some b ∨ b = ob → b < wt.heap.size := by
  rintro b (q | q)
  · exact (h.own.lt b q).2
  · rw [q]; exact (Array.getElem?_eq_some_iff.1 h.box).1

theorem own_same {w0 : Nat} {w w' : World} {v : Value} {l : List Cel} (h : OwnR celC 2 34 w0 w v l) (hk : ∀ b, v.ownBlock = some b → w'.heap[b]? = w.heap[b]?) : OwnR celC 2 34 w0 w' v l := by
  rcases h.2 with ⟨rfl, h0⟩ | ⟨g, cap, cur, rfl, hb, hg, h3⟩
  · exact ⟨h.1, Or.inl ⟨rfl, h0⟩⟩
  · exact ⟨h.1, Or.inr ⟨g, cap, cur, rfl, hb, by rw [hk g rfl]; exact hg, h3⟩⟩

/-- both sides, where the program's has gone on -/
structure MdAt (w wt : World) (cb ob : Nat) (lc l : List Cel) (v : Value) (kd n : Int) : Prop where
  cs : CsX (fun b => v.ownBlock = some b ∨ b = ob) w wt cb lc
  own : OwnR celC 2 34 w.heap.size wt v l
  box : wt.heap[ob]? = some (.cells #[.int .i64 kd, .int .i64 n] 28 (0, 0))
  lo : w.heap.size ≤ ob
  ne : v.ownBlock ≠ some ob

theorem TlAt.md {w wt : World} {cb ob : Nat} {L : List Cel} {v : Value} {kd n : Int} (h : TlAt w wt cb ob L v kd n) : MdAt w wt cb ob L L v kd n := ⟨h.cs, h.own, h.box, h.lo, h.ne⟩
theorem MdAt.tl {w wt : World} {cb ob : Nat} {L : List Cel} {v : Value} {kd n : Int} (h : MdAt w wt cb ob L L v kd n) : TlAt w wt cb ob L v kd n := ⟨h.cs, h.own, h.box, h.lo, h.ne⟩
theorem MdAt.lt {w wt : World} {cb ob : Nat} {lc L : List Cel} {v : Value} {kd n : Int} (h : MdAt w wt cb ob lc L v kd n) : ∀ b, v.ownBlock = some b ∨ b = ob → b < wt.heap.size := by
  rintro b (q | q)
  · exact (h.own.lt b q).2
  · rw [q]; exact (Array.getElem?_eq_some_iff.1 h.box).1

theorem MdAt.make {w wt : World} {cb ob : Nat} {lc l : List Cel} {v : Value} {kd n : Int} (h : MdAt w wt cb ob lc l v kd n) (ht : lc.length + 1 ≤ top) :
    Calls Try.prog 9 #[.pointer (some ⟨cb, 0, none⟩), .int .i64 n] wt fun e w' => e = .returned (.int .i64 (lc.length : Int)) ∧ MdAt w w' cb ob (makeD lc n) l v kd n := by
  refine (h.cs.make h.lt ht n).mono ?_
  rintro e w' ⟨rfl, g1, g2, g3⟩
  exact ⟨rfl, g1, own_same h.own (fun b q => g2 b (Or.inl q)), (g2 ob (Or.inr rfl)).trans h.box, h.lo, h.ne⟩

theorem MdAt.brk {w wt : World} {cb ob : Nat} {lc l : List Cel} {v : Value} {kd n : Int} (h : MdAt w wt cb ob lc l v kd n) :
    Calls Try.prog 12 #[.pointer (some ⟨cb, 0, none⟩), .int .i64 n] wt fun e w' => e = .returned (.int .i64 ((breakD lc n).2 : Int)) ∧ MdAt w w' cb ob (breakD lc n).1 l v kd n := by
  refine (h.cs.break' h.lt n).mono ?_
  rintro e w' ⟨rfl, g1, g2, g3⟩
  exact ⟨rfl, g1, own_same h.own (fun b q => g2 b (Or.inl q)), (g2 ob (Or.inr rfl)).trans h.box, h.lo, h.ne⟩

theorem MdAt.doc {w wt w' : World} {cb ob : Nat} {lc l l' : List Cel} {v v' : Value} {kd n : Int} (h : MdAt w wt cb ob lc l v kd n) (ho : OwnR celC 2 34 w.heap.size w' v' l') (hb : Below wt.heap.size wt w') (hv : ∀ b, v'.ownBlock = some b → v.ownBlock = some b ∨ wt.heap.size ≤ b) : MdAt w w' cb ob lc l' v' kd n := by
  have hlt := (Array.getElem?_eq_some_iff.1 h.box).1
  refine ⟨h.cs.mono hb (fun b q => ?_), ho, (hb.block ob hlt).trans h.box, h.lo, fun q => ?_⟩
  · rcases q with q | q
    · exact (hv b q).imp Or.inl id
    · exact Or.inl (Or.inr q)
  · rcases hv ob q with c | c
    · exact h.ne c
    · omega

theorem MdAt.rmake {w wt : World} {cb ob : Nat} {lc l : List Cel} {v : Value} {kd n : Int} (h : MdAt w wt cb ob lc l v kd n) (ht : l.length + 1 ≤ top) :
    Calls Try.prog 10 #[v, .int .i64 n] wt fun e w' => ∃ ad cap, e = .returned (.slice ad (l.length + 1) cap) ∧ MdAt w w' cb ob lc (makeD l n) (.slice ad (l.length + 1) cap) kd n := by
  refine (rmake_any _ wt v l h.own ht n).mono ?_
  rintro e w' ⟨v', rfl, g1, g2⟩
  have hb : w.heap.size ≤ wt.heap.size := h.cs.bel.size
  have h5 := h.doc (g1.low hb) g2 (fun b q => Or.inr (g1.lt b q).1)
  obtain ⟨⟨ad, cap, xs⟩, e1, e2, _⟩ := g1.sl rtCel.len
  simp only at e2
  subst e2
  have e3 : v' = .slice ad (l.length + 1) cap := by rw [e1]; unfold Sli.val makeD; simp
  subst e3
  exact ⟨ad, cap, rfl, h5⟩

theorem MdAt.rbrk {w wt : World} {cb ob : Nat} {lc l : List Cel} {v : Value} {kd n : Int} (h : MdAt w wt cb ob lc l v kd n) (ht : l.length ≤ top) :
    Calls Try.prog 11 #[v, .int .i64 n] wt fun e w' => ∃ ad cap, e = .returned (.tuple #[.slice ad (breakD l n).1.length cap, .int .i64 ((breakD l n).2 : Int)]) ∧ MdAt w w' cb ob lc (breakD l n).1 (.slice ad (breakD l n).1.length cap) kd n := by
  have hb : w.heap.size ≤ wt.heap.size := h.cs.bel.size
  refine (rbreak_any _ wt v l h.own hb ht n).mono ?_
  rintro e w' ⟨v', rfl, g1, g2, g3⟩
  have h5 := h.doc g1 g2 g3
  obtain ⟨⟨ad, cap, xs⟩, e1, e2, _⟩ := g1.sl rtCel.len
  simp only at e2
  subst e2
  have e3 : v' = .slice ad (breakD l n).1.length cap := e1
  subst e3
  exact ⟨ad, cap, rfl, h5⟩

theorem break_len {l : List Cel} (n : Int) : (breakD l n).1.length = l.length := by
  have rl : ∀ (m i : Nat) (r : List Cel × Nat), (roundsD i m r).1.length = r.1.length := by
    intro m
    induction m with
    | zero => intro i r; rfl
    | succ m ih => intro i r; rw [roundsD, ih, (round_len i r).1]
  unfold breakD
  split
  · split
    · rw [rl]; simp
    · rfl
  · rfl

/-- what the law asks of a number, of the document's list -/
theorem valid_cases (L : List Cel) (n : Int) : (n < 0 ∧ validD L n = false) ∨ (0 ≤ n ∧ (L.length : Int) ≤ n ∧ validD L n = false) ∨ ∃ j : Nat, n = j ∧ j < L.length ∧ ∃ c, L[j]? = some c ∧ validD L n = c.ok := by
  by_cases h : n < 0
  · exact Or.inl ⟨h, by unfold validD; rw [decide_eq_false (by omega)]; rfl⟩
  · by_cases h2 : (L.length : Int) ≤ n
    · refine Or.inr (Or.inl ⟨by omega, h2, ?_⟩)
      unfold validD okAt
      rw [List.getElem?_eq_none (by omega)]
      simp
    · obtain ⟨j, rfl⟩ : ∃ j : Nat, n = j := ⟨n.toNat, by omega⟩
      refine Or.inr (Or.inr ⟨j, rfl, by omega, L[j], List.getElem?_eq_getElem (by omega), ?_⟩)
      unfold validD okAt
      rw [Int.toNat_natCast, List.getElem?_eq_getElem (by omega)]
      simp


set_option maxRecDepth 100000 in
set_option maxHeartbeats 8000000 in
theorem all_walk (w : World) (sc : Sli Op) (hsc : sc.ok opC 2 w) (hsz : sc.xs.length ≤ 8796093021952) :
    Calls Try.prog 3 #[sc.val] w fun e w' => e = .returned (.bool true) ∧ Below w.heap.size w w' := by
  obtain ⟨ca, cc, cx⟩ := sc
  unfold Sli.val
  simp only at *
  have kn := new_any w
  have KA : Hid (∀ w, Calls Try.prog 8 #[] w fun e w' => e = .returned (.bool true) ∧ Below w.heap.size w w') := alive_any
  have HC : Hid (∀ W, Below w.heap.size w W → Sli.ok opC 2 W ⟨ca, cc, cx⟩) := fun W hW => hsc.kept (cells_below hW)
  have HWF : Hid (cx.length ≤ 8796093021952) := hsz
  have hcl : (cx.length : Int) ≤ 9223372036854775806 := by omega
  clear hsc hsz
  go_enter Try.func3, Try.ntmps3
  go_wp2_with fail
  refine kn.mono ?_
  rintro e w1 ⟨rfl, hc, hb⟩
  have HX : Hid (CsX NoX w w1 w.heap.size []) := csx_new hc hb
  have ka := KA.out w1
  generalize w.heap.size = cb at HX ⊢
  clear kn hc hb KA
  go_wp2_with fail
  refine ka.mono ?_
  rintro e w2 ⟨rfl, hb2⟩
  have HX2 : Hid (AlAt w w2 cb 0 [] (.slice none 0 0)) := AlAt.start (HX.out.below hb2)
  clear ka hb2 HX
  go_wp2_with fail
  go_loopw [4, 20] (fun s4 s20 wr => ∃ (i : Nat) (l : List Cel), (i ≤ cx.length ∧ AlAt w wr cb i l s4) ∧ s20 = .int .i64 (i : Int)) (fun s4 s20 wr => cx.length - (intOf s20).toNat)
  case atStart => exact ⟨0, [], ⟨Nat.zero_le _, HX2.out⟩, rfl⟩
  case round =>
    clear HX2
    obtain ⟨i, l, ⟨ple, hl⟩, rfl⟩ := hrel
    obtain ⟨⟨ad, cap, xs⟩, e1, e2, hrr⟩ := hl.own.sl rtCel.len
    clear hrr
    simp only at e2
    subst e2
    unfold Sli.val at e1
    simp only at e1
    subst e1
    have HL : Hid (AlAt w wr cb i xs (.slice ad xs.length cap)) := hl
    clear hl
    rcases Nat.lt_or_ge i cx.length with cil0 | c
    · have hex : ∃ o, cx[i]? = some o := ⟨_, List.getElem?_eq_getElem cil0⟩
      obtain ⟨o, ho⟩ := hex
      obtain ⟨b, off, e1, hc⟩ := (HC.out wr HL.out.cs.bel).cells (by intro e; simp only at e; rw [e] at cil0; simp at cil0)
      simp only at e1
      subst e1
      have d0 := hc i o ho 0 _ rfl
      have d1 := hc i o ho 1 _ rfl
      rw [Nat.add_zero] at d0
      have cil : (i : Int) < cx.length := by omega
      obtain ⟨kd, n⟩ := o
      have HT0 : Hid (TlAt w (wr.alloc (.cells #[.int .i64 kd, .int .i64 n] 28)) cb wr.heap.size xs (.slice ad xs.length cap) kd n) := HL.out.box kd n
      have hxl : xs.length ≤ i := HL.out.len
      have HTP : Hid (xs.length + 1 ≤ top ∧ xs.length ≤ top) := by show _ ∧ _; have := HWF.out; unfold top; omega
      simp only at *
      clear hc ho HL
      go_upto_region 8 with fail
      generalize hwo : wr.alloc (.cells #[.int .i64 kd, .int .i64 n] 28) = wo at *
      clear hwo
      generalize wr.heap.size = ob at *
      have bx := HT0.out.box
      have b0 : wo.cell? ⟨ob, 0, none⟩ = some (.int .i64 kd) := by rw [cell_of_row wo _ 0 _ 28 (0, 0) bx]; rfl
      have b1 : wo.cell? ⟨ob, 1, none⟩ = some (.int .i64 n) := by rw [cell_of_row wo _ 1 _ 28 (0, 0) bx]; rfl
      clear bx d0 d1
      by_cases k0 : kd = 0
      · subst k0
        have k1 := HT0.out.md.make HTP.out.1
        go_wp2_with fail
        refine k1.mono ?_
        rintro e w3 ⟨rfl, hm⟩
        have bx := hm.box
        have q1 : w3.cell? ⟨ob, 1, none⟩ = some (.int .i64 n) := by rw [cell_of_row w3 _ 1 _ 28 (0, 0) bx]; rfl
        have k2 := hm.rmake HTP.out.1
        clear k1 hm bx b0 b1 HT0
        go_wp2_with fail
        refine k2.mono ?_
        rintro e wt ⟨ad2, cap2, rfl, hm⟩
        obtain ⟨L, hL⟩ : ∃ L, L = makeD xs n := ⟨_, rfl⟩
        have hLl : xs.length + 1 = L.length := by rw [hL]; unfold makeD; simp
        rw [← hL, hLl] at hm
        have HT : Hid (TlAt w wt cb ob L (.slice ad2 L.length cap2) 0 n) := hm.tl
        have hLi : L.length ≤ i + 1 := by omega
        have hz2 : (xs.length : Int) = (L.length : Int) - 1 := by omega
        have hz3 : (((L.length : Int) - 1) != ((L.length : Int) - 1)) = false := by simp
        have hz4 : 1 ≤ (L.length : Int) := by omega
        have hz5 : (L.length : Int) ≤ 9223372036854775806 := by have := HWF.out; omega
        have HE : Hid (xs.length + 1 = L.length) := hLl
        rw [hLl, hz2]
        clear k2 hm hL hLl hz2 q1 hxl
        go_upto_region 19 with fail
        clear hz3 hz4 hz5

        have kv := HT.out.cs.valid n
        have kc := HT.out.cs.count
        have bx := HT.out.box
        have b1 : wt.cell? ⟨ob, 1, none⟩ = some (.int .i64 n) := by rw [cell_of_row wt _ 1 _ 28 (0, 0) bx]; rfl
        have HLL : Hid (L.length ≤ i + 1) := hLi
        have hLm : (L.length : Int) ≤ 9223372036854775806 := by have := HWF.out; omega
        have hne : ((L.length : Int) != (L.length : Int)) = false := by simp
        have HNX : Hid (AlAt w wt cb (i + 1) L (.slice ad2 L.length cap2)) := HT.out.next hLi
        clear hLi bx
        rcases valid_cases L n with ⟨v1, v2⟩ | ⟨v0, v1, v2⟩ | ⟨j, rfl, v1, c, v2, v3⟩
        · rw [v2] at kv
          clear v2 HT
          go_wp2_with fail
          refine kv.mono ?_
          rintro e w5 ⟨rfl, rfl⟩
          clear kv
          go_wp2_with fail
          refine kc.mono ?_
          rintro e w6 ⟨rfl, rfl⟩
          clear kc
          go_wp2_with fail
          refine ⟨⟨i + 1, L, ⟨cil0, HNX.out⟩, by go_num⟩, ?_⟩
          simp [intOf]
          omega
        · rw [v2] at kv
          clear v2 HT
          go_wp2_with fail
          refine kv.mono ?_
          rintro e w5 ⟨rfl, rfl⟩
          clear kv
          go_wp2_with fail
          refine kc.mono ?_
          rintro e w6 ⟨rfl, rfl⟩
          clear kc
          go_wp2_with fail
          refine ⟨⟨i + 1, L, ⟨cil0, HNX.out⟩, by go_num⟩, ?_⟩
          simp [intOf]
          omega
        · rw [v3] at kv
          obtain ⟨⟨sa, sc, sx⟩, e1, e2, hok, _⟩ := HT.out.own.sl rtCel.len
          simp only at e2
          subst e2
          have e3 : (Value.slice ad2 sx.length cap2) = .slice sa sx.length sc := e1
          cases e3
          obtain ⟨gb, off, e4, hcc⟩ := hok.cells (by intro e; simp only at e; rw [e] at v1; simp at v1)
          simp only at e4
          subst e4
          have x0 := hcc j c v2 0 _ rfl
          rw [Nat.add_zero] at x0
          have v1i : (j : Int) < sx.length := by omega
          have v0i : (0 : Int) ≤ (j : Int) := by omega
          obtain ⟨co, cn⟩ := c
          simp only at *
          have hne2 : (co != co) = false := by simp
          clear v2 v3 HT hok e1 hcc
          go_wp2_with fail
          refine kv.mono ?_
          rintro e w5 ⟨rfl, rfl⟩
          clear kv
          go_wp2_with fail
          refine kc.mono ?_
          rintro e w6 ⟨rfl, rfl⟩
          clear kc
          go_wp2_with fail
          refine ⟨⟨i + 1, sx, ⟨cil0, HNX.out⟩, by go_num⟩, ?_⟩
          simp [intOf]
          omega

      · by_cases k1 : kd = 1
        · subst k1
          have k2 := HT0.out.md.rbrk HTP.out.2
          have hk10 : ((1 : Int) == 0) = false := rfl
          go_wp2_with fail
          refine k2.mono ?_
          rintro e w3 ⟨ad2, cap2, rfl, hm⟩
          have bx := hm.box
          have q1 : w3.cell? ⟨ob, 1, none⟩ = some (.int .i64 n) := by rw [cell_of_row w3 _ 1 _ 28 (0, 0) bx]; rfl
          have k3 := hm.brk
          have hLl := break_len (l := xs) n
          generalize hL : (breakD xs n).1 = L at *
          generalize hM : ((breakD xs n).2 : Int) = M at *
          have hMM : (M != M) = false := by simp
          have hLi : L.length ≤ i + 1 := by omega
          clear k2 hm bx b0 b1 HT0 hL hM hLl
          go_wp2_with fail
          refine k3.mono ?_
          rintro e wt ⟨rfl, hm⟩
          have HT : Hid (TlAt w wt cb ob L (.slice ad2 L.length cap2) 1 n) := hm.tl
          clear k3 hm q1 hxl
          go_upto_region 19 with fail
          clear hMM

          have kv := HT.out.cs.valid n
          have kc := HT.out.cs.count
          have bx := HT.out.box
          have b1 : wt.cell? ⟨ob, 1, none⟩ = some (.int .i64 n) := by rw [cell_of_row wt _ 1 _ 28 (0, 0) bx]; rfl
          have HLL : Hid (L.length ≤ i + 1) := hLi
          have hLm : (L.length : Int) ≤ 9223372036854775806 := by have := HWF.out; omega
          have hne : ((L.length : Int) != (L.length : Int)) = false := by simp
          have HNX : Hid (AlAt w wt cb (i + 1) L (.slice ad2 L.length cap2)) := HT.out.next hLi
          clear hLi bx
          rcases valid_cases L n with ⟨v1, v2⟩ | ⟨v0, v1, v2⟩ | ⟨j, rfl, v1, c, v2, v3⟩
          · rw [v2] at kv
            clear v2 HT
            go_wp2_with fail
            refine kv.mono ?_
            rintro e w5 ⟨rfl, rfl⟩
            clear kv
            go_wp2_with fail
            refine kc.mono ?_
            rintro e w6 ⟨rfl, rfl⟩
            clear kc
            go_wp2_with fail
            refine ⟨⟨i + 1, L, ⟨cil0, HNX.out⟩, by go_num⟩, ?_⟩
            simp [intOf]
            omega
          · rw [v2] at kv
            clear v2 HT
            go_wp2_with fail
            refine kv.mono ?_
            rintro e w5 ⟨rfl, rfl⟩
            clear kv
            go_wp2_with fail
            refine kc.mono ?_
            rintro e w6 ⟨rfl, rfl⟩
            clear kc
            go_wp2_with fail
            refine ⟨⟨i + 1, L, ⟨cil0, HNX.out⟩, by go_num⟩, ?_⟩
            simp [intOf]
            omega
          · rw [v3] at kv
            obtain ⟨⟨sa, sc, sx⟩, e1, e2, hok, _⟩ := HT.out.own.sl rtCel.len
            simp only at e2
            subst e2
            have e3 : (Value.slice ad2 sx.length cap2) = .slice sa sx.length sc := e1
            cases e3
            obtain ⟨gb, off, e4, hcc⟩ := hok.cells (by intro e; simp only at e; rw [e] at v1; simp at v1)
            simp only at e4
            subst e4
            have x0 := hcc j c v2 0 _ rfl
            rw [Nat.add_zero] at x0
            have v1i : (j : Int) < sx.length := by omega
            have v0i : (0 : Int) ≤ (j : Int) := by omega
            obtain ⟨co, cn⟩ := c
            simp only at *
            have hne2 : (co != co) = false := by simp
            clear v2 v3 HT hok e1 hcc
            go_wp2_with fail
            refine kv.mono ?_
            rintro e w5 ⟨rfl, rfl⟩
            clear kv
            go_wp2_with fail
            refine kc.mono ?_
            rintro e w6 ⟨rfl, rfl⟩
            clear kc
            go_wp2_with fail
            refine ⟨⟨i + 1, sx, ⟨cil0, HNX.out⟩, by go_num⟩, ?_⟩
            simp [intOf]
            omega

        · have k0' : (kd == 0) = false := by simpa using k0
          have k1' : (kd == 1) = false := by simpa using k1
          have hLi : xs.length ≤ i + 1 := by omega
          go_upto_region 19 with fail
          clear b0 b1 k0 k1 hxl
          generalize hL : xs = L at *
          generalize hwt : wo = wt at *
          clear hL hwt
          have HT := HT0
          clear HT0

          have kv := HT.out.cs.valid n
          have kc := HT.out.cs.count
          have bx := HT.out.box
          have b1 : wt.cell? ⟨ob, 1, none⟩ = some (.int .i64 n) := by rw [cell_of_row wt _ 1 _ 28 (0, 0) bx]; rfl
          have HLL : Hid (L.length ≤ i + 1) := hLi
          have hLm : (L.length : Int) ≤ 9223372036854775806 := by have := HWF.out; omega
          have hne : ((L.length : Int) != (L.length : Int)) = false := by simp
          have HNX : Hid (AlAt w wt cb (i + 1) L (.slice ad L.length cap)) := HT.out.next hLi
          clear hLi bx
          rcases valid_cases L n with ⟨v1, v2⟩ | ⟨v0, v1, v2⟩ | ⟨j, rfl, v1, c, v2, v3⟩
          · rw [v2] at kv
            clear v2 HT
            go_wp2_with fail
            refine kv.mono ?_
            rintro e w5 ⟨rfl, rfl⟩
            clear kv
            go_wp2_with fail
            refine kc.mono ?_
            rintro e w6 ⟨rfl, rfl⟩
            clear kc
            go_wp2_with fail
            refine ⟨⟨i + 1, L, ⟨cil0, HNX.out⟩, by go_num⟩, ?_⟩
            simp [intOf]
            omega
          · rw [v2] at kv
            clear v2 HT
            go_wp2_with fail
            refine kv.mono ?_
            rintro e w5 ⟨rfl, rfl⟩
            clear kv
            go_wp2_with fail
            refine kc.mono ?_
            rintro e w6 ⟨rfl, rfl⟩
            clear kc
            go_wp2_with fail
            refine ⟨⟨i + 1, L, ⟨cil0, HNX.out⟩, by go_num⟩, ?_⟩
            simp [intOf]
            omega
          · rw [v3] at kv
            obtain ⟨⟨sa, sc, sx⟩, e1, e2, hok, _⟩ := HT.out.own.sl rtCel.len
            simp only at e2
            subst e2
            have e3 : (Value.slice ad sx.length cap) = .slice sa sx.length sc := e1
            cases e3
            obtain ⟨gb, off, e4, hcc⟩ := hok.cells (by intro e; simp only at e; rw [e] at v1; simp at v1)
            simp only at e4
            subst e4
            have x0 := hcc j c v2 0 _ rfl
            rw [Nat.add_zero] at x0
            have v1i : (j : Int) < sx.length := by omega
            have v0i : (0 : Int) ≤ (j : Int) := by omega
            obtain ⟨co, cn⟩ := c
            simp only at *
            have hne2 : (co != co) = false := by simp
            clear v2 v3 HT hok e1 hcc
            go_wp2_with fail
            refine kv.mono ?_
            rintro e w5 ⟨rfl, rfl⟩
            clear kv
            go_wp2_with fail
            refine kc.mono ?_
            rintro e w6 ⟨rfl, rfl⟩
            clear kc
            go_wp2_with fail
            refine ⟨⟨i + 1, sx, ⟨cil0, HNX.out⟩, by go_num⟩, ?_⟩
            simp [intOf]
            omega

    · have hil : ¬ (i : Int) < cx.length := by omega
      have HB := (show Hid _ from HL.out.cs.bel)
      clear HL
      go_wp2_with fail
      go_ret
      exact ⟨rfl, HB.out⟩

end Go.Proofs.Ytjahkjkkjccmgaa.Ce
