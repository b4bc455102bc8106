/- Package lex: Scan, the walk. -/
import Derived.Test.YtaikkmehmiiffaaGreatDoorZ16
namespace Go.Proofs.YtaikkmehmiiffaaGreatDoor.Lx
open Go.RowKit
set_option linter.unusedVariables false

theorem info31 : (Tryz.prog.info? 31).map (fun i => (i.zero, i.size, i.bytes)) = some (some (.agg #[.int .i64 0, .int .i64 0, .string ⟨#[]⟩, .int .u64 0]), 4, 40) := by kernel_rfl

theorem own_alloc {w : World} {B n : Nat} {v : Value} {xs : List Value} (h : w.ownsRow B 31 4 v n xs) (o : Obj) : (w.alloc o).ownsRow B 31 4 v n xs :=
  h.kept (grown_of_below ((Below.refl w.heap.size w).alloc (Nat.le_refl _) o)) (by cases hv : v.ownBlock <;> simp)

theorem Row4.news {w1 : World} {g : Nat} {t : TypeId} {o0 o1 o2 o3 : Value} (h : Row4 w1 g t o0 o1 o2 o3) : ∀ j u, [o0, o1, o2, o3][j]? = some u → w1.cell? ((⟨g, 0, none⟩ : Addr).add j) = some u := by
  intro j u hj
  have hadd : (⟨g, 0, none⟩ : Addr).add j = ⟨g, j, none⟩ := by unfold Addr.add; split <;> simp_all
  rw [hadd, cell_of_row w1 g j _ t (0, 0) h.row]
  simpa using hj

theorem row_one {a b c : Int} {T : ByteArray} : ∀ u ∈ [Value.int .i64 a, .int .i64 b, .string T, .int .u64 c], u.oneCell' = true := by
  intro u hu
  simp only [List.mem_cons, List.not_mem_nil, or_false] at hu
  rcases hu with rfl | rfl | rfl | rfl <;> rfl

theorem own_base {w : World} {B e s n : Nat} {v : Value} {xs : List Value} (h : w.ownsRow B e s v n xs) : ∀ k, v.ownBlock = some k → B ≤ k := by
  intro k hk
  rcases h.2 with ⟨rfl, _⟩ | ⟨g, cap, cur, rfl, hb, _⟩
  · simp [Value.ownBlock] at hk
  · simp [Value.ownBlock] at hk
    omega

/-- what Scan answers -/
def ScanPost (w0 : World) (r : List Tok × Nat × Nat) (e : Ending) (w' : World) : Prop :=
  ∃ v, e = .returned (.tuple #[v, .int .i64 (r.2.1 : Int), .int .i64 (r.2.2 : Int)]) ∧ w'.ownsRow w0.heap.size 31 4 v r.1.length (r.1.flatMap tokC) ∧ Below w0.heap.size w0 w'

set_option maxHeartbeats 2000000 in
set_option maxRecDepth 100000 in
theorem scan_loop (lit : List UInt8 → Nat × Bool) (hlit : LitC lit) (l : List UInt8) (w : World) (hl : l.length ≤ 65536) (ha : asc l) (hE : ErrAt w) (hS : SignsAt w)
    (c0 : ∀ w : World, Calls Tryz.prog 15 #[.string (bs l), .func (Fn.func 16) #[] #[]] w fun e w' => e = .returned (.int .i64 ((l.length : Nat) : Int)) ∧ Below w.heap.size w w') :
    Calls Tryz.prog 10 #[.string (bs l)] w (ScanPost w (scanF lit (l.length + 1) 0 l)) := by
  have HA : Hid (asc l ∧ ErrAt w ∧ SignsAt w ∧ LitC lit) := ⟨ha, hE, hS, hlit⟩
  have HX : Hid (∀ k, (bs l).extract k (bs l).size = bs (l.drop k)) := bs_drop l
  have hsz : (bs l).size = l.length := rfl
  have HP : Hid (∀ e w', ScanPost w (scanF lit (l.length + 1) 0 l) e w' → ScanPost w (scanF lit (l.length + 1) 0 l) e w') := fun _ _ h => h
  have HI : Hid (∀ w1, Below w.heap.size w w1 → ScAt lit l w w1 (.slice none 0 0) 0 []) := by
    intro w1 h1
    refine ⟨Nat.zero_le _, ?_, ⟨rfl, Or.inl ⟨rfl, rfl⟩⟩, h1, Nat.le_refl _⟩
    rw [List.drop_zero]
    unfold joinS
    by_cases z : (scanF lit (l.length + 1) 0 l).2.2 = 0
    · rw [if_pos z]; rfl
    · rw [if_neg z]
      have := (scanF_err lit l (l.length + 1) 0 (Nat.zero_le _) (by rw [List.drop_zero]; exact z)).1
      rw [List.drop_zero] at this
      exact Prod.ext this rfl
  generalize hQ : ScanPost w (scanF lit (l.length + 1) 0 l) = Q0
  rw [hQ] at HP
  have HQ : Hid (Q0 = ScanPost w (scanF lit (l.length + 1) 0 l)) := hQ.symm
  clear ha hE hS hlit hQ HP
  generalize bs l = s at HX hsz c0 ⊢
  have sb : s.size ≤ 65536 := by omega
  have ssz : ((l.length : Nat) : Int) = s.size := by omega
  rw [ssz] at c0
  have HZ : Hid (s.size = l.length) := hsz
  clear hsz ssz
  go_enter Tryz.func10, Tryz.ntmps10
  go_wp2_with fail
  refine (c0 _).mono ?_
  rintro e w1 ⟨rfl, hb1⟩
  have HI1 : Hid (ScAt lit l w w1 (.slice none 0 0) 0 []) := HI.out w1 hb1
  clear HI hb1 c0
  go_wp2_with fail
  go_loopw [6, 7] (fun tv i wr => ∃ (p : Nat) (ts : List Tok), ScAt lit l w wr tv p ts ∧ i = .int .i64 p) (fun tv i wr => l.length + 1 - (intOf i).toNat)
  case atStart => exact ⟨0, [], HI1.out, rfl⟩
  case round =>
    obtain ⟨p, ts, hr, rfl⟩ := hrel
    have ple := hr.le
    have HO : Hid (wr.ownsRow w.heap.size 31 4 u6 ts.length (ts.flatMap tokC)) := hr.own
    have HB : Hid (Below w.heap.size w wr) := hr.bel
    have HC : Hid (ts.length ≤ p) := hr.cnt
    have V := hr.val
    clear hr
    rw [scan_step lit l p ple] at V
    have bc := blanks_any (l.drop p) wr (by rw [List.length_drop]; omega) (asc_drop HA.out.1 p)
    have ble := blanksI_le (l.drop p)
    rw [List.length_drop] at ble
    rw [← HX.out p] at bc
    generalize (blanksI (l.drop p)).1 = B at *
    generalize (blanksI (l.drop p)).2 = b at *
    obtain ⟨q, hq⟩ : ∃ q, q = p + B := ⟨_, rfl⟩
    rw [← hq] at V
    have eq : (p : Int) + (B : Int) = (q : Int) := by omega
    have ql : q ≤ l.length := by omega
    have ps : (p : Int) ≤ s.size := by have := HZ.out; omega
    have qs : (q : Int) ≤ s.size := by have := HZ.out; omega
    have qx := HX.out q
    clear hq
    have HM : Hid (p ≤ q ∧ q ≤ l.length) := ⟨by omega, ql⟩
    clear ble
    cases b with
    | false =>
      rw [if_pos rfl] at V
      have HV : Hid (scanF lit (l.length + 1) 0 l = ([], q, 52)) := V
      have r52 : remE false = 52 := rfl
      rw [r52] at bc
      clear V ple ql qx
      go_wp2_with fail
      refine bc.mono ?_
      rintro e w2 ⟨rfl, b2⟩
      go_wp2_with fail
      refine bodyPost_ret (v := .tuple #[.slice none 0 0, .int .i64 (q : Int), .int .i64 52]) (by simp [results, Tryz.results10, go_sem]) rfl ?_
      rw [HQ.out, HV.out]
      exact ⟨_, rfl, ⟨rfl, Or.inl ⟨rfl, rfl⟩⟩, HB.out.trans (b2.mono HB.out.size)⟩
    | true =>
      rw [if_neg (by decide)] at V
      have r0 : remE true = 0 := rfl
      rw [r0] at bc
      by_cases dz : l.drop q = []
      · rw [if_pos dz] at V
        have HV : Hid (scanF lit (l.length + 1) 0 l = (ts ++ [⟨0, q, [], 0⟩], 0, 0)) := V
        have qe : ((q : Int) == (s.size : Int)) = true := by
          have := HZ.out
          rw [List.drop_eq_nil_iff] at dz
          simp
          omega
        obtain ⟨i0, hi, hz0, hz1, hz2⟩ := info_parts info31
        clear V ple ql qx dz
        go_wp2_with fail
        refine bc.mono ?_
        rintro e w2 ⟨rfl, b2⟩
        have HO2 := HO.out.kept (grown_of_below b2) (by cases hv : u6.ownBlock <;> simp)
        have HB2 := HB.out.trans (b2.mono HB.out.size)
        have HO3 := own_alloc HO2 (.cells #[.int .i64 0, .int .i64 (q : Int), .string ⟨#[]⟩, .int .u64 0] 31)
        have HN := row4_new w2 31 (.int .i64 0) (.int .i64 (q : Int)) (.string ⟨#[]⟩) (.int .u64 0)
        have HB3 := HB2.alloc HB2.size (.cells #[.int .i64 0, .int .i64 (q : Int), .string ⟨#[]⟩, .int .u64 0] 31)
        have tl : ts.length ≤ 65536 := by have := HC.out; have := HM.out; omega
        go_wp2_with (at_builtin; refine wpList_append_own _ rfl _ _ 23 rfl w.heap.size 31 i0 (.agg #[.int .i64 0, .int .i64 0, .string ⟨#[]⟩, .int .u64 0]) 4 40 Tryz.underlying23 hi hz0 hz1 hz2 rfl (by decide) u6 ts.length (ts.flatMap tokC) rfl HO3 ⟨w2.heap.size, 0, none⟩ 1 1 [.int .i64 0, .int .i64 (q : Int), .string ⟨#[]⟩, .int .u64 0] rfl rfl HN.news row_one (by unfold maxLen; omega) (by omega) HB3.size ?_)
        intro v' w3 ho hg _
        have HB4 : Hid (Below w.heap.size w w3) := HB3.grown hg HB3.size (own_base HO3)
        have HO4 : Hid (w3.ownsRow w.heap.size 31 4 v' (ts.length + 1) (ts.flatMap tokC ++ [.int .i64 0, .int .i64 (q : Int), .string ⟨#[]⟩, .int .u64 0])) := ho
        clear ho hg HO3 HN HB3 HB2 HO2
        go_wp2_with fail
        refine bodyPost_ret (v := .tuple #[v', .int .i64 0, .int .i64 0]) (by simp [results, Tryz.results10, go_sem]) rfl ?_
        rw [HQ.out, HV.out]
        refine ⟨v', rfl, ?_, HB4.out⟩
        rw [List.flatMap_append, List.length_append]
        exact HO4.out
      · rw [if_neg dz] at V
        have qe : ((q : Int) == (s.size : Int)) = false := by
          have := HZ.out
          rw [List.drop_eq_nil_iff] at dz
          simp
          omega
        have cT := fun w2 (h : Below w.heap.size w w2) => token_any lit HA.out.2.2.2 (l.drop q) w2 dz (by rw [List.length_drop]; omega) (asc_drop HA.out.1 q) (HA.out.2.1.below h) (HA.out.2.2.1.below h)
        have tok := tok_ok lit (l.drop q)
        generalize hT : tokI lit (l.drop q) = T0 at *
        rw [← qx] at cT
        unfold tokR tokV at cT
        by_cases e0 : T0.2.2 ≠ 0
        · rw [if_pos e0] at V
          have HV : Hid (scanF lit (l.length + 1) 0 l = ([], q, T0.2.2)) := by
            show _ = _
            rw [V]
            unfold joinS
            rw [if_neg e0]
          have en : ((T0.2.2 : Int) != 0) = true := by simp; exact e0
          clear V ple ql qx dz tok hT
          generalize T0.2.2 = er at *
          generalize T0.2.1 = n at *
          generalize bs T0.1.text = tx at *
          generalize T0.1.kind = tk at *
          generalize T0.1.pl = tp at *
          generalize T0.1.num = tn at *
          clear T0 e0
          go_wp2_with fail
          refine bc.mono ?_
          rintro e w2 ⟨rfl, b2⟩
          have HB2 := HB.out.trans (b2.mono HB.out.size)
          go_wp2_with fail
          refine (cT _ HB2).mono ?_
          rintro e w3 ⟨rfl, b3⟩
          have HB3 : Hid (Below w.heap.size w w3) := HB2.trans (b3.mono HB2.size)
          clear b2 b3 HB2 cT bc
          go_wp2_with fail
          refine bodyPost_ret (v := .tuple #[.slice none 0 0, .int .i64 (q : Int), .int .i64 (er : Int)]) (by simp [results, Tryz.results10, go_sem]) rfl ?_
          rw [HQ.out, HV.out]
          exact ⟨_, rfl, ⟨rfl, Or.inl ⟨rfl, rfl⟩⟩, HB3.out.alloc HB3.out.size _⟩
        · rw [if_neg e0] at V
          have e1 : T0.2.2 = 0 := by simpa using e0
          have tk0 := tok e1
          have tpos := tk0.pos
          have tle := tk0.le
          rw [List.length_drop] at tle
          have HN : Hid (∀ v' w', w'.ownsRow w.heap.size 31 4 v' (ts.length + 1) (ts.flatMap tokC ++ [.int .i64 (T0.1.kind : Int), .int .i64 (q : Int), .string (bs T0.1.text), .int .u64 (T0.1.num : Int)]) → Below w.heap.size w w' → ScAt lit l w w' v' (q + T0.2.1) (ts ++ [{ T0.1 with pl := q }])) := by
            intro v' w' ho hb
            refine ⟨by omega, ?_, ?_, hb, ?_⟩
            · rw [V]
              generalize scanF lit (l.length + 1) (q + T0.2.1) (l.drop (q + T0.2.1)) = R
              unfold joinS
              by_cases z : R.2.2 = 0
              · simp [z]
              · simp [z]
            · rw [List.flatMap_append, List.length_append]
              exact ho
            · have := HC.out
              have := HM.out
              rw [List.length_append]
              simp only [List.length_cons, List.length_nil]
              omega
          have en : ((T0.2.2 : Int) != 0) = false := by rw [e1]; rfl
          rw [e1] at cT
          have HM2 : Hid (q < q + T0.2.1 ∧ q + T0.2.1 ≤ l.length) := ⟨by omega, by omega⟩
          have nb : T0.2.1 ≤ 65536 := by omega
          obtain ⟨i0, hi, hz0, hz1, hz2⟩ := info_parts info31
          clear V ple qx dz tok hT e0 en e1 tk0 tpos tle
          generalize ({ T0.1 with pl := q } : Tok) = TT at *
          generalize T0.2.1 = n at *
          generalize bs T0.1.text = tx at *
          generalize T0.1.kind = tk at *
          generalize T0.1.pl = tp at *
          generalize T0.1.num = tn at *
          clear T0
          go_wp2_with fail
          refine bc.mono ?_
          rintro e w2 ⟨rfl, b2⟩
          have HB2 := HB.out.trans (b2.mono HB.out.size)
          go_wp2_with fail
          refine (cT _ HB2).mono ?_
          rintro e w3 ⟨rfl, b3⟩
          have HO2 := HO.out.kept (grown_of_below b2) (by cases hv : u6.ownBlock <;> simp)
          have HO3 := HO2.kept (grown_of_below b3) (by cases hv : u6.ownBlock <;> simp)
          have HB3 := HB2.trans (b3.mono HB2.size)
          have HO4 := own_alloc HO3 (.cells #[.int .i64 (tk : Int), .int .i64 (q : Int), .string tx, .int .u64 (tn : Int)] 31)
          have HB4 := HB3.alloc HB3.size (.cells #[.int .i64 (tk : Int), .int .i64 (q : Int), .string tx, .int .u64 (tn : Int)] 31)
          have HO5 := own_alloc HO4 (.cells #[.int .i64 (tk : Int), .int .i64 (q : Int), .string tx, .int .u64 (tn : Int)] 31)
          have HB5 := HB4.alloc HB4.size (.cells #[.int .i64 (tk : Int), .int .i64 (q : Int), .string tx, .int .u64 (tn : Int)] 31)
          have NW := (row4_new (w3.alloc (.cells #[.int .i64 (tk : Int), .int .i64 (q : Int), .string tx, .int .u64 (tn : Int)] 31)) 31 (.int .i64 (tk : Int)) (.int .i64 (q : Int)) (.string tx) (.int .u64 (tn : Int))).news
          have sz4 : (w3.alloc (.cells #[.int .i64 (tk : Int), .int .i64 (q : Int), .string tx, .int .u64 (tn : Int)] 31)).heap.size = w3.heap.size + 1 := by show (w3.heap.push _).size = _; simp
          rw [sz4] at NW
          have tl : ts.length ≤ 65536 := by have := HC.out; have := HM.out; omega
          clear b2 b3 HB2 cT bc HO2 HO3 HO4 HB3 HB4 sz4
          go_wp2_with (at_builtin; refine wpList_append_own _ rfl _ _ 23 rfl w.heap.size 31 i0 (.agg #[.int .i64 0, .int .i64 0, .string ⟨#[]⟩, .int .u64 0]) 4 40 Tryz.underlying23 hi hz0 hz1 hz2 rfl (by decide) u6 ts.length (ts.flatMap tokC) rfl HO5 ⟨w3.heap.size + 1, 0, none⟩ 1 1 [.int .i64 (tk : Int), .int .i64 (q : Int), .string tx, .int .u64 (tn : Int)] rfl rfl NW row_one (by unfold maxLen; omega) (by omega) HB5.size ?_)
          intro v' w4 ho hg _
          have R := HN.out v' w4 ho (HB5.grown hg HB5.size (own_base HO5))
          have HR : Hid (ScAt lit l w w4 v' (q + n) (ts ++ [TT])) := R
          clear ho hg HO5 HB5 NW R HN
          go_wp2_with fail
          refine ⟨⟨q + n, ts ++ [TT], HR.out, by go_num⟩, ?_⟩
          have := HM2.out
          have := HM.out
          simp [intOf]
          omega

end Go.Proofs.YtaikkmehmiiffaaGreatDoor.Lx
