/- LexStrings: the law's quoted. -/
import Derived.Test.YtaikkmehmiiffaaGreatDoorZ19
import Derived.Deep.RegionHeld3
import Derived.Deep.AppendLies
import Derived.Lib.BufferRead
import Derived.Laws.IdiomStrings
namespace Go.Proofs.YtaikkmehmiiffaaGreatDoor.Lx
open Go.RowKit
set_option linter.unusedVariables false

theorem info5 : (Tryz.prog.info? 5).map (fun i => (i.zero, i.size, i.bytes)) = some (some (.int .u8 0), 1, 1) := by kernel_rfl

/-- a slice of truths -/
def BoolsAt (w : World) (a : Option Addr) (len : Nat) (hw : List Bool) : Prop := hw.length = len ∧ (0 < len → ∃ b off, a = some ⟨b, off, none⟩ ∧ b < w.heap.size ∧ ∀ j x, hw[j]? = some x → w.cell? ⟨b, off + j, none⟩ = some (.bool x))

structure QtAt (q : UInt8) (l : List UInt8) (hw : List Bool) (w0 wr : World) (v : Value) (k : Nat) (pre : List UInt8) : Prop where
  le : k ≤ l.length
  val : q :: encs q l hw = pre ++ encs q (l.drop k) (hw.drop k)
  own : wr.ownsRow w0.heap.size 5 1 v pre.length (Lib.byteCells pre)
  bel : Below w0.heap.size w0 wr
  len : pre.length ≤ 4 * k + 1

theorem digits_get (n : Nat) (h : n < 16) : (⟨#[48, 49, 50, 51, 52, 53, 54, 55, 56, 57, 97, 98, 99, 100, 101, 102]⟩ : ByteArray)[n]? = some (hexd n) := by
  have : ∀ n : Fin 16, (⟨#[48, 49, 50, 51, 52, 53, 54, 55, 56, 57, 97, 98, 99, 100, 101, 102]⟩ : ByteArray)[n.val]? = some (hexd n.val) := by decide
  exact this ⟨n, h⟩

theorem digits_elem (n : Nat) (h : n < 16) : ∀ p : n < (⟨#[48, 49, 50, 51, 52, 53, 54, 55, 56, 57, 97, 98, 99, 100, 101, 102]⟩ : ByteArray).size, (⟨#[48, 49, 50, 51, 52, 53, 54, 55, 56, 57, 97, 98, 99, 100, 101, 102]⟩ : ByteArray)[n]'p = hexd n := by
  intro p
  have := digits_get n h
  rw [getElem?_pos _ n p] at this
  exact Option.some.inj this

theorem digits_at (n : Nat) (h : n < 16) (w : World) : (Instr.index 9 (.string ⟨#[48, 49, 50, 51, 52, 53, 54, 55, 56, 57, 97, 98, 99, 100, 101, 102]⟩) (.int .u8 (n : Int))).run Tryz.prog w = .ok (.int .u8 ((hexd n).toNat : Int)) w := by
  have : ∀ n : Fin 16, (⟨#[48, 49, 50, 51, 52, 53, 54, 55, 56, 57, 97, 98, 99, 100, 101, 102]⟩ : ByteArray)[n.val]? = some (hexd n.val) := by decide
  have k := this ⟨n, h⟩
  simp only at k
  simp [go_sem, Instr.index, k]

set_option maxHeartbeats 4000000 in
set_option maxRecDepth 100000 in
theorem quoted_walk (q : UInt8) (l : List UInt8) (a2 : Option Addr) (len cap : Nat) (hw : List Bool) (w : World) (hl : l.length ≤ 5000) (hb2 : BoolsAt w a2 len hw) (hlen : len ≤ maxLen) :
    Calls Tryz.prog 13 #[.string (bs l), .int .u8 (q.toNat : Int), .slice a2 len cap] w fun e w' => e = .returned (.string (bs (q :: (encs q l hw ++ [q])))) ∧ Below w.heap.size w w' := by
  obtain ⟨i0, hi, hz0, hz1, hz2⟩ := info_parts info5
  have B0 := (Below.refl w.heap.size w).alloc (Nat.le_refl _) (.cells #[.int .u8 (q.toNat : Int)] 5)
  have HS : Hid (QtAt q l hw w (w.alloc (.cells #[.int .u8 (q.toNat : Int)] 5)) (.slice (some ⟨w.heap.size, 0, none⟩) 1 1) 0 [q]) := by
    refine ⟨Nat.zero_le _, rfl, ?_, B0, by simp⟩
    refine ⟨rfl, Or.inr ⟨w.heap.size, 1, #[.int .u8 (q.toNat : Int)], rfl, Nat.le_refl _, heap_alloc_new w _, Nat.le_refl _, by decide, rfl, rfl⟩⟩
  have H2 : Hid (BoolsAt w a2 len hw) := hb2
  have hsz : (bs l).size = l.length := rfl
  have HZ : Hid ((bs l).size = l.length) := rfl
  have q256 : q.toNat < 256 := q.toNat_lt
  clear B0 hb2
  go_enter Tryz.func13, Tryz.ntmps13
  go_wp2_with fail
  generalize w.alloc (.cells #[.int .u8 (q.toNat : Int)] 5) = w1 at *
  go_loopw [8, 9] (fun bv i wr => ∃ (k : Nat) (pre : List UInt8), QtAt q l hw w wr bv k pre ∧ i = .int .i64 k) (fun bv i wr => l.length - (intOf i).toNat)
  case atStart => exact ⟨0, [q], HS.out, rfl⟩
  case round =>
    obtain ⟨k, pre, hr, rfl⟩ := hrel
    have kl := hr.le
    rcases Nat.lt_or_ge k l.length with c | c
    · obtain ⟨C, hC⟩ : ∃ C, l[k]? = some C := ⟨_, List.getElem?_eq_getElem c⟩
      have hd : l.drop k = C :: l.drop (k + 1) := by
        rw [List.drop_eq_getElem_cons c]
        rw [List.getElem?_eq_getElem c] at hC
        rw [Option.some.inj hC]
      have hch : hw.drop (k + 1) = (hw.drop k).tail := by rw [List.tail_drop]
      have V := hr.val
      rw [hd, encs] at V
      have hget : ((bs l)[k]'(by rw [hsz]; exact c)) = C := by
        have : (bs l)[k]'(by rw [hsz]; exact c) = l[k] := rfl
        rw [this]
        rw [List.getElem?_eq_getElem c] at hC
        exact Option.some.inj hC
      have C256 : C.toNat < 256 := C.toNat_lt
      obtain ⟨x, hx⟩ : ∃ x, x = (hw.drop k).headD false := ⟨_, rfl⟩
      rw [← hx, ← hch] at V
      obtain ⟨E, hE⟩ : ∃ E : Bool, E = (x || decide (C.toNat < 32) || decide (126 < C.toNat) || C.toNat == q.toNat || C.toNat == 92) := ⟨_, rfl⟩
      obtain ⟨bq, hbq⟩ : ∃ bq : Bool, ((C.toNat : Int) == (q.toNat : Int)) = bq := ⟨_, rfl⟩
      obtain ⟨b92, hb92⟩ : ∃ b92 : Bool, ((C.toNat : Int) == 92) = b92 := ⟨_, rfl⟩
      have HE : Hid (E = (x || decide ((C.toNat : Int) < 32) || decide (126 < (C.toNat : Int)) || bq || b92)) := by
        show _ = _
        rw [hE, ← hbq, ← hb92]
        have k1 : ((C.toNat : Int) == (q.toNat : Int)) = (C.toNat == q.toNat) := by rw [Bool.eq_iff_iff]; simp; omega
        have k2 : ((C.toNat : Int) == 92) = (C.toNat == 92) := by rw [Bool.eq_iff_iff]; simp; omega
        have k3 : decide ((C.toNat : Int) < 32) = decide (C.toNat < 32) := by rw [Bool.eq_iff_iff]; simp; omega
        have k4 : decide (126 < (C.toNat : Int)) = decide (126 < C.toNat) := by rw [Bool.eq_iff_iff]; simp; omega
        rw [k1, k2, k3, k4]
      have eE : encB q x C = if E = true then [92, 120, hexd (C.toNat / 16), hexd (C.toNat % 16)] else [C] := by
        unfold encB
        have k1 : C = q ↔ C.toNat = q.toNat := UInt8.toNat_inj.symm
        have k2 : C = 92 ↔ C.toNat = 92 := nat_u8 C 92 (by omega)
        rw [hE]
        simp only [k1, k2]
        simp [or_assoc]
      rw [eE] at V
      have HO : Hid (wr.ownsRow w.heap.size 5 1 u8 pre.length (Lib.byteCells pre)) := hr.own
      have HB : Hid (Below w.heap.size w wr) := hr.bel
      have HL : Hid (pre.length ≤ 4 * k + 1) := hr.len
      have ki : (k : Int) < (bs l).size := by rw [hsz]; omega
      have kn : (k : Int) ≤ 5000 := by omega
      obtain ⟨da, hda⟩ : ∃ da, da = C.toNat / 16 := ⟨_, rfl⟩
      obtain ⟨db, hdb⟩ : ∃ db, db = C.toNat % 16 := ⟨_, rfl⟩
      have HV : Hid (q :: encs q l hw = pre ++ ((if E = true then [92, 120, hexd da, hexd db] else [C]) ++ encs q (l.drop (k + 1)) (hw.drop (k + 1)))) := by rw [hda, hdb]; exact V
      have hD1 := digits_elem da (by omega)
      have hD2 := digits_elem db (by omega)
      have qa : (C.toNat : Int) / 16 = (da : Int) := by omega
      have qb : (C.toNat : Int) % 16 = (db : Int) := by omega
      have qa2 : (C.toNat : Int).tdiv 16 = (da : Int) := by rw [Int.tdiv_eq_ediv_of_nonneg (by omega)]; exact qa
      have qb2 : (C.toNat : Int).tmod 16 = (db : Int) := by rw [Int.tmod_eq_emod_of_nonneg (by omega)]; exact qb
      have da16 : (da : Int) < 16 := by omega
      have db16 : (db : Int) < 16 := by omega
      have wa : IntKind.u8.wrap (da : Int) = (da : Int) := by rw [IntKind.wrap_u8]; omega
      have wb : IntKind.u8.wrap (db : Int) = (db : Int) := by rw [IntKind.wrap_u8]; omega
      have key : wr.heap.size = wr.heap.size := rfl
      clear V eE hE hd hch hC hr hda hdb
      by_cases kb : k < len
      · obtain ⟨hwl, hcells⟩ := H2.out
        obtain ⟨b, off, rfl, hbw, hcs⟩ := hcells (by omega)
        have cell : wr.cell? ⟨b, off + k, none⟩ = some (.bool x) := by
          rw [HB.out.cell (p := ⟨b, off + k, none⟩) hbw]
          refine hcs k x ?_
          rw [hx, List.headD_eq_head?_getD, List.head?_drop, List.getElem?_eq_getElem (by omega)]
          rfl
        have HC : Hid (k < l.length) := c
        have c256 : (C.toNat : Int) < 256 := by omega
        clear hcells hcs hwl hx hbw C256
        go_upto_region 7 with fail
        go_cut [48] from 22 to 48 (fun e wx => e = .bool E ∧ wx = wr)
        case first =>
          go_wp2_with fail
          all_goals (go_meet; refine ⟨congrArg Value.bool ?_, rfl⟩; rw [HE.out]; simp_all)
        case rest =>
        obtain ⟨rfl, rfl⟩ := hcut
        cases E with
        | true =>
          have n1 : pre.length + 4 ≤ 30000 := by have := HL.out; have := kn; omega
          have own1 := HO.out
          have bs1 : w.heap.size ≤ wc.heap.size := HB.out.size
          go_upto_region 8 with fail
          go_region_held3 (fun _ => True) (trivial) ((refine step_append_lies _ (by rfl) _ _ _ (by rfl) w.heap.size 5 i0 (.int .u8 0) 1 1 Tryz.underlying32 hi hz0 hz1 hz2 rfl (by omega) u8 pre.length (Lib.byteCells pre) (by rfl) ((own1.alloc _).drew) ⟨wc.heap.size, 0, none⟩ 4 4 [.int .u8 92, .int .u8 120, .int .u8 ((hexd da).toNat : Int), .int .u8 ((hexd db).toNat : Int)] (by rfl) (by rfl) (World.news_of_block (cs := #[.int .u8 92, .int .u8 120, .int .u8 ((hexd da).toNat : Int), .int .u8 ((hexd db).toNat : Int)]) (t := 5) (fr := (0, 0)) (heap_alloc_new wc _)) (by simp [Value.oneCell']) (by omega) (by unfold maxLen; omega) (by omega) (by simp; omega) (wc.heap.size + 1) (by simp) ?_; intro gg cap1 w2 hown1 hgrow hat hlt))
          all_goals
            have HN : Hid (QtAt q l hw w w2 (.slice (some ⟨gg, 0, none⟩) (pre.length + 4) cap1) (k + 1) (pre ++ [92, 120, hexd da, hexd db])) := by
              refine ⟨c, ?_, ?_, ?_, ?_⟩
              · rw [HV.out, if_pos rfl, List.append_assoc]
              · rw [List.length_append, Lib.byteCells_append]
                exact hown1
              · exact ((HB.out.alloc HB.out.size _).drew).grown hgrow (by simp; omega) (own_base own1)
              · have := HL.out
                rw [List.length_append]
                simp only [List.length_cons, List.length_nil]
                omega
            clear hown1 hgrow hat hlt own1 HV HO HB HL
            go_wp2_with fail
            refine ⟨⟨k + 1, _, HN.out, by go_num⟩, ?_⟩
            simp [intOf]
            omega
        | false =>
          have n1 : pre.length + 1 ≤ 30000 := by have := HL.out; have := kn; omega
          have own1 := HO.out
          have own2 := own1.alloc (.cells #[.int .u8 (C.toNat : Int)] 5)
          have NW : ∀ j u, [Value.int .u8 (C.toNat : Int)][j]? = some u → (wc.alloc (.cells #[.int .u8 (C.toNat : Int)] 5)).cell? ((⟨wc.heap.size, 0, none⟩ : Addr).add j) = some u := World.news_of_block (cs := #[.int .u8 (C.toNat : Int)]) (t := 5) (fr := (0, 0)) (heap_alloc_new wc _)
          have bs1 : w.heap.size ≤ wc.heap.size := HB.out.size
          go_wp2_with (at_builtin; refine wpList_append_own _ rfl _ _ 32 rfl w.heap.size 5 i0 (.int .u8 0) 1 1 Tryz.underlying32 hi hz0 hz1 hz2 rfl (by decide) u8 pre.length (Lib.byteCells pre) rfl own2 ⟨wc.heap.size, 0, none⟩ 1 1 [.int .u8 (C.toNat : Int)] rfl rfl NW (by simp [Value.oneCell']) (by unfold maxLen; omega) (by omega) (by simp; omega) ?_)
          intro v' w2 hown1 hgrow _
          have HN : Hid (QtAt q l hw w w2 v' (k + 1) (pre ++ [C])) := by
            refine ⟨c, ?_, ?_, ?_, ?_⟩
            · rw [HV.out, if_neg (by decide), List.append_assoc]
            · rw [List.length_append, Lib.byteCells_append]
              exact hown1
            · exact (HB.out.alloc HB.out.size _).grown hgrow (by simp; omega) (own_base own1)
            · have := HL.out
              rw [List.length_append]
              simp only [List.length_cons, List.length_nil]
              omega
          clear hown1 hgrow own1 own2 NW HV HO HB HL
          go_wp2_with fail
          refine ⟨⟨k + 1, _, HN.out, by go_num⟩, ?_⟩
          simp [intOf]
          omega
      · have xf : x = false := by
          have hwl := H2.out.1
          rw [hx, List.drop_of_length_le (by omega)]
          rfl
        subst xf
        have c256 : (C.toNat : Int) < 256 := by omega
        have kb2 : (len : Int) ≤ (k : Int) := by omega
        clear hx C256
        go_upto_region 7 with fail
        go_cut [48] from 22 to 48 (fun e wx => e = .bool E ∧ wx = wr)
        case first =>
          go_wp2_with fail
          all_goals (go_meet; refine ⟨congrArg Value.bool ?_, rfl⟩; rw [HE.out]; simp_all)
        case rest =>
        obtain ⟨rfl, rfl⟩ := hcut
        cases E with
        | true =>
          have n1 : pre.length + 4 ≤ 30000 := by have := HL.out; have := kn; omega
          have own1 := HO.out
          have bs1 : w.heap.size ≤ wc.heap.size := HB.out.size
          go_upto_region 8 with fail
          go_region_held3 (fun _ => True) (trivial) ((refine step_append_lies _ (by rfl) _ _ _ (by rfl) w.heap.size 5 i0 (.int .u8 0) 1 1 Tryz.underlying32 hi hz0 hz1 hz2 rfl (by omega) u8 pre.length (Lib.byteCells pre) (by rfl) ((own1.alloc _).drew) ⟨wc.heap.size, 0, none⟩ 4 4 [.int .u8 92, .int .u8 120, .int .u8 ((hexd da).toNat : Int), .int .u8 ((hexd db).toNat : Int)] (by rfl) (by rfl) (World.news_of_block (cs := #[.int .u8 92, .int .u8 120, .int .u8 ((hexd da).toNat : Int), .int .u8 ((hexd db).toNat : Int)]) (t := 5) (fr := (0, 0)) (heap_alloc_new wc _)) (by simp [Value.oneCell']) (by omega) (by unfold maxLen; omega) (by omega) (by simp; omega) (wc.heap.size + 1) (by simp) ?_; intro gg cap1 w2 hown1 hgrow hat hlt))
          all_goals
            have HN : Hid (QtAt q l hw w w2 (.slice (some ⟨gg, 0, none⟩) (pre.length + 4) cap1) (k + 1) (pre ++ [92, 120, hexd da, hexd db])) := by
              refine ⟨c, ?_, ?_, ?_, ?_⟩
              · rw [HV.out, if_pos rfl, List.append_assoc]
              · rw [List.length_append, Lib.byteCells_append]
                exact hown1
              · exact ((HB.out.alloc HB.out.size _).drew).grown hgrow (by simp; omega) (own_base own1)
              · have := HL.out
                rw [List.length_append]
                simp only [List.length_cons, List.length_nil]
                omega
            clear hown1 hgrow hat hlt own1 HV HO HB HL
            go_wp2_with fail
            refine ⟨⟨k + 1, _, HN.out, by go_num⟩, ?_⟩
            simp [intOf]
            omega
        | false =>
          have n1 : pre.length + 1 ≤ 30000 := by have := HL.out; have := kn; omega
          have own1 := HO.out
          have own2 := own1.alloc (.cells #[.int .u8 (C.toNat : Int)] 5)
          have NW : ∀ j u, [Value.int .u8 (C.toNat : Int)][j]? = some u → (wc.alloc (.cells #[.int .u8 (C.toNat : Int)] 5)).cell? ((⟨wc.heap.size, 0, none⟩ : Addr).add j) = some u := World.news_of_block (cs := #[.int .u8 (C.toNat : Int)]) (t := 5) (fr := (0, 0)) (heap_alloc_new wc _)
          have bs1 : w.heap.size ≤ wc.heap.size := HB.out.size
          go_wp2_with (at_builtin; refine wpList_append_own _ rfl _ _ 32 rfl w.heap.size 5 i0 (.int .u8 0) 1 1 Tryz.underlying32 hi hz0 hz1 hz2 rfl (by decide) u8 pre.length (Lib.byteCells pre) rfl own2 ⟨wc.heap.size, 0, none⟩ 1 1 [.int .u8 (C.toNat : Int)] rfl rfl NW (by simp [Value.oneCell']) (by unfold maxLen; omega) (by omega) (by simp; omega) ?_)
          intro v' w2 hown1 hgrow _
          have HN : Hid (QtAt q l hw w w2 v' (k + 1) (pre ++ [C])) := by
            refine ⟨c, ?_, ?_, ?_, ?_⟩
            · rw [HV.out, if_neg (by decide), List.append_assoc]
            · rw [List.length_append, Lib.byteCells_append]
              exact hown1
            · exact (HB.out.alloc HB.out.size _).grown hgrow (by simp; omega) (own_base own1)
            · have := HL.out
              rw [List.length_append]
              simp only [List.length_cons, List.length_nil]
              omega
          clear hown1 hgrow own1 own2 NW HV HO HB HL
          go_wp2_with fail
          refine ⟨⟨k + 1, _, HN.out, by go_num⟩, ?_⟩
          simp [intOf]
          omega
    · have ke : k = l.length := by omega
      have HV : Hid (q :: (encs q l hw ++ [q]) = pre ++ [q]) := by
        show _ = _
        have := hr.val
        rw [List.drop_of_length_le (by omega), encs] at this
        rw [← List.cons_append, this]
        simp
      have own1 := hr.own
      have own2 := own1.alloc (.cells #[.int .u8 (q.toNat : Int)] 5)
      have HB := hr.bel
      have HL := hr.len
      have n1 : pre.length + 1 ≤ 30000 := by omega
      have bs1 : w.heap.size ≤ wr.heap.size := HB.size
      have NW : ∀ j u, [Value.int .u8 (q.toNat : Int)][j]? = some u → (wr.alloc (.cells #[.int .u8 (q.toNat : Int)] 5)).cell? ((⟨wr.heap.size, 0, none⟩ : Addr).add j) = some u := World.news_of_block (cs := #[.int .u8 (q.toNat : Int)]) (t := 5) (fr := (0, 0)) (heap_alloc_new wr _)
      clear hr HL
      subst ke
      go_wp2_with (at_builtin; refine wpList_append_own _ rfl _ _ 32 rfl w.heap.size 5 i0 (.int .u8 0) 1 1 Tryz.underlying32 hi hz0 hz1 hz2 rfl (by decide) u8 pre.length (Lib.byteCells pre) rfl own2 ⟨wr.heap.size, 0, none⟩ 1 1 [.int .u8 (q.toNat : Int)] rfl rfl NW (by simp [Value.oneCell']) (by unfold maxLen; omega) (by omega) (by simp; omega) ?_)
      intro v' w2 hown1 hgrow _
      have HB2 : Hid (Below w.heap.size w w2) := (HB.alloc HB.size _).grown hgrow (by simp; omega) (own_base own1)
      rcases hown1.2 with ⟨_, hn⟩ | ⟨g, cap1, cur, rfl, hb, hg, hnc, hcm, hcs, ht⟩
      · omega
      · have hcell := Lib.bytes_of_row (l := pre ++ [q]) hg (by
          rw [Lib.byteCells_append, List.length_append]
          rw [Nat.mul_one] at ht
          exact ht)
        have hcv := run_convert_bytes_back (P := Tryz.prog) w2 32 9 5 ⟨g, 0, none⟩ cap1 (pre ++ [q]) Tryz.underlying32 Tryz.underlying5 Tryz.underlying9 hcell
        rw [show (pre ++ [q]).length = pre.length + 1 from by simp] at hcv
        have HR : Hid (bs (q :: (encs q l hw ++ [q])) = ⟨(pre ++ [q]).toArray⟩) := by
          show _ = _
          rw [HV.out]
          rfl
        clear hcell hg ht hcs hown1 hgrow HV own1 own2 NW
        go_wp2_with fail
        go_ret
        rw [HR.out]
        exact ⟨rfl, HB2.out⟩

end Go.Proofs.YtaikkmehmiiffaaGreatDoor.Lx
