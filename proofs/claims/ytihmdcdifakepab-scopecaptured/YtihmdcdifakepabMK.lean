/- The resolver's walk: variable. -/
import Derived.Test.YtihmdcdifakepabB12
namespace Go.Proofs.Ytihmdcdifakepab.Rv
open Go.RowKit Go.Proofs.Ytihmdcdifakepab.Sc Go.Proofs.Ytihmdcdifakepab.Rz
set_option linter.unusedVariables false

theorem wf_put {b0 : Blk} (h : Blk.wf b0) {nm : ByteArray} (hn : nm.size ≤ maxLen) (hno : ∀ x ∈ b0, x.1 ≠ nm) (v : Nat) : Blk.wf ((nm, v) :: b0) := by
  refine ⟨?_, fun e he => ?_⟩
  · rw [List.map_cons, List.nodup_cons]
    exact ⟨fun q => by obtain ⟨x, h1, h2⟩ := List.mem_map.1 q; exact hno x h1 h2, h.nd⟩
  · rcases List.mem_cons.1 he with q | q
    · rw [q]; exact hn
    · exact h.sz e q

theorem gd_put {s : Rz.RS} (h : Gd s) {b0 : Blk} {bs : List Blk} (hbs : s.blocks = b0 :: bs) {nm : ByteArray} (hn : nm.size ≤ maxLen) (hno : ∀ x ∈ b0, x.1 ≠ nm) (x : Rz.Vr) : Gd { s with blocks := ((nm, s.vars.length) :: b0) :: bs, vars := s.vars ++ [x] } := by
  refine ⟨h.fnl, fun b hb e he => ?_, fun b hb => ?_⟩
  · simp only [List.length_append, List.length_singleton]
    rcases List.mem_cons.1 hb with q | q
    · rw [q] at he
      rcases List.mem_cons.1 he with q2 | q2
      · rw [q2]; simp
      · have := h.blk b0 (by rw [hbs]; exact List.mem_cons_self ..) e q2; omega
    · have := h.blk b (by rw [hbs]; exact List.mem_cons_of_mem _ q) e he; omega
  · rcases List.mem_cons.1 hb with q | q
    · rw [q]; exact wf_put (h.wf b0 (by rw [hbs]; exact List.mem_cons_self ..)) hn hno _
    · exact h.wf b (by rw [hbs]; exact List.mem_cons_of_mem _ q)

theorem put_is {s : Rz.RS} {b0 : Blk} {bs : List Blk} (hbs : s.blocks = b0 :: bs) (nm : ByteArray) (pl kd : Int) (slot : Nat) : putVarP nm pl kd slot s = { s with blocks := ((nm, s.vars.length) :: b0) :: bs, vars := s.vars ++ [⟨nm, pl, kd, s.fn, slot, false⟩] } := by
  unfold putVarP
  rw [hbs]

/-- behind the map's new name: the row of variables -/
theorem MemW.var {w w5 : World} {B rb : Nat} {tg : Nat → Nat} {s : Rz.RS} {v0 v2 v3 v6 : Value} {ms : List (Option Nat)} {ad : Option Addr} {cap : Nat} (h : MemW w B rb tg s v0 (.slice ad s.vars.length cap) v2 v3 v6 ms) {g5 cap5 : Nat} {x : Rz.Vr}
    (ho : OwnR vrC 6 44 B w5 (.slice (some ⟨g5, 0, none⟩) (s.vars.length + 1) cap5) (s.vars ++ [x])) (hc : Chg (fun b => (Value.slice ad s.vars.length cap).ownBlock = some b) w w5) (hg : (Value.slice ad s.vars.length cap).ownBlock = some g5 ∨ w.heap.size ≤ g5) :
    MemW (w5.setCell ⟨rb, 1, none⟩ (.slice (some ⟨g5, 0, none⟩) (s.vars.length + 1) cap5)) B rb (retag tg (.slice (some ⟨g5, 0, none⟩) (s.vars.length + 1) cap5) 2) { s with vars := s.vars ++ [x] } v0 (.slice (some ⟨g5, 0, none⟩) (s.vars.length + 1) cap5) v2 v3 v6 ms ∧ Chg (Ow rb v0 (.slice ad s.vars.length cap) v2 v3 v6 ms) w (w5.setCell ⟨rb, 1, none⟩ (.slice (some ⟨g5, 0, none⟩) (s.vars.length + 1) cap5)) ∧ ∀ b, Ow rb v0 (.slice (some ⟨g5, 0, none⟩) (s.vars.length + 1) cap5) v2 v3 v6 ms b → Ow rb v0 (.slice ad s.vars.length cap) v2 v3 v6 ms b ∨ w.heap.size ≤ b :=
  h.row1 hc ho (fun b q => by
    simp [Value.ownBlock] at q
    subst q
    exact hg)

set_option maxRecDepth 100000 in
set_option maxHeartbeats 4000000 in
theorem variable_any (w : World) (B rb : Nat) (O : Nat → Prop) (s : Rz.RS) (v6 : Value) (h : Mem w B rb O s v6) (hb : bg s ≤ 1000000000) (b0 : Blk) (bs : List Blk) (hbs : s.blocks = b0 :: bs) (kind pl num : Int) (nm op : ByteArray) (kv : Value) (hs : nm.size ≤ maxLen) (hno : ∀ x ∈ b0, x.1 ≠ nm) (kd : Int) (slot : Nat) :
    Calls Try.prog 41 #[.pointer (some ⟨rb, 0, none⟩), .agg #[.int .i64 kind, .int .i64 pl, .string nm, .int .u64 num, .string op, kv], .int .i64 kd, .int .i64 (slot : Int)] w fun e w' => e = .returned (.tuple #[]) ∧ Went w B rb O (putVarP nm pl kd slot s) v6 w' := by
  obtain ⟨wb, hwb⟩ : ∃ wb, wb = w.alloc (.cells #[.int .i64 kind, .int .i64 pl, .string nm, .int .u64 num, .string op, kv] 25) := ⟨_, rfl⟩
  have hbl : Below w.heap.size w wb := by rw [hwb]; exact below_new (Below.refl _ _) (Nat.le_refl _) _
  have b1 : wb.cell? ⟨w.heap.size, 1, none⟩ = some (.int .i64 pl) := by rw [hwb]; exact box_new w _ _ 1 _ rfl
  have b2 : wb.cell? ⟨w.heap.size, 2, none⟩ = some (.string nm) := by rw [hwb]; exact box_new w _ _ 2 _ rfl
  have HB : Hid (Below w.heap.size w wb) := hbl
  have HOL : Hid (∀ b, O b → b < w.heap.size) := fun b q => (h.lt b q).2
  have hbox : w.heap.size < wb.heap.size := by rw [hwb, size_new]; omega
  have HBX0 : Hid (w.heap.size < wb.heap.size) := hbox
  obtain ⟨tg, v0, v1, v2, v3, ms, hm, hO⟩ := h.below hbl
  have HV : Hid (s.vars.length ≤ 1000000000) := by show _ ≤ _; unfold bg at hb; omega
  have HPI := (show Hid _ from put_is hbs nm pl kd slot)
  have HGD := (show Hid _ from gd_put (h.gd) hbs hs hno ⟨nm, pl, kd, s.fn, slot, false⟩)
  have hml := hm.ml
  rw [hbs, List.length_cons] at hml
  obtain ⟨ms0, m, rfl⟩ : ∃ ms0 m, ms = ms0 ++ [m] := by
    rcases List.eq_nil_or_concat ms with e | ⟨a, b, e⟩
    · rw [e] at hml; simp at hml
    · exact ⟨a, b, by rw [e, List.concat_eq_append]⟩
  have hlast : (ms0 ++ [m])[ms0.length]? = some m := by simp
  have hln : (ms0 ++ [m]).length = ms0.length + 1 := by simp
  obtain ⟨ad3, cap3, rfl, l1, l2, hg3⟩ := own_slice hm.r3
  obtain ⟨g, rfl⟩ := hg3 (by simp)
  obtain ⟨ad, cap, rfl, l3, l4, _⟩ := own_slice hm.r1
  obtain ⟨_, _, _, _, _, r6, r7⟩ := hm.r3.read rtMp.len
  have d3 := r6 ms0.length m hlast 0 _ rfl
  rw [Nat.mul_one, Nat.add_zero] at d3
  have fz3 := r7 ms0.length
  rw [hln] at hm l1 hO
  have c3 := hm.c.2.2.2.1
  have c1 := hm.c.2.1
  have c4 := hm.c.2.2.2.2.1
  have hmp := hm.mp ms0.length m b0 hlast (by rw [hbs, List.reverse_cons, List.getElem?_append_right (by rw [List.length_reverse]; omega)]; simp only [List.length_reverse]; rw [show ms0.length - bs.length = 0 by omega]; rfl)
  have hwf0 := hm.gd.wf b0 (by rw [hbs]; exact List.mem_cons_self ..)
  have HMP : Hid (MpAt wb m b0 ∧ Blk.wf b0 ∧ nm.size ≤ maxLen ∧ (∀ x ∈ b0, x.1 ≠ nm) ∧ s.blocks = b0 :: bs) := ⟨hmp, hwf0, hs, hno, hbs⟩
  have hli : (ms0.length : Int) + 1 ≤ 9223372036854775807 := by unfold maxLen at l2; omega
  have hlv : (s.vars.length : Int) ≤ 9223372036854775806 := by have := HV.out; omega
  have HM : Hid (MemAt wb B rb tg s v0 (.slice ad s.vars.length cap) v2 (.slice (some ⟨g, 0, none⟩) (ms0.length + 1) cap3) v6 (ms0 ++ [m])) := hm
  have HO := (show Hid _ from hO)
  have hne0 : ¬ rb = w.heap.size := by have := HOL.out rb ((hO rb).2 (Or.inl rfl)); omega
  have hgl : g < w.heap.size := HOL.out g ((hO g).2 (Or.inr (Or.inr (Or.inr (Or.inr (Or.inl rfl))))))
  have hne1 : ¬ g = w.heap.size := by omega
  have hgr : ¬ g = rb := fun e => by have h1 := hm.t4 g rfl; have h2 := hm.t0; rw [e] at h1; omega
  clear h hb hbl hbs hs hno hm hO hmp hwf0 r6 r7 l1 l2 l3 l4 hg3 hml hlast
  cases m with
  | none =>
    have qn : ∀ W, (binOp BinOp.eql 98 (.map none) (.map none)).run Try.prog W = .ok (.bool true) W := fun W => run_eql_map_nil W 98 9 3 none Try.underlying98
    have qm : ∀ W : World, (Instr.makeMap 98 none).run Try.prog W = .ok (.map (some W.heap.size)) (W.alloc (.map #[] 0)) := fun W => rfl
    have hA2 : Below wb.heap.size wb (wb.alloc (.map #[] 0)) := below_new (Below.refl _ _) (Nat.le_refl _) _
    have hp3 := (HM.out.below hA2).put3 (i := ms0.length) (mb := wb.heap.size) (by simp) (at_new _ _) rfl (Nat.le_trans HM.out.lo (Nat.le_of_lt HM.out.rlt)) (fun b q e => by have := (HM.out.lt b q).2; omega)
    rw [List.set_append_right _ _ (Nat.le_refl _), Nat.sub_self] at hp3
    have hp3' : MemAt ((wb.alloc (.map #[] 0)).setCell ⟨g, ms0.length, none⟩ (.map (some wb.heap.size))) B rb (fun b => if b = wb.heap.size then 6 + ms0.length else tg b) s v0 (.slice ad s.vars.length cap) v2 (.slice (some ⟨g, 0, none⟩) (ms0.length + 1) cap3) v6 (ms0 ++ [some wb.heap.size]) ∧ Chg (Ow rb v0 (.slice ad s.vars.length cap) v2 (.slice (some ⟨g, 0, none⟩) (ms0.length + 1) cap3) v6 (ms0 ++ [none])) (wb.alloc (.map #[] 0)) ((wb.alloc (.map #[] 0)).setCell ⟨g, ms0.length, none⟩ (.map (some wb.heap.size))) := hp3
    have HP3 := (show Hid _ from hp3')
    have hgw : ¬ g = wb.heap.size := by omega
    have hrw : ¬ rb = wb.heap.size := Nat.ne_of_lt HM.out.rlt
    have hbw : ¬ w.heap.size = wb.heap.size := by omega
    have f3a : (wb.alloc (.map #[] 0)).frozen? ⟨g, ms0.length, none⟩ = false := by
      obtain ⟨_, _, _, _, _, _, r7⟩ := (HM.out.below hA2).r3.read rtMp.len
      exact r7 _
    have d3a := Sc.cells_below hA2 _ _ d3
    have HA2 : Hid (Below wb.heap.size wb (wb.alloc (.map #[] 0))) := hA2
    clear hp3 hp3' hA2
    go_enter Try.func41, Try.ntmps41
    go_upto_region 1 with fail
    rw [← hwb]
    clear hwb
    go_upto_region 4 with fail
    have hcm : (wb.alloc (.map #[] 0)).setCell ⟨g, ms0.length, none⟩ (.map (some wb.heap.size)) = (wb.setCell ⟨g, ms0.length, none⟩ (.map (some wb.heap.size))).alloc (.map #[] 0) := World.setCell_alloc_past _ _ _ _ (by omega)
    rw [← hcm]
    clear hcm
    generalize hw3 : (wb.alloc (.map #[] 0)).setCell ⟨g, ms0.length, none⟩ (.map (some wb.heap.size)) = w3 at *
    have HM3 : Hid (MemAt w3 B rb (fun b => if b = wb.heap.size then 6 + ms0.length else tg b) s v0 (.slice ad s.vars.length cap) v2 (.slice (some ⟨g, 0, none⟩) (ms0.length + 1) cap3) v6 (ms0 ++ [some wb.heap.size]) ∧ MpAt w3 (some wb.heap.size) b0) := by
      refine ⟨HP3.out.1, HP3.out.1.mp ms0.length _ b0 (by simp) ?_⟩
      have hml := HP3.out.1.ml
      rw [HMP.out.2.2.2.2] at hml ⊢
      rw [List.length_append, List.length_singleton, List.length_cons] at hml
      rw [List.reverse_cons, List.getElem?_append_right (by rw [List.length_reverse]; omega)]
      simp only [List.length_reverse]
      rw [show ms0.length - bs.length = 0 by omega]
      rfl
    have HCH : Hid (Chg (Ow rb v0 (.slice ad s.vars.length cap) v2 (.slice (some ⟨g, 0, none⟩) (ms0.length + 1) cap3) v6 (ms0 ++ [none])) wb w3) := (Chg.of_below HA2.out).trans HP3.out.2 (fun _ _ q => q)
    have HWF : Hid (∀ {w' : World} {tg' : Nat → Nat} {u1 : Value} (s' : Rz.RS), MemAt w' B rb tg' s' v0 u1 v2 (.slice (some ⟨g, 0, none⟩) (ms0.length + 1) cap3) v6 (ms0 ++ [some wb.heap.size]) → Chg (Ow rb v0 (.slice ad s.vars.length cap) v2 (.slice (some ⟨g, 0, none⟩) (ms0.length + 1) cap3) v6 (ms0 ++ [some wb.heap.size])) w3 w' → (∀ b, Ow rb v0 u1 v2 (.slice (some ⟨g, 0, none⟩) (ms0.length + 1) cap3) v6 (ms0 ++ [some wb.heap.size]) b → Ow rb v0 (.slice ad s.vars.length cap) v2 (.slice (some ⟨g, 0, none⟩) (ms0.length + 1) cap3) v6 (ms0 ++ [some wb.heap.size]) b ∨ w3.heap.size ≤ b) → Went wb B rb O s' v6 w') := by
      intro w' tg' u1 s' k1 k2 k3
      have key : ∀ b, Ow rb v0 (.slice ad s.vars.length cap) v2 (.slice (some ⟨g, 0, none⟩) (ms0.length + 1) cap3) v6 (ms0 ++ [some wb.heap.size]) b → Ow rb v0 (.slice ad s.vars.length cap) v2 (.slice (some ⟨g, 0, none⟩) (ms0.length + 1) cap3) v6 (ms0 ++ [none]) b ∨ wb.heap.size ≤ b := by
        rintro b (q | q | q | q | q | q | ⟨i, q⟩)
        · exact Or.inl (Or.inl q)
        · exact Or.inl (Or.inr (Or.inl q))
        · exact Or.inl (Or.inr (Or.inr (Or.inl q)))
        · exact Or.inl (Or.inr (Or.inr (Or.inr (Or.inl q))))
        · exact Or.inl (Or.inr (Or.inr (Or.inr (Or.inr (Or.inl q)))))
        · exact Or.inl (Or.inr (Or.inr (Or.inr (Or.inr (Or.inr (Or.inl q))))))
        · rcases Nat.lt_or_ge i ms0.length with c | c
          · rw [List.getElem?_append_left c] at q
            exact Or.inl (Or.inr (Or.inr (Or.inr (Or.inr (Or.inr (Or.inr ⟨i, by rw [List.getElem?_append_left c]; exact q⟩))))))
          · rw [List.getElem?_append_right c, List.getElem?_singleton] at q
            split at q
            · cases q; exact Or.inr (Nat.le_refl _)
            · cases q
      refine went_of HO.out k1 (HCH.out.trans k2 (fun i hi q => ?_)) (fun b q => ?_)
      · rcases key i q with c | c
        · exact c
        · omega
      · rcases k3 b q with c | c
        · exact key b c
        · exact Or.inr (Nat.le_trans HCH.out.size c)
    have d3' : w3.cell? ⟨g, ms0.length, none⟩ = some (.map (some wb.heap.size)) := by rw [← hw3]; exact World.cell?_setCell_same _ _ _ d3a
    have c3' := HP3.out.1.c.2.2.2.1
    have c1' := HP3.out.1.c.2.1
    have c4' := HP3.out.1.c.2.2.2.2.1
    have y1 : w3.cell? ⟨w.heap.size, 1, none⟩ = some (.int .i64 pl) := by rw [← hw3, World.cell?_setCell_other _ _ _ _ (by intro e; have e2 := congrArg Addr.block e; simp only at e2; omega)]; exact Sc.cells_below HA2.out _ _ b1
    have y2 : w3.cell? ⟨w.heap.size, 2, none⟩ = some (.string nm) := by rw [← hw3, World.cell?_setCell_other _ _ _ _ (by intro e; have e2 := congrArg Addr.block e; simp only at e2; omega)]; exact Sc.cells_below HA2.out _ _ b2
    have HNE : Hid (w.heap.size ≠ wb.heap.size ∧ rb ≠ wb.heap.size) := ⟨by omega, by omega⟩
    clear hw3 d3 d3a f3a fz3 c3 c1 c4 b1 b2 qn qm hgw hrw hbw hne0 hne1 hgr hgl hbox
    generalize wb.heap.size = mb at *
    -- w3: the world at region 4; HM3: its resolver; d3', c1', c3', c4', y1, y2: what is read
    have hput := (show MpAt w3.drew (some mb) b0 from (MpAt.kept HM3.out.2 (fun _ _ => rfl))).put HMP.out.2.1 HMP.out.2.2.1 HMP.out.2.2.2.1 s.vars.length
    obtain ⟨w4, p1, p2, p3, p4⟩ := hput
    have hname := HM3.out.1.weak.name (w' := w4) (i := ms0.length) (mb := mb) (b1 := (nm, s.vars.length) :: b0) (by simp) (by simp) HMP.out.2.2.2.2 ⟨p3.1, p3.2, p3.3, p3.4, p3.5⟩ p2
    have HN := (show Hid _ from hname)
    have hk4 : ∀ a u, w3.cell? a = some u → a.block ≠ mb → w4.cell? a = some u := fun a u hu ha => by
      rw [World.cell?_of_block (w := w3) (p3.5 a.block (World.block_lt_of_cell? w3 _ hu) (fun e => ha (by cases e; rfl)))]
      exact hu
    have x1 := hk4 _ _ y1 (by have := HNE.out.1; simp only; omega)
    have x2 := hk4 _ _ y2 (by have := HNE.out.1; simp only; omega)
    have x3 := hk4 _ _ c1' (by have := HNE.out.2; simp only; omega)
    have x4 := hk4 _ _ c4' (by have := HNE.out.2; simp only; omega)
    clear p2 p3 p4 hname hk4
    go_region
    go_upto_region 5 with fail
    clear p1 y1 y2 c1' c3' c4' d3'
    have HMW := HN.out.1
    have hne4 : ¬ rb = w4.heap.size := Nat.ne_of_lt HMW.rlt
    have HAL : Hid (Below w4.heap.size w4 (w4.drew.alloc (.cells #[.string nm, .int .i64 pl, .int .i64 kd, .int .i64 (s.fn : Int), .int .i64 (slot : Int), .bool false] 44))) := ((Below.refl w4.heap.size w4).drew).alloc (Nat.le_refl _) _
    have HOW : Hid (OwnR vrC 6 44 B (w4.drew.alloc (.cells #[.string nm, .int .i64 pl, .int .i64 kd, .int .i64 (s.fn : Int), .int .i64 (slot : Int), .bool false] 44)) (.slice ad s.vars.length cap) s.vars) := HMW.r1.below HAL.out
    have HBB : Hid (B ≤ w4.heap.size) := Nat.le_trans HMW.lo (Nat.le_of_lt HMW.rlt)
    have g1 : (w4.alloc (.cells #[.string nm, .int .i64 pl, .int .i64 kd, .int .i64 (s.fn : Int), .int .i64 (slot : Int), .bool false] 44)).cell? ⟨rb, 1, none⟩ = some (.slice ad s.vars.length cap) := Sc.cells_below ((Below.refl w4.heap.size w4).alloc (Nat.le_refl _) _) _ _ x3
    have HBX : Hid (((s.vars.length + 1) + (s.vars.length + 1) / 4 + 192) * 56 ≤ 281474976710656 ∧ s.vars.length + 1 ≤ maxLen) := by have := HV.out; exact ⟨by omega, by unfold maxLen; omega⟩
    have HFZ : Hid (∀ w5, Chg (fun b => (Value.slice ad s.vars.length cap).ownBlock = some b) w4 w5 → w5.cell? ⟨rb, 1, none⟩ = some (.slice ad s.vars.length cap) ∧ w5.frozen? ⟨rb, 1, none⟩ = false) := fun w5 h5 => by
      have hrs : ¬ (Value.slice ad s.vars.length cap).ownBlock = some rb := fun q => by have := HN.out.1.t2 rb q; have := HN.out.1.t0; omega
      exact ⟨h5.cell x3 hrs, by rw [World.frozen?_of_block (w := w4) (h5.block rb HN.out.1.rlt hrs)]; exact frozen_of_row w4 rb 1 _ 54 HN.out.1.box⟩
    clear HMW
    go_region_law ((refine step_row rtVr (by rfl) _ _ (by rfl) B (.slice ad s.vars.length cap) s.vars (by rfl) (by exact HOW.out) w4.heap.size ⟨nm, pl, kd, s.fn, slot, false⟩ #[.string nm, .int .i64 pl, .int .i64 kd, .int .i64 (s.fn : Int), .int .i64 (slot : Int), .bool false] 44 (by rfl) (by exact at_new _ _) (by rfl) (by exact HBX.out.2) (by exact HBX.out.1) (by exact Nat.le_trans HBB.out HAL.out.size) ?_; intro g5 cap5 w5 ho5 hg5 hl5; have HO5 : Hid (OwnR vrC 6 44 B w5 (.slice (some ⟨g5, 0, none⟩) (s.vars.length + 1) cap5) (s.vars ++ [⟨nm, pl, kd, s.fn, slot, false⟩]) ∧ Chg (fun b => (Value.slice ad s.vars.length cap).ownBlock = some b) w4 w5 ∧ ((Value.slice ad s.vars.length cap).ownBlock = some g5 ∨ w4.heap.size ≤ g5)) := ⟨ho5, (Chg.of_below HAL.out).trans (Chg.of_grown (S := fun b => (Value.slice ad s.vars.length cap).ownBlock = some b) hg5 (fun k q => q)) (fun _ _ q => q), hl5.imp id (fun q => by rw [q]; exact HAL.out.size)⟩; obtain ⟨z1, z2⟩ := HFZ.out w5 HO5.out.2.1; clear ho5 hg5 hl5))
    all_goals
      have hV := HN.out.1.var HO5.out.1 HO5.out.2.1 HO5.out.2.2
      have hW : Went w B rb O (putVarP nm pl kd slot s) v6 (w5.setCell ⟨rb, 1, none⟩ (.slice (some ⟨g5, 0, none⟩) (s.vars.length + 1) cap5)) := by
        rw [HPI.out]
        refine Went.behind HB.out (HWF.out _ (hV.1.full HGD.out) ?_ ?_)
        · exact HN.out.2.trans hV.2.1 (fun i _ q => q)
        · intro b q
          rcases hV.2.2 b q with c | c
          · exact Or.inl c
          · exact Or.inr (Nat.le_trans (by have := HN.out.2.size; exact this) c)
      have HWW : Hid (Went w B rb O (putVarP nm pl kd slot s) v6 (w5.setCell ⟨rb, 1, none⟩ (.slice (some ⟨g5, 0, none⟩) (s.vars.length + 1) cap5))) := hW
      clear hW hV HO5 HFZ HOW HBB HAL HBX g1 z1 z2 x1 x2 x3 x4
      go_wp2_with fail
      go_end0
      exact ⟨rfl, by first | exact HWW.out | exact Went.drew HWW.out⟩
  | some mb =>
    have qs : ∀ W, (binOp BinOp.eql 98 (.map (some mb)) (.map none)).run Try.prog W = .ok (.bool false) W := fun W => run_eql_map_nil W 98 9 3 (some mb) Try.underlying98
    have hmbl : mb < w.heap.size := HOL.out mb ((HO.out mb).2 (Or.inr (Or.inr (Or.inr (Or.inr (Or.inr (Or.inr ⟨ms0.length, by simp⟩)))))))
    have hmbr : rb ≠ mb := fun e => by have h1 := (HM.out.tm ms0.length mb (by simp)).1; have h2 := HM.out.t0; rw [e] at h2; omega
    go_enter Try.func41, Try.ntmps41
    go_upto_region 1 with fail
    rw [← hwb]
    clear hwb
    go_upto_region 4 with fail
    have HM3 : Hid (MemAt wb B rb tg s v0 (.slice ad s.vars.length cap) v2 (.slice (some ⟨g, 0, none⟩) (ms0.length + 1) cap3) v6 (ms0 ++ [some mb]) ∧ MpAt wb (some mb) b0) := ⟨HM.out, HMP.out.1⟩
    have HWF : Hid (∀ {w' : World} {tg' : Nat → Nat} {u1 : Value} (s' : Rz.RS), MemAt w' B rb tg' s' v0 u1 v2 (.slice (some ⟨g, 0, none⟩) (ms0.length + 1) cap3) v6 (ms0 ++ [some mb]) → Chg (Ow rb v0 (.slice ad s.vars.length cap) v2 (.slice (some ⟨g, 0, none⟩) (ms0.length + 1) cap3) v6 (ms0 ++ [some mb])) wb w' → (∀ b, Ow rb v0 u1 v2 (.slice (some ⟨g, 0, none⟩) (ms0.length + 1) cap3) v6 (ms0 ++ [some mb]) b → Ow rb v0 (.slice ad s.vars.length cap) v2 (.slice (some ⟨g, 0, none⟩) (ms0.length + 1) cap3) v6 (ms0 ++ [some mb]) b ∨ wb.heap.size ≤ b) → Went wb B rb O s' v6 w') := fun s' k1 k2 k3 => went_of HO.out k1 k2 k3
    have d3' := d3
    have c3' := c3
    have c1' := c1
    have c4' := c4
    have y1 := b1
    have y2 := b2
    have HNE : Hid (w.heap.size ≠ mb ∧ rb ≠ mb) := ⟨by omega, hmbr⟩
    clear d3 fz3 c3 c1 c4 b1 b2 qs hmbl hmbr hne0 hne1 hgr hgl hbox
    generalize hw3 : wb = w3 at *
    clear hw3
    -- w3: the world at region 4; HM3: its resolver; d3', c1', c3', c4', y1, y2: what is read
    have hput := (show MpAt w3.drew (some mb) b0 from (MpAt.kept HM3.out.2 (fun _ _ => rfl))).put HMP.out.2.1 HMP.out.2.2.1 HMP.out.2.2.2.1 s.vars.length
    obtain ⟨w4, p1, p2, p3, p4⟩ := hput
    have hname := HM3.out.1.weak.name (w' := w4) (i := ms0.length) (mb := mb) (b1 := (nm, s.vars.length) :: b0) (by simp) (by simp) HMP.out.2.2.2.2 ⟨p3.1, p3.2, p3.3, p3.4, p3.5⟩ p2
    have HN := (show Hid _ from hname)
    have hk4 : ∀ a u, w3.cell? a = some u → a.block ≠ mb → w4.cell? a = some u := fun a u hu ha => by
      rw [World.cell?_of_block (w := w3) (p3.5 a.block (World.block_lt_of_cell? w3 _ hu) (fun e => ha (by cases e; rfl)))]
      exact hu
    have x1 := hk4 _ _ y1 (by have := HNE.out.1; simp only; omega)
    have x2 := hk4 _ _ y2 (by have := HNE.out.1; simp only; omega)
    have x3 := hk4 _ _ c1' (by have := HNE.out.2; simp only; omega)
    have x4 := hk4 _ _ c4' (by have := HNE.out.2; simp only; omega)
    clear p2 p3 p4 hname hk4
    go_region
    go_upto_region 5 with fail
    clear p1 y1 y2 c1' c3' c4' d3'
    have HMW := HN.out.1
    have hne4 : ¬ rb = w4.heap.size := Nat.ne_of_lt HMW.rlt
    have HAL : Hid (Below w4.heap.size w4 (w4.drew.alloc (.cells #[.string nm, .int .i64 pl, .int .i64 kd, .int .i64 (s.fn : Int), .int .i64 (slot : Int), .bool false] 44))) := ((Below.refl w4.heap.size w4).drew).alloc (Nat.le_refl _) _
    have HOW : Hid (OwnR vrC 6 44 B (w4.drew.alloc (.cells #[.string nm, .int .i64 pl, .int .i64 kd, .int .i64 (s.fn : Int), .int .i64 (slot : Int), .bool false] 44)) (.slice ad s.vars.length cap) s.vars) := HMW.r1.below HAL.out
    have HBB : Hid (B ≤ w4.heap.size) := Nat.le_trans HMW.lo (Nat.le_of_lt HMW.rlt)
    have g1 : (w4.alloc (.cells #[.string nm, .int .i64 pl, .int .i64 kd, .int .i64 (s.fn : Int), .int .i64 (slot : Int), .bool false] 44)).cell? ⟨rb, 1, none⟩ = some (.slice ad s.vars.length cap) := Sc.cells_below ((Below.refl w4.heap.size w4).alloc (Nat.le_refl _) _) _ _ x3
    have HBX : Hid (((s.vars.length + 1) + (s.vars.length + 1) / 4 + 192) * 56 ≤ 281474976710656 ∧ s.vars.length + 1 ≤ maxLen) := by have := HV.out; exact ⟨by omega, by unfold maxLen; omega⟩
    have HFZ : Hid (∀ w5, Chg (fun b => (Value.slice ad s.vars.length cap).ownBlock = some b) w4 w5 → w5.cell? ⟨rb, 1, none⟩ = some (.slice ad s.vars.length cap) ∧ w5.frozen? ⟨rb, 1, none⟩ = false) := fun w5 h5 => by
      have hrs : ¬ (Value.slice ad s.vars.length cap).ownBlock = some rb := fun q => by have := HN.out.1.t2 rb q; have := HN.out.1.t0; omega
      exact ⟨h5.cell x3 hrs, by rw [World.frozen?_of_block (w := w4) (h5.block rb HN.out.1.rlt hrs)]; exact frozen_of_row w4 rb 1 _ 54 HN.out.1.box⟩
    clear HMW
    go_region_law ((refine step_row rtVr (by rfl) _ _ (by rfl) B (.slice ad s.vars.length cap) s.vars (by rfl) (by exact HOW.out) w4.heap.size ⟨nm, pl, kd, s.fn, slot, false⟩ #[.string nm, .int .i64 pl, .int .i64 kd, .int .i64 (s.fn : Int), .int .i64 (slot : Int), .bool false] 44 (by rfl) (by exact at_new _ _) (by rfl) (by exact HBX.out.2) (by exact HBX.out.1) (by exact Nat.le_trans HBB.out HAL.out.size) ?_; intro g5 cap5 w5 ho5 hg5 hl5; have HO5 : Hid (OwnR vrC 6 44 B w5 (.slice (some ⟨g5, 0, none⟩) (s.vars.length + 1) cap5) (s.vars ++ [⟨nm, pl, kd, s.fn, slot, false⟩]) ∧ Chg (fun b => (Value.slice ad s.vars.length cap).ownBlock = some b) w4 w5 ∧ ((Value.slice ad s.vars.length cap).ownBlock = some g5 ∨ w4.heap.size ≤ g5)) := ⟨ho5, (Chg.of_below HAL.out).trans (Chg.of_grown (S := fun b => (Value.slice ad s.vars.length cap).ownBlock = some b) hg5 (fun k q => q)) (fun _ _ q => q), hl5.imp id (fun q => by rw [q]; exact HAL.out.size)⟩; obtain ⟨z1, z2⟩ := HFZ.out w5 HO5.out.2.1; clear ho5 hg5 hl5))
    all_goals
      have hV := HN.out.1.var HO5.out.1 HO5.out.2.1 HO5.out.2.2
      have hW : Went w B rb O (putVarP nm pl kd slot s) v6 (w5.setCell ⟨rb, 1, none⟩ (.slice (some ⟨g5, 0, none⟩) (s.vars.length + 1) cap5)) := by
        rw [HPI.out]
        refine Went.behind HB.out (HWF.out _ (hV.1.full HGD.out) ?_ ?_)
        · exact HN.out.2.trans hV.2.1 (fun i _ q => q)
        · intro b q
          rcases hV.2.2 b q with c | c
          · exact Or.inl c
          · exact Or.inr (Nat.le_trans (by have := HN.out.2.size; exact this) c)
      have HWW : Hid (Went w B rb O (putVarP nm pl kd slot s) v6 (w5.setCell ⟨rb, 1, none⟩ (.slice (some ⟨g5, 0, none⟩) (s.vars.length + 1) cap5))) := hW
      clear hW hV HO5 HFZ HOW HBB HAL HBX g1 z1 z2 x1 x2 x3 x4
      go_wp2_with fail
      go_end0
      exact ⟨rfl, by first | exact HWW.out | exact Went.drew HWW.out⟩

end Go.Proofs.Ytihmdcdifakepab.Rv
