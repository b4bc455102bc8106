/- The resolver's walk: use. -/
import Derived.Test.YtihmdcdifakepabB11
namespace Go.Proofs.Ytihmdcdifakepab.Rv
open Go.RowKit Go.Proofs.Ytihmdcdifakepab.Sc Go.Proofs.Ytihmdcdifakepab.Rz
set_option linter.unusedVariables false

/-- is it a builtin's name? -/
def bi (nm : ByteArray) : Bool := decide (0 ≤ idxI nm)

/-- how use may end -/
def UOut (w : World) (B rb : Nat) (O : Nat → Prop) (v6 : Value) (r : Except Rz.Er (Option Nat × Rz.RS)) (e : Ending) (w' : World) : Prop :=
  match r with
  | .ok (v, s') => e = .returned (.int .i64 ((v.map (fun i => (i : Int))).getD (-1))) ∧ Went w B rb O s' v6 w'
  | .error er => e = .panicked (thrown er) ∧ Chg O w w'

theorem gd_uses {s : Rz.RS} (h : Gd s) (u : List Rz.Us) : Gd { s with uses := u } := ⟨h.fnl, h.blk, h.wf⟩

/-- the use is laid: its place p -/
theorem MemAt.use {w w5 : World} {B rb : Nat} {tg : Nat → Nat} {s : Rz.RS} {v0 v1 v3 v6 : Value} {ms : List (Option Nat)} {ad : Option Addr} {cap : Nat} (h : MemAt w B rb tg s v0 v1 (.slice ad s.uses.length cap) v3 v6 ms) {g5 cap5 : Nat} {u : Rz.Us}
    (ho : OwnR usC 2 42 B w5 (.slice (some ⟨g5, 0, none⟩) (s.uses.length + 1) cap5) (s.uses ++ [u])) (hc : Chg (fun b => (Value.slice ad s.uses.length cap).ownBlock = some b) w w5) (hg : (Value.slice ad s.uses.length cap).ownBlock = some g5 ∨ w.heap.size ≤ g5) :
    MemAt (w5.setCell ⟨rb, 2, none⟩ (.slice (some ⟨g5, 0, none⟩) (s.uses.length + 1) cap5)) B rb (retag tg (.slice (some ⟨g5, 0, none⟩) (s.uses.length + 1) cap5) 3) { s with uses := s.uses ++ [u] } v0 v1 (.slice (some ⟨g5, 0, none⟩) (s.uses.length + 1) cap5) v3 v6 ms ∧ Chg (Ow rb v0 v1 (.slice ad s.uses.length cap) v3 v6 ms) w (w5.setCell ⟨rb, 2, none⟩ (.slice (some ⟨g5, 0, none⟩) (s.uses.length + 1) cap5)) ∧ ∀ b, Ow rb v0 v1 (.slice (some ⟨g5, 0, none⟩) (s.uses.length + 1) cap5) v3 v6 ms b → Ow rb v0 v1 (.slice ad s.uses.length cap) v3 v6 ms b ∨ w.heap.size ≤ b :=
  h.row2 hc ho (fun b q => by
    simp [Value.ownBlock] at q
    subst q
    exact hg) (gd_uses h.gd _)

set_option maxRecDepth 100000 in
set_option maxHeartbeats 4000000 in
theorem use_any (w : World) (B rb : Nat) (O : Nat → Prop) (s : Rz.RS) (v6 : Value) (h : Mem w B rb O s v6) (hb : bg s ≤ 1000000000) (kind pl num : Int) (nm op : ByteArray) (kv : Value) (hs : nm.size ≤ maxLen) :
    Calls Try.prog 49 #[.pointer (some ⟨rb, 0, none⟩), .agg #[.int .i64 kind, .int .i64 pl, .string nm, .int .u64 num, .string op, kv]] w (UOut w B rb O v6 (useP bi nm pl s)) := by
  obtain ⟨wb, hwb⟩ : ∃ wb, wb = w.alloc (.cells #[.int .i64 kind, .int .i64 pl, .string nm, .int .u64 num, .string op, kv] 25) := ⟨_, rfl⟩
  have hbl : Below w.heap.size w wb := by rw [hwb]; exact below_new (Below.refl _ _) (Nat.le_refl _) _
  have b1 : wb.cell? ⟨w.heap.size, 1, none⟩ = some (.int .i64 pl) := by rw [hwb]; exact box_new w _ _ 1 _ rfl
  have b2 : wb.cell? ⟨w.heap.size, 2, none⟩ = some (.string nm) := by rw [hwb]; exact box_new w _ _ 2 _ rfl
  have kf := find_any wb B rb O s v6 (h.below hbl) nm hs
  have HM : Hid (Mem w B rb O s v6) := h
  have HB : Hid (Below w.heap.size w wb) := hbl
  have HU : Hid (s.uses.length ≤ 1000000000) := by show _ ≤ _; unfold bg at hb; omega
  have H1 : Hid (wb.cell? ⟨w.heap.size, 1, none⟩ = some (.int .i64 pl)) := b1
  clear h hb hbl hs
  cases hf : findP nm s.blocks with
  | none =>
    cases hbi : bi nm with
    | false =>
      have hup : useP bi nm pl s = .error (pl, 73) := by unfold useP; rw [hf, hbi]; rfl
      rw [hup]
      have e2 : foundB nm s = false := by unfold foundB; rw [hf]; exact hbi
      rw [e2] at kf
      generalize placeI nm s = P at *
      clear hup hf hbi e2
      go_enter Try.func49, Try.ntmps49
      go_upto_region 1 with fail
      rw [← hwb]
      clear hwb
      go_wp2_with fail
      refine kf.mono ?_
      rintro e w1 ⟨rfl, hb1⟩
      have b1' := Sc.cells_below hb1 _ _ H1.out
      have HC : Hid (Chg O w w1) := (Chg.of_below HB.out).trans (Chg.of_below (S := O) hb1) (fun _ _ q => q)
      clear kf hb1 b1 b2
      go_wp2_with fail
      exact ⟨rfl, rfl, HC.out⟩
    | true =>
      have hup : useP bi nm pl s = .ok (none, { s with uses := s.uses ++ [⟨pl, -1⟩] }) := by unfold useP; rw [hf, hbi]; rfl
      rw [hup]
      have e1 : placeI nm s = -1 := by unfold placeI; rw [hf]; rfl
      have e2 : foundB nm s = true := by unfold foundB; rw [hf]; exact hbi
      rw [e1, e2] at kf
      clear hup hf hbi e1 e2
      go_enter Try.func49, Try.ntmps49
      go_upto_region 1 with fail
      rw [← hwb]
      clear hwb
      go_wp2_with fail
      refine kf.mono ?_
      rintro e w1 ⟨rfl, hb1⟩
      have b1' := Sc.cells_below hb1 _ _ H1.out
      have hbw : Below w.heap.size w w1 := HB.out.trans (hb1.mono HB.out.size)
      have hm1 := HM.out.below hbw
      have HO1 : Hid (∀ b, O b → b < w.heap.size) := fun b q => (HM.out.lt b q).2
      have HBW : Hid (Below w.heap.size w w1) := hbw
      obtain ⟨tg, v0, v1, v2, v3, ms, h, hO⟩ := hm1
      obtain ⟨ad, cap, rfl, l1, l2, hg⟩ := own_slice h.r2
      have HMA : Hid (MemAt w1 B rb tg s v0 v1 (.slice ad s.uses.length cap) v3 v6 ms) := h
      have HOO := (show Hid _ from hO)
      have c2 := h.c.2.2.1
      have hne : ¬ rb = w1.heap.size := Nat.ne_of_lt h.rlt
      have HAL : Hid (Below w1.heap.size w1 (w1.drew.alloc (.cells #[.int .i64 pl, .int .i64 (-1)] 42))) := ((Below.refl w1.heap.size w1).drew).alloc (Nat.le_refl _) _
      have HOW : Hid (OwnR usC 2 42 B (w1.drew.alloc (.cells #[.int .i64 pl, .int .i64 (-1)] 42)) (.slice ad s.uses.length cap) s.uses) := h.r2.below HAL.out
      have HBB : Hid (B ≤ w1.heap.size) := Nat.le_trans h.lo (Nat.le_of_lt h.rlt)
      have g1 : (w1.alloc (.cells #[.int .i64 pl, .int .i64 (-1)] 42)).cell? ⟨rb, 2, none⟩ = some (.slice ad s.uses.length cap) := Sc.cells_below ((Below.refl w1.heap.size w1).alloc (Nat.le_refl _) _) _ _ c2
      have HBX : Hid (((s.uses.length + 1) + (s.uses.length + 1) / 4 + 192) * 16 ≤ 281474976710656 ∧ s.uses.length + 1 ≤ maxLen) := by have := HU.out; exact ⟨by omega, by unfold maxLen; omega⟩
      have HFZ : Hid (∀ w5, Chg (fun b => (Value.slice ad s.uses.length cap).ownBlock = some b) w1 w5 → w5.cell? ⟨rb, 2, none⟩ = some (.slice ad s.uses.length cap) ∧ w5.frozen? ⟨rb, 2, none⟩ = false) := fun w5 h5 => by
        have hrs : ¬ (Value.slice ad s.uses.length cap).ownBlock = some rb := fun q => by have := HMA.out.t3 rb q; have := HMA.out.t0; omega
        exact ⟨h5.cell c2 hrs, by rw [World.frozen?_of_block (w := w1) (h5.block rb HMA.out.rlt hrs)]; exact HMA.out.f 2⟩
      clear kf hb1 b1 b2 hbw h hO l1 l2 hg HM H1 HB
      go_wp2_with fail
      go_region_law ((refine step_row rtUs (by rfl) _ _ (by rfl) B (.slice ad s.uses.length cap) s.uses (by rfl) (by exact HOW.out) w1.heap.size ⟨pl, (-1)⟩ #[.int .i64 pl, .int .i64 (-1)] 42 (by rfl) (by exact at_new _ _) (by rfl) (by exact HBX.out.2) (by exact HBX.out.1) (by exact Nat.le_trans HBB.out HAL.out.size) ?_; intro g5 cap5 w5 ho5 hg5 hl5; have HO : Hid (OwnR usC 2 42 B w5 (.slice (some ⟨g5, 0, none⟩) (s.uses.length + 1) cap5) (s.uses ++ [⟨pl, (-1)⟩]) ∧ Chg (fun b => (Value.slice ad s.uses.length cap).ownBlock = some b) w1 w5 ∧ ((Value.slice ad s.uses.length cap).ownBlock = some g5 ∨ w1.heap.size ≤ g5)) := ⟨ho5, (Chg.of_below HAL.out).trans (Chg.of_grown (S := fun b => (Value.slice ad s.uses.length cap).ownBlock = some b) hg5 (fun k q => q)) (fun _ _ q => q), hl5.imp id (fun q => by rw [q]; exact HAL.out.size)⟩; obtain ⟨z1, z2⟩ := HFZ.out w5 HO.out.2.1; clear ho5 hg5 hl5))
      all_goals
        have hU := HMA.out.use HO.out.1 HO.out.2.1 HO.out.2.2
        generalize hwq : w5.setCell ⟨rb, 2, none⟩ (.slice (some ⟨g5, 0, none⟩) (s.uses.length + 1) cap5) = wq at *
        have HUU := (show Hid _ from hU)
        clear hU HO HFZ HOW HBB HAL HBX g1 z1 z2 c2 hwq
        go_wp2_with fail
        go_region
        all_goals
          go_wp2_with fail
          go_ret
          refine ⟨rfl, Went.drew ?_⟩
          exact (went_of HOO.out HUU.out.1 HUU.out.2.1 HUU.out.2.2).behind HBW.out
  | some v =>
    have HF : Hid (findP nm s.blocks = some v) := hf
    have HVL : Hid (v < s.vars.length) := find_lt nm _ s.blocks v HM.out.gd.blk hf
    have e1 : placeI nm s = (v : Int) := by unfold placeI; rw [hf]; rfl
    have e2 : foundB nm s = true := by unfold foundB; rw [hf]; rfl
    rw [e1, e2] at kf
    clear hf e1 e2
    go_enter Try.func49, Try.ntmps49
    go_upto_region 1 with fail
    rw [← hwb]
    clear hwb
    go_wp2_with fail
    refine kf.mono ?_
    rintro e w1 ⟨rfl, hb1⟩
    have b1' := Sc.cells_below hb1 _ _ H1.out
    have hbw : Below w.heap.size w w1 := HB.out.trans (hb1.mono HB.out.size)
    have hm1 := HM.out.below hbw
    have HO1 : Hid (∀ b, O b → b < w.heap.size) := fun b q => (HM.out.lt b q).2
    have HBW : Hid (Below w.heap.size w w1) := hbw
    obtain ⟨tg, v0, v1, v2, v3, ms, h, hO⟩ := hm1
    obtain ⟨ad, cap, rfl, l1, l2, hg⟩ := own_slice h.r2
    have HMA : Hid (MemAt w1 B rb tg s v0 v1 (.slice ad s.uses.length cap) v3 v6 ms) := h
    have HOO := (show Hid _ from hO)
    have c2 := h.c.2.2.1
    have hne : ¬ rb = w1.heap.size := Nat.ne_of_lt h.rlt
    have HAL : Hid (Below w1.heap.size w1 (w1.drew.alloc (.cells #[.int .i64 pl, .int .i64 (v : Int)] 42))) := ((Below.refl w1.heap.size w1).drew).alloc (Nat.le_refl _) _
    have HOW : Hid (OwnR usC 2 42 B (w1.drew.alloc (.cells #[.int .i64 pl, .int .i64 (v : Int)] 42)) (.slice ad s.uses.length cap) s.uses) := h.r2.below HAL.out
    have HBB : Hid (B ≤ w1.heap.size) := Nat.le_trans h.lo (Nat.le_of_lt h.rlt)
    have g1 : (w1.alloc (.cells #[.int .i64 pl, .int .i64 (v : Int)] 42)).cell? ⟨rb, 2, none⟩ = some (.slice ad s.uses.length cap) := Sc.cells_below ((Below.refl w1.heap.size w1).alloc (Nat.le_refl _) _) _ _ c2
    have HBX : Hid (((s.uses.length + 1) + (s.uses.length + 1) / 4 + 192) * 16 ≤ 281474976710656 ∧ s.uses.length + 1 ≤ maxLen) := by have := HU.out; exact ⟨by omega, by unfold maxLen; omega⟩
    have HFZ : Hid (∀ w5, Chg (fun b => (Value.slice ad s.uses.length cap).ownBlock = some b) w1 w5 → w5.cell? ⟨rb, 2, none⟩ = some (.slice ad s.uses.length cap) ∧ w5.frozen? ⟨rb, 2, none⟩ = false) := fun w5 h5 => by
      have hrs : ¬ (Value.slice ad s.uses.length cap).ownBlock = some rb := fun q => by have := HMA.out.t3 rb q; have := HMA.out.t0; omega
      exact ⟨h5.cell c2 hrs, by rw [World.frozen?_of_block (w := w1) (h5.block rb HMA.out.rlt hrs)]; exact HMA.out.f 2⟩
    clear kf hb1 b1 b2 hbw h hO l1 l2 hg HM H1 HB
    go_wp2_with fail
    go_region_law ((refine step_row rtUs (by rfl) _ _ (by rfl) B (.slice ad s.uses.length cap) s.uses (by rfl) (by exact HOW.out) w1.heap.size ⟨pl, (v : Int)⟩ #[.int .i64 pl, .int .i64 (v : Int)] 42 (by rfl) (by exact at_new _ _) (by rfl) (by exact HBX.out.2) (by exact HBX.out.1) (by exact Nat.le_trans HBB.out HAL.out.size) ?_; intro g5 cap5 w5 ho5 hg5 hl5; have HO : Hid (OwnR usC 2 42 B w5 (.slice (some ⟨g5, 0, none⟩) (s.uses.length + 1) cap5) (s.uses ++ [⟨pl, (v : Int)⟩]) ∧ Chg (fun b => (Value.slice ad s.uses.length cap).ownBlock = some b) w1 w5 ∧ ((Value.slice ad s.uses.length cap).ownBlock = some g5 ∨ w1.heap.size ≤ g5)) := ⟨ho5, (Chg.of_below HAL.out).trans (Chg.of_grown (S := fun b => (Value.slice ad s.uses.length cap).ownBlock = some b) hg5 (fun k q => q)) (fun _ _ q => q), hl5.imp id (fun q => by rw [q]; exact HAL.out.size)⟩; obtain ⟨z1, z2⟩ := HFZ.out w5 HO.out.2.1; clear ho5 hg5 hl5))
    all_goals
      have hU := HMA.out.use HO.out.1 HO.out.2.1 HO.out.2.2
      generalize hwq : w5.setCell ⟨rb, 2, none⟩ (.slice (some ⟨g5, 0, none⟩) (s.uses.length + 1) cap5) = wq at *
      have HUU := (show Hid _ from hU)
      clear hU HO HFZ HOW HBB HAL HBX g1 z1 z2 c2 hwq
      have hbb := Went.behind HBW.out (went_of HOO.out HUU.out.1 HUU.out.2.1 HUU.out.2.2)
      have HBB2 := (show Hid _ from hbb)
      obtain ⟨ad1, cap1, e1, l1, l2, hg1⟩ := own_slice HUU.out.1.r1
      have hvl := HVL.out
      obtain ⟨gv, rfl⟩ := hg1 (by intro e; simp only at e; rw [e] at hvl; simp at hvl)
      simp only at e1 l1
      subst e1
      obtain ⟨_, _, _, _, _, r6, r7⟩ := HUU.out.1.r1.read rtVr.len
      have hx : s.vars[v]? = some (s.vars[v]'hvl) := List.getElem?_eq_getElem hvl
      have d3 := r6 v _ hx 3 _ rfl
      have d5 := r6 v _ hx 5 _ rfl
      have fz := r7 (v * 6 + 5)
      have c1 := HUU.out.1.c.2.1
      have c4 := HUU.out.1.c.2.2.2.2.1
      have hvi : (v : Int) < s.vars.length := by omega
      have hv0 : (0 : Int) ≤ (v : Int) := by omega
      have hlim : (s.vars.length : Int) ≤ 9223372036854775807 := by unfold maxLen at l2; omega
      have hput := HUU.out.1.put1 (i := v) (j := 5) (y := s.vars[v]) (y' := { s.vars[v] with cap := true }) (u := .bool true) hx (by omega) rfl ⟨HUU.out.1.gd.fnl, fun b q e q2 => by have := HUU.out.1.gd.blk b q e q2; simpa using this, HUU.out.1.gd.wf⟩
      have HPUT := (show Hid _ from hput)
      clear hput r6 r7 l1 l2 hg1 hbb
      have hfx : ((s.vars[v]?).map (·.fn)).getD 0 = (s.vars[v]).fn := by rw [hx]; rfl
      by_cases hq : (s.vars[v]).fn = s.fn
      · have HR : Hid (useP bi nm pl s = .ok (some v, { s with uses := s.uses ++ [⟨pl, (v : Int)⟩] })) := by show _ = _; unfold useP; rw [HF.out]; simp only; rw [hfx, if_neg (fun c => c hq)]
        rw [hq] at d3
        have hqq : ((s.fn : Int) != (s.fn : Int)) = false := by simp
        clear hx hfx HPUT
        simp only at c4 d3
        go_wp2_with fail
        go_region
        all_goals
          go_wp2_with fail
          go_ret
          rw [HR.out]
          exact ⟨rfl, Went.drew HBB2.out⟩
      · have hmod : capP v { s with uses := s.uses ++ [⟨pl, (v : Int)⟩] } = { s with uses := s.uses ++ [⟨pl, (v : Int)⟩], vars := s.vars.set v { s.vars[v] with cap := true } } := by unfold capP; simp only; rw [modify_set _ _ _ _ hx]
        have HR : Hid (useP bi nm pl s = .ok (some v, { s with uses := s.uses ++ [⟨pl, (v : Int)⟩], vars := s.vars.set v { s.vars[v] with cap := true } })) := by show _ = _; unfold useP; rw [HF.out]; simp only; rw [hfx, if_pos hq, hmod]
        have hqq : (((s.vars[v]).fn : Int) != (s.fn : Int)) = true := by simp; omega
        have HEND : Hid (Went w B rb O { s with uses := s.uses ++ [⟨pl, (v : Int)⟩], vars := s.vars.set v { s.vars[v] with cap := true } } v6 (wq.setCell ⟨gv, v * 6 + 5, none⟩ (.bool true))) := by
          refine Went.behind HBW.out (went_of HOO.out HPUT.out.1 (HUU.out.2.1.trans HPUT.out.2 (fun i hi q => ?_)) HUU.out.2.2)
          rcases HUU.out.2.2 i q with c | c
          · exact c
          · omega
        have HEND2 : Hid (Went w B rb O { s with uses := s.uses ++ [⟨pl, (v : Int)⟩], vars := s.vars.set v { s.vars[v] with cap := true } } v6 (wq.drew.setCell ⟨gv, v * 6 + 5, none⟩ (.bool true))) := HEND.out.drew
        clear hx hfx HPUT hmod
        generalize ((s.vars[v]).fn : Int) = FN at *
        generalize (s.vars[v]).cap = CP at *
        go_wp2_with fail
        go_region
        all_goals
          go_wp2_with fail
          go_ret
          rw [HR.out]
          exact ⟨rfl, by first | exact HEND2.out | exact HEND.out.drew⟩

end Go.Proofs.Ytihmdcdifakepab.Rv

/- The resolver's walk: a variable more. -/
namespace Go.Proofs.Ytihmdcdifakepab.Rv
open Go.RowKit Go.Proofs.Ytihmdcdifakepab.Sc Go.Proofs.Ytihmdcdifakepab.Rz
set_option linter.unusedVariables false

/-- the resolver in memory, without what holds of it otherwise -/
structure MemW (w : World) (B rb : Nat) (tg : Nat → Nat) (s : Rz.RS) (v0 v1 v2 v3 v6 : Value) (ms : List (Option Nat)) : Prop where
  box : w.heap[rb]? = some (.cells #[v0, v1, v2, v3, .int .i64 (s.fn : Int), .int .i64 (s.loops : Int), v6] 54 (0, 0))
  r0 : OwnR scpC 4 66 B w v0 s.scopes
  r1 : OwnR vrC 6 44 B w v1 s.vars
  r2 : OwnR usC 2 42 B w v2 s.uses
  r3 : OwnR mpC 1 98 B w v3 ms
  r6 : OwnR lbC 2 116 B w v6 s.labels
  t0 : tg rb = 0
  t1 : ∀ b, v0.ownBlock = some b → tg b = 1
  t2 : ∀ b, v1.ownBlock = some b → tg b = 2
  t3 : ∀ b, v2.ownBlock = some b → tg b = 3
  t4 : ∀ b, v3.ownBlock = some b → tg b = 4
  t5 : ∀ b, v6.ownBlock = some b → tg b = 5
  tm : ∀ (i b : Nat), ms[i]? = some (some b) → tg b = 6 + i ∧ B ≤ b ∧ b < w.heap.size
  ml : ms.length = s.blocks.length
  mp : ∀ (i : Nat) (m : Option Nat) (b : Blk), ms[i]? = some m → s.blocks.reverse[i]? = some b → MpAt w m b
  lo : B ≤ rb


section
variable {w w' : World} {B rb : Nat} {tg : Nat → Nat} {s : Rz.RS} {v0 v1 v2 v3 v6 : Value} {ms : List (Option Nat)}

theorem MemAt.weak (h : MemAt w B rb tg s v0 v1 v2 v3 v6 ms) : MemW w B rb tg s v0 v1 v2 v3 v6 ms := ⟨h.box, h.r0, h.r1, h.r2, h.r3, h.r6, h.t0, h.t1, h.t2, h.t3, h.t4, h.t5, h.tm, h.ml, h.mp, h.lo⟩
theorem MemW.full (h : MemW w B rb tg s v0 v1 v2 v3 v6 ms) (hg : Gd s) : MemAt w B rb tg s v0 v1 v2 v3 v6 ms := ⟨h.box, h.r0, h.r1, h.r2, h.r3, h.r6, h.t0, h.t1, h.t2, h.t3, h.t4, h.t5, h.tm, h.ml, h.mp, hg, h.lo⟩

theorem MemW.rlt (h : MemW w B rb tg s v0 v1 v2 v3 v6 ms) : rb < w.heap.size := (Array.getElem?_eq_some_iff.1 h.box).1

/-- its row of vars is another one -/
theorem MemW.row1 (h : MemW w B rb tg s v0 v1 v2 v3 v6 ms) {w5 : World} {v1' : Value} {xs' : List Rz.Vr} (hc : Chg (fun b => v1.ownBlock = some b) w w5) (ho : OwnR vrC 6 44 B w5 v1' xs') (hat : ∀ b, v1'.ownBlock = some b → v1.ownBlock = some b ∨ w.heap.size ≤ b)  :
    MemW (w5.setCell ⟨rb, 1, none⟩ v1') B rb (retag tg v1' 2) { s with vars := xs' } v0 v1' v2 v3 v6 ms ∧ Chg (Ow rb v0 v1 v2 v3 v6 ms) w (w5.setCell ⟨rb, 1, none⟩ v1') ∧ ∀ b, Ow rb v0 v1' v2 v3 v6 ms b → Ow rb v0 v1 v2 v3 v6 ms b ∨ w.heap.size ≤ b := by
  have hrb : rb < w.heap.size := h.rlt
  have hnr : ¬ v1'.ownBlock = some rb := other h.t2 hat hrb h.t0 (by omega)
  have hrs : ¬ v1.ownBlock = some rb := fun q => by have := h.t2 rb q; have := h.t0; omega
  have hbox5 : w5.heap[rb]? = _ := (hc.block rb hrb hrs).trans h.box
  have hset := heap_setCell_same w5 rb 1 _ 54 v1' hbox5
  have n0 : ∀ b, v0.ownBlock = some b → ¬ v1'.ownBlock = some b ∧ b ≠ rb := fun b q => ⟨other h.t2 hat (h.r0.lt b q).2 (h.t1 b q) (by omega), fun e => by have h1 := h.t1 b q; have h2 := h.t0; rw [e] at h1; omega⟩
  have o0 : OwnR scpC 4 66 B (w5.setCell ⟨rb, 1, none⟩ v1') v0 s.scopes := (h.r0.kept hc (fun b q e => by have h1 := h.t1 b q; have h2 := h.t2 b e; omega)).set (a := ⟨rb, 1, none⟩) (fun b q => (n0 b q).2) v1'
  have n2 : ∀ b, v2.ownBlock = some b → ¬ v1'.ownBlock = some b ∧ b ≠ rb := fun b q => ⟨other h.t2 hat (h.r2.lt b q).2 (h.t3 b q) (by omega), fun e => by have h1 := h.t3 b q; have h2 := h.t0; rw [e] at h1; omega⟩
  have o2 : OwnR usC 2 42 B (w5.setCell ⟨rb, 1, none⟩ v1') v2 s.uses := (h.r2.kept hc (fun b q e => by have h1 := h.t3 b q; have h2 := h.t2 b e; omega)).set (a := ⟨rb, 1, none⟩) (fun b q => (n2 b q).2) v1'
  have n3 : ∀ b, v3.ownBlock = some b → ¬ v1'.ownBlock = some b ∧ b ≠ rb := fun b q => ⟨other h.t2 hat (h.r3.lt b q).2 (h.t4 b q) (by omega), fun e => by have h1 := h.t4 b q; have h2 := h.t0; rw [e] at h1; omega⟩
  have o3 : OwnR mpC 1 98 B (w5.setCell ⟨rb, 1, none⟩ v1') v3 ms := (h.r3.kept hc (fun b q e => by have h1 := h.t4 b q; have h2 := h.t2 b e; omega)).set (a := ⟨rb, 1, none⟩) (fun b q => (n3 b q).2) v1'
  have n6 : ∀ b, v6.ownBlock = some b → ¬ v1'.ownBlock = some b ∧ b ≠ rb := fun b q => ⟨other h.t2 hat (h.r6.lt b q).2 (h.t5 b q) (by omega), fun e => by have h1 := h.t5 b q; have h2 := h.t0; rw [e] at h1; omega⟩
  have o6 : OwnR lbC 2 116 B (w5.setCell ⟨rb, 1, none⟩ v1') v6 s.labels := (h.r6.kept hc (fun b q e => by have h1 := h.t5 b q; have h2 := h.t2 b e; omega)).set (a := ⟨rb, 1, none⟩) (fun b q => (n6 b q).2) v1'
  have oo : OwnR vrC 6 44 B (w5.setCell ⟨rb, 1, none⟩ v1') v1' xs' := ho.set (a := ⟨rb, 1, none⟩) (fun b q e => by have e2 : b = rb := e; rw [e2] at q; exact hnr q) v1'
  have nm : ∀ (i b : Nat), ms[i]? = some (some b) → ¬ v1'.ownBlock = some b ∧ b ≠ rb ∧ ¬ v1.ownBlock = some b := fun i b q => by
    obtain ⟨a1, a2, a3⟩ := h.tm i b q
    exact ⟨other h.t2 hat a3 a1 (by omega), fun e => by have h2 := h.t0; rw [e] at a1; omega, fun e => by have h2 := h.t2 b e; omega⟩
  have hmap : ∀ (i : Nat) (m : Option Nat) (b : Blk), ms[i]? = some m → MpAt w m b → MpAt (w5.setCell ⟨rb, 1, none⟩ v1') m b := fun i m b q1 q2 => q2.kept (fun mb e => by
    subst e
    obtain ⟨a1, a2, a3⟩ := nm i mb q1
    rw [Below.heap_setCell w5 ⟨rb, 1, none⟩ v1' mb a2]
    exact hc.block mb (h.tm i mb q1).2.2 a3)
  have hsz : w.heap.size ≤ (w5.setCell ⟨rb, 1, none⟩ v1').heap.size := by simp; exact hc.size
  refine ⟨⟨hset, o0, oo, o2, o3, o6, by rw [retag_no hnr]; exact h.t0, fun b q => by rw [retag_no (n0 b q).1]; exact h.t1 b q, fun b q => retag_is q, fun b q => by rw [retag_no (n2 b q).1]; exact h.t3 b q, fun b q => by rw [retag_no (n3 b q).1]; exact h.t4 b q, fun b q => by rw [retag_no (n6 b q).1]; exact h.t5 b q, fun i b q => by
    obtain ⟨a1, a2, a3⟩ := h.tm i b q
    rw [retag_no (nm i b q).1]
    exact ⟨a1, a2, Nat.lt_of_lt_of_le a3 hsz⟩, h.ml, fun i m b q1 q2 => hmap i m b q1 (h.mp i m b q1 q2), h.lo⟩, ?_, ?_⟩
  · exact (hc.mono (S' := Ow rb v0 v1 v2 v3 v6 ms) (fun b q => Or.inr (Or.inr (Or.inl q)))).trans (Chg.set (S := Ow rb v0 v1 v2 v3 v6 ms) w5 ⟨rb, 1, none⟩ v1' (Or.inl rfl)) (fun _ _ q => q)
  · rintro b (q | q | q | q | q | q | ⟨i, q⟩)
    · exact Or.inl (Or.inl q)
    · exact Or.inl (Or.inr (Or.inl q))
    · exact (hat b q).imp (fun q => Or.inr (Or.inr (Or.inl q))) id
    · exact Or.inl (Or.inr (Or.inr (Or.inr (Or.inl q))))
    · exact Or.inl (Or.inr (Or.inr (Or.inr (Or.inr (Or.inl q)))))
    · exact Or.inl (Or.inr (Or.inr (Or.inr (Or.inr (Or.inr (Or.inl q))))))
    · exact Or.inl (Or.inr (Or.inr (Or.inr (Or.inr (Or.inr (Or.inr ⟨i, q⟩))))))

/-- the innermost block has a name more -/
theorem MemW.name (h : MemW w B rb tg s v0 v1 v2 v3 v6 ms) {i mb : Nat} (hi : ms[i]? = some (some mb)) (hil : i + 1 = ms.length) {b0 : Blk} {bs : List Blk} (hbs : s.blocks = b0 :: bs) (hg : w.grownBy w' (some mb)) {b1 : Blk} (hm : MpAt w' (some mb) b1) :
    MemW w' B rb tg { s with blocks := b1 :: bs } v0 v1 v2 v3 v6 ms ∧ Chg (Ow rb v0 v1 v2 v3 v6 ms) w w' := by
  obtain ⟨m1, m2, m3⟩ := h.tm i mb hi
  have hc : Chg (fun b => b = mb) w w' := Chg.of_grown hg (fun k q => by cases q; rfl)
  have hl := h.ml
  rw [hbs, List.length_cons] at hl
  refine ⟨⟨(hc.block rb h.rlt (fun e => by have := h.t0; rw [e] at this; omega)).trans h.box, h.r0.kept hc (fun b q e => by have h1 := h.t1 b q; rw [e] at h1; omega), h.r1.kept hc (fun b q e => by have h1 := h.t2 b q; rw [e] at h1; omega), h.r2.kept hc (fun b q e => by have h1 := h.t3 b q; rw [e] at h1; omega), h.r3.kept hc (fun b q e => by have h1 := h.t4 b q; rw [e] at h1; omega), h.r6.kept hc (fun b q e => by have h1 := h.t5 b q; rw [e] at h1; omega), h.t0, h.t1, h.t2, h.t3, h.t4, h.t5, fun k b q => ?_, by rw [List.length_cons]; omega, fun k m b q1 q2 => ?_, h.lo⟩, hc.mono (fun b q => Or.inr (Or.inr (Or.inr (Or.inr (Or.inr (Or.inr ⟨i, by rw [q]; exact hi⟩))))))⟩
  · obtain ⟨a1, a2, a3⟩ := h.tm k b q
    exact ⟨a1, a2, Nat.lt_of_lt_of_le a3 hc.size⟩
  · rw [List.reverse_cons] at q2
    have hkl := (List.getElem?_eq_some_iff.1 q1).1
    by_cases c : k = i
    · subst c
      rw [hi] at q1
      cases q1
      rw [List.getElem?_append_right (by rw [List.length_reverse]; omega), List.getElem?_singleton] at q2
      split at q2
      · cases q2; exact hm
      · cases q2
    · rw [List.getElem?_append_left (by rw [List.length_reverse]; omega)] at q2
      refine (h.mp k m b q1 (by rw [hbs, List.reverse_cons, List.getElem?_append_left (by rw [List.length_reverse]; omega)]; exact q2)).kept (fun mb' e => ?_)
      subst e
      obtain ⟨a1, a2, a3⟩ := h.tm k mb' q1
      exact hc.block mb' a3 (fun e => by rw [e] at a1; omega)

end

end Go.Proofs.Ytihmdcdifakepab.Rv
