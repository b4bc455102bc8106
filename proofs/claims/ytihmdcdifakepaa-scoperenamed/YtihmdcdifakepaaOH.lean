/- ScopeRenamed: the walk. -/
import Derived.Test.YtihmdcdifakepaaOG
namespace Go.Proofs.Ytihmdcdifakepaa.Rv
open Go.RowKit Go.Proofs.Ytihmdcdifakepaa.Sc Go.Proofs.Ytihmdcdifakepaa.Rz
set_option linter.unusedVariables false
set_option linter.unusedSimpArgs false

def tS (R : Except Rz.Er Rz.RS) : List Rz.Scp := match R with
  | .ok s => s.scopes
  | .error _ => []
def tV (R : Except Rz.Er Rz.RS) : List Rz.Vr := match R with
  | .ok s => s.vars
  | .error _ => []
def tU (R : Except Rz.Er Rz.RS) : List Rz.Us := match R with
  | .ok s => s.uses
  | .error _ => []
def tA (R : Except Rz.Er Rz.RS) : Int := match R with
  | .ok _ => 0
  | .error er => er.1
def tC (R : Except Rz.Er Rz.RS) : Int := match R with
  | .ok _ => 0
  | .error er => er.2

theorem toO_of {w : World} {R : Except Rz.Er Rz.RS} {e : Ending} {w' : World} (h : ResO w R e w') : ToO w (tS R) (tV R) (tU R) (tA R) (tC R) e w' := by
  cases R with
  | error er =>
    obtain ⟨hb, he⟩ := h
    exact ⟨hb, _, _, _, he, OwnR.nil _ _, OwnR.nil _ _, OwnR.nil _ _, fun b q => by simp [Value.ownBlock] at q⟩
  | ok s =>
    obtain ⟨hb, v0, v1, v2, he, r0, r1, r2, r3⟩ := h
    exact ⟨hb, v0, v1, v2, he, r0, r1, r2, r3⟩

theorem ren_both {more : ByteArray} {n : Nat} {x y : Nd} {s v : Sli (Tr n)} (h : RenT (rhoN more) (PN more) (n + 1) ((x, s) : Nd × Sli (Tr n)) ((y, v) : Nd × Sli (Tr n))) (hr : rootP (n + 1) ((x, s) : Nd × Sli (Tr n)) = true) {R : Except Rz.Er Rz.RS} (hR : R = resolveP bi (n + 1) ((x, s) : Nd × Sli (Tr n))) :
    ∃ vb, ReQ (tS R) (tV R) vb (tU R) ∧ ∀ w e w', ResO w (resolveP bi (n + 1) ((y, v) : Nd × Sli (Tr n))) e w' → ToO w (tS R) vb (tU R) (tA R) (tC R) e w' := by
  subst hR
  obtain ⟨_, h2, h3⟩ := root_parts hr
  have hq := renamed_plain (naming more) n ((x, s) : Nd × Sli (Tr n)) ((y, v) : Nd × Sli (Tr n)) h h2 h3
  cases h4 : resolveP bi (n + 1) ((x, s) : Nd × Sli (Tr n)) with
  | error er =>
    cases h5 : resolveP bi (n + 1) ((y, v) : Nd × Sli (Tr n)) with
    | error er' =>
      rw [h4, h5] at hq
      have hq : er = er' := hq
      subst hq
      exact ⟨[], ⟨rfl, rfl, by simp [tS], by simp [tV], by simp [tU]⟩, fun w e w' q => toO_of q⟩
    | ok r => rw [h4, h5] at hq; exact hq.elim
  | ok st =>
    cases h5 : resolveP bi (n + 1) ((y, v) : Nd × Sli (Tr n)) with
    | error er' => rw [h4, h5] at hq; exact hq.elim
    | ok r =>
      rw [h4, h5] at hq
      have hq : Rn (rhoN more) (PN more) st r := hq
      obtain ⟨m0, m1, m2⟩ := res_bound2 (root_size2 hr) h4
      refine ⟨r.vars, ⟨by show r.vars.length = st.vars.length; rw [hq.vars, List.length_map], ?_, m0, m1, m2⟩, fun w e w' ⟨hb, v0, v1, v2, he, r0, r1, r2, r3⟩ => ⟨hb, v0, v1, v2, he, by show OwnR _ _ _ _ _ _ st.scopes; rw [← hq.scopes]; exact r0, r1, by show OwnR _ _ _ _ _ _ st.uses; rw [← hq.uses]; exact r2, r3⟩⟩
      show r.vars.map nn = st.vars.map nn
      rw [hq.vars, List.map_map]
      congr 1

set_option maxRecDepth 100000 in
set_option maxHeartbeats 4000000 in
/-- no program's tree -/
theorem renamed_wrong (w : World) (x : Nd) (ka : Option Addr) (kl kc : Nat) (more : ByteArray) (HC : ∀ w1, Below w.heap.size w w1 → Calls Try.prog 10 #[.agg #[.int .i64 x.kind, .int .i64 x.pl, .string x.name, .int .u64 x.num, .string x.op, .slice ka kl kc]] w1 fun e w' => e = .returned (.bool false) ∧ Below w1.heap.size w1 w') :
    Calls Try.prog 6 #[.agg #[.int .i64 x.kind, .int .i64 x.pl, .string x.name, .int .u64 x.num, .string x.op, .slice ka kl kc], .string more] w fun e w' => e = .returned (.bool true) ∧ Below w.heap.size w w' := by
  obtain ⟨wb, hwb⟩ : ∃ wb, wb = w.alloc (.cells #[.int .i64 x.kind, .int .i64 x.pl, .string x.name, .int .u64 x.num, .string x.op, .slice ka kl kc] 25) := ⟨_, rfl⟩
  have hbl : Below w.heap.size w wb := by rw [hwb]; exact (Below.refl _ _).alloc (Nat.le_refl _) _
  have hX : NdB w.heap.size x (.slice ka kl kc) wb := by rw [hwb]; exact at_new _ _
  have k10 := HC wb hbl
  have HB : Hid (Below w.heap.size w wb) := hbl
  obtain ⟨a0, a1, a2, a3, a4, a5⟩ := hX.cs
  clear hX hbl HC
  go_enter Try.func6, Try.ntmps6
  go_upto_region 1 with fail
  rw [← hwb]
  clear hwb
  go_wp2_with fail
  refine k10.mono ?_
  rintro e w1 ⟨rfl, hb1⟩
  have HB1 : Hid (Below w.heap.size w w1) := HB.out.trans (hb1.mono HB.out.size)
  have hal := alive_any w1
  clear k10 a0 a1 a2 a3 a4 a5 hb1
  go_wp2_with fail
  refine hal.mono ?_
  rintro e w3 ⟨rfl, hb3⟩
  have HB3 : Hid (Below w.heap.size w w3) := HB1.out.trans (hb3.mono HB1.out.size)
  clear hal hb3
  go_wp2_with fail
  go_ret
  exact ⟨rfl, HB3.out⟩

set_option maxRecDepth 100000 in
set_option maxHeartbeats 8000000 in
theorem renamed_right (w : World) (n : Nat) (hn : n ≤ 1000) (x : Nd) (sl : Sli (Tr n)) (more : ByteArray) (hm : more.size ≤ 140737488351232) (hok : okT (n + 1) w ((x, sl) : Nd × Sli (Tr n))) (hr : rootP (n + 1) ((x, sl) : Nd × Sli (Tr n)) = true) (hsh : shT 140737488351232 (n + 1) ((x, sl) : Nd × Sli (Tr n))) :
    Calls Try.prog 6 #[.agg #[.int .i64 x.kind, .int .i64 x.pl, .string x.name, .int .u64 x.num, .string x.op, .slice sl.at' sl.xs.length sl.cap], .string more] w fun e w' => e = .returned (.bool true) ∧ Below w.heap.size w w' := by
  have hsz := root_size2 hr
  obtain ⟨wb, hwb⟩ : ∃ wb, wb = w.alloc (.cells #[.int .i64 x.kind, .int .i64 x.pl, .string x.name, .int .u64 x.num, .string x.op, .slice sl.at' sl.xs.length sl.cap] 25) := ⟨_, rfl⟩
  have hbl : Below w.heap.size w wb := by rw [hwb]; exact (Below.refl _ _).alloc (Nat.le_refl _) _
  have hX : NdB w.heap.size x (.slice sl.at' sl.xs.length sl.cap) wb := by rw [hwb]; exact at_new _ _
  have HX : Hid (∀ W, Below wb.heap.size wb W → NdB w.heap.size x (.slice sl.at' sl.xs.length sl.cap) W) := fun W hW => hX.chg (O := fun _ => False) (Chg.of_below hW) id
  have HB : Hid (Below w.heap.size w wb) := hbl
  have HW : Hid (∀ W, Below wb.heap.size wb W → Below w.heap.size w W) := fun W hW => hbl.trans (hW.mono hbl.size)
  have k10 : Calls Try.prog 10 #[.agg #[.int .i64 x.kind, .int .i64 x.pl, .string x.name, .int .u64 x.num, .string x.op, .slice sl.at' sl.xs.length sl.cap]] wb fun e w' => e = .returned (.bool true) ∧ Below wb.heap.size wb w' := by
    have q := refRight_any (n + 1) ((x, sl) : Nd × Sli (Tr n)) wb (okT_kept hok (Sc.cells_below hbl))
    have hrr := (root_same (n + 1) ((x, sl) : Nd × Sli (Tr n))).symm.trans hr
    rw [hrr] at q
    exact q
  have H16 : Hid (∀ W, Below wb.heap.size wb W → Calls Try.prog 16 #[.agg #[.int .i64 x.kind, .int .i64 x.pl, .string x.name, .int .u64 x.num, .string x.op, .slice sl.at' sl.xs.length sl.cap], .string more] W fun e w' => e = .returned (.bool (becB more (n + 1) ((x, sl) : Nd × Sli (Tr n)))) ∧ Below W.heap.size W w') := fun W hW => bec_any w more hm (n + 1) ((x, sl) : Nd × Sli (Tr n)) hok hsh hsz W (HW.out W hW)
  have H15 : Hid (∀ W, Below wb.heap.size wb W → Calls Try.prog 15 #[.agg #[.int .i64 x.kind, .int .i64 x.pl, .string x.name, .int .u64 x.num, .string x.op, .slice sl.at' sl.xs.length sl.cap]] W (ResO W (resolveP bi (n + 1) ((x, sl) : Nd × Sli (Tr n))))) := fun W hW => resolve_right W n x sl (okT_kept hok (Sc.cells_below (HW.out W hW))) hr hsz hn
  have H17 : Hid (becB more (n + 1) ((x, sl) : Nd × Sli (Tr n)) = false → ∀ W, Below wb.heap.size wb W → Calls Try.prog 17 #[.agg #[.int .i64 x.kind, .int .i64 x.pl, .string x.name, .int .u64 x.num, .string x.op, .slice sl.at' sl.xs.length sl.cap], .string more] W fun e w' => ∃ (y : Nd) (v : Sli (Tr n)), e = .returned (.agg #[.int .i64 y.kind, .int .i64 y.pl, .string y.name, .int .u64 y.num, .string y.op, .slice v.at' v.xs.length v.cap]) ∧ okT (n + 1) w' ((y, v) : Nd × Sli (Tr n)) ∧ RenT (rhoN more) (PN more) (n + 1) ((x, sl) : Nd × Sli (Tr n)) ((y, v) : Nd × Sli (Tr n)) ∧ Below W.heap.size W w') := fun hbec W hW => by
    refine (ren_any w more hm (n + 1) ((x, sl) : Nd × Sli (Tr n)) hok hsh hsz hbec W (HW.out W hW)).mono ?_
    rintro e w' ⟨⟨y, v⟩, he, q1, q2, q3, q4⟩
    exact ⟨y, v, he, q1, q2, q4⟩
  obtain ⟨R, hR⟩ : ∃ R, R = resolveP bi (n + 1) ((x, sl) : Nd × Sli (Tr n)) := ⟨_, rfl⟩
  rw [← hR] at H15
  have HTW : Hid (∀ (y : Nd) (v : Sli (Tr n)), RenT (rhoN more) (PN more) (n + 1) ((x, sl) : Nd × Sli (Tr n)) ((y, v) : Nd × Sli (Tr n)) → ∃ vb, ReQ (tS R) (tV R) vb (tU R) ∧ ∀ W, okT (n + 1) W ((y, v) : Nd × Sli (Tr n)) → Calls Try.prog 15 #[.agg #[.int .i64 y.kind, .int .i64 y.pl, .string y.name, .int .u64 y.num, .string y.op, .slice v.at' v.xs.length v.cap]] W (ToO W (tS R) vb (tU R) (tA R) (tC R))) := fun y v hren => by
    have hr2 := root_ren hren hr
    obtain ⟨vb, q1, q3⟩ := ren_both hren hr hR
    exact ⟨vb, q1, fun W hokW => (resolve_right W n y v hokW hr2 (root_size2 hr2) hn).mono (fun e w' q => q3 W e w' q)⟩
  obtain ⟨a0, a1, a2, a3, a4, a5⟩ := hX.cs
  clear hX hbl hok hr hsz hn hsh hm
  generalize becB more (n + 1) ((x, sl) : Nd × Sli (Tr n)) = bc at *
  clear hR
  go_enter Try.func6, Try.ntmps6
  go_upto_region 1 with fail
  rw [← hwb]
  clear hwb
  go_wp2_with fail
  refine k10.mono ?_
  rintro e w1 ⟨rfl, hb1⟩
  have HB1 : Hid (Below wb.heap.size wb w1) := hb1
  have k16 := H16.out w1 hb1
  clear k10 a0 a1 a2 a3 a4 a5 hb1 H16
  obtain ⟨a0, a1, a2, a3, a4, a5⟩ := (HX.out w1 HB1.out).cs
  go_wp2_with fail
  refine k16.mono ?_
  rintro e w2 ⟨rfl, hb2⟩
  have HB2 : Hid (Below wb.heap.size wb w2) := HB1.out.trans (hb2.mono HB1.out.size)
  clear k16 hb2 a0 a1 a2 a3 a4 a5
  cases bc with
  | true =>
    have hal := alive_any w2
    clear H15 H17 HTW
    go_wp2_with fail
    refine hal.mono ?_
    rintro e w3 ⟨rfl, hb3⟩
    have HB3 : Hid (Below w.heap.size w w3) := HW.out w3 (HB2.out.trans (hb3.mono HB2.out.size))
    clear hal hb3
    go_wp2_with fail
    go_ret
    exact ⟨rfl, HB3.out⟩
  | false =>
    obtain ⟨a0, a1, a2, a3, a4, a5⟩ := (HX.out w2 HB2.out).cs
    have k15 := H15.out w2 HB2.out
    have K17 := (show Hid _ from H17.out rfl)
    clear H15 H17
    go_wp2_with fail
    refine k15.mono ?_
    intro e w3 ho
    obtain ⟨hb3, v0, v1, v2, rfl, r0, r1, r2, r3⟩ := toO_of ho
    clear k15 ho a0 a1 a2 a3 a4 a5
    generalize tS R = sc at *
    generalize tV R = va at *
    generalize tU R = us at *
    generalize tA R = ta at *
    generalize tC R = tc at *
    obtain ⟨p0, q0, rfl⟩ := row_len r0
    obtain ⟨p1, q1, rfl⟩ := row_len r1
    obtain ⟨p2, q2, rfl⟩ := row_len r2
    obtain ⟨w4, hw4⟩ : ∃ w4, w4 = w3.alloc (.cells #[.slice p0 sc.length q0, .slice p1 va.length q1, .slice p2 us.length q2] 37) := ⟨_, rfl⟩
    have hb4 : Below w3.heap.size w3 w4 := by rw [hw4]; exact (Below.refl _ _).alloc (Nat.le_refl _) _
    have HB24 : Hid (Below w2.heap.size w2 w4) := hb3.trans (hb4.mono hb3.size)
    have HB4 : Hid (Below wb.heap.size wb w4) := HB2.out.trans (HB24.out.mono HB2.out.size)
    have t0 : w4.cell? ⟨w3.heap.size, 0, none⟩ = some (.slice p0 sc.length q0) := by rw [hw4]; exact box_new w3 _ _ 0 _ rfl
    have t1 : w4.cell? ⟨w3.heap.size, 1, none⟩ = some (.slice p1 va.length q1) := by rw [hw4]; exact box_new w3 _ _ 1 _ rfl
    have t2 : w4.cell? ⟨w3.heap.size, 2, none⟩ = some (.slice p2 us.length q2) := by rw [hw4]; exact box_new w3 _ _ 2 _ rfl
    have HT : Hid (w4.cell? ⟨w3.heap.size, 0, none⟩ = some (.slice p0 sc.length q0) ∧ w4.cell? ⟨w3.heap.size, 1, none⟩ = some (.slice p1 va.length q1) ∧ w4.cell? ⟨w3.heap.size, 2, none⟩ = some (.slice p2 us.length q2)) := ⟨t0, t1, t2⟩
    have HRA : Hid (OwnR scpC 4 42 w2.heap.size w4 (.slice p0 sc.length q0) sc ∧ OwnR vrC 6 45 w2.heap.size w4 (.slice p1 va.length q1) va ∧ OwnR usC 2 47 w2.heap.size w4 (.slice p2 us.length q2) us ∧ (∀ b, (Value.slice p1 va.length q1).ownBlock = some b → ¬ (Value.slice p0 sc.length q0).ownBlock = some b ∧ ¬ (Value.slice p2 us.length q2).ownBlock = some b) ∧ ∀ b, ((Value.slice p0 sc.length q0).ownBlock = some b ∨ (Value.slice p1 va.length q1).ownBlock = some b ∨ (Value.slice p2 us.length q2).ownBlock = some b) → b < w3.heap.size) := ⟨r0.below hb4, r1.below hb4, r2.below hb4, r3, fun b q => by
      rcases q with q | q | q
      · exact (r0.lt b q).2
      · exact (r1.lt b q).2
      · exact (r2.lt b q).2⟩
    have k17 := K17.out w4 HB4.out
    obtain ⟨a0, a1, a2, a3, a4, a5⟩ := (HX.out w4 HB4.out).cs
    clear hb3 hb4 r0 r1 r2 r3 t0 t1 t2 K17
    go_upto_region 5 with fail
    rw [← hw4]
    clear hw4
    go_wp2_with fail
    refine k17.mono ?_
    rintro e w5 ⟨y, v, rfl, hok5, hren, hb5⟩
    obtain ⟨vb, hreq, H15b⟩ := HTW.out y v hren
    have k15 := H15b w5 hok5
    have HB5 : Hid (Below w4.heap.size w4 w5) := hb5
    have HRQ : Hid (ReQ sc va vb us) := hreq
    clear k17 a0 a1 a2 a3 a4 a5 hb5 hok5 hren HTW H15b hreq HX
    go_wp2_with fail
    refine k15.mono ?_
    rintro e w6 ⟨hb6, u0', u1', u2', rfl, s0, s1, s2, s3⟩
    obtain ⟨j0, l0, rfl⟩ := row_len s0
    obtain ⟨j1, l1, rfl⟩ := row_len s1
    obtain ⟨j2, l2, rfl⟩ := row_len s2
    obtain ⟨w7, hw7⟩ : ∃ w7, w7 = w6.alloc (.cells #[.slice j0 sc.length l0, .slice j1 vb.length l1, .slice j2 us.length l2] 37) := ⟨_, rfl⟩
    have hb7 : Below w6.heap.size w6 w7 := by rw [hw7]; exact (Below.refl _ _).alloc (Nat.le_refl _) _
    have hb57 : Below w5.heap.size w5 w7 := hb6.trans (hb7.mono hb6.size)
    have HB47 : Hid (Below w4.heap.size w4 w7) := HB5.out.trans (hb57.mono HB5.out.size)
    have z0 : w7.cell? ⟨w6.heap.size, 0, none⟩ = some (.slice j0 sc.length l0) := by rw [hw7]; exact box_new w6 _ _ 0 _ rfl
    have z1 : w7.cell? ⟨w6.heap.size, 1, none⟩ = some (.slice j1 vb.length l1) := by rw [hw7]; exact box_new w6 _ _ 1 _ rfl
    have z2 : w7.cell? ⟨w6.heap.size, 2, none⟩ = some (.slice j2 us.length l2) := by rw [hw7]; exact box_new w6 _ _ 2 _ rfl
    have HZ : Hid (w7.cell? ⟨w6.heap.size, 0, none⟩ = some (.slice j0 sc.length l0) ∧ w7.cell? ⟨w6.heap.size, 1, none⟩ = some (.slice j1 vb.length l1) ∧ w7.cell? ⟨w6.heap.size, 2, none⟩ = some (.slice j2 us.length l2)) := ⟨z0, z1, z2⟩
    have HTWO : Hid (Tw w2.heap.size w5.heap.size (.slice p0 sc.length q0) (.slice p1 va.length q1) (.slice p2 us.length q2) (.slice j0 sc.length l0) (.slice j1 vb.length l1) (.slice j2 us.length l2) sc va vb us w7 ∧ Ap6 (.slice p0 sc.length q0) (.slice p1 va.length q1) (.slice p2 us.length q2) (.slice j0 sc.length l0) (.slice j1 vb.length l1) (.slice j2 us.length l2) ∧ ∀ b, ((Value.slice p1 va.length q1).ownBlock = some b ∨ (Value.slice j1 vb.length l1).ownBlock = some b) → w2.heap.size ≤ b ∧ b ≠ w3.heap.size ∧ b ≠ w6.heap.size) := by
      obtain ⟨r0, r1, r2, r3, r4⟩ := HRA.out
      have h45 := HB5.out.size
      have h24 := HB24.out.size
      have h34 : w3.heap.size < w4.heap.size := World.block_lt_of_cell? w4 _ HT.out.1
      have hlo : ∀ b, ((Value.slice j0 sc.length l0).ownBlock = some b ∨ (Value.slice j1 vb.length l1).ownBlock = some b ∨ (Value.slice j2 us.length l2).ownBlock = some b) → w5.heap.size ≤ b ∧ b < w6.heap.size := fun b q => by
        rcases q with q | q | q
        · exact s0.lt b q
        · exact s1.lt b q
        · exact s2.lt b q
      have hap : ∀ b c, ((Value.slice p0 sc.length q0).ownBlock = some b ∨ (Value.slice p1 va.length q1).ownBlock = some b ∨ (Value.slice p2 us.length q2).ownBlock = some b) → ((Value.slice j0 sc.length l0).ownBlock = some c ∨ (Value.slice j1 vb.length l1).ownBlock = some c ∨ (Value.slice j2 us.length l2).ownBlock = some c) → b ≠ c := fun b c h1 h2 => by
        have := r4 b h1
        have := (hlo c h2).1
        omega
      refine ⟨⟨r0.below HB47.out, r1.below HB47.out, r2.below HB47.out, s0.below hb7, s1.below hb7, s2.below hb7⟩, ⟨fun b q => ⟨(r3 b q).1, (r3 b q).2, fun e => hap b b (Or.inr (Or.inl q)) (Or.inl e) rfl, fun e => hap b b (Or.inr (Or.inl q)) (Or.inr (Or.inl e)) rfl, fun e => hap b b (Or.inr (Or.inl q)) (Or.inr (Or.inr e)) rfl⟩, fun b q => ⟨(s3 b q).1, (s3 b q).2, fun e => hap b b (Or.inl e) (Or.inr (Or.inl q)) rfl, fun e => hap b b (Or.inr (Or.inl e)) (Or.inr (Or.inl q)) rfl, fun e => hap b b (Or.inr (Or.inr e)) (Or.inr (Or.inl q)) rfl⟩⟩, fun b q => ?_⟩
      have h6 := hb6.size
      rcases q with q | q
      · have d1 := r4 b (Or.inr (Or.inl q))
        have d2 := (r1.lt b q).1
        omega
      · have d1 := hlo b (Or.inr (Or.inl q))
        omega
    have hal := alive_any w7
    have HG7 : Hid (Below w.heap.size w w7) := HW.out w7 (HB4.out.trans (HB47.out.mono HB4.out.size))
    have HLE : Hid (w.heap.size ≤ w2.heap.size) := (HW.out w2 HB2.out).size
    clear k15 hb6 hb7 hb57 s0 s1 s2 s3 z0 z1 z2 HRA
    go_upto_region 6 with fail
    rw [← hw7]
    clear hw7
    go_wp2_with fail
    refine hal.mono ?_
    rintro e w8 ⟨rfl, hb8⟩
    obtain ⟨htw, hap, hlo⟩ := HTWO.out
    have HAP : Hid (Ap6 (.slice p0 sc.length q0) (.slice p1 va.length q1) (.slice p2 us.length q2) (.slice j0 sc.length l0) (.slice j1 vb.length l1) (.slice j2 us.length l2)) := hap
    have HLO : Hid (∀ b, ((Value.slice p1 va.length q1).ownBlock = some b ∨ (Value.slice j1 vb.length l1).ownBlock = some b) → w2.heap.size ≤ b ∧ b ≠ w3.heap.size ∧ b ≠ w6.heap.size) := hlo
    have HB8 : Hid (Below w7.heap.size w7 w8) := hb8
    have HG8 : Hid (Below w.heap.size w w8) := HG7.out.trans (hb8.mono HG7.out.size)
    have HS : Hid (Tw w2.heap.size w5.heap.size (.slice p0 sc.length q0) (.slice p1 va.length q1) (.slice p2 us.length q2) (.slice j0 sc.length l0) (.slice j1 vb.length l1) (.slice j2 us.length l2) sc (half 0 va) (half 0 vb) us w8) := by
      show Tw _ _ _ _ _ _ _ _ _ _ _ _ _
      rw [half_zero, half_zero]
      exact ⟨htw.r0.below hb8, htw.r1.below hb8, htw.r2.below hb8, htw.s0.below hb8, htw.s1.below hb8, htw.s2.below hb8⟩
    obtain ⟨t0, t1, t2⟩ := HT.out
    obtain ⟨z0, z1, z2⟩ := HZ.out
    have h48 : Below w4.heap.size w4 w8 := HB47.out.trans (hb8.mono HB47.out.size)
    have T0 := Sc.cells_below h48 _ _ t0
    have T1 := Sc.cells_below h48 _ _ t1
    have T2 := Sc.cells_below h48 _ _ t2
    have Z0 := Sc.cells_below hb8 _ _ z0
    have Z1 := Sc.cells_below hb8 _ _ z1
    have Z2 := Sc.cells_below hb8 _ _ z2
    have HTC : Hid (∀ W, Chg (fun b => (Value.slice p1 va.length q1).ownBlock = some b ∨ (Value.slice j1 vb.length l1).ownBlock = some b) w8 W → (W.cell? ⟨w3.heap.size, 0, none⟩ = some (.slice p0 sc.length q0) ∧ W.cell? ⟨w3.heap.size, 1, none⟩ = some (.slice p1 va.length q1) ∧ W.cell? ⟨w3.heap.size, 2, none⟩ = some (.slice p2 us.length q2)) ∧ (W.cell? ⟨w6.heap.size, 0, none⟩ = some (.slice j0 sc.length l0) ∧ W.cell? ⟨w6.heap.size, 1, none⟩ = some (.slice j1 vb.length l1) ∧ W.cell? ⟨w6.heap.size, 2, none⟩ = some (.slice j2 us.length l2)) ∧ Below w.heap.size w W) := fun W hc => by
      have n3 : ¬ ((Value.slice p1 va.length q1).ownBlock = some w3.heap.size ∨ (Value.slice j1 vb.length l1).ownBlock = some w3.heap.size) := fun q => (HLO.out _ q).2.1 rfl
      have n6 : ¬ ((Value.slice p1 va.length q1).ownBlock = some w6.heap.size ∨ (Value.slice j1 vb.length l1).ownBlock = some w6.heap.size) := fun q => (HLO.out _ q).2.2 rfl
      exact ⟨⟨hc.cell T0 n3, hc.cell T1 n3, hc.cell T2 n3⟩, ⟨hc.cell Z0 n6, hc.cell Z1 n6, hc.cell Z2 n6⟩, hc.below HG8.out HG8.out.size (fun b q => Nat.le_trans HLE.out (HLO.out b q).1)⟩
    have hlq : ((va.length : Int) != (vb.length : Int)) = false := by rw [HRQ.out.len]; simp
    clear hal hb8 htw hap hlo t0 t1 t2 z0 z1 z2 h48 T0 T2 Z0 Z2 HTWO HT HZ HG7 HB47 HB5 HB24 HB4 HB2 HB1 HW
    go_wp2_with fail
    go_loopw [61] (fun i wr => ∃ k : Nat, Hid (k ≤ va.length ∧ Tw w2.heap.size w5.heap.size (.slice p0 sc.length q0) (.slice p1 va.length q1) (.slice p2 us.length q2) (.slice j0 sc.length l0) (.slice j1 vb.length l1) (.slice j2 us.length l2) sc (half k va) (half k vb) us wr ∧ Chg (fun b => (Value.slice p1 va.length q1).ownBlock = some b ∨ (Value.slice j1 vb.length l1).ownBlock = some b) w8 wr) ∧ i = .int .i64 (k : Int)) (fun i wr => va.length - (intOf i).toNat)
    case atStart => exact ⟨0, ⟨Nat.zero_le _, HS.out, Chg.refl _ _⟩, rfl⟩
    case round =>
      clear HS T1 Z1 hlq
      obtain ⟨k, HE, rfl⟩ := hrel
      obtain ⟨⟨T0, T1, T2⟩, ⟨Z0, Z1, Z2⟩, hbz⟩ := HTC.out wr HE.out.2.2
      rcases Nat.lt_or_ge k va.length with c | c
      · obtain ⟨xv, hxv⟩ : ∃ xv, va[k]? = some xv := ⟨_, List.getElem?_eq_getElem c⟩
        have c' : k < vb.length := by rw [HRQ.out.len]; exact c
        obtain ⟨yv, hyv⟩ : ∃ yv, vb[k]? = some yv := ⟨_, List.getElem?_eq_getElem c'⟩
        have hr1 := HE.out.2.1.r1
        have hs1 := HE.out.2.1.s1
        obtain ⟨ad1, cp1, e1, _, _, hg1⟩ := own_slice hr1
        obtain ⟨ad2, cp2, e2, _, _, hg2⟩ := own_slice hs1
        injection e1 with e1 _ _
        injection e2 with e2 _ _
        subst e1 e2
        obtain ⟨g1, rfl⟩ := hg1 (fun e => by have := half_len k va; rw [e] at this; simp at this; omega)
        obtain ⟨g2, rfl⟩ := hg2 (fun e => by have := half_len k vb; rw [e] at this; simp at this; omega)
        obtain ⟨_, _, _, _, _, rr, rf⟩ := hr1.read (fun y => (rfl : (vrC y).length = 6))
        obtain ⟨_, _, _, _, _, sr, sf⟩ := hs1.read (fun y => (rfl : (vrC y).length = 6))
        have x0 := rr k xv (half_get hxv).1 0 _ rfl
        have y0 := sr k yv (half_get hyv).1 0 _ rfl
        rw [Nat.add_zero] at x0 y0
        have xf := rf (k * 6)
        have yf := sf (k * 6)
        have hne : ¬ g1 = g2 := fun e => (HAP.out.a g1 rfl).2.2.2.1 (by rw [e]; rfl)
        have hn6 : ¬ g1 = w6.heap.size := (HLO.out g1 (Or.inl rfl)).2.2
        have hil : (k : Int) < (va.length : Int) := by omega
        have hil2 : (k : Int) < (vb.length : Int) := by omega
        have hk0 : (0 : Int) ≤ (k : Int) := by omega
        have hw1 : IntKind.i64.wrap ((k : Int) + 1) = ((k + 1 : Nat) : Int) := by have := HRQ.out.m1; rw [IntKind.wrap_i64]; omega
        have HQ : Hid (k < va.length) := c
        have HN1 : Hid (Tw w2.heap.size w5.heap.size (.slice p0 sc.length q0) (.slice (some ⟨g1, 0, none⟩) va.length q1) (.slice p2 us.length q2) (.slice j0 sc.length l0) (.slice (some ⟨g2, 0, none⟩) vb.length l1) (.slice j2 us.length l2) sc (half (k + 1) va) (half (k + 1) vb) us ((wr.setCell ⟨g1, k * 6, none⟩ (.string ⟨#[]⟩)).setCell ⟨g2, k * 6, none⟩ (.string ⟨#[]⟩)) ∧ Chg (fun b => (Value.slice (some ⟨g1, 0, none⟩) va.length q1).ownBlock = some b ∨ (Value.slice (some ⟨g2, 0, none⟩) vb.length l1).ownBlock = some b) w8 ((wr.setCell ⟨g1, k * 6, none⟩ (.string ⟨#[]⟩)).setCell ⟨g2, k * 6, none⟩ (.string ⟨#[]⟩))) := by
          refine ⟨HE.out.2.1.step HAP.out hxv hyv, (HE.out.2.2.trans (Chg.set (S := fun b => (Value.slice (some ⟨g1, 0, none⟩) va.length q1).ownBlock = some b ∨ (Value.slice (some ⟨g2, 0, none⟩) vb.length l1).ownBlock = some b) wr ⟨g1, k * 6, none⟩ _ (Or.inl rfl)) (fun _ _ q => q)).trans (Chg.set (S := fun b => (Value.slice (some ⟨g1, 0, none⟩) va.length q1).ownBlock = some b ∨ (Value.slice (some ⟨g2, 0, none⟩) vb.length l1).ownBlock = some b) _ ⟨g2, k * 6, none⟩ _ (Or.inr rfl)) (fun _ _ q => q)⟩
        clear rr rf sr sf hr1 hs1 hg1 hg2 hxv hyv c c' HE T0 T2 Z0 Z2 hbz
        go_wp2_with fail
        refine ⟨⟨k + 1, ⟨HQ.out, HN1.out.1, HN1.out.2⟩, by go_num⟩, ?_⟩
        simp [intOf]
        have := HQ.out
        omega
      · have hil : ¬ (k : Int) < (va.length : Int) := by omega
        have hv := half_end c
        have hu := half_end (k := k) (l := vb) (by rw [HRQ.out.len]; exact c)
        have htw := HE.out.2.1
        rw [hv, hu, HRQ.out.nn'] at htw
        have k18 := same_any wr w2.heap.size w5.heap.size sc (va.map nn) us _ _ _ _ _ _ htw.r0 htw.r1 htw.r2 htw.s0 htw.s1 htw.s2 HRQ.out.m0 (by rw [List.length_map]; exact HRQ.out.m1) HRQ.out.m2
        have HBZ : Hid (Below w.heap.size w wr) := hbz
        clear HE hv hu htw c hbz
        go_wp2_with fail
        refine k18.mono ?_
        rintro e w9 ⟨rfl, hb9⟩
        have HG9 : Hid (Below w.heap.size w w9) := HBZ.out.trans (hb9.mono HBZ.out.size)
        clear k18 hb9
        go_wp2_with fail
        go_ret
        exact ⟨rfl, HG9.out⟩

theorem renamed_walk (n : Nat) (t : Tr n) (more : ByteArray) (hm : more.size ≤ 140737488351232) (w : World) (hok : okT n w t) (hs : shT 140737488351232 n t) : Calls Try.prog 6 #[valT n t, .string more] w fun e w' => e = .returned (.bool true) ∧ Below w.heap.size w w' := by
  cases hr : rootP n t with
  | false =>
    cases n with
    | zero => exact nomatch (t : Empty)
    | succ n =>
      obtain ⟨x, sl⟩ := t
      refine renamed_wrong w x _ _ _ more (fun w1 h1 => ?_)
      have q := refRight_any (n + 1) ((x, sl) : Nd × Sli (Tr n)) w1 (okT_kept hok (Sc.cells_below h1))
      have hrr := (root_same (n + 1) ((x, sl) : Nd × Sli (Tr n))).symm.trans hr
      rw [hrr] at q
      exact q
  | true =>
    obtain ⟨u, hv, hok2, hr2, hs2⟩ := cut_root2 w 140737488351232 n t hok hs hr
    rw [← hv]
    obtain ⟨x, sl⟩ := u
    exact renamed_right w 299 (by omega) x sl more hm hok2 hr2 hs2
end Go.Proofs.Ytihmdcdifakepaa.Rv
