/- ScopeWrapped: the walk. -/
import Derived.Test.YtihmdcdifakepaaOS
import Derived.Test.YtihmdcdifakepaaOC
import Derived.Test.YtihmdcdifakepaaRK
namespace Go.Proofs.Ytihmdcdifakepaa.Rv
open Go.RowKit Go.Proofs.Ytihmdcdifakepaa.Sc Go.Proofs.Ytihmdcdifakepaa.Rz
set_option linter.unusedVariables false
set_option linter.unusedSimpArgs false

theorem res_bound {n : Nat} {x : Nd} {sl : Sli (Tr n)} {s : Rz.RS} (hsz : szT (n + 1) ((x, sl) : Nd × Sli (Tr n)) ≤ 131072) (hR : resolveP bi (n + 1) ((x, sl) : Nd × Sli (Tr n)) = .ok s) : s.scopes.length ≤ 2000000 ∧ s.vars.length ≤ 2000000 ∧ s.uses.length ≤ 2000000 := by
  have hcr : cr s ≤ 1 + 8 * (sl.xs.map (szT n)).sum := by
    have := cr_block (ndR n) (szT n) (cr_res bi n).1 sl.xs (startP x.pl) s hR
    have e1 : cr (startP x.pl) = 1 := rfl
    omega
  have hsum : szT (n + 1) ((x, sl) : Nd × Sli (Tr n)) = 1 + (sl.xs.map (szT n)).sum := rfl
  have hc2 : cr s ≤ 1048577 := by omega
  unfold cr at hc2
  exact ⟨by omega, by omega, by omega⟩

theorem root_size {n : Nat} {x : Nd} {s : Sli (Tr n)} (h : rootP (n + 1) ((x, s) : Nd × Sli (Tr n)) = true) : szT (n + 1) ((x, s) : Nd × Sli (Tr n)) ≤ 131072 := by
  have h' : (x.kind == 47 && (holdsT (n + 1) 300 ((x, s) : Nd × Sli (Tr n)) 131072).1 && (rightP (kidT n) (partP n) x s.xs false ([], [])).isSome) = true := h
  simp only [Bool.and_eq_true] at h'
  obtain ⟨⟨_, h2⟩, _⟩ := h'
  have h5 := (holds_count (n + 1) ((x, s) : Nd × Sli (Tr n)) 131072 300).symm.trans h2
  have h6 := of_decide_eq_true h5
  have h7 := count_sz (n + 1) 300 _ _ h6
  rw [h7] at h6
  omega

set_option maxRecDepth 100000 in
set_option maxHeartbeats 4000000 in
theorem wrapped_bad (w : World) (x : Nd) (ka : Option Addr) (kl kc : Nat) (er : Rz.Er) (her : er.2 ≠ 0) (HC : ∀ w1, Below w.heap.size w w1 → Calls Try.prog 15 #[.agg #[.int .i64 x.kind, .int .i64 x.pl, .string x.name, .int .u64 x.num, .string x.op, .slice ka kl kc]] w1 (ResO w1 (.error er))) :
    Calls Try.prog 7 #[.agg #[.int .i64 x.kind, .int .i64 x.pl, .string x.name, .int .u64 x.num, .string x.op, .slice ka kl kc]] w fun e w' => e = .returned (.bool true) ∧ Below w.heap.size w w' := by
  obtain ⟨wb, hwb⟩ : ∃ wb, wb = w.alloc (.cells #[.int .i64 x.kind, .int .i64 x.pl, .string x.name, .int .u64 x.num, .string x.op, .slice ka kl kc] 25) := ⟨_, rfl⟩
  have hbl : Below w.heap.size w wb := by rw [hwb]; exact (Below.refl _ _).alloc (Nat.le_refl _) _
  have hX : NdB w.heap.size x (.slice ka kl kc) wb := by rw [hwb]; exact at_new _ _
  have k15 := HC wb hbl
  have HB : Hid (Below w.heap.size w wb) := hbl
  obtain ⟨a0, a1, a2, a3, a4, a5⟩ := hX.cs
  have hcc : (er.2 != (0 : Int)) = true := by simpa using her
  clear hX hbl HC her
  go_enter Try.func7, Try.ntmps7
  go_upto_region 1 with fail
  rw [← hwb]
  clear hwb
  go_wp2_with fail
  refine k15.mono ?_
  rintro e w1 ⟨hb1, he⟩
  have he : e = .returned (.tuple #[.agg #[.slice none 0 0, .slice none 0 0, .slice none 0 0], .int .i64 er.1, .int .i64 er.2]) := he
  subst he
  have HB1 : Hid (Below w.heap.size w w1) := HB.out.trans (hb1.mono HB.out.size)
  obtain ⟨w2, hw2⟩ : ∃ w2, w2 = w1.alloc (.cells #[.slice none 0 0, .slice none 0 0, .slice none 0 0] 37) := ⟨_, rfl⟩
  have hb2 : Below w1.heap.size w1 w2 := by rw [hw2]; exact (Below.refl _ _).alloc (Nat.le_refl _) _
  have HB2 : Hid (Below w.heap.size w w2) := HB1.out.trans (hb2.mono HB1.out.size)
  have hal := alive_any w2
  clear k15 a0 a1 a2 a3 a4 a5 hb1 hb2
  go_upto_region 2 with fail
  rw [← hw2]
  clear hw2
  go_wp2_with fail
  refine hal.mono ?_
  rintro e w3 ⟨rfl, hb3⟩
  have HB3 : Hid (Below w.heap.size w w3) := HB2.out.trans (hb3.mono HB2.out.size)
  clear hal hb3
  go_wp2_with fail
  go_ret
  exact ⟨rfl, HB3.out⟩

/-- the tree of ScopeWrapped -/
def wrT (pl : Int) (mb n : Nat) (sl : Sli (Tr n)) : Tr (n + 2) := ((⟨47, pl, noB, 0, noB⟩, ⟨some ⟨mb, 0, none⟩, 1, [((⟨44, 0, noB, 0, noB⟩, sl) : Nd × Sli (Tr n))]⟩) : Nd × Sli (Tr (n + 1)))

theorem wr_ok {w : World} {pl : Int} {mb n : Nat} {sl : Sli (Tr n)} (hpl : (Lit.int .i64 pl).wf = true) (hm : w.heap[mb]? = some (.cells #[.int .i64 44, .int .i64 0, .string noB, .int .u64 0, .string noB, .slice sl.at' sl.xs.length sl.cap] 25 (0, 0))) (h1 : sl.ok (encT n) 6 w) (h2 : ∀ y ∈ sl.xs, okT n w y) : okT (n + 2) w (wrT pl mb n sl) := by
  have e0 : noB.size ≤ maxLen := by decide
  refine ⟨⟨hpl, e0, e0⟩, ⟨Nat.le_refl _, by show 1 ≤ maxLen; decide, fun _ => ⟨mb, 0, rfl, fun i y hi j u hj => ?_⟩⟩, fun y hy => ?_⟩
  · cases i with
    | zero =>
      obtain rfl := Option.some.inj hi
      have hc := cell_of_row w mb j _ 25 (0, 0) hm
      rw [Nat.zero_mul, Nat.zero_add, hc]
      rw [← hj]
      simp [encT, ndT, atT, nkT, capT]
    | succ i =>
      have hi : (none : Option (Tr (n + 1))) = some y := hi
      cases hi
  · obtain rfl := List.mem_singleton.1 hy
    exact ⟨⟨by decide, e0, e0⟩, h1, h2⟩

theorem wr_plain {pl : Int} {mb n : Nat} {x : Nd} {sl : Sli (Tr n)} {s : Rz.RS} (hp : pl = x.pl) (h : resolveP bi (n + 1) ((x, sl) : Nd × Sli (Tr n)) = .ok s) : ∃ s', resolveP bi (n + 2) (wrT pl mb n sl) = .ok s' ∧ Core s s' := by
  have hw := wrapped_plain bi n ((x, sl) : Nd × Sli (Tr n)) ((⟨44, 0, noB, 0, noB⟩, sl) : Nd × Sli (Tr n)) (wrT pl mb n sl) rfl rfl rfl hp
  rw [h] at hw
  cases hr : resolveP bi (n + 2) (wrT pl mb n sl) with
  | error e => rw [hr] at hw; exact hw.elim
  | ok s' => rw [hr] at hw; exact ⟨s', rfl, hw⟩

/-- what the second Resolve tells -/
def WrO (w : World) (R : Bool) (s : Rz.RS) (e : Ending) (w' : World) : Prop :=
  Below w.heap.size w w' ∧ ∃ v0 v1 v2 a c, e = .returned (.tuple #[.agg #[v0, v1, v2], .int .i64 a, .int .i64 c]) ∧ (∃ p m q, v0 = .slice p m q) ∧ (∃ p m q, v1 = .slice p m q) ∧ (∃ p m q, v2 = .slice p m q) ∧ (R = true → c = 0 ∧ OwnR scpC 4 42 w.heap.size w' v0 s.scopes ∧ OwnR vrC 6 45 w.heap.size w' v1 s.vars ∧ OwnR usC 2 47 w.heap.size w' v2 s.uses)

theorem wr_second {w : World} {pl : Int} {mb n : Nat} {x : Nd} {sl : Sli (Tr n)} {s : Rz.RS} (hn : n + 1 ≤ 1000) (hp : pl = x.pl) (h : resolveP bi (n + 1) ((x, sl) : Nd × Sli (Tr n)) = .ok s) (hok : okT (n + 2) w (wrT pl mb n sl)) :
    Calls Try.prog 15 #[.agg #[.int .i64 47, .int .i64 pl, .string noB, .int .u64 0, .string noB, .slice (some ⟨mb, 0, none⟩) 1 1]] w (WrO w (rootP (n + 2) (wrT pl mb n sl)) s) := by
  cases hr : rootP (n + 2) (wrT pl mb n sl) with
  | false =>
    refine (resolve_wrong w (n + 1) _ _ hok hr).mono ?_
    rintro e w' ⟨hb, he⟩
    exact ⟨hb, _, _, _, _, _, he, ⟨_, _, _, rfl⟩, ⟨_, _, _, rfl⟩, ⟨_, _, _, rfl⟩, fun h => by cases h⟩
  | true =>
    refine (resolve_right w (n + 1) _ _ hok hr (root_size hr) hn).mono ?_
    rintro e w' ⟨hb, he⟩
    obtain ⟨s', h1, h2⟩ := wr_plain (mb := mb) hp h
    have h1' : resolveP bi (n + 1 + 1) (((⟨47, pl, noB, 0, noB⟩, ⟨some ⟨mb, 0, none⟩, 1, [((⟨44, 0, noB, 0, noB⟩, sl) : Nd × Sli (Tr n))]⟩) : Nd × Sli (Tr (n + 1)))) = .ok s' := h1
    rw [h1'] at he
    obtain ⟨v0, v1, v2, rfl, r0, r1, r2, _⟩ := he
    refine ⟨hb, v0, v1, v2, 0, 0, rfl, ?_, ?_, ?_, fun _ => ⟨rfl, by rw [h2.scopes]; exact r0, by rw [h2.vars]; exact r1, by rw [h2.uses]; exact r2⟩⟩
    · obtain ⟨p, q, e⟩ := row_len r0; exact ⟨p, _, q, e⟩
    · obtain ⟨p, q, e⟩ := row_len r1; exact ⟨p, _, q, e⟩
    · obtain ⟨p, q, e⟩ := row_len r2; exact ⟨p, _, q, e⟩

set_option maxRecDepth 100000 in
set_option maxHeartbeats 8000000 in
theorem wrapped_ok (w : World) (n : Nat) (hn : n + 1 ≤ 1000) (x : Nd) (sl : Sli (Tr n)) (s : Rz.RS) (hok : okT (n + 1) w ((x, sl) : Nd × Sli (Tr n))) (hr : rootP (n + 1) ((x, sl) : Nd × Sli (Tr n)) = true) (hR : resolveP bi (n + 1) ((x, sl) : Nd × Sli (Tr n)) = .ok s) :
    Calls Try.prog 7 #[.agg #[.int .i64 x.kind, .int .i64 x.pl, .string x.name, .int .u64 x.num, .string x.op, .slice sl.at' sl.xs.length sl.cap]] w fun e w' => e = .returned (.bool true) ∧ Below w.heap.size w w' := by
  have hsz := root_size hr
  obtain ⟨wb, hwb⟩ : ∃ wb, wb = w.alloc (.cells #[.int .i64 x.kind, .int .i64 x.pl, .string x.name, .int .u64 x.num, .string x.op, .slice sl.at' sl.xs.length sl.cap] 25) := ⟨_, rfl⟩
  have hbl : Below w.heap.size w wb := by rw [hwb]; exact (Below.refl _ _).alloc (Nat.le_refl _) _
  have hX : NdB w.heap.size x (.slice sl.at' sl.xs.length sl.cap) wb := by rw [hwb]; exact at_new _ _
  have k15 := resolve_right wb n x sl (okT_kept hok (Sc.cells_below hbl)) hr hsz (by omega)
  rw [hR] at k15
  have HB : Hid (Below w.heap.size w wb) := hbl
  have HBD : Hid (s.scopes.length ≤ 2000000 ∧ s.vars.length ≤ 2000000 ∧ s.uses.length ≤ 2000000) := res_bound hsz hR
  have HMK : Hid (∀ W mb, Below w.heap.size w W → W.heap[mb]? = some (.cells #[.int .i64 44, .int .i64 0, .string noB, .int .u64 0, .string noB, .slice sl.at' sl.xs.length sl.cap] 25 (0, 0)) → okT (n + 2) W (wrT x.pl mb n sl)) := fun W mb h1 h2 => by
    have hok2 := okT_kept hok (Sc.cells_below h1)
    exact wr_ok hok.1.pl h2 hok2.2.1 hok2.2.2
  have HSC : Hid (∀ W mb, okT (n + 2) W (wrT x.pl mb n sl) → Calls Try.prog 15 #[.agg #[.int .i64 47, .int .i64 x.pl, .string noB, .int .u64 0, .string noB, .slice (some ⟨mb, 0, none⟩) 1 1]] W (WrO W (rootP (n + 2) (wrT x.pl mb n sl)) s)) := fun W mb h1 => wr_second (x := x) hn rfl hR h1
  have HRR : Hid (∀ W mb, okT (n + 2) W (wrT x.pl mb n sl) → Calls Try.prog 10 #[.agg #[.int .i64 47, .int .i64 x.pl, .string noB, .int .u64 0, .string noB, .slice (some ⟨mb, 0, none⟩) 1 1]] W fun e w' => e = .returned (.bool (rootP (n + 2) (wrT x.pl mb n sl))) ∧ Below W.heap.size W w') := fun W mb h1 => by
    rw [root_same (n + 2) (wrT x.pl mb n sl)]
    exact refRight_any (n + 2) (wrT x.pl mb n sl) W h1
  have HXW : Hid (NdB w.heap.size x (.slice sl.at' sl.xs.length sl.cap) wb) := hX
  obtain ⟨a0, a1, a2, a3, a4, a5⟩ := hX.cs
  clear hX hbl hok hr hR hsz hn
  generalize sl.at' = ka at *
  generalize sl.cap = kc at *
  generalize sl.xs.length = kl at *
  go_enter Try.func7, Try.ntmps7
  go_upto_region 1 with fail
  rw [← hwb]
  clear hwb
  go_wp2_with fail
  refine k15.mono ?_
  rintro e w1 ⟨hb1, v0, v1, v2, rfl, r0, r1, r2, -⟩
  obtain ⟨p0, q0, rfl⟩ := row_len r0
  obtain ⟨p1, q1, rfl⟩ := row_len r1
  obtain ⟨p2, q2, rfl⟩ := row_len r2
  obtain ⟨w2, hw2⟩ : ∃ w2, w2 = w1.alloc (.cells #[.slice p0 s.scopes.length q0, .slice p1 s.vars.length q1, .slice p2 s.uses.length q2] 37) := ⟨_, rfl⟩
  have hb2 : Below w1.heap.size w1 w2 := by rw [hw2]; exact (Below.refl _ _).alloc (Nat.le_refl _) _
  have hbb : Below wb.heap.size wb w2 := hb1.trans (hb2.mono hb1.size)
  have HB2 : Hid (Below w.heap.size w w2) := HB.out.trans (hbb.mono HB.out.size)
  have t0 : w2.cell? ⟨w1.heap.size, 0, none⟩ = some (.slice p0 s.scopes.length q0) := by rw [hw2]; exact box_new w1 _ _ 0 _ rfl
  have t1 : w2.cell? ⟨w1.heap.size, 1, none⟩ = some (.slice p1 s.vars.length q1) := by rw [hw2]; exact box_new w1 _ _ 1 _ rfl
  have t2 : w2.cell? ⟨w1.heap.size, 2, none⟩ = some (.slice p2 s.uses.length q2) := by rw [hw2]; exact box_new w1 _ _ 2 _ rfl
  have HT : Hid (w2.cell? ⟨w1.heap.size, 0, none⟩ = some (.slice p0 s.scopes.length q0) ∧ w2.cell? ⟨w1.heap.size, 1, none⟩ = some (.slice p1 s.vars.length q1) ∧ w2.cell? ⟨w1.heap.size, 2, none⟩ = some (.slice p2 s.uses.length q2)) := ⟨t0, t1, t2⟩
  have HRW : Hid (OwnR scpC 4 42 wb.heap.size w2 (.slice p0 s.scopes.length q0) s.scopes ∧ OwnR vrC 6 45 wb.heap.size w2 (.slice p1 s.vars.length q1) s.vars ∧ OwnR usC 2 47 wb.heap.size w2 (.slice p2 s.uses.length q2) s.uses) := ⟨r0.below hb2, r1.below hb2, r2.below hb2⟩
  have e1 := Sc.cells_below hbb _ _ a1
  have e5 := Sc.cells_below hbb _ _ a5
  clear k15 a0 a1 a2 a3 a4 a5 hb1 hb2 hbb r0 r1 r2 HXW t0 t1 t2
  go_upto_region 2 with fail
  rw [← hw2]
  clear hw2
  go_upto_region 5 with fail
  obtain ⟨w3, hw3⟩ : ∃ w3, w3 = w2.alloc (.cells #[.int .i64 44, .int .i64 0, .string noB, .int .u64 0, .string noB, .slice ka kl kc] 25) := ⟨_, rfl⟩
  obtain ⟨w4, hw4⟩ : ∃ w4, w4 = w3.alloc (.cells #[.int .i64 47, .int .i64 x.pl, .string noB, .int .u64 0, .string noB, .slice (some ⟨w2.heap.size, 0, none⟩) 1 1] 25) := ⟨_, rfl⟩
  have hs3 : w3.heap.size = w2.heap.size + 1 := by rw [hw3]; exact size_new _ _
  have hb3 : Below w2.heap.size w2 w3 := by rw [hw3]; exact (Below.refl _ _).alloc (Nat.le_refl _) _
  have hb4 : Below w3.heap.size w3 w4 := by rw [hw4]; exact (Below.refl _ _).alloc (Nat.le_refl _) _
  have hb24 : Below w2.heap.size w2 w4 := hb3.trans (hb4.mono hb3.size)
  have hmb : w4.heap[w2.heap.size]? = some (.cells #[.int .i64 44, .int .i64 0, .string noB, .int .u64 0, .string noB, .slice ka kl kc] 25 (0, 0)) := by
    rw [hb4.block w2.heap.size (by omega), hw3]
    exact at_new _ _
  have HB4 : Hid (Below w.heap.size w w4) := HB2.out.trans (hb24.mono HB2.out.size)
  have HOK : Hid (∀ W, Below w4.heap.size w4 W → okT (n + 2) W (wrT x.pl w2.heap.size n sl)) := fun W hW => okT_kept (HMK.out w4 w2.heap.size HB4.out hmb) (Sc.cells_below hW)
  have hX4 : NdB w3.heap.size ⟨47, x.pl, noB, 0, noB⟩ (.slice (some ⟨w2.heap.size, 0, none⟩) 1 1) w4 := by rw [hw4]; exact at_new _ _
  have HX4 : Hid (∀ W, Below w4.heap.size w4 W → NdB w3.heap.size ⟨47, x.pl, noB, 0, noB⟩ (.slice (some ⟨w2.heap.size, 0, none⟩) 1 1) W) := fun W hW => hX4.chg (O := fun _ => False) (Chg.of_below hW) id
  have HT4 : Hid (∀ W, Below w4.heap.size w4 W → Below w2.heap.size w2 W) := fun W hW => hb24.trans (hW.mono hb24.size)
  have k5 := HSC.out w4 w2.heap.size (HOK.out w4 (Below.refl _ _))
  have HRQ : Hid (∀ W, Below w4.heap.size w4 W → Calls Try.prog 10 #[.agg #[.int .i64 47, .int .i64 x.pl, .string noB, .int .u64 0, .string noB, .slice (some ⟨w2.heap.size, 0, none⟩) 1 1]] W fun e w' => e = .returned (.bool (rootP (n + 2) (wrT x.pl w2.heap.size n sl))) ∧ Below W.heap.size W w') := fun W hW => HRR.out W w2.heap.size (HOK.out W hW)
  generalize rootP (n + 2) (wrT x.pl w2.heap.size n sl) = RB at *
  obtain ⟨d0, d1, d2, d3, d4, d5⟩ := hX4.cs
  simp only at d0 d1 d2 d3 d4 d5
  rw [hs3] at d0 d1 d2 d3 d4 d5
  clear HMK HSC HRR HOK hX4 hmb hb3 hb4 hb24 e1 e5
  unfold noB at hw3 hw4
  rw [← hw3, ← hw4]
  clear hw3 hw4
  go_wp2_with fail
  refine k5.mono ?_
  rintro e w5 ⟨hb5, u0, u1, u2, a, c, rfl, ⟨j0, n0, l0, rfl⟩, ⟨j1, n1, l1, rfl⟩, ⟨j2, n2, l2, rfl⟩, hq⟩
  obtain ⟨w6, hw6⟩ : ∃ w6, w6 = w5.alloc (.cells #[.slice j0 n0 l0, .slice j1 n1 l1, .slice j2 n2 l2] 37) := ⟨_, rfl⟩
  have hb6 : Below w5.heap.size w5 w6 := by rw [hw6]; exact (Below.refl _ _).alloc (Nat.le_refl _) _
  have HB46 : Hid (Below w4.heap.size w4 w6) := hb5.trans (hb6.mono hb5.size)
  have z0 : w6.cell? ⟨w5.heap.size, 0, none⟩ = some (.slice j0 n0 l0) := by rw [hw6]; exact box_new w5 _ _ 0 _ rfl
  have z1 : w6.cell? ⟨w5.heap.size, 1, none⟩ = some (.slice j1 n1 l1) := by rw [hw6]; exact box_new w5 _ _ 1 _ rfl
  have z2 : w6.cell? ⟨w5.heap.size, 2, none⟩ = some (.slice j2 n2 l2) := by rw [hw6]; exact box_new w5 _ _ 2 _ rfl
  have HZ : Hid (w6.cell? ⟨w5.heap.size, 0, none⟩ = some (.slice j0 n0 l0) ∧ w6.cell? ⟨w5.heap.size, 1, none⟩ = some (.slice j1 n1 l1) ∧ w6.cell? ⟨w5.heap.size, 2, none⟩ = some (.slice j2 n2 l2)) := ⟨z0, z1, z2⟩
  have HQ : Hid (RB = true → c = 0 ∧ OwnR scpC 4 42 w4.heap.size w6 (.slice j0 n0 l0) s.scopes ∧ OwnR vrC 6 45 w4.heap.size w6 (.slice j1 n1 l1) s.vars ∧ OwnR usC 2 47 w4.heap.size w6 (.slice j2 n2 l2) s.uses) := fun h => by
    obtain ⟨q1, q2, q3, q4⟩ := hq h
    exact ⟨q1, q2.below hb6, q3.below hb6, q4.below hb6⟩
  have k10 := HRQ.out w6 HB46.out
  clear k5 hb5 hb6 hq d0 d1 d2 d3 d4 d5 z0 z1 z2 HRQ
  obtain ⟨d0, d1, d2, d3, d4, d5⟩ := (HX4.out w6 HB46.out).cs
  simp only at d0 d1 d2 d3 d4 d5
  rw [hs3] at d0 d1 d2 d3 d4 d5
  go_upto_region 6 with fail
  rw [← hw6]
  clear hw6
  go_wp2_with fail
  refine k10.mono ?_
  rintro e w7 ⟨rfl, hb7⟩
  have HB7 : Hid (Below w6.heap.size w6 w7) := hb7
  have hal := alive_any w7
  clear k10 hb7 d0 d1 d2 d3 d4 d5
  go_wp2_with fail
  refine hal.mono ?_
  rintro e w8 ⟨rfl, hb8⟩
  have HB8 : Hid (Below w6.heap.size w6 w8) := HB7.out.trans (hb8.mono HB7.out.size)
  have HF8 : Hid (Below w2.heap.size w2 w8) := HT4.out w8 (HB46.out.trans (HB8.out.mono HB46.out.size))
  have HG8 : Hid (Below w.heap.size w w8) := HB2.out.trans (HF8.out.mono HB2.out.size)
  clear hal hb8
  cases RB with
  | false =>
    go_wp2_with fail
    go_ret
    exact ⟨rfl, HG8.out⟩
  | true =>
    obtain ⟨rfl, g0, g1, g2⟩ := HQ.out rfl
    obtain ⟨t0, t1, t2⟩ := HT.out
    obtain ⟨z0, z1, z2⟩ := HZ.out
    have T0 := Sc.cells_below HF8.out _ _ t0
    have T1 := Sc.cells_below HF8.out _ _ t1
    have T2 := Sc.cells_below HF8.out _ _ t2
    have Z0 := Sc.cells_below HB8.out _ _ z0
    have Z1 := Sc.cells_below HB8.out _ _ z1
    have Z2 := Sc.cells_below HB8.out _ _ z2
    obtain ⟨r0, r1, r2⟩ := HRW.out
    obtain ⟨m0, m1, m2⟩ := HBD.out
    have k18 := same_any w8 wb.heap.size w4.heap.size s.scopes s.vars s.uses _ _ _ _ _ _ (r0.below HF8.out) (r1.below HF8.out) (r2.below HF8.out) (g0.below HB8.out) (g1.below HB8.out) (g2.below HB8.out) m0 m1 m2
    clear r0 r1 r2 m0 m1 m2 g0 g1 g2 t0 t1 t2 z0 z1 z2 HQ HT HZ HRW
    go_wp2_with fail
    refine k18.mono ?_
    rintro e w9 ⟨rfl, hb9⟩
    have HG9 : Hid (Below w.heap.size w w9) := HG8.out.trans (hb9.mono HG8.out.size)
    clear k18 hb9
    go_wp2_with fail
    go_ret
    exact ⟨rfl, HG9.out⟩

theorem wrapped_walk (n : Nat) (t : Tr n) (w : World) (hok : okT n w t) : Calls Try.prog 7 #[valT n t] w fun e w' => e = .returned (.bool true) ∧ Below w.heap.size w w' := by
  cases hr : rootP n t with
  | false =>
    cases n with
    | zero => exact nomatch (t : Empty)
    | succ n =>
      obtain ⟨x, sl⟩ := t
      exact wrapped_bad w x _ _ _ (x.pl, 70) (by simp) (fun w1 h1 => resolve_wrong w1 n x sl (okT_kept hok (Sc.cells_below h1)) hr)
  | true =>
    obtain ⟨u, hv, _, hok2, hr2, hsz⟩ := cut_root w n t hok hr
    rw [← hv]
    obtain ⟨x, sl⟩ := u
    cases hR : resolveP bi 300 ((x, sl) : Nd × Sli (Tr 299)) with
    | error er =>
      refine wrapped_bad w x _ _ _ er (cod_resolve bi 300 _ er hR) (fun w1 h1 => ?_)
      have := resolve_right w1 299 x sl (okT_kept hok2 (Sc.cells_below h1)) hr2 hsz (by omega)
      rw [hR] at this
      exact this
    | ok s => exact wrapped_ok w 299 (by omega) x sl s hok2 hr2 hR
end Go.Proofs.Ytihmdcdifakepaa.Rv
