/- The document's tree: a list of statements. -/
import Derived.Test.YtihmdcdifakepaaB8
namespace Go.Proofs.Ytihmdcdifakepaa.Sc
open Go.RowKit
set_option linter.unusedVariables false

theorem item_other (n : Nat) (y : Tr n) (gen : Bool) (st : RS) (h : (ndT n y).kind < 31 ∨ 33 < (ndT n y).kind) : semR n 3 y gen st = semR n 5 y gen st := by
  cases n with
  | zero => exact nomatch (y : Empty)
  | succ n =>
    obtain ⟨x, s⟩ := y
    show itemR _ _ x s.xs gen st = singleR _ _ x s.xs gen st
    have h' : x.kind < 31 ∨ 33 < x.kind := h
    unfold itemR
    rw [if_pos h']
theorem item_fn (n : Nat) (y : Tr n) (gen : Bool) (st : RS) (h : (ndT n y).kind = 33) : semR n 3 y gen st = functT n y (decR (ndT n y).pl st) := by
  cases n with
  | zero => exact nomatch (y : Empty)
  | succ n =>
    obtain ⟨x, s⟩ := y
    have h' : x.kind = 33 := h
    show itemR _ _ x s.xs gen st = functR _ _ x s.xs (decR x.pl st)
    unfold itemR
    rw [if_neg (by omega), if_pos h']
theorem item_len (n : Nat) (y : Tr n) (gen : Bool) (st : RS) (h : (ndT n y).kind = 31 ∨ (ndT n y).kind = 32) (hl : nkT n y ≠ 1) : semR n 3 y gen st = none := by
  cases n with
  | zero => exact nomatch (y : Empty)
  | succ n =>
    obtain ⟨x, s⟩ := y
    have h' : x.kind = 31 ∨ x.kind = 32 := h
    have hl' : s.xs.length ≠ 1 := hl
    show itemR _ _ x s.xs gen st = none
    unfold itemR
    rw [if_neg (by omega), if_neg (by omega), if_pos hl']

/-- the one kid of a let or a const -/
theorem item_kid {B pb : Nat} {W0 : World} (hB : B = W0.heap.size) (n : Nat) (H1 : ∀ k, n = k + 1 → KidsRC B pb W0 k) (y : Tr n) (gen : Bool) (hok : okT n W0 y) (hl : nkT n y = 1) :
    ∃ (b off : Nat) (x0 : Nd) (ad0 : Option Addr) (len0 cap0 : Nat) (f0 f1 : RS → RS), atT n y = some ⟨b, off, none⟩ ∧ (∀ w, Below B W0 w → Six w b off x0 (.slice ad0 len0 cap0)) ∧
      RC B pb W0 34 #[.pointer (some ⟨pb, 0, none⟩), .agg #[.int .i64 x0.kind, .int .i64 x0.pl, .string x0.name, .int .u64 x0.num, .string x0.op, .slice ad0 len0 cap0], .bool gen] f0 (szT n y - 1) ∧
      RC B pb W0 35 #[.pointer (some ⟨pb, 0, none⟩), .agg #[.int .i64 x0.kind, .int .i64 x0.pl, .string x0.name, .int .u64 x0.num, .string x0.op, .slice ad0 len0 cap0], .bool gen] f1 (szT n y - 1) ∧
      ((ndT n y).kind = 32 → ∀ st, semR n 3 y gen st = f0 (decR (ndT n y).pl st)) ∧ ((ndT n y).kind = 31 → ∀ st, semR n 3 y gen st = f1 (decR (ndT n y).pl st)) := by
  cases n with
  | zero => exact nomatch (y : Empty)
  | succ n =>
    obtain ⟨x, s⟩ := y
    obtain ⟨ad, cap, xs⟩ := s
    have hl' : xs.length = 1 := hl
    match xs, hl' with
    | [k0], _ =>
      have H := H1 n rfl
      obtain ⟨b, off, e1, hlie⟩ := kids_lie hok.2.1 (by simp)
      have hk := hok.2.2 k0 (by simp)
      have hz : szT (n + 1) ((x, ⟨ad, cap, [k0]⟩) : Nd × Sli (Tr n)) - 1 = szT n k0 := by rw [szT]; simp
      refine ⟨b, off, ndT n k0, atT n k0, nkT n k0, capT n k0, semR n 0 k0 gen, semR n 1 k0 gen, e1, fun w hb => ?_, ?_, ?_, ?_, ?_⟩
      · have := hlie 0 k0 rfl B w hB hb
        simpa using this
      · rw [hz]; exact H.term k0 gen hk
      · rw [hz]; exact H.perh k0 gen hk
      · intro h st
        have h' : x.kind = 32 := h
        show itemR _ _ x [k0] gen st = _
        unfold itemR
        rw [if_neg (by omega), if_neg (by omega), if_neg (by simp), if_pos h']
        rfl
      · intro h st
        have h' : x.kind = 31 := h
        show itemR _ _ x [k0] gen st = _
        unfold itemR
        rw [if_neg (by omega), if_neg (by omega), if_neg (by simp), if_neg (by omega)]
        rfl

structure LsAt {n : Nat} (B pb : Nat) (W0 w : World) (vU vV : Value) (xs : List (Tr n)) (gen : Bool) (st0 : RS) (m0 : Nat) (k : Nat) (wr : World) (vU' vV' : Value) (st : RS) (m : Nat) : Prop where
  le : k ≤ xs.length
  val : foldR (fun y st => semR n 3 y gen st) xs st0 = foldR (fun y st => semR n 3 y gen st) (xs.drop k) st
  bel : Below B W0 wr
  pl : PlAt B pb wr st m vU' vV'
  stp : Stp pb w vU vV wr vU' vV'
  bud : m + szL (xs.drop k) ≤ m0 + szL xs

theorem fold_bad {n : Nat} (xs : List (Tr n)) (gen : Bool) : foldR (fun y st => semR n 3 y gen st) xs none = none := fold_none _ (fun k => ((ok_all n).item k gen).nil) xs

theorem LsAt.next {n : Nat} {B pb : Nat} {W0 w : World} {vU vV : Value} {xs : List (Tr n)} {gen : Bool} {st0 : RS} {m0 k : Nat} {wr : World} {vU' vV' : Value} {st : RS} {m : Nat} (h : LsAt B pb W0 w vU vV xs gen st0 m0 k wr vU' vV' st m)
    {y : Tr n} (hy : xs.drop k = y :: xs.drop (k + 1)) (hk : k < xs.length) {w2 : World} {vU2 vV2 : Value} {st2 : RS} {m2 : Nat} (hst : st2 = semR n 3 y gen st) (hp : PlAt B pb w2 st2 m2 vU2 vV2) (hs : Stp pb wr vU' vV' w2 vU2 vV2) (hb : Below B W0 w2) (hm : m2 ≤ m + szT n y) :
    LsAt B pb W0 w vU vV xs gen st0 m0 (k + 1) w2 vU2 vV2 st2 m2 := by
  refine ⟨hk, ?_, hb, hp, h.stp.trans hs, ?_⟩
  · rw [h.val, hy, foldR, hst]
  · have := h.bud
    rw [hy, szL_cons] at this
    omega


set_option maxRecDepth 100000 in
set_option maxHeartbeats 1000000 in
theorem list_rc {B pb : Nat} {W0 : World} {n : Nat} (H : KidsRC B pb W0 n) (H1 : ∀ k, n = k + 1 → KidsRC B pb W0 k) (hB : B = W0.heap.size) (s : Sli (Tr n)) (gen : Bool) (hs : s.ok (encT n) 6 W0) (hk : ∀ y ∈ s.xs, okT n W0 y) :
    RC B pb W0 22 #[.pointer (some ⟨pb, 0, none⟩), .slice s.at' s.xs.length s.cap, .bool gen] (bodyR (semR n) s.xs gen) (szL s.xs) := by
  intro w vU vV st m hb hp hm
  have HH : Hid (KidsRC B pb W0 n ∧ ∀ k, n = k + 1 → KidsRC B pb W0 k) := ⟨H, H1⟩
  have HBE : Hid (B = W0.heap.size) := hB
  have HS : Hid (s.ok (encT n) 6 W0 ∧ ∀ y ∈ s.xs, okT n W0 y) := ⟨hs, hk⟩
  have hl : s.xs.length ≤ maxLen := Nat.le_trans hs.len hs.cap
  unfold maxLen at hl
  have HI : Hid (LsAt B pb W0 w vU vV s.xs gen st m 0 w vU vV st m) := ⟨Nat.zero_le _, rfl, hb, hp, Stp.refl _ _ _ _, Nat.le_refl _⟩
  have HM : Hid (m + szL s.xs ≤ 1000000) := hm
  clear hb hp hs hk H H1 hB hm
  obtain ⟨ad, cap, xs⟩ := s
  simp only at HS hl HI HM ⊢
  unfold bodyR
  go_enter Try.func22, Try.ntmps22
  go_wp2_with fail
  go_loopw [6] (fun i wr => ∃ (k : Nat) (vU' vV' : Value) (st' : RS) (m' : Nat), LsAt B pb W0 w vU vV xs gen st m k wr vU' vV' st' m' ∧ i = .int .i64 k) (fun i wr => xs.length - (intOf i).toNat)
  case atStart => exact ⟨0, vU, vV, st, m, HI.out, rfl⟩
  case round =>
    obtain ⟨k, vU1, vV1, st1, m1, hr, rfl⟩ := hrel
    have ple := hr.le
    have HR : Hid (LsAt B pb W0 w vU vV xs gen st m k wr vU1 vV1 st1 m1) := hr
    obtain ⟨c2, f2⟩ := hr.pl.bad
    clear hr HI
    rcases Nat.lt_or_ge k xs.length with c | c
    · cases st1 with
      | none =>
        simp only [Option.isNone_none] at c2
        have HE : Hid (foldR (fun y st => semR n 3 y gen st) xs st = none) := by
          show _ = _
          rw [HR.out.val, fold_bad]
        go_wp2_with fail
        go_end0
        refine ⟨rfl, vU1, vV1, ?_, HR.out.stp, HR.out.bel⟩
        rw [HE.out]
        exact HR.out.pl.more (by have := HR.out.bud; omega)
      | some s1 =>
        simp only [Option.isNone_some] at c2
        have hex : ∃ y, xs[k]? = some y := ⟨_, List.getElem?_eq_getElem c⟩
        obtain ⟨y, hy⟩ := hex
        have hd : xs.drop k = y :: xs.drop (k + 1) := by
          rw [List.drop_eq_getElem_cons c]
          rw [List.getElem?_eq_getElem c] at hy
          rw [Option.some.inj hy]
        obtain ⟨b, off, e1, hlie⟩ := kids_lie HS.out.1 (by intro e; simp only at e; rw [e] at c; simp at c)
        simp only at e1 hlie
        subst e1
        have six := hlie k y hy B wr HBE.out HR.out.bel
        have HY : Hid (xs[k]? = some y ∧ xs.drop k = y :: xs.drop (k + 1) ∧ okT n W0 y) := ⟨hy, hd, HS.out.2 y (List.mem_of_getElem? hy)⟩
        have HBU : Hid (m1 + szT n y ≤ 1000000 ∧ 1 ≤ szT n y) := by
          have h1 := HR.out.bud
          have h2 := HM.out
          rw [hd, szL_cons] at h1
          exact ⟨by omega, sz_pos n y⟩
        have hnk : nkT n y ≤ maxLen := by
          have := HY.out.2.2
          cases n with
          | zero => exact nomatch (y : Empty)
          | succ n => obtain ⟨x, q⟩ := y; exact Nat.le_trans this.2.1.len this.2.1.cap
        unfold maxLen at hnk
        clear hy hd hlie
        obtain ⟨wb, hwb⟩ : ∃ wb, wb = wr.alloc (.cells #[.int .i64 (ndT n y).kind, .int .i64 (ndT n y).pl, .string (ndT n y).name, .int .u64 (ndT n y).num, .string (ndT n y).op, .slice (atT n y) (nkT n y) (capT n y)] 25) := ⟨_, rfl⟩
        have FR : Hid (Fr B pb W0 wr vU1 vV1 wr.heap.size #[.int .i64 (ndT n y).kind, .int .i64 (ndT n y).pl, .string (ndT n y).name, .int .u64 (ndT n y).num, .string (ndT n y).op, .slice (atT n y) (nkT n y) (capT n y)] wb vU1 vV1 (some s1) m1) := by rw [hwb]; exact Fr.start HR.out.bel HR.out.pl _ _
        obtain ⟨yk, hyk⟩ : ∃ yk, yk = (ndT n y).kind := ⟨_, rfl⟩
        obtain ⟨yp, hyp⟩ : ∃ yp, yp = (ndT n y).pl := ⟨_, rfl⟩
        obtain ⟨yn, hyn⟩ : ∃ yn, yn = (ndT n y).name := ⟨_, rfl⟩
        obtain ⟨yu, hyu⟩ : ∃ yu, yu = (ndT n y).num := ⟨_, rfl⟩
        obtain ⟨yo, hyo⟩ : ∃ yo, yo = (ndT n y).op := ⟨_, rfl⟩
        obtain ⟨y0, y1, y2, y3, y4, y5⟩ := six
        have HC : Hid ((∀ g, RC B pb W0 31 #[.pointer (some ⟨pb, 0, none⟩), .agg #[.int .i64 yk, .int .i64 yp, .string yn, .int .u64 yu, .string yo, .slice (atT n y) (nkT n y) (capT n y)], .bool g] (semR n 5 y g) (szT n y)) ∧ RC B pb W0 33 #[.pointer (some ⟨pb, 0, none⟩), .agg #[.int .i64 yk, .int .i64 yp, .string yn, .int .u64 yu, .string yo, .slice (atT n y) (nkT n y) (capT n y)]] (functT n y) (szT n y - 1)) := by
          rw [hyk, hyp, hyn, hyu, hyo]
          exact ⟨fun g => HH.out.1.sing y g HY.out.2.2, HH.out.1.funct y HY.out.2.2⟩
        have HN : Hid (yk = (ndT n y).kind ∧ yp = (ndT n y).pl) := ⟨hyk, hyp⟩
        rw [← hyk, ← hyp, ← hyn, ← hyu, ← hyo] at hwb FR
        rw [← hyk] at y0
        rw [← hyp] at y1
        rw [← hyn] at y2
        rw [← hyu] at y3
        rw [← hyo] at y4
        clear hyk hyp hyn hyu hyo
        have b0 : wb.cell? ⟨wr.heap.size, 0, none⟩ = some (.int .i64 yk) := FR.out.box 0 _ rfl
        have b1 : wb.cell? ⟨wr.heap.size, 1, none⟩ = some (.int .i64 yp) := FR.out.box 1 _ rfl
        have b2 : wb.cell? ⟨wr.heap.size, 2, none⟩ = some (.string yn) := FR.out.box 2 _ rfl
        have b3 : wb.cell? ⟨wr.heap.size, 3, none⟩ = some (.int .u64 yu) := FR.out.box 3 _ rfl
        have b4 : wb.cell? ⟨wr.heap.size, 4, none⟩ = some (.string yo) := FR.out.box 4 _ rfl
        have b5 : wb.cell? ⟨wr.heap.size, 5, none⟩ = some (.slice (atT n y) (nkT n y) (capT n y)) := FR.out.box 5 _ rfl
        by_cases t1 : yk < 31 ∨ 33 < yk
        · have hc := HC.out.1 gen wb vU1 vV1 (some s1) m1 FR.out.bel FR.out.pl HBU.out.1
          rcases t1 with t1 | t1
          all_goals
            go_upto_region 4 with fail
            rw [← hwb]
            clear hwb
            go_wp2_with fail
            refine hc.mono ?_
            rintro e w2 ⟨rfl, vU2, vV2, p2, s2, q2⟩
            have HX : Hid (LsAt B pb W0 w vU vV xs gen st m (k + 1) w2 vU2 vV2 (semR n 5 y gen (some s1)) (m1 + szT n y)) :=
              HR.out.next HY.out.2.1 c (by rw [item_other n y gen _ (by rw [← HN.out.1]; omega)]) p2 (FR.out.stp.trans s2) q2 (Nat.le_refl _)
            clear p2 s2 q2 hc
            go_wp2_with fail
            refine ⟨⟨k + 1, _, _, _, _, HX.out, by go_num⟩, ?_⟩
            simp [intOf]
            omega
        · have hd := declared_rc B pb W0 yp wb vU1 vV1 (some s1) m1 FR.out.bel FR.out.pl (by have := HBU.out; omega)
          have t2 : yk = 33 ∨ yk = 31 ∨ yk = 32 := by omega
          clear t1
          rcases t2 with t2 | t2 | t2
          · subst t2
            go_upto_region 4 with fail
            rw [← hwb]
            clear hwb
            go_wp2_with fail
            refine hd.mono ?_
            rintro e w2 ⟨rfl, vU2, vV2, p2, s2, q2⟩
            have FR2 : Hid (Fr B pb W0 wr vU1 vV1 wr.heap.size #[.int .i64 33, .int .i64 yp, .string yn, .int .u64 yu, .string yo, .slice (atT n y) (nkT n y) (capT n y)] w2 vU2 vV2 (decR yp (some s1)) (m1 + 1)) := FR.out.call p2 s2 q2
            have d0 : w2.cell? ⟨wr.heap.size, 0, none⟩ = some (.int .i64 33) := FR2.out.box 0 _ rfl
            have d1 : w2.cell? ⟨wr.heap.size, 1, none⟩ = some (.int .i64 yp) := FR2.out.box 1 _ rfl
            have d2 : w2.cell? ⟨wr.heap.size, 2, none⟩ = some (.string yn) := FR2.out.box 2 _ rfl
            have d3 : w2.cell? ⟨wr.heap.size, 3, none⟩ = some (.int .u64 yu) := FR2.out.box 3 _ rfl
            have d4 : w2.cell? ⟨wr.heap.size, 4, none⟩ = some (.string yo) := FR2.out.box 4 _ rfl
            have d5 : w2.cell? ⟨wr.heap.size, 5, none⟩ = some (.slice (atT n y) (nkT n y) (capT n y)) := FR2.out.box 5 _ rfl
            obtain ⟨g2, h2⟩ := FR2.out.pl.bad
            clear p2 s2 q2 hd
            have hc := HC.out.2 w2 vU2 vV2 (decR yp (some s1)) (m1 + 1) FR2.out.bel FR2.out.pl (by have := HBU.out; omega)
            go_wp2_with fail
            refine hc.mono ?_
            rintro e w3 ⟨rfl, vU3, vV3, p3, s3, q3⟩
            have HX : Hid (LsAt B pb W0 w vU vV xs gen st m (k + 1) w3 vU3 vV3 (functT n y (decR yp (some s1))) (m1 + 1 + (szT n y - 1))) :=
              HR.out.next HY.out.2.1 c (by rw [item_fn n y gen _ HN.out.1.symm, ← HN.out.2]) p3 (FR2.out.stp.trans s3) q3 (by have := HBU.out; omega)
            clear p3 s3 q3 hc
            go_wp2_with fail
            refine ⟨⟨k + 1, _, _, _, _, HX.out, by go_num⟩, ?_⟩
            simp [intOf]
            omega
          · subst t2
            by_cases t3 : nkT n y = 1
            · obtain ⟨kb, ko, x0, ad0, len0, cap0, g0, g1, e1, hsix, r0, r1, i0, i1⟩ := item_kid HBE.out n HH.out.2 y gen HY.out.2.2 t3
              have HK : Hid ((∀ w, Below B W0 w → Six w kb ko x0 (.slice ad0 len0 cap0)) ∧ RC B pb W0 35 #[.pointer (some ⟨pb, 0, none⟩), .agg #[.int .i64 x0.kind, .int .i64 x0.pl, .string x0.name, .int .u64 x0.num, .string x0.op, .slice ad0 len0 cap0], .bool gen] g1 (szT n y - 1) ∧ (∀ st, semR n 3 y gen st = g1 (decR (ndT n y).pl st))) := ⟨hsix, r1, i1 HN.out.1.symm⟩
              rw [t3, e1] at hwb FR b5 HC
              clear hsix r0 r1 i0 i1
              go_upto_region 4 with fail
              rw [← hwb]
              clear hwb
              go_wp2_with fail
              refine hd.mono ?_
              rintro e w2 ⟨rfl, vU2, vV2, p2, s2, q2⟩
              have FR2 : Hid (Fr B pb W0 wr vU1 vV1 wr.heap.size #[.int .i64 31, .int .i64 yp, .string yn, .int .u64 yu, .string yo, .slice (some ⟨kb, ko, none⟩) 1 (capT n y)] w2 vU2 vV2 (decR yp (some s1)) (m1 + 1)) := FR.out.call p2 s2 q2
              have d0 : w2.cell? ⟨wr.heap.size, 0, none⟩ = some (.int .i64 31) := FR2.out.box 0 _ rfl
              have d1 : w2.cell? ⟨wr.heap.size, 1, none⟩ = some (.int .i64 yp) := FR2.out.box 1 _ rfl
              have d2 : w2.cell? ⟨wr.heap.size, 2, none⟩ = some (.string yn) := FR2.out.box 2 _ rfl
              have d3 : w2.cell? ⟨wr.heap.size, 3, none⟩ = some (.int .u64 yu) := FR2.out.box 3 _ rfl
              have d4 : w2.cell? ⟨wr.heap.size, 4, none⟩ = some (.string yo) := FR2.out.box 4 _ rfl
              have d5 : w2.cell? ⟨wr.heap.size, 5, none⟩ = some (.slice (some ⟨kb, ko, none⟩) 1 (capT n y)) := FR2.out.box 5 _ rfl
              obtain ⟨g2, h2⟩ := FR2.out.pl.bad
              clear p2 s2 q2 hd
              obtain ⟨z0, z1, z2, z3, z4, z5⟩ := HK.out.1 w2 FR2.out.bel
              have hc := HK.out.2.1 w2 vU2 vV2 (decR yp (some s1)) (m1 + 1) FR2.out.bel FR2.out.pl (by have := HBU.out; omega)
              go_wp2_with fail
              refine hc.mono ?_
              rintro e w3 ⟨rfl, vU3, vV3, p3, s3, q3⟩
              have HX : Hid (LsAt B pb W0 w vU vV xs gen st m (k + 1) w3 vU3 vV3 (g1 (decR yp (some s1))) (m1 + 1 + (szT n y - 1))) :=
                HR.out.next HY.out.2.1 c (by rw [HK.out.2.2, ← HN.out.2]) p3 (FR2.out.stp.trans s3) q3 (by have := HBU.out; omega)
              clear p3 s3 q3 hc
              go_wp2_with fail
              refine ⟨⟨k + 1, _, _, _, _, HX.out, by go_num⟩, ?_⟩
              simp [intOf]
              omega
            · have t4 : (((nkT n y : Nat) : Int) == 1) = false := by simp; omega
              have HE : Hid (foldR (fun y st => semR n 3 y gen st) xs st = none) := by
                show _ = _
                rw [HR.out.val, HY.out.2.1, foldR, item_len n y gen _ (by rw [← HN.out.1]; omega) t3, fold_bad]
              go_upto_region 4 with fail
              rw [← hwb]
              clear hwb
              go_wp2_with fail
              refine hd.mono ?_
              rintro e w2 ⟨rfl, vU2, vV2, p2, s2, q2⟩
              have FR2 : Hid (Fr B pb W0 wr vU1 vV1 wr.heap.size #[.int .i64 31, .int .i64 yp, .string yn, .int .u64 yu, .string yo, .slice (atT n y) (nkT n y) (capT n y)] w2 vU2 vV2 (decR yp (some s1)) (m1 + 1)) := FR.out.call p2 s2 q2
              have d0 : w2.cell? ⟨wr.heap.size, 0, none⟩ = some (.int .i64 31) := FR2.out.box 0 _ rfl
              have d1 : w2.cell? ⟨wr.heap.size, 1, none⟩ = some (.int .i64 yp) := FR2.out.box 1 _ rfl
              have d2 : w2.cell? ⟨wr.heap.size, 2, none⟩ = some (.string yn) := FR2.out.box 2 _ rfl
              have d3 : w2.cell? ⟨wr.heap.size, 3, none⟩ = some (.int .u64 yu) := FR2.out.box 3 _ rfl
              have d4 : w2.cell? ⟨wr.heap.size, 4, none⟩ = some (.string yo) := FR2.out.box 4 _ rfl
              have d5 : w2.cell? ⟨wr.heap.size, 5, none⟩ = some (.slice (atT n y) (nkT n y) (capT n y)) := FR2.out.box 5 _ rfl
              obtain ⟨g2, h2⟩ := FR2.out.pl.bad
              clear p2 s2 q2 hd
              go_wp2_with fail
              refine bodyPost_ret (results_none rfl _ _ _) rfl ?_
              obtain ⟨a1, a2⟩ := FR2.out.pl.spoil
              refine ⟨rfl, vU2, vV2, ?_, (HR.out.stp.trans FR2.out.stp).trans a2, FR2.out.pl.below a2 FR2.out.bel⟩
              rw [HE.out]
              exact a1.more (by have := HR.out.bud; have := HBU.out; have h3 : szL (xs.drop k) = szT n y + szL (xs.drop (k + 1)) := (by rw [HY.out.2.1, szL_cons]); omega)
          · subst t2
            by_cases t3 : nkT n y = 1
            · obtain ⟨kb, ko, x0, ad0, len0, cap0, g0, g1, e1, hsix, r0, r1, i0, i1⟩ := item_kid HBE.out n HH.out.2 y gen HY.out.2.2 t3
              have HK : Hid ((∀ w, Below B W0 w → Six w kb ko x0 (.slice ad0 len0 cap0)) ∧ RC B pb W0 34 #[.pointer (some ⟨pb, 0, none⟩), .agg #[.int .i64 x0.kind, .int .i64 x0.pl, .string x0.name, .int .u64 x0.num, .string x0.op, .slice ad0 len0 cap0], .bool gen] g0 (szT n y - 1) ∧ (∀ st, semR n 3 y gen st = g0 (decR (ndT n y).pl st))) := ⟨hsix, r0, i0 HN.out.1.symm⟩
              rw [t3, e1] at hwb FR b5 HC
              clear hsix r0 r1 i0 i1
              go_upto_region 4 with fail
              rw [← hwb]
              clear hwb
              go_wp2_with fail
              refine hd.mono ?_
              rintro e w2 ⟨rfl, vU2, vV2, p2, s2, q2⟩
              have FR2 : Hid (Fr B pb W0 wr vU1 vV1 wr.heap.size #[.int .i64 32, .int .i64 yp, .string yn, .int .u64 yu, .string yo, .slice (some ⟨kb, ko, none⟩) 1 (capT n y)] w2 vU2 vV2 (decR yp (some s1)) (m1 + 1)) := FR.out.call p2 s2 q2
              have d0 : w2.cell? ⟨wr.heap.size, 0, none⟩ = some (.int .i64 32) := FR2.out.box 0 _ rfl
              have d1 : w2.cell? ⟨wr.heap.size, 1, none⟩ = some (.int .i64 yp) := FR2.out.box 1 _ rfl
              have d2 : w2.cell? ⟨wr.heap.size, 2, none⟩ = some (.string yn) := FR2.out.box 2 _ rfl
              have d3 : w2.cell? ⟨wr.heap.size, 3, none⟩ = some (.int .u64 yu) := FR2.out.box 3 _ rfl
              have d4 : w2.cell? ⟨wr.heap.size, 4, none⟩ = some (.string yo) := FR2.out.box 4 _ rfl
              have d5 : w2.cell? ⟨wr.heap.size, 5, none⟩ = some (.slice (some ⟨kb, ko, none⟩) 1 (capT n y)) := FR2.out.box 5 _ rfl
              obtain ⟨g2, h2⟩ := FR2.out.pl.bad
              clear p2 s2 q2 hd
              obtain ⟨z0, z1, z2, z3, z4, z5⟩ := HK.out.1 w2 FR2.out.bel
              have hc := HK.out.2.1 w2 vU2 vV2 (decR yp (some s1)) (m1 + 1) FR2.out.bel FR2.out.pl (by have := HBU.out; omega)
              go_wp2_with fail
              refine hc.mono ?_
              rintro e w3 ⟨rfl, vU3, vV3, p3, s3, q3⟩
              have HX : Hid (LsAt B pb W0 w vU vV xs gen st m (k + 1) w3 vU3 vV3 (g0 (decR yp (some s1))) (m1 + 1 + (szT n y - 1))) :=
                HR.out.next HY.out.2.1 c (by rw [HK.out.2.2, ← HN.out.2]) p3 (FR2.out.stp.trans s3) q3 (by have := HBU.out; omega)
              clear p3 s3 q3 hc
              go_wp2_with fail
              refine ⟨⟨k + 1, _, _, _, _, HX.out, by go_num⟩, ?_⟩
              simp [intOf]
              omega
            · have t4 : (((nkT n y : Nat) : Int) == 1) = false := by simp; omega
              have HE : Hid (foldR (fun y st => semR n 3 y gen st) xs st = none) := by
                show _ = _
                rw [HR.out.val, HY.out.2.1, foldR, item_len n y gen _ (by rw [← HN.out.1]; omega) t3, fold_bad]
              go_upto_region 4 with fail
              rw [← hwb]
              clear hwb
              go_wp2_with fail
              refine hd.mono ?_
              rintro e w2 ⟨rfl, vU2, vV2, p2, s2, q2⟩
              have FR2 : Hid (Fr B pb W0 wr vU1 vV1 wr.heap.size #[.int .i64 32, .int .i64 yp, .string yn, .int .u64 yu, .string yo, .slice (atT n y) (nkT n y) (capT n y)] w2 vU2 vV2 (decR yp (some s1)) (m1 + 1)) := FR.out.call p2 s2 q2
              have d0 : w2.cell? ⟨wr.heap.size, 0, none⟩ = some (.int .i64 32) := FR2.out.box 0 _ rfl
              have d1 : w2.cell? ⟨wr.heap.size, 1, none⟩ = some (.int .i64 yp) := FR2.out.box 1 _ rfl
              have d2 : w2.cell? ⟨wr.heap.size, 2, none⟩ = some (.string yn) := FR2.out.box 2 _ rfl
              have d3 : w2.cell? ⟨wr.heap.size, 3, none⟩ = some (.int .u64 yu) := FR2.out.box 3 _ rfl
              have d4 : w2.cell? ⟨wr.heap.size, 4, none⟩ = some (.string yo) := FR2.out.box 4 _ rfl
              have d5 : w2.cell? ⟨wr.heap.size, 5, none⟩ = some (.slice (atT n y) (nkT n y) (capT n y)) := FR2.out.box 5 _ rfl
              obtain ⟨g2, h2⟩ := FR2.out.pl.bad
              clear p2 s2 q2 hd
              go_wp2_with fail
              refine bodyPost_ret (results_none rfl _ _ _) rfl ?_
              obtain ⟨a1, a2⟩ := FR2.out.pl.spoil
              refine ⟨rfl, vU2, vV2, ?_, (HR.out.stp.trans FR2.out.stp).trans a2, FR2.out.pl.below a2 FR2.out.bel⟩
              rw [HE.out]
              exact a1.more (by have := HR.out.bud; have := HBU.out; have h3 : szL (xs.drop k) = szT n y + szL (xs.drop (k + 1)) := (by rw [HY.out.2.1, szL_cons]); omega)
    · have HE : Hid (foldR (fun y st => semR n 3 y gen st) xs st = st1) := by
        show _ = _
        rw [HR.out.val, List.drop_of_length_le c]
        rfl
      go_wp2_with fail
      go_end0
      refine ⟨rfl, vU1, vV1, ?_, HR.out.stp, HR.out.bel⟩
      rw [HE.out]
      exact HR.out.pl.more (by have := HR.out.bud; omega)
end Go.Proofs.Ytihmdcdifakepaa.Sc
