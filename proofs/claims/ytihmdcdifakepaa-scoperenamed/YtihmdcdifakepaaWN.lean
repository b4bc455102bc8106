/- The document's tree: a term that gives something. -/
import Derived.Test.YtihmdcdifakepaaWM
namespace Go.Proofs.Ytihmdcdifakepaa.Sc
open Go.RowKit
set_option linter.unusedVariables false

set_option maxRecDepth 100000 in
set_option maxHeartbeats 2000000 in
theorem term_given0 {B pb : Nat} {W0 : World} {n : Nat} (H : KidsRC B pb W0 n) (hB : B = W0.heap.size) (pl num : Int) (name op : ByteArray) (ad : Option Addr) (cap : Nat) (xs : List (Tr n)) (gen : Bool) (hsl : Sli.ok (encT n) 6 W0 ⟨ad, cap, xs⟩) (hk : ∀ y ∈ xs, okT n W0 y) (hcond : (shapeR (⟨21, pl, name, num, op⟩ : Nd)).2.2 = true ∧ ¬ (xs.length : Int) < (shapeR (⟨21, pl, name, num, op⟩ : Nd)).1 ∧ ¬ (0 ≤ (shapeR (⟨21, pl, name, num, op⟩ : Nd)).2.1 ∧ (shapeR (⟨21, pl, name, num, op⟩ : Nd)).2.1 < (xs.length : Int))) (k0 : Tr n) (hk0 : xs[0]? = some k0) (kk : Int) (hkk : kk = (ndT n k0).kind) (hk3 : kk = 3)
    (w : World) (vU vV : Value) (s : St) (m : Nat) (hb : Below B W0 w) (hp : PlAt B pb w (some s) m vU vV) (hm : m + (1 + szL xs) ≤ 1000000) (hl : xs.length ≤ 2 ^ 63 - 1) :
    Calls Try.prog 34 #[.pointer (some ⟨pb, 0, none⟩), .agg #[.int .i64 21, .int .i64 pl, .string name, .int .u64 num, .string op, .slice ad xs.length cap], .bool gen] w fun e w' => e = .returned (.tuple #[]) ∧ ∃ vU' vV', PlAt B pb w' (foldR (termKidR (semR n) ⟨21, pl, name, num, op⟩ gen) xs (some s)) (m + (1 + szL xs)) vU' vV' ∧ Stp pb w vU vV w' vU' vV' ∧ Below B W0 w' := by
  have HH : Hid (KidsRC B pb W0 n) := H
  have HBE : Hid (B = W0.heap.size) := hB
  have HS : Hid (Sli.ok (encT n) 6 W0 ⟨ad, cap, xs⟩ ∧ ∀ y ∈ xs, okT n W0 y) := ⟨hsl, hk⟩
  have HM : Hid (m + (1 + szL xs) ≤ 1000000) := hm
  have HB : Hid (Below B W0 w ∧ PlAt B pb w (some s) m vU vV) := ⟨hb, hp⟩
  clear hb hp H hB hm hsl hk
  obtain ⟨wb, hwb⟩ : ∃ wb, wb = w.alloc (.cells #[.int .i64 21, .int .i64 pl, .string name, .int .u64 num, .string op, .slice ad xs.length cap] 25) := ⟨_, rfl⟩
  have FR : Hid (Fr B pb W0 w vU vV w.heap.size #[.int .i64 21, .int .i64 pl, .string name, .int .u64 num, .string op, .slice ad xs.length cap] wb vU vV (some s) m) := by rw [hwb]; exact Fr.start HB.out.1 HB.out.2 _ _
  have b0 : wb.cell? ⟨w.heap.size, 0, none⟩ = some (.int .i64 21) := FR.out.box 0 _ rfl
  have b1 : wb.cell? ⟨w.heap.size, 1, none⟩ = some (.int .i64 pl) := FR.out.box 1 _ rfl
  have b2 : wb.cell? ⟨w.heap.size, 2, none⟩ = some (.string name) := FR.out.box 2 _ rfl
  have b3 : wb.cell? ⟨w.heap.size, 3, none⟩ = some (.int .u64 num) := FR.out.box 3 _ rfl
  have b4 : wb.cell? ⟨w.heap.size, 4, none⟩ = some (.string op) := FR.out.box 4 _ rfl
  have b5 : wb.cell? ⟨w.heap.size, 5, none⟩ = some (.slice ad xs.length cap) := FR.out.box 5 _ rfl
  obtain ⟨c2, f2⟩ := FR.out.pl.bad
  simp only [Option.isNone_some] at c2
  obtain ⟨b, off, e1, hlie⟩ := kids_lie HS.out.1 (by intro e; simp only at e; rw [e] at hk0; simp at hk0)
  simp only at e1 hlie
  subst e1
  have HL : Hid (∀ (k : Nat) (y : Tr n), xs[k]? = some y → ∀ (B : Nat) (w : World), B = W0.heap.size → Below B W0 w → Six w b (off + k * 6) (ndT n y) (.slice (atT n y) (nkT n y) (capT n y))) := hlie
  have HK0 : Hid (xs[0]? = some k0 ∧ kk = (ndT n k0).kind) := ⟨hk0, hkk⟩
  have hlen0 : 0 < xs.length := by
    rcases Nat.eq_zero_or_pos xs.length with q | q
    · rw [List.length_eq_zero_iff] at q; rw [q] at hk0; simp at hk0
    · exact q
  clear hlie hk0 hkk
  have pbn : ¬ pb = w.heap.size := fun e => FR.out.sep (Or.inl e.symm)
  subst hk3
  have hsh := shape_any (⟨21, pl, name, num, op⟩ : Nd) (some ⟨b, off, none⟩) xs.length cap wb
  simp only at hsh
  obtain ⟨lo, hlo⟩ : ∃ lo, lo = (shapeR (⟨21, pl, name, num, op⟩ : Nd)).1 := ⟨_, rfl⟩
  obtain ⟨hi, hhi⟩ : ∃ hi, hi = (shapeR (⟨21, pl, name, num, op⟩ : Nd)).2.1 := ⟨_, rfl⟩
  obtain ⟨okk, hokk⟩ : ∃ okk, okk = (shapeR (⟨21, pl, name, num, op⟩ : Nd)).2.2 := ⟨_, rfl⟩
  unfold ShPost at hsh
  rw [← hlo, ← hhi, ← hokk] at hsh
  rw [← hlo, ← hhi, ← hokk] at hcond
  clear hlo hhi hokk
  obtain ⟨hok1, hok2, hok3⟩ := hcond
  subst hok1
  go_enter Try.func34, Try.ntmps34
  go_upto_region 1 with fail
  rw [← hwb]
  clear hwb
  go_wp2_with fail
  refine hsh.mono ?_
  rintro e w2 ⟨sb, zs, rfl, hstr, hany, hzl, hbel⟩
  have FR2 : Hid (Fr B pb W0 w vU vV w.heap.size #[.int .i64 21, .int .i64 pl, .string name, .int .u64 num, .string op, .slice (some ⟨b, off, none⟩) xs.length cap] w2 vU vV (some s) m) := FR.out.new hbel
  have b0' : w2.cell? ⟨w.heap.size, 0, none⟩ = some (.int .i64 21) := FR2.out.box 0 _ rfl
  have b1' : w2.cell? ⟨w.heap.size, 1, none⟩ = some (.int .i64 pl) := FR2.out.box 1 _ rfl
  have b2' : w2.cell? ⟨w.heap.size, 2, none⟩ = some (.string name) := FR2.out.box 2 _ rfl
  have b3' : w2.cell? ⟨w.heap.size, 3, none⟩ = some (.int .u64 num) := FR2.out.box 3 _ rfl
  have b4' : w2.cell? ⟨w.heap.size, 4, none⟩ = some (.string op) := FR2.out.box 4 _ rfl
  have b5' : w2.cell? ⟨w.heap.size, 5, none⟩ = some (.slice (some ⟨b, off, none⟩) xs.length cap) := FR2.out.box 5 _ rfl
  obtain ⟨g2, h2⟩ := FR2.out.pl.bad
  simp only [Option.isNone_some] at g2
  have ham := among_any op (some ⟨sb, 0, none⟩) zs.length zs w2 hstr hzl
  rw [hany] at ham
  clear hsh hstr hany hbel b0 b1 b2 b3 b4 b5 c2 f2
  go_wp2_with fail
  refine ham.mono ?_
  rintro e w3 ⟨rfl, rfl⟩
  clear ham
  go_upto_region 8 with fail
  go_cut [58] from 39 to 58 (fun c wx => c = .bool false ∧ wx = w3)
  case first =>
    have hok4 : decide ((xs.length : Int) < lo) = false := by simpa using hok2
    by_cases q : 0 ≤ hi
    · have q2 : ¬ hi < (xs.length : Int) := fun z => hok3 ⟨q, z⟩
      go_wp2_with fail
      go_meet
      exact ⟨rfl, rfl⟩
    · have q3 : decide (0 ≤ hi) = false := by simpa using q
      go_wp2_with fail
      go_meet
      exact ⟨rfl, rfl⟩
  case rest =>
    obtain ⟨rfl, rfl⟩ := hcut
    clear hok2 hok3
    have z0 : wc.cell? ⟨b, off, none⟩ = some (.int .i64 (3)) := by
      have := (HL.out 0 k0 HK0.out.1 B wc HBE.out FR2.out.bel).1
      rw [← HK0.out.2] at this
      simpa using this
    have HI : Hid (TmAt B pb W0 w vU vV #[.int .i64 21, .int .i64 pl, .string name, .int .u64 num, .string op, .slice (some ⟨b, off, none⟩) xs.length cap] (termKidR (semR n) (⟨21, pl, name, num, op⟩ : Nd) gen) xs (some s) m 0 wc vU vV (some s) (m)) := ⟨Nat.zero_le _, rfl, FR2.out, by simp only [List.drop_zero]; omega⟩
    go_wp2_with fail
    go_loopw [10] (fun i wr => ∃ (k : Nat) (vU' vV' : Value) (st' : RS) (m' : Nat), TmAt B pb W0 w vU vV #[.int .i64 21, .int .i64 pl, .string name, .int .u64 num, .string op, .slice (some ⟨b, off, none⟩) xs.length cap] (termKidR (semR n) (⟨21, pl, name, num, op⟩ : Nd) gen) xs (some s) m k wr vU' vV' st' m' ∧ i = .int .i64 k) (fun i wr => xs.length - (intOf i).toNat)
    case atStart => exact ⟨0, _, _, _, _, HI.out, rfl⟩
    case round =>
      obtain ⟨k, vU1, vV1, st1, m1, hr, rfl⟩ := hrel
      have ple := hr.le
      have HR : Hid (TmAt B pb W0 w vU vV #[.int .i64 21, .int .i64 pl, .string name, .int .u64 num, .string op, .slice (some ⟨b, off, none⟩) xs.length cap] (termKidR (semR n) (⟨21, pl, name, num, op⟩ : Nd) gen) xs (some s) m k wr vU1 vV1 st1 m1) := hr
      have d0 : wr.cell? ⟨w.heap.size, 0, none⟩ = some (.int .i64 21) := hr.fr.box 0 _ rfl
      have d5 : wr.cell? ⟨w.heap.size, 5, none⟩ = some (.slice (some ⟨b, off, none⟩) xs.length cap) := hr.fr.box 5 _ rfl
      clear hr
      rcases Nat.lt_or_ge k xs.length with c | c
      · obtain ⟨y, hy, hd⟩ := kid_get c
        obtain ⟨y0, y1, y2, y3, y4, y5⟩ := HL.out k y hy B wr HBE.out HR.out.fr.bel
        have HY : Hid (xs.drop k = y :: xs.drop (k + 1) ∧ okT n W0 y) := ⟨hd, HS.out.2 y (List.mem_of_getElem? hy)⟩
        clear hy hd
        obtain ⟨wk, hwk⟩ : ∃ wk, wk = wr.alloc (.cells #[.int .i64 (ndT n y).kind, .int .i64 (ndT n y).pl, .string (ndT n y).name, .int .u64 (ndT n y).num, .string (ndT n y).op, .slice (atT n y) (nkT n y) (capT n y)] 25) := ⟨_, rfl⟩
        have hbl : Below wr.heap.size wr wk := by rw [hwk]; exact (Below.refl _ _).alloc (Nat.le_refl _) _
        have FC : Hid (Fr B pb W0 w vU vV w.heap.size #[.int .i64 21, .int .i64 pl, .string name, .int .u64 num, .string op, .slice (some ⟨b, off, none⟩) xs.length cap] wk vU1 vV1 st1 m1) := HR.out.fr.new hbl
        have e0 : wk.cell? ⟨w.heap.size, 0, none⟩ = some (.int .i64 21) := FC.out.box 0 _ rfl
        have x0 : wk.cell? ⟨wr.heap.size, 0, none⟩ = some (.int .i64 (ndT n y).kind) := by rw [hwk]; exact box_new wr _ _ 0 _ rfl
        have x1 : wk.cell? ⟨wr.heap.size, 1, none⟩ = some (.int .i64 (ndT n y).pl) := by rw [hwk]; exact box_new wr _ _ 1 _ rfl
        have x2 : wk.cell? ⟨wr.heap.size, 2, none⟩ = some (.string (ndT n y).name) := by rw [hwk]; exact box_new wr _ _ 2 _ rfl
        have x3 : wk.cell? ⟨wr.heap.size, 3, none⟩ = some (.int .u64 (ndT n y).num) := by rw [hwk]; exact box_new wr _ _ 3 _ rfl
        have x4 : wk.cell? ⟨wr.heap.size, 4, none⟩ = some (.string (ndT n y).op) := by rw [hwk]; exact box_new wr _ _ 4 _ rfl
        have x5 : wk.cell? ⟨wr.heap.size, 5, none⟩ = some (.slice (atT n y) (nkT n y) (capT n y)) := by rw [hwk]; exact box_new wr _ _ 5 _ rfl
        have hc := HH.out.term y gen HY.out.2 wk vU1 vV1 st1 m1 FC.out.bel FC.out.pl (by have h1 := HR.out.bud; have := HM.out; rw [HY.out.1, szL_cons] at h1; omega)
        have HG : Hid (semR n 0 y gen st1 = termKidR (semR n) (⟨21, pl, name, num, op⟩ : Nd) gen y st1) := by show _ = (if _ then _ else _); rw [if_neg (by simp), if_neg (by simp)]
        clear hbl
        go_upto_region 20 with fail
        rw [← hwk]
        clear hwk
        go_wp2_with fail
        refine hc.mono ?_
        rintro e w4 ⟨rfl, vU4, vV4, p4, s4, q4⟩
        have HX : Hid (TmAt B pb W0 w vU vV #[.int .i64 21, .int .i64 pl, .string name, .int .u64 num, .string op, .slice (some ⟨b, off, none⟩) xs.length cap] (termKidR (semR n) (⟨21, pl, name, num, op⟩ : Nd) gen) xs (some s) m (k + 1) w4 vU4 vV4 (termKidR (semR n) (⟨21, pl, name, num, op⟩ : Nd) gen y st1) (m1 + szT n y)) :=
          HR.out.next HY.out.1 c (by rw [← HG.out]; exact FC.out.call p4 s4 q4) (Nat.le_refl _)
        clear p4 s4 q4 hc
        go_wp2_with fail
        refine ⟨⟨k + 1, _, _, _, _, HX.out, by go_num⟩, ?_⟩
        simp [intOf]
        omega
      · have HE : Hid (foldR (termKidR (semR n) (⟨21, pl, name, num, op⟩ : Nd) gen) xs (some s) = st1) := by
          show _ = _
          rw [HR.out.val, List.drop_of_length_le c]
          rfl
        go_wp2_with fail
        go_end0
        rw [HE.out]
        exact ⟨rfl, HR.out.fr.done rfl (by have := HR.out.bud; omega)⟩

set_option maxRecDepth 100000 in
set_option maxHeartbeats 2000000 in
theorem term_given1 {B pb : Nat} {W0 : World} {n : Nat} (H : KidsRC B pb W0 n) (hB : B = W0.heap.size) (pl num : Int) (name op : ByteArray) (ad : Option Addr) (cap : Nat) (xs : List (Tr n)) (gen : Bool) (hsl : Sli.ok (encT n) 6 W0 ⟨ad, cap, xs⟩) (hk : ∀ y ∈ xs, okT n W0 y) (hcond : (shapeR (⟨21, pl, name, num, op⟩ : Nd)).2.2 = true ∧ ¬ (xs.length : Int) < (shapeR (⟨21, pl, name, num, op⟩ : Nd)).1 ∧ ¬ (0 ≤ (shapeR (⟨21, pl, name, num, op⟩ : Nd)).2.1 ∧ (shapeR (⟨21, pl, name, num, op⟩ : Nd)).2.1 < (xs.length : Int))) (k0 : Tr n) (hk0 : xs[0]? = some k0) (kk : Int) (hkk : kk = (ndT n k0).kind) (hk3 : kk = 13)
    (w : World) (vU vV : Value) (s : St) (m : Nat) (hb : Below B W0 w) (hp : PlAt B pb w (some s) m vU vV) (hm : m + (1 + szL xs) ≤ 1000000) (hl : xs.length ≤ 2 ^ 63 - 1) :
    Calls Try.prog 34 #[.pointer (some ⟨pb, 0, none⟩), .agg #[.int .i64 21, .int .i64 pl, .string name, .int .u64 num, .string op, .slice ad xs.length cap], .bool gen] w fun e w' => e = .returned (.tuple #[]) ∧ ∃ vU' vV', PlAt B pb w' (foldR (termKidR (semR n) ⟨21, pl, name, num, op⟩ gen) xs (some s)) (m + (1 + szL xs)) vU' vV' ∧ Stp pb w vU vV w' vU' vV' ∧ Below B W0 w' := by
  have HH : Hid (KidsRC B pb W0 n) := H
  have HBE : Hid (B = W0.heap.size) := hB
  have HS : Hid (Sli.ok (encT n) 6 W0 ⟨ad, cap, xs⟩ ∧ ∀ y ∈ xs, okT n W0 y) := ⟨hsl, hk⟩
  have HM : Hid (m + (1 + szL xs) ≤ 1000000) := hm
  have HB : Hid (Below B W0 w ∧ PlAt B pb w (some s) m vU vV) := ⟨hb, hp⟩
  clear hb hp H hB hm hsl hk
  obtain ⟨wb, hwb⟩ : ∃ wb, wb = w.alloc (.cells #[.int .i64 21, .int .i64 pl, .string name, .int .u64 num, .string op, .slice ad xs.length cap] 25) := ⟨_, rfl⟩
  have FR : Hid (Fr B pb W0 w vU vV w.heap.size #[.int .i64 21, .int .i64 pl, .string name, .int .u64 num, .string op, .slice ad xs.length cap] wb vU vV (some s) m) := by rw [hwb]; exact Fr.start HB.out.1 HB.out.2 _ _
  have b0 : wb.cell? ⟨w.heap.size, 0, none⟩ = some (.int .i64 21) := FR.out.box 0 _ rfl
  have b1 : wb.cell? ⟨w.heap.size, 1, none⟩ = some (.int .i64 pl) := FR.out.box 1 _ rfl
  have b2 : wb.cell? ⟨w.heap.size, 2, none⟩ = some (.string name) := FR.out.box 2 _ rfl
  have b3 : wb.cell? ⟨w.heap.size, 3, none⟩ = some (.int .u64 num) := FR.out.box 3 _ rfl
  have b4 : wb.cell? ⟨w.heap.size, 4, none⟩ = some (.string op) := FR.out.box 4 _ rfl
  have b5 : wb.cell? ⟨w.heap.size, 5, none⟩ = some (.slice ad xs.length cap) := FR.out.box 5 _ rfl
  obtain ⟨c2, f2⟩ := FR.out.pl.bad
  simp only [Option.isNone_some] at c2
  obtain ⟨b, off, e1, hlie⟩ := kids_lie HS.out.1 (by intro e; simp only at e; rw [e] at hk0; simp at hk0)
  simp only at e1 hlie
  subst e1
  have HL : Hid (∀ (k : Nat) (y : Tr n), xs[k]? = some y → ∀ (B : Nat) (w : World), B = W0.heap.size → Below B W0 w → Six w b (off + k * 6) (ndT n y) (.slice (atT n y) (nkT n y) (capT n y))) := hlie
  have HK0 : Hid (xs[0]? = some k0 ∧ kk = (ndT n k0).kind) := ⟨hk0, hkk⟩
  have hlen0 : 0 < xs.length := by
    rcases Nat.eq_zero_or_pos xs.length with q | q
    · rw [List.length_eq_zero_iff] at q; rw [q] at hk0; simp at hk0
    · exact q
  clear hlie hk0 hkk
  have pbn : ¬ pb = w.heap.size := fun e => FR.out.sep (Or.inl e.symm)
  subst hk3
  have hsh := shape_any (⟨21, pl, name, num, op⟩ : Nd) (some ⟨b, off, none⟩) xs.length cap wb
  simp only at hsh
  obtain ⟨lo, hlo⟩ : ∃ lo, lo = (shapeR (⟨21, pl, name, num, op⟩ : Nd)).1 := ⟨_, rfl⟩
  obtain ⟨hi, hhi⟩ : ∃ hi, hi = (shapeR (⟨21, pl, name, num, op⟩ : Nd)).2.1 := ⟨_, rfl⟩
  obtain ⟨okk, hokk⟩ : ∃ okk, okk = (shapeR (⟨21, pl, name, num, op⟩ : Nd)).2.2 := ⟨_, rfl⟩
  unfold ShPost at hsh
  rw [← hlo, ← hhi, ← hokk] at hsh
  rw [← hlo, ← hhi, ← hokk] at hcond
  clear hlo hhi hokk
  obtain ⟨hok1, hok2, hok3⟩ := hcond
  subst hok1
  go_enter Try.func34, Try.ntmps34
  go_upto_region 1 with fail
  rw [← hwb]
  clear hwb
  go_wp2_with fail
  refine hsh.mono ?_
  rintro e w2 ⟨sb, zs, rfl, hstr, hany, hzl, hbel⟩
  have FR2 : Hid (Fr B pb W0 w vU vV w.heap.size #[.int .i64 21, .int .i64 pl, .string name, .int .u64 num, .string op, .slice (some ⟨b, off, none⟩) xs.length cap] w2 vU vV (some s) m) := FR.out.new hbel
  have b0' : w2.cell? ⟨w.heap.size, 0, none⟩ = some (.int .i64 21) := FR2.out.box 0 _ rfl
  have b1' : w2.cell? ⟨w.heap.size, 1, none⟩ = some (.int .i64 pl) := FR2.out.box 1 _ rfl
  have b2' : w2.cell? ⟨w.heap.size, 2, none⟩ = some (.string name) := FR2.out.box 2 _ rfl
  have b3' : w2.cell? ⟨w.heap.size, 3, none⟩ = some (.int .u64 num) := FR2.out.box 3 _ rfl
  have b4' : w2.cell? ⟨w.heap.size, 4, none⟩ = some (.string op) := FR2.out.box 4 _ rfl
  have b5' : w2.cell? ⟨w.heap.size, 5, none⟩ = some (.slice (some ⟨b, off, none⟩) xs.length cap) := FR2.out.box 5 _ rfl
  obtain ⟨g2, h2⟩ := FR2.out.pl.bad
  simp only [Option.isNone_some] at g2
  have ham := among_any op (some ⟨sb, 0, none⟩) zs.length zs w2 hstr hzl
  rw [hany] at ham
  clear hsh hstr hany hbel b0 b1 b2 b3 b4 b5 c2 f2
  go_wp2_with fail
  refine ham.mono ?_
  rintro e w3 ⟨rfl, rfl⟩
  clear ham
  go_upto_region 8 with fail
  go_cut [58] from 39 to 58 (fun c wx => c = .bool false ∧ wx = w3)
  case first =>
    have hok4 : decide ((xs.length : Int) < lo) = false := by simpa using hok2
    by_cases q : 0 ≤ hi
    · have q2 : ¬ hi < (xs.length : Int) := fun z => hok3 ⟨q, z⟩
      go_wp2_with fail
      go_meet
      exact ⟨rfl, rfl⟩
    · have q3 : decide (0 ≤ hi) = false := by simpa using q
      go_wp2_with fail
      go_meet
      exact ⟨rfl, rfl⟩
  case rest =>
    obtain ⟨rfl, rfl⟩ := hcut
    clear hok2 hok3
    have z0 : wc.cell? ⟨b, off, none⟩ = some (.int .i64 (13)) := by
      have := (HL.out 0 k0 HK0.out.1 B wc HBE.out FR2.out.bel).1
      rw [← HK0.out.2] at this
      simpa using this
    have HI : Hid (TmAt B pb W0 w vU vV #[.int .i64 21, .int .i64 pl, .string name, .int .u64 num, .string op, .slice (some ⟨b, off, none⟩) xs.length cap] (termKidR (semR n) (⟨21, pl, name, num, op⟩ : Nd) gen) xs (some s) m 0 wc vU vV (some s) (m)) := ⟨Nat.zero_le _, rfl, FR2.out, by simp only [List.drop_zero]; omega⟩
    go_wp2_with fail
    go_loopw [10] (fun i wr => ∃ (k : Nat) (vU' vV' : Value) (st' : RS) (m' : Nat), TmAt B pb W0 w vU vV #[.int .i64 21, .int .i64 pl, .string name, .int .u64 num, .string op, .slice (some ⟨b, off, none⟩) xs.length cap] (termKidR (semR n) (⟨21, pl, name, num, op⟩ : Nd) gen) xs (some s) m k wr vU' vV' st' m' ∧ i = .int .i64 k) (fun i wr => xs.length - (intOf i).toNat)
    case atStart => exact ⟨0, _, _, _, _, HI.out, rfl⟩
    case round =>
      obtain ⟨k, vU1, vV1, st1, m1, hr, rfl⟩ := hrel
      have ple := hr.le
      have HR : Hid (TmAt B pb W0 w vU vV #[.int .i64 21, .int .i64 pl, .string name, .int .u64 num, .string op, .slice (some ⟨b, off, none⟩) xs.length cap] (termKidR (semR n) (⟨21, pl, name, num, op⟩ : Nd) gen) xs (some s) m k wr vU1 vV1 st1 m1) := hr
      have d0 : wr.cell? ⟨w.heap.size, 0, none⟩ = some (.int .i64 21) := hr.fr.box 0 _ rfl
      have d5 : wr.cell? ⟨w.heap.size, 5, none⟩ = some (.slice (some ⟨b, off, none⟩) xs.length cap) := hr.fr.box 5 _ rfl
      clear hr
      rcases Nat.lt_or_ge k xs.length with c | c
      · obtain ⟨y, hy, hd⟩ := kid_get c
        obtain ⟨y0, y1, y2, y3, y4, y5⟩ := HL.out k y hy B wr HBE.out HR.out.fr.bel
        have HY : Hid (xs.drop k = y :: xs.drop (k + 1) ∧ okT n W0 y) := ⟨hd, HS.out.2 y (List.mem_of_getElem? hy)⟩
        clear hy hd
        obtain ⟨wk, hwk⟩ : ∃ wk, wk = wr.alloc (.cells #[.int .i64 (ndT n y).kind, .int .i64 (ndT n y).pl, .string (ndT n y).name, .int .u64 (ndT n y).num, .string (ndT n y).op, .slice (atT n y) (nkT n y) (capT n y)] 25) := ⟨_, rfl⟩
        have hbl : Below wr.heap.size wr wk := by rw [hwk]; exact (Below.refl _ _).alloc (Nat.le_refl _) _
        have FC : Hid (Fr B pb W0 w vU vV w.heap.size #[.int .i64 21, .int .i64 pl, .string name, .int .u64 num, .string op, .slice (some ⟨b, off, none⟩) xs.length cap] wk vU1 vV1 st1 m1) := HR.out.fr.new hbl
        have e0 : wk.cell? ⟨w.heap.size, 0, none⟩ = some (.int .i64 21) := FC.out.box 0 _ rfl
        have x0 : wk.cell? ⟨wr.heap.size, 0, none⟩ = some (.int .i64 (ndT n y).kind) := by rw [hwk]; exact box_new wr _ _ 0 _ rfl
        have x1 : wk.cell? ⟨wr.heap.size, 1, none⟩ = some (.int .i64 (ndT n y).pl) := by rw [hwk]; exact box_new wr _ _ 1 _ rfl
        have x2 : wk.cell? ⟨wr.heap.size, 2, none⟩ = some (.string (ndT n y).name) := by rw [hwk]; exact box_new wr _ _ 2 _ rfl
        have x3 : wk.cell? ⟨wr.heap.size, 3, none⟩ = some (.int .u64 (ndT n y).num) := by rw [hwk]; exact box_new wr _ _ 3 _ rfl
        have x4 : wk.cell? ⟨wr.heap.size, 4, none⟩ = some (.string (ndT n y).op) := by rw [hwk]; exact box_new wr _ _ 4 _ rfl
        have x5 : wk.cell? ⟨wr.heap.size, 5, none⟩ = some (.slice (atT n y) (nkT n y) (capT n y)) := by rw [hwk]; exact box_new wr _ _ 5 _ rfl
        have hc := HH.out.term y gen HY.out.2 wk vU1 vV1 st1 m1 FC.out.bel FC.out.pl (by have h1 := HR.out.bud; have := HM.out; rw [HY.out.1, szL_cons] at h1; omega)
        have HG : Hid (semR n 0 y gen st1 = termKidR (semR n) (⟨21, pl, name, num, op⟩ : Nd) gen y st1) := by show _ = (if _ then _ else _); rw [if_neg (by simp), if_neg (by simp)]
        clear hbl
        go_upto_region 20 with fail
        rw [← hwk]
        clear hwk
        go_wp2_with fail
        refine hc.mono ?_
        rintro e w4 ⟨rfl, vU4, vV4, p4, s4, q4⟩
        have HX : Hid (TmAt B pb W0 w vU vV #[.int .i64 21, .int .i64 pl, .string name, .int .u64 num, .string op, .slice (some ⟨b, off, none⟩) xs.length cap] (termKidR (semR n) (⟨21, pl, name, num, op⟩ : Nd) gen) xs (some s) m (k + 1) w4 vU4 vV4 (termKidR (semR n) (⟨21, pl, name, num, op⟩ : Nd) gen y st1) (m1 + szT n y)) :=
          HR.out.next HY.out.1 c (by rw [← HG.out]; exact FC.out.call p4 s4 q4) (Nat.le_refl _)
        clear p4 s4 q4 hc
        go_wp2_with fail
        refine ⟨⟨k + 1, _, _, _, _, HX.out, by go_num⟩, ?_⟩
        simp [intOf]
        omega
      · have HE : Hid (foldR (termKidR (semR n) (⟨21, pl, name, num, op⟩ : Nd) gen) xs (some s) = st1) := by
          show _ = _
          rw [HR.out.val, List.drop_of_length_le c]
          rfl
        go_wp2_with fail
        go_end0
        rw [HE.out]
        exact ⟨rfl, HR.out.fr.done rfl (by have := HR.out.bud; omega)⟩

set_option maxRecDepth 100000 in
set_option maxHeartbeats 2000000 in
theorem term_given2 {B pb : Nat} {W0 : World} {n : Nat} (H : KidsRC B pb W0 n) (hB : B = W0.heap.size) (pl num : Int) (name op : ByteArray) (ad : Option Addr) (cap : Nat) (xs : List (Tr n)) (gen : Bool) (hsl : Sli.ok (encT n) 6 W0 ⟨ad, cap, xs⟩) (hk : ∀ y ∈ xs, okT n W0 y) (hcond : (shapeR (⟨21, pl, name, num, op⟩ : Nd)).2.2 = true ∧ ¬ (xs.length : Int) < (shapeR (⟨21, pl, name, num, op⟩ : Nd)).1 ∧ ¬ (0 ≤ (shapeR (⟨21, pl, name, num, op⟩ : Nd)).2.1 ∧ (shapeR (⟨21, pl, name, num, op⟩ : Nd)).2.1 < (xs.length : Int))) (k0 : Tr n) (hk0 : xs[0]? = some k0) (kk : Int) (hkk : kk = (ndT n k0).kind) (hk3 : kk ≠ 3) (hk13 : kk ≠ 13)
    (w : World) (vU vV : Value) (s : St) (m : Nat) (hb : Below B W0 w) (hp : PlAt B pb w (some s) m vU vV) (hm : m + (1 + szL xs) ≤ 1000000) (hl : xs.length ≤ 2 ^ 63 - 1) :
    Calls Try.prog 34 #[.pointer (some ⟨pb, 0, none⟩), .agg #[.int .i64 21, .int .i64 pl, .string name, .int .u64 num, .string op, .slice ad xs.length cap], .bool gen] w fun e w' => e = .returned (.tuple #[]) ∧ ∃ vU' vV', PlAt B pb w' (foldR (termKidR (semR n) ⟨21, pl, name, num, op⟩ gen) xs (none)) (m + (1 + szL xs)) vU' vV' ∧ Stp pb w vU vV w' vU' vV' ∧ Below B W0 w' := by
  have HH : Hid (KidsRC B pb W0 n) := H
  have HBE : Hid (B = W0.heap.size) := hB
  have HS : Hid (Sli.ok (encT n) 6 W0 ⟨ad, cap, xs⟩ ∧ ∀ y ∈ xs, okT n W0 y) := ⟨hsl, hk⟩
  have HM : Hid (m + (1 + szL xs) ≤ 1000000) := hm
  have HB : Hid (Below B W0 w ∧ PlAt B pb w (some s) m vU vV) := ⟨hb, hp⟩
  clear hb hp H hB hm hsl hk
  obtain ⟨wb, hwb⟩ : ∃ wb, wb = w.alloc (.cells #[.int .i64 21, .int .i64 pl, .string name, .int .u64 num, .string op, .slice ad xs.length cap] 25) := ⟨_, rfl⟩
  have FR : Hid (Fr B pb W0 w vU vV w.heap.size #[.int .i64 21, .int .i64 pl, .string name, .int .u64 num, .string op, .slice ad xs.length cap] wb vU vV (some s) m) := by rw [hwb]; exact Fr.start HB.out.1 HB.out.2 _ _
  have b0 : wb.cell? ⟨w.heap.size, 0, none⟩ = some (.int .i64 21) := FR.out.box 0 _ rfl
  have b1 : wb.cell? ⟨w.heap.size, 1, none⟩ = some (.int .i64 pl) := FR.out.box 1 _ rfl
  have b2 : wb.cell? ⟨w.heap.size, 2, none⟩ = some (.string name) := FR.out.box 2 _ rfl
  have b3 : wb.cell? ⟨w.heap.size, 3, none⟩ = some (.int .u64 num) := FR.out.box 3 _ rfl
  have b4 : wb.cell? ⟨w.heap.size, 4, none⟩ = some (.string op) := FR.out.box 4 _ rfl
  have b5 : wb.cell? ⟨w.heap.size, 5, none⟩ = some (.slice ad xs.length cap) := FR.out.box 5 _ rfl
  obtain ⟨c2, f2⟩ := FR.out.pl.bad
  simp only [Option.isNone_some] at c2
  obtain ⟨b, off, e1, hlie⟩ := kids_lie HS.out.1 (by intro e; simp only at e; rw [e] at hk0; simp at hk0)
  simp only at e1 hlie
  subst e1
  have HL : Hid (∀ (k : Nat) (y : Tr n), xs[k]? = some y → ∀ (B : Nat) (w : World), B = W0.heap.size → Below B W0 w → Six w b (off + k * 6) (ndT n y) (.slice (atT n y) (nkT n y) (capT n y))) := hlie
  have HK0 : Hid (xs[0]? = some k0 ∧ kk = (ndT n k0).kind) := ⟨hk0, hkk⟩
  have hlen0 : 0 < xs.length := by
    rcases Nat.eq_zero_or_pos xs.length with q | q
    · rw [List.length_eq_zero_iff] at q; rw [q] at hk0; simp at hk0
    · exact q
  clear hlie hk0 hkk
  have pbn : ¬ pb = w.heap.size := fun e => FR.out.sep (Or.inl e.symm)
  have hk3' : (kk != 3) = true := by simpa using hk3
  have hk13' : (kk != 13) = true := by simpa using hk13
  clear hk3 hk13
  have hsh := shape_any (⟨21, pl, name, num, op⟩ : Nd) (some ⟨b, off, none⟩) xs.length cap wb
  simp only at hsh
  obtain ⟨lo, hlo⟩ : ∃ lo, lo = (shapeR (⟨21, pl, name, num, op⟩ : Nd)).1 := ⟨_, rfl⟩
  obtain ⟨hi, hhi⟩ : ∃ hi, hi = (shapeR (⟨21, pl, name, num, op⟩ : Nd)).2.1 := ⟨_, rfl⟩
  obtain ⟨okk, hokk⟩ : ∃ okk, okk = (shapeR (⟨21, pl, name, num, op⟩ : Nd)).2.2 := ⟨_, rfl⟩
  unfold ShPost at hsh
  rw [← hlo, ← hhi, ← hokk] at hsh
  rw [← hlo, ← hhi, ← hokk] at hcond
  clear hlo hhi hokk
  obtain ⟨hok1, hok2, hok3⟩ := hcond
  subst hok1
  go_enter Try.func34, Try.ntmps34
  go_upto_region 1 with fail
  rw [← hwb]
  clear hwb
  go_wp2_with fail
  refine hsh.mono ?_
  rintro e w2 ⟨sb, zs, rfl, hstr, hany, hzl, hbel⟩
  have FR2 : Hid (Fr B pb W0 w vU vV w.heap.size #[.int .i64 21, .int .i64 pl, .string name, .int .u64 num, .string op, .slice (some ⟨b, off, none⟩) xs.length cap] w2 vU vV (some s) m) := FR.out.new hbel
  have b0' : w2.cell? ⟨w.heap.size, 0, none⟩ = some (.int .i64 21) := FR2.out.box 0 _ rfl
  have b1' : w2.cell? ⟨w.heap.size, 1, none⟩ = some (.int .i64 pl) := FR2.out.box 1 _ rfl
  have b2' : w2.cell? ⟨w.heap.size, 2, none⟩ = some (.string name) := FR2.out.box 2 _ rfl
  have b3' : w2.cell? ⟨w.heap.size, 3, none⟩ = some (.int .u64 num) := FR2.out.box 3 _ rfl
  have b4' : w2.cell? ⟨w.heap.size, 4, none⟩ = some (.string op) := FR2.out.box 4 _ rfl
  have b5' : w2.cell? ⟨w.heap.size, 5, none⟩ = some (.slice (some ⟨b, off, none⟩) xs.length cap) := FR2.out.box 5 _ rfl
  obtain ⟨g2, h2⟩ := FR2.out.pl.bad
  simp only [Option.isNone_some] at g2
  have ham := among_any op (some ⟨sb, 0, none⟩) zs.length zs w2 hstr hzl
  rw [hany] at ham
  clear hsh hstr hany hbel b0 b1 b2 b3 b4 b5 c2 f2
  go_wp2_with fail
  refine ham.mono ?_
  rintro e w3 ⟨rfl, rfl⟩
  clear ham
  go_upto_region 8 with fail
  go_cut [58] from 39 to 58 (fun c wx => c = .bool false ∧ wx = w3)
  case first =>
    have hok4 : decide ((xs.length : Int) < lo) = false := by simpa using hok2
    by_cases q : 0 ≤ hi
    · have q2 : ¬ hi < (xs.length : Int) := fun z => hok3 ⟨q, z⟩
      go_wp2_with fail
      go_meet
      exact ⟨rfl, rfl⟩
    · have q3 : decide (0 ≤ hi) = false := by simpa using q
      go_wp2_with fail
      go_meet
      exact ⟨rfl, rfl⟩
  case rest =>
    obtain ⟨rfl, rfl⟩ := hcut
    clear hok2 hok3
    have z0 : wc.cell? ⟨b, off, none⟩ = some (.int .i64 (kk)) := by
      have := (HL.out 0 k0 HK0.out.1 B wc HBE.out FR2.out.bel).1
      rw [← HK0.out.2] at this
      simpa using this
    have HI : Hid (TmAt B pb W0 w vU vV #[.int .i64 21, .int .i64 pl, .string name, .int .u64 num, .string op, .slice (some ⟨b, off, none⟩) xs.length cap] (termKidR (semR n) (⟨21, pl, name, num, op⟩ : Nd) gen) xs (none) m 0 (wc.setCell ⟨pb, 2, none⟩ (.bool true)) vU vV (none) (m)) := ⟨Nat.zero_le _, rfl, FR2.out.spoil, by simp only [List.drop_zero]; omega⟩
    go_wp2_with fail
    go_loopw [10] (fun i wr => ∃ (k : Nat) (vU' vV' : Value) (st' : RS) (m' : Nat), TmAt B pb W0 w vU vV #[.int .i64 21, .int .i64 pl, .string name, .int .u64 num, .string op, .slice (some ⟨b, off, none⟩) xs.length cap] (termKidR (semR n) (⟨21, pl, name, num, op⟩ : Nd) gen) xs (none) m k wr vU' vV' st' m' ∧ i = .int .i64 k) (fun i wr => xs.length - (intOf i).toNat)
    case atStart => exact ⟨0, _, _, _, _, HI.out, rfl⟩
    case round =>
      obtain ⟨k, vU1, vV1, st1, m1, hr, rfl⟩ := hrel
      have ple := hr.le
      have HR : Hid (TmAt B pb W0 w vU vV #[.int .i64 21, .int .i64 pl, .string name, .int .u64 num, .string op, .slice (some ⟨b, off, none⟩) xs.length cap] (termKidR (semR n) (⟨21, pl, name, num, op⟩ : Nd) gen) xs (none) m k wr vU1 vV1 st1 m1) := hr
      have d0 : wr.cell? ⟨w.heap.size, 0, none⟩ = some (.int .i64 21) := hr.fr.box 0 _ rfl
      have d5 : wr.cell? ⟨w.heap.size, 5, none⟩ = some (.slice (some ⟨b, off, none⟩) xs.length cap) := hr.fr.box 5 _ rfl
      clear hr
      rcases Nat.lt_or_ge k xs.length with c | c
      · obtain ⟨y, hy, hd⟩ := kid_get c
        obtain ⟨y0, y1, y2, y3, y4, y5⟩ := HL.out k y hy B wr HBE.out HR.out.fr.bel
        have HY : Hid (xs.drop k = y :: xs.drop (k + 1) ∧ okT n W0 y) := ⟨hd, HS.out.2 y (List.mem_of_getElem? hy)⟩
        clear hy hd
        obtain ⟨wk, hwk⟩ : ∃ wk, wk = wr.alloc (.cells #[.int .i64 (ndT n y).kind, .int .i64 (ndT n y).pl, .string (ndT n y).name, .int .u64 (ndT n y).num, .string (ndT n y).op, .slice (atT n y) (nkT n y) (capT n y)] 25) := ⟨_, rfl⟩
        have hbl : Below wr.heap.size wr wk := by rw [hwk]; exact (Below.refl _ _).alloc (Nat.le_refl _) _
        have FC : Hid (Fr B pb W0 w vU vV w.heap.size #[.int .i64 21, .int .i64 pl, .string name, .int .u64 num, .string op, .slice (some ⟨b, off, none⟩) xs.length cap] wk vU1 vV1 st1 m1) := HR.out.fr.new hbl
        have e0 : wk.cell? ⟨w.heap.size, 0, none⟩ = some (.int .i64 21) := FC.out.box 0 _ rfl
        have x0 : wk.cell? ⟨wr.heap.size, 0, none⟩ = some (.int .i64 (ndT n y).kind) := by rw [hwk]; exact box_new wr _ _ 0 _ rfl
        have x1 : wk.cell? ⟨wr.heap.size, 1, none⟩ = some (.int .i64 (ndT n y).pl) := by rw [hwk]; exact box_new wr _ _ 1 _ rfl
        have x2 : wk.cell? ⟨wr.heap.size, 2, none⟩ = some (.string (ndT n y).name) := by rw [hwk]; exact box_new wr _ _ 2 _ rfl
        have x3 : wk.cell? ⟨wr.heap.size, 3, none⟩ = some (.int .u64 (ndT n y).num) := by rw [hwk]; exact box_new wr _ _ 3 _ rfl
        have x4 : wk.cell? ⟨wr.heap.size, 4, none⟩ = some (.string (ndT n y).op) := by rw [hwk]; exact box_new wr _ _ 4 _ rfl
        have x5 : wk.cell? ⟨wr.heap.size, 5, none⟩ = some (.slice (atT n y) (nkT n y) (capT n y)) := by rw [hwk]; exact box_new wr _ _ 5 _ rfl
        have hc := HH.out.term y gen HY.out.2 wk vU1 vV1 st1 m1 FC.out.bel FC.out.pl (by have h1 := HR.out.bud; have := HM.out; rw [HY.out.1, szL_cons] at h1; omega)
        have HG : Hid (semR n 0 y gen st1 = termKidR (semR n) (⟨21, pl, name, num, op⟩ : Nd) gen y st1) := by show _ = (if _ then _ else _); rw [if_neg (by simp), if_neg (by simp)]
        clear hbl
        go_upto_region 20 with fail
        rw [← hwk]
        clear hwk
        go_wp2_with fail
        refine hc.mono ?_
        rintro e w4 ⟨rfl, vU4, vV4, p4, s4, q4⟩
        have HX : Hid (TmAt B pb W0 w vU vV #[.int .i64 21, .int .i64 pl, .string name, .int .u64 num, .string op, .slice (some ⟨b, off, none⟩) xs.length cap] (termKidR (semR n) (⟨21, pl, name, num, op⟩ : Nd) gen) xs (none) m (k + 1) w4 vU4 vV4 (termKidR (semR n) (⟨21, pl, name, num, op⟩ : Nd) gen y st1) (m1 + szT n y)) :=
          HR.out.next HY.out.1 c (by rw [← HG.out]; exact FC.out.call p4 s4 q4) (Nat.le_refl _)
        clear p4 s4 q4 hc
        go_wp2_with fail
        refine ⟨⟨k + 1, _, _, _, _, HX.out, by go_num⟩, ?_⟩
        simp [intOf]
        omega
      · have HE : Hid (foldR (termKidR (semR n) (⟨21, pl, name, num, op⟩ : Nd) gen) xs (none) = st1) := by
          show _ = _
          rw [HR.out.val, List.drop_of_length_le c]
          rfl
        go_wp2_with fail
        go_end0
        rw [HE.out]
        exact ⟨rfl, HR.out.fr.done rfl (by have := HR.out.bud; omega)⟩

set_option maxRecDepth 100000 in
set_option maxHeartbeats 2000000 in
theorem term_step00 {B pb : Nat} {W0 : World} {n : Nat} (H : KidsRC B pb W0 n) (hB : B = W0.heap.size) (pl num : Int) (name op : ByteArray) (ad : Option Addr) (cap : Nat) (xs : List (Tr n)) (gen : Bool) (hsl : Sli.ok (encT n) 6 W0 ⟨ad, cap, xs⟩) (hk : ∀ y ∈ xs, okT n W0 y) (hcond : (shapeR (⟨17, pl, name, num, op⟩ : Nd)).2.2 = true ∧ ¬ (xs.length : Int) < (shapeR (⟨17, pl, name, num, op⟩ : Nd)).1 ∧ ¬ (0 ≤ (shapeR (⟨17, pl, name, num, op⟩ : Nd)).2.1 ∧ (shapeR (⟨17, pl, name, num, op⟩ : Nd)).2.1 < (xs.length : Int))) (k0 : Tr n) (hk0 : xs[0]? = some k0) (kk : Int) (hkk : kk = (ndT n k0).kind) (hk3 : kk = 3) (hn1 : isS name preS = true)
    (w : World) (vU vV : Value) (s : St) (m : Nat) (hb : Below B W0 w) (hp : PlAt B pb w (some s) m vU vV) (hm : m + (1 + szL xs) ≤ 1000000) (hl : xs.length ≤ 2 ^ 63 - 1) :
    Calls Try.prog 34 #[.pointer (some ⟨pb, 0, none⟩), .agg #[.int .i64 17, .int .i64 pl, .string name, .int .u64 num, .string op, .slice ad xs.length cap], .bool gen] w fun e w' => e = .returned (.tuple #[]) ∧ ∃ vU' vV', PlAt B pb w' (foldR (termKidR (semR n) ⟨17, pl, name, num, op⟩ gen) xs (some s)) (m + (1 + szL xs)) vU' vV' ∧ Stp pb w vU vV w' vU' vV' ∧ Below B W0 w' := by
  have HH : Hid (KidsRC B pb W0 n) := H
  have HBE : Hid (B = W0.heap.size) := hB
  have HS : Hid (Sli.ok (encT n) 6 W0 ⟨ad, cap, xs⟩ ∧ ∀ y ∈ xs, okT n W0 y) := ⟨hsl, hk⟩
  have HM : Hid (m + (1 + szL xs) ≤ 1000000) := hm
  have HB : Hid (Below B W0 w ∧ PlAt B pb w (some s) m vU vV) := ⟨hb, hp⟩
  clear hb hp H hB hm hsl hk
  obtain ⟨wb, hwb⟩ : ∃ wb, wb = w.alloc (.cells #[.int .i64 17, .int .i64 pl, .string name, .int .u64 num, .string op, .slice ad xs.length cap] 25) := ⟨_, rfl⟩
  have FR : Hid (Fr B pb W0 w vU vV w.heap.size #[.int .i64 17, .int .i64 pl, .string name, .int .u64 num, .string op, .slice ad xs.length cap] wb vU vV (some s) m) := by rw [hwb]; exact Fr.start HB.out.1 HB.out.2 _ _
  have b0 : wb.cell? ⟨w.heap.size, 0, none⟩ = some (.int .i64 17) := FR.out.box 0 _ rfl
  have b1 : wb.cell? ⟨w.heap.size, 1, none⟩ = some (.int .i64 pl) := FR.out.box 1 _ rfl
  have b2 : wb.cell? ⟨w.heap.size, 2, none⟩ = some (.string name) := FR.out.box 2 _ rfl
  have b3 : wb.cell? ⟨w.heap.size, 3, none⟩ = some (.int .u64 num) := FR.out.box 3 _ rfl
  have b4 : wb.cell? ⟨w.heap.size, 4, none⟩ = some (.string op) := FR.out.box 4 _ rfl
  have b5 : wb.cell? ⟨w.heap.size, 5, none⟩ = some (.slice ad xs.length cap) := FR.out.box 5 _ rfl
  obtain ⟨c2, f2⟩ := FR.out.pl.bad
  simp only [Option.isNone_some] at c2
  obtain ⟨b, off, e1, hlie⟩ := kids_lie HS.out.1 (by intro e; simp only at e; rw [e] at hk0; simp at hk0)
  simp only at e1 hlie
  subst e1
  have HL : Hid (∀ (k : Nat) (y : Tr n), xs[k]? = some y → ∀ (B : Nat) (w : World), B = W0.heap.size → Below B W0 w → Six w b (off + k * 6) (ndT n y) (.slice (atT n y) (nkT n y) (capT n y))) := hlie
  have HK0 : Hid (xs[0]? = some k0 ∧ kk = (ndT n k0).kind) := ⟨hk0, hkk⟩
  have hlen0 : 0 < xs.length := by
    rcases Nat.eq_zero_or_pos xs.length with q | q
    · rw [List.length_eq_zero_iff] at q; rw [q] at hk0; simp at hk0
    · exact q
  clear hlie hk0 hkk
  have pbn : ¬ pb = w.heap.size := fun e => FR.out.sep (Or.inl e.symm)
  subst hk3
  unfold isS preS at hn1
  have hsh := shape_any (⟨17, pl, name, num, op⟩ : Nd) (some ⟨b, off, none⟩) xs.length cap wb
  simp only at hsh
  obtain ⟨lo, hlo⟩ : ∃ lo, lo = (shapeR (⟨17, pl, name, num, op⟩ : Nd)).1 := ⟨_, rfl⟩
  obtain ⟨hi, hhi⟩ : ∃ hi, hi = (shapeR (⟨17, pl, name, num, op⟩ : Nd)).2.1 := ⟨_, rfl⟩
  obtain ⟨okk, hokk⟩ : ∃ okk, okk = (shapeR (⟨17, pl, name, num, op⟩ : Nd)).2.2 := ⟨_, rfl⟩
  unfold ShPost at hsh
  rw [← hlo, ← hhi, ← hokk] at hsh
  rw [← hlo, ← hhi, ← hokk] at hcond
  clear hlo hhi hokk
  obtain ⟨hok1, hok2, hok3⟩ := hcond
  subst hok1
  go_enter Try.func34, Try.ntmps34
  go_upto_region 1 with fail
  rw [← hwb]
  clear hwb
  go_wp2_with fail
  refine hsh.mono ?_
  rintro e w2 ⟨sb, zs, rfl, hstr, hany, hzl, hbel⟩
  have FR2 : Hid (Fr B pb W0 w vU vV w.heap.size #[.int .i64 17, .int .i64 pl, .string name, .int .u64 num, .string op, .slice (some ⟨b, off, none⟩) xs.length cap] w2 vU vV (some s) m) := FR.out.new hbel
  have b0' : w2.cell? ⟨w.heap.size, 0, none⟩ = some (.int .i64 17) := FR2.out.box 0 _ rfl
  have b1' : w2.cell? ⟨w.heap.size, 1, none⟩ = some (.int .i64 pl) := FR2.out.box 1 _ rfl
  have b2' : w2.cell? ⟨w.heap.size, 2, none⟩ = some (.string name) := FR2.out.box 2 _ rfl
  have b3' : w2.cell? ⟨w.heap.size, 3, none⟩ = some (.int .u64 num) := FR2.out.box 3 _ rfl
  have b4' : w2.cell? ⟨w.heap.size, 4, none⟩ = some (.string op) := FR2.out.box 4 _ rfl
  have b5' : w2.cell? ⟨w.heap.size, 5, none⟩ = some (.slice (some ⟨b, off, none⟩) xs.length cap) := FR2.out.box 5 _ rfl
  obtain ⟨g2, h2⟩ := FR2.out.pl.bad
  simp only [Option.isNone_some] at g2
  have ham := among_any op (some ⟨sb, 0, none⟩) zs.length zs w2 hstr hzl
  rw [hany] at ham
  clear hsh hstr hany hbel b0 b1 b2 b3 b4 b5 c2 f2
  go_wp2_with fail
  refine ham.mono ?_
  rintro e w3 ⟨rfl, rfl⟩
  clear ham
  go_upto_region 8 with fail
  go_cut [58] from 39 to 58 (fun c wx => c = .bool false ∧ wx = w3)
  case first =>
    have hok4 : decide ((xs.length : Int) < lo) = false := by simpa using hok2
    by_cases q : 0 ≤ hi
    · have q2 : ¬ hi < (xs.length : Int) := fun z => hok3 ⟨q, z⟩
      go_wp2_with fail
      go_meet
      exact ⟨rfl, rfl⟩
    · have q3 : decide (0 ≤ hi) = false := by simpa using q
      go_wp2_with fail
      go_meet
      exact ⟨rfl, rfl⟩
  case rest =>
    obtain ⟨rfl, rfl⟩ := hcut
    clear hok2 hok3
    have z0 : wc.cell? ⟨b, off, none⟩ = some (.int .i64 (3)) := by
      have := (HL.out 0 k0 HK0.out.1 B wc HBE.out FR2.out.bel).1
      rw [← HK0.out.2] at this
      simpa using this
    have HI : Hid (TmAt B pb W0 w vU vV #[.int .i64 17, .int .i64 pl, .string name, .int .u64 num, .string op, .slice (some ⟨b, off, none⟩) xs.length cap] (termKidR (semR n) (⟨17, pl, name, num, op⟩ : Nd) gen) xs (some s) m 0 wc vU vV (some s) (m)) := ⟨Nat.zero_le _, rfl, FR2.out, by simp only [List.drop_zero]; omega⟩
    go_wp2_with fail
    go_loopw [10] (fun i wr => ∃ (k : Nat) (vU' vV' : Value) (st' : RS) (m' : Nat), TmAt B pb W0 w vU vV #[.int .i64 17, .int .i64 pl, .string name, .int .u64 num, .string op, .slice (some ⟨b, off, none⟩) xs.length cap] (termKidR (semR n) (⟨17, pl, name, num, op⟩ : Nd) gen) xs (some s) m k wr vU' vV' st' m' ∧ i = .int .i64 k) (fun i wr => xs.length - (intOf i).toNat)
    case atStart => exact ⟨0, _, _, _, _, HI.out, rfl⟩
    case round =>
      obtain ⟨k, vU1, vV1, st1, m1, hr, rfl⟩ := hrel
      have ple := hr.le
      have HR : Hid (TmAt B pb W0 w vU vV #[.int .i64 17, .int .i64 pl, .string name, .int .u64 num, .string op, .slice (some ⟨b, off, none⟩) xs.length cap] (termKidR (semR n) (⟨17, pl, name, num, op⟩ : Nd) gen) xs (some s) m k wr vU1 vV1 st1 m1) := hr
      have d0 : wr.cell? ⟨w.heap.size, 0, none⟩ = some (.int .i64 17) := hr.fr.box 0 _ rfl
      have d5 : wr.cell? ⟨w.heap.size, 5, none⟩ = some (.slice (some ⟨b, off, none⟩) xs.length cap) := hr.fr.box 5 _ rfl
      clear hr
      rcases Nat.lt_or_ge k xs.length with c | c
      · obtain ⟨y, hy, hd⟩ := kid_get c
        obtain ⟨y0, y1, y2, y3, y4, y5⟩ := HL.out k y hy B wr HBE.out HR.out.fr.bel
        have HY : Hid (xs.drop k = y :: xs.drop (k + 1) ∧ okT n W0 y) := ⟨hd, HS.out.2 y (List.mem_of_getElem? hy)⟩
        clear hy hd
        obtain ⟨wk, hwk⟩ : ∃ wk, wk = wr.alloc (.cells #[.int .i64 (ndT n y).kind, .int .i64 (ndT n y).pl, .string (ndT n y).name, .int .u64 (ndT n y).num, .string (ndT n y).op, .slice (atT n y) (nkT n y) (capT n y)] 25) := ⟨_, rfl⟩
        have hbl : Below wr.heap.size wr wk := by rw [hwk]; exact (Below.refl _ _).alloc (Nat.le_refl _) _
        have FC : Hid (Fr B pb W0 w vU vV w.heap.size #[.int .i64 17, .int .i64 pl, .string name, .int .u64 num, .string op, .slice (some ⟨b, off, none⟩) xs.length cap] wk vU1 vV1 st1 m1) := HR.out.fr.new hbl
        have e0 : wk.cell? ⟨w.heap.size, 0, none⟩ = some (.int .i64 17) := FC.out.box 0 _ rfl
        have x0 : wk.cell? ⟨wr.heap.size, 0, none⟩ = some (.int .i64 (ndT n y).kind) := by rw [hwk]; exact box_new wr _ _ 0 _ rfl
        have x1 : wk.cell? ⟨wr.heap.size, 1, none⟩ = some (.int .i64 (ndT n y).pl) := by rw [hwk]; exact box_new wr _ _ 1 _ rfl
        have x2 : wk.cell? ⟨wr.heap.size, 2, none⟩ = some (.string (ndT n y).name) := by rw [hwk]; exact box_new wr _ _ 2 _ rfl
        have x3 : wk.cell? ⟨wr.heap.size, 3, none⟩ = some (.int .u64 (ndT n y).num) := by rw [hwk]; exact box_new wr _ _ 3 _ rfl
        have x4 : wk.cell? ⟨wr.heap.size, 4, none⟩ = some (.string (ndT n y).op) := by rw [hwk]; exact box_new wr _ _ 4 _ rfl
        have x5 : wk.cell? ⟨wr.heap.size, 5, none⟩ = some (.slice (atT n y) (nkT n y) (capT n y)) := by rw [hwk]; exact box_new wr _ _ 5 _ rfl
        have hc := HH.out.term y gen HY.out.2 wk vU1 vV1 st1 m1 FC.out.bel FC.out.pl (by have h1 := HR.out.bud; have := HM.out; rw [HY.out.1, szL_cons] at h1; omega)
        have HG : Hid (semR n 0 y gen st1 = termKidR (semR n) (⟨17, pl, name, num, op⟩ : Nd) gen y st1) := by show _ = (if _ then _ else _); rw [if_neg (by simp), if_neg (by simp)]
        clear hbl
        go_upto_region 20 with fail
        rw [← hwk]
        clear hwk
        go_wp2_with fail
        refine hc.mono ?_
        rintro e w4 ⟨rfl, vU4, vV4, p4, s4, q4⟩
        have HX : Hid (TmAt B pb W0 w vU vV #[.int .i64 17, .int .i64 pl, .string name, .int .u64 num, .string op, .slice (some ⟨b, off, none⟩) xs.length cap] (termKidR (semR n) (⟨17, pl, name, num, op⟩ : Nd) gen) xs (some s) m (k + 1) w4 vU4 vV4 (termKidR (semR n) (⟨17, pl, name, num, op⟩ : Nd) gen y st1) (m1 + szT n y)) :=
          HR.out.next HY.out.1 c (by rw [← HG.out]; exact FC.out.call p4 s4 q4) (Nat.le_refl _)
        clear p4 s4 q4 hc
        go_wp2_with fail
        refine ⟨⟨k + 1, _, _, _, _, HX.out, by go_num⟩, ?_⟩
        simp [intOf]
        omega
      · have HE : Hid (foldR (termKidR (semR n) (⟨17, pl, name, num, op⟩ : Nd) gen) xs (some s) = st1) := by
          show _ = _
          rw [HR.out.val, List.drop_of_length_le c]
          rfl
        go_wp2_with fail
        go_end0
        rw [HE.out]
        exact ⟨rfl, HR.out.fr.done rfl (by have := HR.out.bud; omega)⟩

set_option maxRecDepth 100000 in
set_option maxHeartbeats 2000000 in
theorem term_step01 {B pb : Nat} {W0 : World} {n : Nat} (H : KidsRC B pb W0 n) (hB : B = W0.heap.size) (pl num : Int) (name op : ByteArray) (ad : Option Addr) (cap : Nat) (xs : List (Tr n)) (gen : Bool) (hsl : Sli.ok (encT n) 6 W0 ⟨ad, cap, xs⟩) (hk : ∀ y ∈ xs, okT n W0 y) (hcond : (shapeR (⟨17, pl, name, num, op⟩ : Nd)).2.2 = true ∧ ¬ (xs.length : Int) < (shapeR (⟨17, pl, name, num, op⟩ : Nd)).1 ∧ ¬ (0 ≤ (shapeR (⟨17, pl, name, num, op⟩ : Nd)).2.1 ∧ (shapeR (⟨17, pl, name, num, op⟩ : Nd)).2.1 < (xs.length : Int))) (k0 : Tr n) (hk0 : xs[0]? = some k0) (kk : Int) (hkk : kk = (ndT n k0).kind) (hk3 : kk = 3) (hn1 : isS name preS = false) (hn2 : isS name postS = true)
    (w : World) (vU vV : Value) (s : St) (m : Nat) (hb : Below B W0 w) (hp : PlAt B pb w (some s) m vU vV) (hm : m + (1 + szL xs) ≤ 1000000) (hl : xs.length ≤ 2 ^ 63 - 1) :
    Calls Try.prog 34 #[.pointer (some ⟨pb, 0, none⟩), .agg #[.int .i64 17, .int .i64 pl, .string name, .int .u64 num, .string op, .slice ad xs.length cap], .bool gen] w fun e w' => e = .returned (.tuple #[]) ∧ ∃ vU' vV', PlAt B pb w' (foldR (termKidR (semR n) ⟨17, pl, name, num, op⟩ gen) xs (some s)) (m + (1 + szL xs)) vU' vV' ∧ Stp pb w vU vV w' vU' vV' ∧ Below B W0 w' := by
  have HH : Hid (KidsRC B pb W0 n) := H
  have HBE : Hid (B = W0.heap.size) := hB
  have HS : Hid (Sli.ok (encT n) 6 W0 ⟨ad, cap, xs⟩ ∧ ∀ y ∈ xs, okT n W0 y) := ⟨hsl, hk⟩
  have HM : Hid (m + (1 + szL xs) ≤ 1000000) := hm
  have HB : Hid (Below B W0 w ∧ PlAt B pb w (some s) m vU vV) := ⟨hb, hp⟩
  clear hb hp H hB hm hsl hk
  obtain ⟨wb, hwb⟩ : ∃ wb, wb = w.alloc (.cells #[.int .i64 17, .int .i64 pl, .string name, .int .u64 num, .string op, .slice ad xs.length cap] 25) := ⟨_, rfl⟩
  have FR : Hid (Fr B pb W0 w vU vV w.heap.size #[.int .i64 17, .int .i64 pl, .string name, .int .u64 num, .string op, .slice ad xs.length cap] wb vU vV (some s) m) := by rw [hwb]; exact Fr.start HB.out.1 HB.out.2 _ _
  have b0 : wb.cell? ⟨w.heap.size, 0, none⟩ = some (.int .i64 17) := FR.out.box 0 _ rfl
  have b1 : wb.cell? ⟨w.heap.size, 1, none⟩ = some (.int .i64 pl) := FR.out.box 1 _ rfl
  have b2 : wb.cell? ⟨w.heap.size, 2, none⟩ = some (.string name) := FR.out.box 2 _ rfl
  have b3 : wb.cell? ⟨w.heap.size, 3, none⟩ = some (.int .u64 num) := FR.out.box 3 _ rfl
  have b4 : wb.cell? ⟨w.heap.size, 4, none⟩ = some (.string op) := FR.out.box 4 _ rfl
  have b5 : wb.cell? ⟨w.heap.size, 5, none⟩ = some (.slice ad xs.length cap) := FR.out.box 5 _ rfl
  obtain ⟨c2, f2⟩ := FR.out.pl.bad
  simp only [Option.isNone_some] at c2
  obtain ⟨b, off, e1, hlie⟩ := kids_lie HS.out.1 (by intro e; simp only at e; rw [e] at hk0; simp at hk0)
  simp only at e1 hlie
  subst e1
  have HL : Hid (∀ (k : Nat) (y : Tr n), xs[k]? = some y → ∀ (B : Nat) (w : World), B = W0.heap.size → Below B W0 w → Six w b (off + k * 6) (ndT n y) (.slice (atT n y) (nkT n y) (capT n y))) := hlie
  have HK0 : Hid (xs[0]? = some k0 ∧ kk = (ndT n k0).kind) := ⟨hk0, hkk⟩
  have hlen0 : 0 < xs.length := by
    rcases Nat.eq_zero_or_pos xs.length with q | q
    · rw [List.length_eq_zero_iff] at q; rw [q] at hk0; simp at hk0
    · exact q
  clear hlie hk0 hkk
  have pbn : ¬ pb = w.heap.size := fun e => FR.out.sep (Or.inl e.symm)
  subst hk3
  unfold isS preS at hn1
  unfold isS postS at hn2
  have hsh := shape_any (⟨17, pl, name, num, op⟩ : Nd) (some ⟨b, off, none⟩) xs.length cap wb
  simp only at hsh
  obtain ⟨lo, hlo⟩ : ∃ lo, lo = (shapeR (⟨17, pl, name, num, op⟩ : Nd)).1 := ⟨_, rfl⟩
  obtain ⟨hi, hhi⟩ : ∃ hi, hi = (shapeR (⟨17, pl, name, num, op⟩ : Nd)).2.1 := ⟨_, rfl⟩
  obtain ⟨okk, hokk⟩ : ∃ okk, okk = (shapeR (⟨17, pl, name, num, op⟩ : Nd)).2.2 := ⟨_, rfl⟩
  unfold ShPost at hsh
  rw [← hlo, ← hhi, ← hokk] at hsh
  rw [← hlo, ← hhi, ← hokk] at hcond
  clear hlo hhi hokk
  obtain ⟨hok1, hok2, hok3⟩ := hcond
  subst hok1
  go_enter Try.func34, Try.ntmps34
  go_upto_region 1 with fail
  rw [← hwb]
  clear hwb
  go_wp2_with fail
  refine hsh.mono ?_
  rintro e w2 ⟨sb, zs, rfl, hstr, hany, hzl, hbel⟩
  have FR2 : Hid (Fr B pb W0 w vU vV w.heap.size #[.int .i64 17, .int .i64 pl, .string name, .int .u64 num, .string op, .slice (some ⟨b, off, none⟩) xs.length cap] w2 vU vV (some s) m) := FR.out.new hbel
  have b0' : w2.cell? ⟨w.heap.size, 0, none⟩ = some (.int .i64 17) := FR2.out.box 0 _ rfl
  have b1' : w2.cell? ⟨w.heap.size, 1, none⟩ = some (.int .i64 pl) := FR2.out.box 1 _ rfl
  have b2' : w2.cell? ⟨w.heap.size, 2, none⟩ = some (.string name) := FR2.out.box 2 _ rfl
  have b3' : w2.cell? ⟨w.heap.size, 3, none⟩ = some (.int .u64 num) := FR2.out.box 3 _ rfl
  have b4' : w2.cell? ⟨w.heap.size, 4, none⟩ = some (.string op) := FR2.out.box 4 _ rfl
  have b5' : w2.cell? ⟨w.heap.size, 5, none⟩ = some (.slice (some ⟨b, off, none⟩) xs.length cap) := FR2.out.box 5 _ rfl
  obtain ⟨g2, h2⟩ := FR2.out.pl.bad
  simp only [Option.isNone_some] at g2
  have ham := among_any op (some ⟨sb, 0, none⟩) zs.length zs w2 hstr hzl
  rw [hany] at ham
  clear hsh hstr hany hbel b0 b1 b2 b3 b4 b5 c2 f2
  go_wp2_with fail
  refine ham.mono ?_
  rintro e w3 ⟨rfl, rfl⟩
  clear ham
  go_upto_region 8 with fail
  go_cut [58] from 39 to 58 (fun c wx => c = .bool false ∧ wx = w3)
  case first =>
    have hok4 : decide ((xs.length : Int) < lo) = false := by simpa using hok2
    by_cases q : 0 ≤ hi
    · have q2 : ¬ hi < (xs.length : Int) := fun z => hok3 ⟨q, z⟩
      go_wp2_with fail
      go_meet
      exact ⟨rfl, rfl⟩
    · have q3 : decide (0 ≤ hi) = false := by simpa using q
      go_wp2_with fail
      go_meet
      exact ⟨rfl, rfl⟩
  case rest =>
    obtain ⟨rfl, rfl⟩ := hcut
    clear hok2 hok3
    have z0 : wc.cell? ⟨b, off, none⟩ = some (.int .i64 (3)) := by
      have := (HL.out 0 k0 HK0.out.1 B wc HBE.out FR2.out.bel).1
      rw [← HK0.out.2] at this
      simpa using this
    have HI : Hid (TmAt B pb W0 w vU vV #[.int .i64 17, .int .i64 pl, .string name, .int .u64 num, .string op, .slice (some ⟨b, off, none⟩) xs.length cap] (termKidR (semR n) (⟨17, pl, name, num, op⟩ : Nd) gen) xs (some s) m 0 wc vU vV (some s) (m)) := ⟨Nat.zero_le _, rfl, FR2.out, by simp only [List.drop_zero]; omega⟩
    go_wp2_with fail
    go_loopw [10] (fun i wr => ∃ (k : Nat) (vU' vV' : Value) (st' : RS) (m' : Nat), TmAt B pb W0 w vU vV #[.int .i64 17, .int .i64 pl, .string name, .int .u64 num, .string op, .slice (some ⟨b, off, none⟩) xs.length cap] (termKidR (semR n) (⟨17, pl, name, num, op⟩ : Nd) gen) xs (some s) m k wr vU' vV' st' m' ∧ i = .int .i64 k) (fun i wr => xs.length - (intOf i).toNat)
    case atStart => exact ⟨0, _, _, _, _, HI.out, rfl⟩
    case round =>
      obtain ⟨k, vU1, vV1, st1, m1, hr, rfl⟩ := hrel
      have ple := hr.le
      have HR : Hid (TmAt B pb W0 w vU vV #[.int .i64 17, .int .i64 pl, .string name, .int .u64 num, .string op, .slice (some ⟨b, off, none⟩) xs.length cap] (termKidR (semR n) (⟨17, pl, name, num, op⟩ : Nd) gen) xs (some s) m k wr vU1 vV1 st1 m1) := hr
      have d0 : wr.cell? ⟨w.heap.size, 0, none⟩ = some (.int .i64 17) := hr.fr.box 0 _ rfl
      have d5 : wr.cell? ⟨w.heap.size, 5, none⟩ = some (.slice (some ⟨b, off, none⟩) xs.length cap) := hr.fr.box 5 _ rfl
      clear hr
      rcases Nat.lt_or_ge k xs.length with c | c
      · obtain ⟨y, hy, hd⟩ := kid_get c
        obtain ⟨y0, y1, y2, y3, y4, y5⟩ := HL.out k y hy B wr HBE.out HR.out.fr.bel
        have HY : Hid (xs.drop k = y :: xs.drop (k + 1) ∧ okT n W0 y) := ⟨hd, HS.out.2 y (List.mem_of_getElem? hy)⟩
        clear hy hd
        obtain ⟨wk, hwk⟩ : ∃ wk, wk = wr.alloc (.cells #[.int .i64 (ndT n y).kind, .int .i64 (ndT n y).pl, .string (ndT n y).name, .int .u64 (ndT n y).num, .string (ndT n y).op, .slice (atT n y) (nkT n y) (capT n y)] 25) := ⟨_, rfl⟩
        have hbl : Below wr.heap.size wr wk := by rw [hwk]; exact (Below.refl _ _).alloc (Nat.le_refl _) _
        have FC : Hid (Fr B pb W0 w vU vV w.heap.size #[.int .i64 17, .int .i64 pl, .string name, .int .u64 num, .string op, .slice (some ⟨b, off, none⟩) xs.length cap] wk vU1 vV1 st1 m1) := HR.out.fr.new hbl
        have e0 : wk.cell? ⟨w.heap.size, 0, none⟩ = some (.int .i64 17) := FC.out.box 0 _ rfl
        have x0 : wk.cell? ⟨wr.heap.size, 0, none⟩ = some (.int .i64 (ndT n y).kind) := by rw [hwk]; exact box_new wr _ _ 0 _ rfl
        have x1 : wk.cell? ⟨wr.heap.size, 1, none⟩ = some (.int .i64 (ndT n y).pl) := by rw [hwk]; exact box_new wr _ _ 1 _ rfl
        have x2 : wk.cell? ⟨wr.heap.size, 2, none⟩ = some (.string (ndT n y).name) := by rw [hwk]; exact box_new wr _ _ 2 _ rfl
        have x3 : wk.cell? ⟨wr.heap.size, 3, none⟩ = some (.int .u64 (ndT n y).num) := by rw [hwk]; exact box_new wr _ _ 3 _ rfl
        have x4 : wk.cell? ⟨wr.heap.size, 4, none⟩ = some (.string (ndT n y).op) := by rw [hwk]; exact box_new wr _ _ 4 _ rfl
        have x5 : wk.cell? ⟨wr.heap.size, 5, none⟩ = some (.slice (atT n y) (nkT n y) (capT n y)) := by rw [hwk]; exact box_new wr _ _ 5 _ rfl
        have hc := HH.out.term y gen HY.out.2 wk vU1 vV1 st1 m1 FC.out.bel FC.out.pl (by have h1 := HR.out.bud; have := HM.out; rw [HY.out.1, szL_cons] at h1; omega)
        have HG : Hid (semR n 0 y gen st1 = termKidR (semR n) (⟨17, pl, name, num, op⟩ : Nd) gen y st1) := by show _ = (if _ then _ else _); rw [if_neg (by simp), if_neg (by simp)]
        clear hbl
        go_upto_region 20 with fail
        rw [← hwk]
        clear hwk
        go_wp2_with fail
        refine hc.mono ?_
        rintro e w4 ⟨rfl, vU4, vV4, p4, s4, q4⟩
        have HX : Hid (TmAt B pb W0 w vU vV #[.int .i64 17, .int .i64 pl, .string name, .int .u64 num, .string op, .slice (some ⟨b, off, none⟩) xs.length cap] (termKidR (semR n) (⟨17, pl, name, num, op⟩ : Nd) gen) xs (some s) m (k + 1) w4 vU4 vV4 (termKidR (semR n) (⟨17, pl, name, num, op⟩ : Nd) gen y st1) (m1 + szT n y)) :=
          HR.out.next HY.out.1 c (by rw [← HG.out]; exact FC.out.call p4 s4 q4) (Nat.le_refl _)
        clear p4 s4 q4 hc
        go_wp2_with fail
        refine ⟨⟨k + 1, _, _, _, _, HX.out, by go_num⟩, ?_⟩
        simp [intOf]
        omega
      · have HE : Hid (foldR (termKidR (semR n) (⟨17, pl, name, num, op⟩ : Nd) gen) xs (some s) = st1) := by
          show _ = _
          rw [HR.out.val, List.drop_of_length_le c]
          rfl
        go_wp2_with fail
        go_end0
        rw [HE.out]
        exact ⟨rfl, HR.out.fr.done rfl (by have := HR.out.bud; omega)⟩

set_option maxRecDepth 100000 in
set_option maxHeartbeats 2000000 in
theorem term_step02 {B pb : Nat} {W0 : World} {n : Nat} (H : KidsRC B pb W0 n) (hB : B = W0.heap.size) (pl num : Int) (name op : ByteArray) (ad : Option Addr) (cap : Nat) (xs : List (Tr n)) (gen : Bool) (hsl : Sli.ok (encT n) 6 W0 ⟨ad, cap, xs⟩) (hk : ∀ y ∈ xs, okT n W0 y) (hcond : (shapeR (⟨17, pl, name, num, op⟩ : Nd)).2.2 = true ∧ ¬ (xs.length : Int) < (shapeR (⟨17, pl, name, num, op⟩ : Nd)).1 ∧ ¬ (0 ≤ (shapeR (⟨17, pl, name, num, op⟩ : Nd)).2.1 ∧ (shapeR (⟨17, pl, name, num, op⟩ : Nd)).2.1 < (xs.length : Int))) (k0 : Tr n) (hk0 : xs[0]? = some k0) (kk : Int) (hkk : kk = (ndT n k0).kind) (hk3 : kk = 3) (hn1 : isS name preS = false) (hn2 : isS name postS = false)
    (w : World) (vU vV : Value) (s : St) (m : Nat) (hb : Below B W0 w) (hp : PlAt B pb w (some s) m vU vV) (hm : m + (1 + szL xs) ≤ 1000000) (hl : xs.length ≤ 2 ^ 63 - 1) :
    Calls Try.prog 34 #[.pointer (some ⟨pb, 0, none⟩), .agg #[.int .i64 17, .int .i64 pl, .string name, .int .u64 num, .string op, .slice ad xs.length cap], .bool gen] w fun e w' => e = .returned (.tuple #[]) ∧ ∃ vU' vV', PlAt B pb w' (foldR (termKidR (semR n) ⟨17, pl, name, num, op⟩ gen) xs (none)) (m + (1 + szL xs)) vU' vV' ∧ Stp pb w vU vV w' vU' vV' ∧ Below B W0 w' := by
  have HH : Hid (KidsRC B pb W0 n) := H
  have HBE : Hid (B = W0.heap.size) := hB
  have HS : Hid (Sli.ok (encT n) 6 W0 ⟨ad, cap, xs⟩ ∧ ∀ y ∈ xs, okT n W0 y) := ⟨hsl, hk⟩
  have HM : Hid (m + (1 + szL xs) ≤ 1000000) := hm
  have HB : Hid (Below B W0 w ∧ PlAt B pb w (some s) m vU vV) := ⟨hb, hp⟩
  clear hb hp H hB hm hsl hk
  obtain ⟨wb, hwb⟩ : ∃ wb, wb = w.alloc (.cells #[.int .i64 17, .int .i64 pl, .string name, .int .u64 num, .string op, .slice ad xs.length cap] 25) := ⟨_, rfl⟩
  have FR : Hid (Fr B pb W0 w vU vV w.heap.size #[.int .i64 17, .int .i64 pl, .string name, .int .u64 num, .string op, .slice ad xs.length cap] wb vU vV (some s) m) := by rw [hwb]; exact Fr.start HB.out.1 HB.out.2 _ _
  have b0 : wb.cell? ⟨w.heap.size, 0, none⟩ = some (.int .i64 17) := FR.out.box 0 _ rfl
  have b1 : wb.cell? ⟨w.heap.size, 1, none⟩ = some (.int .i64 pl) := FR.out.box 1 _ rfl
  have b2 : wb.cell? ⟨w.heap.size, 2, none⟩ = some (.string name) := FR.out.box 2 _ rfl
  have b3 : wb.cell? ⟨w.heap.size, 3, none⟩ = some (.int .u64 num) := FR.out.box 3 _ rfl
  have b4 : wb.cell? ⟨w.heap.size, 4, none⟩ = some (.string op) := FR.out.box 4 _ rfl
  have b5 : wb.cell? ⟨w.heap.size, 5, none⟩ = some (.slice ad xs.length cap) := FR.out.box 5 _ rfl
  obtain ⟨c2, f2⟩ := FR.out.pl.bad
  simp only [Option.isNone_some] at c2
  obtain ⟨b, off, e1, hlie⟩ := kids_lie HS.out.1 (by intro e; simp only at e; rw [e] at hk0; simp at hk0)
  simp only at e1 hlie
  subst e1
  have HL : Hid (∀ (k : Nat) (y : Tr n), xs[k]? = some y → ∀ (B : Nat) (w : World), B = W0.heap.size → Below B W0 w → Six w b (off + k * 6) (ndT n y) (.slice (atT n y) (nkT n y) (capT n y))) := hlie
  have HK0 : Hid (xs[0]? = some k0 ∧ kk = (ndT n k0).kind) := ⟨hk0, hkk⟩
  have hlen0 : 0 < xs.length := by
    rcases Nat.eq_zero_or_pos xs.length with q | q
    · rw [List.length_eq_zero_iff] at q; rw [q] at hk0; simp at hk0
    · exact q
  clear hlie hk0 hkk
  have pbn : ¬ pb = w.heap.size := fun e => FR.out.sep (Or.inl e.symm)
  subst hk3
  unfold isS preS at hn1
  unfold isS postS at hn2
  have hsh := shape_any (⟨17, pl, name, num, op⟩ : Nd) (some ⟨b, off, none⟩) xs.length cap wb
  simp only at hsh
  obtain ⟨lo, hlo⟩ : ∃ lo, lo = (shapeR (⟨17, pl, name, num, op⟩ : Nd)).1 := ⟨_, rfl⟩
  obtain ⟨hi, hhi⟩ : ∃ hi, hi = (shapeR (⟨17, pl, name, num, op⟩ : Nd)).2.1 := ⟨_, rfl⟩
  obtain ⟨okk, hokk⟩ : ∃ okk, okk = (shapeR (⟨17, pl, name, num, op⟩ : Nd)).2.2 := ⟨_, rfl⟩
  unfold ShPost at hsh
  rw [← hlo, ← hhi, ← hokk] at hsh
  rw [← hlo, ← hhi, ← hokk] at hcond
  clear hlo hhi hokk
  obtain ⟨hok1, hok2, hok3⟩ := hcond
  subst hok1
  go_enter Try.func34, Try.ntmps34
  go_upto_region 1 with fail
  rw [← hwb]
  clear hwb
  go_wp2_with fail
  refine hsh.mono ?_
  rintro e w2 ⟨sb, zs, rfl, hstr, hany, hzl, hbel⟩
  have FR2 : Hid (Fr B pb W0 w vU vV w.heap.size #[.int .i64 17, .int .i64 pl, .string name, .int .u64 num, .string op, .slice (some ⟨b, off, none⟩) xs.length cap] w2 vU vV (some s) m) := FR.out.new hbel
  have b0' : w2.cell? ⟨w.heap.size, 0, none⟩ = some (.int .i64 17) := FR2.out.box 0 _ rfl
  have b1' : w2.cell? ⟨w.heap.size, 1, none⟩ = some (.int .i64 pl) := FR2.out.box 1 _ rfl
  have b2' : w2.cell? ⟨w.heap.size, 2, none⟩ = some (.string name) := FR2.out.box 2 _ rfl
  have b3' : w2.cell? ⟨w.heap.size, 3, none⟩ = some (.int .u64 num) := FR2.out.box 3 _ rfl
  have b4' : w2.cell? ⟨w.heap.size, 4, none⟩ = some (.string op) := FR2.out.box 4 _ rfl
  have b5' : w2.cell? ⟨w.heap.size, 5, none⟩ = some (.slice (some ⟨b, off, none⟩) xs.length cap) := FR2.out.box 5 _ rfl
  obtain ⟨g2, h2⟩ := FR2.out.pl.bad
  simp only [Option.isNone_some] at g2
  have ham := among_any op (some ⟨sb, 0, none⟩) zs.length zs w2 hstr hzl
  rw [hany] at ham
  clear hsh hstr hany hbel b0 b1 b2 b3 b4 b5 c2 f2
  go_wp2_with fail
  refine ham.mono ?_
  rintro e w3 ⟨rfl, rfl⟩
  clear ham
  go_upto_region 8 with fail
  go_cut [58] from 39 to 58 (fun c wx => c = .bool false ∧ wx = w3)
  case first =>
    have hok4 : decide ((xs.length : Int) < lo) = false := by simpa using hok2
    by_cases q : 0 ≤ hi
    · have q2 : ¬ hi < (xs.length : Int) := fun z => hok3 ⟨q, z⟩
      go_wp2_with fail
      go_meet
      exact ⟨rfl, rfl⟩
    · have q3 : decide (0 ≤ hi) = false := by simpa using q
      go_wp2_with fail
      go_meet
      exact ⟨rfl, rfl⟩
  case rest =>
    obtain ⟨rfl, rfl⟩ := hcut
    clear hok2 hok3
    have z0 : wc.cell? ⟨b, off, none⟩ = some (.int .i64 (3)) := by
      have := (HL.out 0 k0 HK0.out.1 B wc HBE.out FR2.out.bel).1
      rw [← HK0.out.2] at this
      simpa using this
    have HI : Hid (TmAt B pb W0 w vU vV #[.int .i64 17, .int .i64 pl, .string name, .int .u64 num, .string op, .slice (some ⟨b, off, none⟩) xs.length cap] (termKidR (semR n) (⟨17, pl, name, num, op⟩ : Nd) gen) xs (none) m 0 (wc.setCell ⟨pb, 2, none⟩ (.bool true)) vU vV (none) (m)) := ⟨Nat.zero_le _, rfl, FR2.out.spoil, by simp only [List.drop_zero]; omega⟩
    go_wp2_with fail
    go_loopw [10] (fun i wr => ∃ (k : Nat) (vU' vV' : Value) (st' : RS) (m' : Nat), TmAt B pb W0 w vU vV #[.int .i64 17, .int .i64 pl, .string name, .int .u64 num, .string op, .slice (some ⟨b, off, none⟩) xs.length cap] (termKidR (semR n) (⟨17, pl, name, num, op⟩ : Nd) gen) xs (none) m k wr vU' vV' st' m' ∧ i = .int .i64 k) (fun i wr => xs.length - (intOf i).toNat)
    case atStart => exact ⟨0, _, _, _, _, HI.out, rfl⟩
    case round =>
      obtain ⟨k, vU1, vV1, st1, m1, hr, rfl⟩ := hrel
      have ple := hr.le
      have HR : Hid (TmAt B pb W0 w vU vV #[.int .i64 17, .int .i64 pl, .string name, .int .u64 num, .string op, .slice (some ⟨b, off, none⟩) xs.length cap] (termKidR (semR n) (⟨17, pl, name, num, op⟩ : Nd) gen) xs (none) m k wr vU1 vV1 st1 m1) := hr
      have d0 : wr.cell? ⟨w.heap.size, 0, none⟩ = some (.int .i64 17) := hr.fr.box 0 _ rfl
      have d5 : wr.cell? ⟨w.heap.size, 5, none⟩ = some (.slice (some ⟨b, off, none⟩) xs.length cap) := hr.fr.box 5 _ rfl
      clear hr
      rcases Nat.lt_or_ge k xs.length with c | c
      · obtain ⟨y, hy, hd⟩ := kid_get c
        obtain ⟨y0, y1, y2, y3, y4, y5⟩ := HL.out k y hy B wr HBE.out HR.out.fr.bel
        have HY : Hid (xs.drop k = y :: xs.drop (k + 1) ∧ okT n W0 y) := ⟨hd, HS.out.2 y (List.mem_of_getElem? hy)⟩
        clear hy hd
        obtain ⟨wk, hwk⟩ : ∃ wk, wk = wr.alloc (.cells #[.int .i64 (ndT n y).kind, .int .i64 (ndT n y).pl, .string (ndT n y).name, .int .u64 (ndT n y).num, .string (ndT n y).op, .slice (atT n y) (nkT n y) (capT n y)] 25) := ⟨_, rfl⟩
        have hbl : Below wr.heap.size wr wk := by rw [hwk]; exact (Below.refl _ _).alloc (Nat.le_refl _) _
        have FC : Hid (Fr B pb W0 w vU vV w.heap.size #[.int .i64 17, .int .i64 pl, .string name, .int .u64 num, .string op, .slice (some ⟨b, off, none⟩) xs.length cap] wk vU1 vV1 st1 m1) := HR.out.fr.new hbl
        have e0 : wk.cell? ⟨w.heap.size, 0, none⟩ = some (.int .i64 17) := FC.out.box 0 _ rfl
        have x0 : wk.cell? ⟨wr.heap.size, 0, none⟩ = some (.int .i64 (ndT n y).kind) := by rw [hwk]; exact box_new wr _ _ 0 _ rfl
        have x1 : wk.cell? ⟨wr.heap.size, 1, none⟩ = some (.int .i64 (ndT n y).pl) := by rw [hwk]; exact box_new wr _ _ 1 _ rfl
        have x2 : wk.cell? ⟨wr.heap.size, 2, none⟩ = some (.string (ndT n y).name) := by rw [hwk]; exact box_new wr _ _ 2 _ rfl
        have x3 : wk.cell? ⟨wr.heap.size, 3, none⟩ = some (.int .u64 (ndT n y).num) := by rw [hwk]; exact box_new wr _ _ 3 _ rfl
        have x4 : wk.cell? ⟨wr.heap.size, 4, none⟩ = some (.string (ndT n y).op) := by rw [hwk]; exact box_new wr _ _ 4 _ rfl
        have x5 : wk.cell? ⟨wr.heap.size, 5, none⟩ = some (.slice (atT n y) (nkT n y) (capT n y)) := by rw [hwk]; exact box_new wr _ _ 5 _ rfl
        have hc := HH.out.term y gen HY.out.2 wk vU1 vV1 st1 m1 FC.out.bel FC.out.pl (by have h1 := HR.out.bud; have := HM.out; rw [HY.out.1, szL_cons] at h1; omega)
        have HG : Hid (semR n 0 y gen st1 = termKidR (semR n) (⟨17, pl, name, num, op⟩ : Nd) gen y st1) := by show _ = (if _ then _ else _); rw [if_neg (by simp), if_neg (by simp)]
        clear hbl
        go_upto_region 20 with fail
        rw [← hwk]
        clear hwk
        go_wp2_with fail
        refine hc.mono ?_
        rintro e w4 ⟨rfl, vU4, vV4, p4, s4, q4⟩
        have HX : Hid (TmAt B pb W0 w vU vV #[.int .i64 17, .int .i64 pl, .string name, .int .u64 num, .string op, .slice (some ⟨b, off, none⟩) xs.length cap] (termKidR (semR n) (⟨17, pl, name, num, op⟩ : Nd) gen) xs (none) m (k + 1) w4 vU4 vV4 (termKidR (semR n) (⟨17, pl, name, num, op⟩ : Nd) gen y st1) (m1 + szT n y)) :=
          HR.out.next HY.out.1 c (by rw [← HG.out]; exact FC.out.call p4 s4 q4) (Nat.le_refl _)
        clear p4 s4 q4 hc
        go_wp2_with fail
        refine ⟨⟨k + 1, _, _, _, _, HX.out, by go_num⟩, ?_⟩
        simp [intOf]
        omega
      · have HE : Hid (foldR (termKidR (semR n) (⟨17, pl, name, num, op⟩ : Nd) gen) xs (none) = st1) := by
          show _ = _
          rw [HR.out.val, List.drop_of_length_le c]
          rfl
        go_wp2_with fail
        go_end0
        rw [HE.out]
        exact ⟨rfl, HR.out.fr.done rfl (by have := HR.out.bud; omega)⟩

set_option maxRecDepth 100000 in
set_option maxHeartbeats 2000000 in
theorem term_step10 {B pb : Nat} {W0 : World} {n : Nat} (H : KidsRC B pb W0 n) (hB : B = W0.heap.size) (pl num : Int) (name op : ByteArray) (ad : Option Addr) (cap : Nat) (xs : List (Tr n)) (gen : Bool) (hsl : Sli.ok (encT n) 6 W0 ⟨ad, cap, xs⟩) (hk : ∀ y ∈ xs, okT n W0 y) (hcond : (shapeR (⟨17, pl, name, num, op⟩ : Nd)).2.2 = true ∧ ¬ (xs.length : Int) < (shapeR (⟨17, pl, name, num, op⟩ : Nd)).1 ∧ ¬ (0 ≤ (shapeR (⟨17, pl, name, num, op⟩ : Nd)).2.1 ∧ (shapeR (⟨17, pl, name, num, op⟩ : Nd)).2.1 < (xs.length : Int))) (k0 : Tr n) (hk0 : xs[0]? = some k0) (kk : Int) (hkk : kk = (ndT n k0).kind) (hk3 : kk = 13) (hn1 : isS name preS = true)
    (w : World) (vU vV : Value) (s : St) (m : Nat) (hb : Below B W0 w) (hp : PlAt B pb w (some s) m vU vV) (hm : m + (1 + szL xs) ≤ 1000000) (hl : xs.length ≤ 2 ^ 63 - 1) :
    Calls Try.prog 34 #[.pointer (some ⟨pb, 0, none⟩), .agg #[.int .i64 17, .int .i64 pl, .string name, .int .u64 num, .string op, .slice ad xs.length cap], .bool gen] w fun e w' => e = .returned (.tuple #[]) ∧ ∃ vU' vV', PlAt B pb w' (foldR (termKidR (semR n) ⟨17, pl, name, num, op⟩ gen) xs (some s)) (m + (1 + szL xs)) vU' vV' ∧ Stp pb w vU vV w' vU' vV' ∧ Below B W0 w' := by
  have HH : Hid (KidsRC B pb W0 n) := H
  have HBE : Hid (B = W0.heap.size) := hB
  have HS : Hid (Sli.ok (encT n) 6 W0 ⟨ad, cap, xs⟩ ∧ ∀ y ∈ xs, okT n W0 y) := ⟨hsl, hk⟩
  have HM : Hid (m + (1 + szL xs) ≤ 1000000) := hm
  have HB : Hid (Below B W0 w ∧ PlAt B pb w (some s) m vU vV) := ⟨hb, hp⟩
  clear hb hp H hB hm hsl hk
  obtain ⟨wb, hwb⟩ : ∃ wb, wb = w.alloc (.cells #[.int .i64 17, .int .i64 pl, .string name, .int .u64 num, .string op, .slice ad xs.length cap] 25) := ⟨_, rfl⟩
  have FR : Hid (Fr B pb W0 w vU vV w.heap.size #[.int .i64 17, .int .i64 pl, .string name, .int .u64 num, .string op, .slice ad xs.length cap] wb vU vV (some s) m) := by rw [hwb]; exact Fr.start HB.out.1 HB.out.2 _ _
  have b0 : wb.cell? ⟨w.heap.size, 0, none⟩ = some (.int .i64 17) := FR.out.box 0 _ rfl
  have b1 : wb.cell? ⟨w.heap.size, 1, none⟩ = some (.int .i64 pl) := FR.out.box 1 _ rfl
  have b2 : wb.cell? ⟨w.heap.size, 2, none⟩ = some (.string name) := FR.out.box 2 _ rfl
  have b3 : wb.cell? ⟨w.heap.size, 3, none⟩ = some (.int .u64 num) := FR.out.box 3 _ rfl
  have b4 : wb.cell? ⟨w.heap.size, 4, none⟩ = some (.string op) := FR.out.box 4 _ rfl
  have b5 : wb.cell? ⟨w.heap.size, 5, none⟩ = some (.slice ad xs.length cap) := FR.out.box 5 _ rfl
  obtain ⟨c2, f2⟩ := FR.out.pl.bad
  simp only [Option.isNone_some] at c2
  obtain ⟨b, off, e1, hlie⟩ := kids_lie HS.out.1 (by intro e; simp only at e; rw [e] at hk0; simp at hk0)
  simp only at e1 hlie
  subst e1
  have HL : Hid (∀ (k : Nat) (y : Tr n), xs[k]? = some y → ∀ (B : Nat) (w : World), B = W0.heap.size → Below B W0 w → Six w b (off + k * 6) (ndT n y) (.slice (atT n y) (nkT n y) (capT n y))) := hlie
  have HK0 : Hid (xs[0]? = some k0 ∧ kk = (ndT n k0).kind) := ⟨hk0, hkk⟩
  have hlen0 : 0 < xs.length := by
    rcases Nat.eq_zero_or_pos xs.length with q | q
    · rw [List.length_eq_zero_iff] at q; rw [q] at hk0; simp at hk0
    · exact q
  clear hlie hk0 hkk
  have pbn : ¬ pb = w.heap.size := fun e => FR.out.sep (Or.inl e.symm)
  subst hk3
  unfold isS preS at hn1
  have hsh := shape_any (⟨17, pl, name, num, op⟩ : Nd) (some ⟨b, off, none⟩) xs.length cap wb
  simp only at hsh
  obtain ⟨lo, hlo⟩ : ∃ lo, lo = (shapeR (⟨17, pl, name, num, op⟩ : Nd)).1 := ⟨_, rfl⟩
  obtain ⟨hi, hhi⟩ : ∃ hi, hi = (shapeR (⟨17, pl, name, num, op⟩ : Nd)).2.1 := ⟨_, rfl⟩
  obtain ⟨okk, hokk⟩ : ∃ okk, okk = (shapeR (⟨17, pl, name, num, op⟩ : Nd)).2.2 := ⟨_, rfl⟩
  unfold ShPost at hsh
  rw [← hlo, ← hhi, ← hokk] at hsh
  rw [← hlo, ← hhi, ← hokk] at hcond
  clear hlo hhi hokk
  obtain ⟨hok1, hok2, hok3⟩ := hcond
  subst hok1
  go_enter Try.func34, Try.ntmps34
  go_upto_region 1 with fail
  rw [← hwb]
  clear hwb
  go_wp2_with fail
  refine hsh.mono ?_
  rintro e w2 ⟨sb, zs, rfl, hstr, hany, hzl, hbel⟩
  have FR2 : Hid (Fr B pb W0 w vU vV w.heap.size #[.int .i64 17, .int .i64 pl, .string name, .int .u64 num, .string op, .slice (some ⟨b, off, none⟩) xs.length cap] w2 vU vV (some s) m) := FR.out.new hbel
  have b0' : w2.cell? ⟨w.heap.size, 0, none⟩ = some (.int .i64 17) := FR2.out.box 0 _ rfl
  have b1' : w2.cell? ⟨w.heap.size, 1, none⟩ = some (.int .i64 pl) := FR2.out.box 1 _ rfl
  have b2' : w2.cell? ⟨w.heap.size, 2, none⟩ = some (.string name) := FR2.out.box 2 _ rfl
  have b3' : w2.cell? ⟨w.heap.size, 3, none⟩ = some (.int .u64 num) := FR2.out.box 3 _ rfl
  have b4' : w2.cell? ⟨w.heap.size, 4, none⟩ = some (.string op) := FR2.out.box 4 _ rfl
  have b5' : w2.cell? ⟨w.heap.size, 5, none⟩ = some (.slice (some ⟨b, off, none⟩) xs.length cap) := FR2.out.box 5 _ rfl
  obtain ⟨g2, h2⟩ := FR2.out.pl.bad
  simp only [Option.isNone_some] at g2
  have ham := among_any op (some ⟨sb, 0, none⟩) zs.length zs w2 hstr hzl
  rw [hany] at ham
  clear hsh hstr hany hbel b0 b1 b2 b3 b4 b5 c2 f2
  go_wp2_with fail
  refine ham.mono ?_
  rintro e w3 ⟨rfl, rfl⟩
  clear ham
  go_upto_region 8 with fail
  go_cut [58] from 39 to 58 (fun c wx => c = .bool false ∧ wx = w3)
  case first =>
    have hok4 : decide ((xs.length : Int) < lo) = false := by simpa using hok2
    by_cases q : 0 ≤ hi
    · have q2 : ¬ hi < (xs.length : Int) := fun z => hok3 ⟨q, z⟩
      go_wp2_with fail
      go_meet
      exact ⟨rfl, rfl⟩
    · have q3 : decide (0 ≤ hi) = false := by simpa using q
      go_wp2_with fail
      go_meet
      exact ⟨rfl, rfl⟩
  case rest =>
    obtain ⟨rfl, rfl⟩ := hcut
    clear hok2 hok3
    have z0 : wc.cell? ⟨b, off, none⟩ = some (.int .i64 (13)) := by
      have := (HL.out 0 k0 HK0.out.1 B wc HBE.out FR2.out.bel).1
      rw [← HK0.out.2] at this
      simpa using this
    have HI : Hid (TmAt B pb W0 w vU vV #[.int .i64 17, .int .i64 pl, .string name, .int .u64 num, .string op, .slice (some ⟨b, off, none⟩) xs.length cap] (termKidR (semR n) (⟨17, pl, name, num, op⟩ : Nd) gen) xs (some s) m 0 wc vU vV (some s) (m)) := ⟨Nat.zero_le _, rfl, FR2.out, by simp only [List.drop_zero]; omega⟩
    go_wp2_with fail
    go_loopw [10] (fun i wr => ∃ (k : Nat) (vU' vV' : Value) (st' : RS) (m' : Nat), TmAt B pb W0 w vU vV #[.int .i64 17, .int .i64 pl, .string name, .int .u64 num, .string op, .slice (some ⟨b, off, none⟩) xs.length cap] (termKidR (semR n) (⟨17, pl, name, num, op⟩ : Nd) gen) xs (some s) m k wr vU' vV' st' m' ∧ i = .int .i64 k) (fun i wr => xs.length - (intOf i).toNat)
    case atStart => exact ⟨0, _, _, _, _, HI.out, rfl⟩
    case round =>
      obtain ⟨k, vU1, vV1, st1, m1, hr, rfl⟩ := hrel
      have ple := hr.le
      have HR : Hid (TmAt B pb W0 w vU vV #[.int .i64 17, .int .i64 pl, .string name, .int .u64 num, .string op, .slice (some ⟨b, off, none⟩) xs.length cap] (termKidR (semR n) (⟨17, pl, name, num, op⟩ : Nd) gen) xs (some s) m k wr vU1 vV1 st1 m1) := hr
      have d0 : wr.cell? ⟨w.heap.size, 0, none⟩ = some (.int .i64 17) := hr.fr.box 0 _ rfl
      have d5 : wr.cell? ⟨w.heap.size, 5, none⟩ = some (.slice (some ⟨b, off, none⟩) xs.length cap) := hr.fr.box 5 _ rfl
      clear hr
      rcases Nat.lt_or_ge k xs.length with c | c
      · obtain ⟨y, hy, hd⟩ := kid_get c
        obtain ⟨y0, y1, y2, y3, y4, y5⟩ := HL.out k y hy B wr HBE.out HR.out.fr.bel
        have HY : Hid (xs.drop k = y :: xs.drop (k + 1) ∧ okT n W0 y) := ⟨hd, HS.out.2 y (List.mem_of_getElem? hy)⟩
        clear hy hd
        obtain ⟨wk, hwk⟩ : ∃ wk, wk = wr.alloc (.cells #[.int .i64 (ndT n y).kind, .int .i64 (ndT n y).pl, .string (ndT n y).name, .int .u64 (ndT n y).num, .string (ndT n y).op, .slice (atT n y) (nkT n y) (capT n y)] 25) := ⟨_, rfl⟩
        have hbl : Below wr.heap.size wr wk := by rw [hwk]; exact (Below.refl _ _).alloc (Nat.le_refl _) _
        have FC : Hid (Fr B pb W0 w vU vV w.heap.size #[.int .i64 17, .int .i64 pl, .string name, .int .u64 num, .string op, .slice (some ⟨b, off, none⟩) xs.length cap] wk vU1 vV1 st1 m1) := HR.out.fr.new hbl
        have e0 : wk.cell? ⟨w.heap.size, 0, none⟩ = some (.int .i64 17) := FC.out.box 0 _ rfl
        have x0 : wk.cell? ⟨wr.heap.size, 0, none⟩ = some (.int .i64 (ndT n y).kind) := by rw [hwk]; exact box_new wr _ _ 0 _ rfl
        have x1 : wk.cell? ⟨wr.heap.size, 1, none⟩ = some (.int .i64 (ndT n y).pl) := by rw [hwk]; exact box_new wr _ _ 1 _ rfl
        have x2 : wk.cell? ⟨wr.heap.size, 2, none⟩ = some (.string (ndT n y).name) := by rw [hwk]; exact box_new wr _ _ 2 _ rfl
        have x3 : wk.cell? ⟨wr.heap.size, 3, none⟩ = some (.int .u64 (ndT n y).num) := by rw [hwk]; exact box_new wr _ _ 3 _ rfl
        have x4 : wk.cell? ⟨wr.heap.size, 4, none⟩ = some (.string (ndT n y).op) := by rw [hwk]; exact box_new wr _ _ 4 _ rfl
        have x5 : wk.cell? ⟨wr.heap.size, 5, none⟩ = some (.slice (atT n y) (nkT n y) (capT n y)) := by rw [hwk]; exact box_new wr _ _ 5 _ rfl
        have hc := HH.out.term y gen HY.out.2 wk vU1 vV1 st1 m1 FC.out.bel FC.out.pl (by have h1 := HR.out.bud; have := HM.out; rw [HY.out.1, szL_cons] at h1; omega)
        have HG : Hid (semR n 0 y gen st1 = termKidR (semR n) (⟨17, pl, name, num, op⟩ : Nd) gen y st1) := by show _ = (if _ then _ else _); rw [if_neg (by simp), if_neg (by simp)]
        clear hbl
        go_upto_region 20 with fail
        rw [← hwk]
        clear hwk
        go_wp2_with fail
        refine hc.mono ?_
        rintro e w4 ⟨rfl, vU4, vV4, p4, s4, q4⟩
        have HX : Hid (TmAt B pb W0 w vU vV #[.int .i64 17, .int .i64 pl, .string name, .int .u64 num, .string op, .slice (some ⟨b, off, none⟩) xs.length cap] (termKidR (semR n) (⟨17, pl, name, num, op⟩ : Nd) gen) xs (some s) m (k + 1) w4 vU4 vV4 (termKidR (semR n) (⟨17, pl, name, num, op⟩ : Nd) gen y st1) (m1 + szT n y)) :=
          HR.out.next HY.out.1 c (by rw [← HG.out]; exact FC.out.call p4 s4 q4) (Nat.le_refl _)
        clear p4 s4 q4 hc
        go_wp2_with fail
        refine ⟨⟨k + 1, _, _, _, _, HX.out, by go_num⟩, ?_⟩
        simp [intOf]
        omega
      · have HE : Hid (foldR (termKidR (semR n) (⟨17, pl, name, num, op⟩ : Nd) gen) xs (some s) = st1) := by
          show _ = _
          rw [HR.out.val, List.drop_of_length_le c]
          rfl
        go_wp2_with fail
        go_end0
        rw [HE.out]
        exact ⟨rfl, HR.out.fr.done rfl (by have := HR.out.bud; omega)⟩

set_option maxRecDepth 100000 in
set_option maxHeartbeats 2000000 in
theorem term_step11 {B pb : Nat} {W0 : World} {n : Nat} (H : KidsRC B pb W0 n) (hB : B = W0.heap.size) (pl num : Int) (name op : ByteArray) (ad : Option Addr) (cap : Nat) (xs : List (Tr n)) (gen : Bool) (hsl : Sli.ok (encT n) 6 W0 ⟨ad, cap, xs⟩) (hk : ∀ y ∈ xs, okT n W0 y) (hcond : (shapeR (⟨17, pl, name, num, op⟩ : Nd)).2.2 = true ∧ ¬ (xs.length : Int) < (shapeR (⟨17, pl, name, num, op⟩ : Nd)).1 ∧ ¬ (0 ≤ (shapeR (⟨17, pl, name, num, op⟩ : Nd)).2.1 ∧ (shapeR (⟨17, pl, name, num, op⟩ : Nd)).2.1 < (xs.length : Int))) (k0 : Tr n) (hk0 : xs[0]? = some k0) (kk : Int) (hkk : kk = (ndT n k0).kind) (hk3 : kk = 13) (hn1 : isS name preS = false) (hn2 : isS name postS = true)
    (w : World) (vU vV : Value) (s : St) (m : Nat) (hb : Below B W0 w) (hp : PlAt B pb w (some s) m vU vV) (hm : m + (1 + szL xs) ≤ 1000000) (hl : xs.length ≤ 2 ^ 63 - 1) :
    Calls Try.prog 34 #[.pointer (some ⟨pb, 0, none⟩), .agg #[.int .i64 17, .int .i64 pl, .string name, .int .u64 num, .string op, .slice ad xs.length cap], .bool gen] w fun e w' => e = .returned (.tuple #[]) ∧ ∃ vU' vV', PlAt B pb w' (foldR (termKidR (semR n) ⟨17, pl, name, num, op⟩ gen) xs (some s)) (m + (1 + szL xs)) vU' vV' ∧ Stp pb w vU vV w' vU' vV' ∧ Below B W0 w' := by
  have HH : Hid (KidsRC B pb W0 n) := H
  have HBE : Hid (B = W0.heap.size) := hB
  have HS : Hid (Sli.ok (encT n) 6 W0 ⟨ad, cap, xs⟩ ∧ ∀ y ∈ xs, okT n W0 y) := ⟨hsl, hk⟩
  have HM : Hid (m + (1 + szL xs) ≤ 1000000) := hm
  have HB : Hid (Below B W0 w ∧ PlAt B pb w (some s) m vU vV) := ⟨hb, hp⟩
  clear hb hp H hB hm hsl hk
  obtain ⟨wb, hwb⟩ : ∃ wb, wb = w.alloc (.cells #[.int .i64 17, .int .i64 pl, .string name, .int .u64 num, .string op, .slice ad xs.length cap] 25) := ⟨_, rfl⟩
  have FR : Hid (Fr B pb W0 w vU vV w.heap.size #[.int .i64 17, .int .i64 pl, .string name, .int .u64 num, .string op, .slice ad xs.length cap] wb vU vV (some s) m) := by rw [hwb]; exact Fr.start HB.out.1 HB.out.2 _ _
  have b0 : wb.cell? ⟨w.heap.size, 0, none⟩ = some (.int .i64 17) := FR.out.box 0 _ rfl
  have b1 : wb.cell? ⟨w.heap.size, 1, none⟩ = some (.int .i64 pl) := FR.out.box 1 _ rfl
  have b2 : wb.cell? ⟨w.heap.size, 2, none⟩ = some (.string name) := FR.out.box 2 _ rfl
  have b3 : wb.cell? ⟨w.heap.size, 3, none⟩ = some (.int .u64 num) := FR.out.box 3 _ rfl
  have b4 : wb.cell? ⟨w.heap.size, 4, none⟩ = some (.string op) := FR.out.box 4 _ rfl
  have b5 : wb.cell? ⟨w.heap.size, 5, none⟩ = some (.slice ad xs.length cap) := FR.out.box 5 _ rfl
  obtain ⟨c2, f2⟩ := FR.out.pl.bad
  simp only [Option.isNone_some] at c2
  obtain ⟨b, off, e1, hlie⟩ := kids_lie HS.out.1 (by intro e; simp only at e; rw [e] at hk0; simp at hk0)
  simp only at e1 hlie
  subst e1
  have HL : Hid (∀ (k : Nat) (y : Tr n), xs[k]? = some y → ∀ (B : Nat) (w : World), B = W0.heap.size → Below B W0 w → Six w b (off + k * 6) (ndT n y) (.slice (atT n y) (nkT n y) (capT n y))) := hlie
  have HK0 : Hid (xs[0]? = some k0 ∧ kk = (ndT n k0).kind) := ⟨hk0, hkk⟩
  have hlen0 : 0 < xs.length := by
    rcases Nat.eq_zero_or_pos xs.length with q | q
    · rw [List.length_eq_zero_iff] at q; rw [q] at hk0; simp at hk0
    · exact q
  clear hlie hk0 hkk
  have pbn : ¬ pb = w.heap.size := fun e => FR.out.sep (Or.inl e.symm)
  subst hk3
  unfold isS preS at hn1
  unfold isS postS at hn2
  have hsh := shape_any (⟨17, pl, name, num, op⟩ : Nd) (some ⟨b, off, none⟩) xs.length cap wb
  simp only at hsh
  obtain ⟨lo, hlo⟩ : ∃ lo, lo = (shapeR (⟨17, pl, name, num, op⟩ : Nd)).1 := ⟨_, rfl⟩
  obtain ⟨hi, hhi⟩ : ∃ hi, hi = (shapeR (⟨17, pl, name, num, op⟩ : Nd)).2.1 := ⟨_, rfl⟩
  obtain ⟨okk, hokk⟩ : ∃ okk, okk = (shapeR (⟨17, pl, name, num, op⟩ : Nd)).2.2 := ⟨_, rfl⟩
  unfold ShPost at hsh
  rw [← hlo, ← hhi, ← hokk] at hsh
  rw [← hlo, ← hhi, ← hokk] at hcond
  clear hlo hhi hokk
  obtain ⟨hok1, hok2, hok3⟩ := hcond
  subst hok1
  go_enter Try.func34, Try.ntmps34
  go_upto_region 1 with fail
  rw [← hwb]
  clear hwb
  go_wp2_with fail
  refine hsh.mono ?_
  rintro e w2 ⟨sb, zs, rfl, hstr, hany, hzl, hbel⟩
  have FR2 : Hid (Fr B pb W0 w vU vV w.heap.size #[.int .i64 17, .int .i64 pl, .string name, .int .u64 num, .string op, .slice (some ⟨b, off, none⟩) xs.length cap] w2 vU vV (some s) m) := FR.out.new hbel
  have b0' : w2.cell? ⟨w.heap.size, 0, none⟩ = some (.int .i64 17) := FR2.out.box 0 _ rfl
  have b1' : w2.cell? ⟨w.heap.size, 1, none⟩ = some (.int .i64 pl) := FR2.out.box 1 _ rfl
  have b2' : w2.cell? ⟨w.heap.size, 2, none⟩ = some (.string name) := FR2.out.box 2 _ rfl
  have b3' : w2.cell? ⟨w.heap.size, 3, none⟩ = some (.int .u64 num) := FR2.out.box 3 _ rfl
  have b4' : w2.cell? ⟨w.heap.size, 4, none⟩ = some (.string op) := FR2.out.box 4 _ rfl
  have b5' : w2.cell? ⟨w.heap.size, 5, none⟩ = some (.slice (some ⟨b, off, none⟩) xs.length cap) := FR2.out.box 5 _ rfl
  obtain ⟨g2, h2⟩ := FR2.out.pl.bad
  simp only [Option.isNone_some] at g2
  have ham := among_any op (some ⟨sb, 0, none⟩) zs.length zs w2 hstr hzl
  rw [hany] at ham
  clear hsh hstr hany hbel b0 b1 b2 b3 b4 b5 c2 f2
  go_wp2_with fail
  refine ham.mono ?_
  rintro e w3 ⟨rfl, rfl⟩
  clear ham
  go_upto_region 8 with fail
  go_cut [58] from 39 to 58 (fun c wx => c = .bool false ∧ wx = w3)
  case first =>
    have hok4 : decide ((xs.length : Int) < lo) = false := by simpa using hok2
    by_cases q : 0 ≤ hi
    · have q2 : ¬ hi < (xs.length : Int) := fun z => hok3 ⟨q, z⟩
      go_wp2_with fail
      go_meet
      exact ⟨rfl, rfl⟩
    · have q3 : decide (0 ≤ hi) = false := by simpa using q
      go_wp2_with fail
      go_meet
      exact ⟨rfl, rfl⟩
  case rest =>
    obtain ⟨rfl, rfl⟩ := hcut
    clear hok2 hok3
    have z0 : wc.cell? ⟨b, off, none⟩ = some (.int .i64 (13)) := by
      have := (HL.out 0 k0 HK0.out.1 B wc HBE.out FR2.out.bel).1
      rw [← HK0.out.2] at this
      simpa using this
    have HI : Hid (TmAt B pb W0 w vU vV #[.int .i64 17, .int .i64 pl, .string name, .int .u64 num, .string op, .slice (some ⟨b, off, none⟩) xs.length cap] (termKidR (semR n) (⟨17, pl, name, num, op⟩ : Nd) gen) xs (some s) m 0 wc vU vV (some s) (m)) := ⟨Nat.zero_le _, rfl, FR2.out, by simp only [List.drop_zero]; omega⟩
    go_wp2_with fail
    go_loopw [10] (fun i wr => ∃ (k : Nat) (vU' vV' : Value) (st' : RS) (m' : Nat), TmAt B pb W0 w vU vV #[.int .i64 17, .int .i64 pl, .string name, .int .u64 num, .string op, .slice (some ⟨b, off, none⟩) xs.length cap] (termKidR (semR n) (⟨17, pl, name, num, op⟩ : Nd) gen) xs (some s) m k wr vU' vV' st' m' ∧ i = .int .i64 k) (fun i wr => xs.length - (intOf i).toNat)
    case atStart => exact ⟨0, _, _, _, _, HI.out, rfl⟩
    case round =>
      obtain ⟨k, vU1, vV1, st1, m1, hr, rfl⟩ := hrel
      have ple := hr.le
      have HR : Hid (TmAt B pb W0 w vU vV #[.int .i64 17, .int .i64 pl, .string name, .int .u64 num, .string op, .slice (some ⟨b, off, none⟩) xs.length cap] (termKidR (semR n) (⟨17, pl, name, num, op⟩ : Nd) gen) xs (some s) m k wr vU1 vV1 st1 m1) := hr
      have d0 : wr.cell? ⟨w.heap.size, 0, none⟩ = some (.int .i64 17) := hr.fr.box 0 _ rfl
      have d5 : wr.cell? ⟨w.heap.size, 5, none⟩ = some (.slice (some ⟨b, off, none⟩) xs.length cap) := hr.fr.box 5 _ rfl
      clear hr
      rcases Nat.lt_or_ge k xs.length with c | c
      · obtain ⟨y, hy, hd⟩ := kid_get c
        obtain ⟨y0, y1, y2, y3, y4, y5⟩ := HL.out k y hy B wr HBE.out HR.out.fr.bel
        have HY : Hid (xs.drop k = y :: xs.drop (k + 1) ∧ okT n W0 y) := ⟨hd, HS.out.2 y (List.mem_of_getElem? hy)⟩
        clear hy hd
        obtain ⟨wk, hwk⟩ : ∃ wk, wk = wr.alloc (.cells #[.int .i64 (ndT n y).kind, .int .i64 (ndT n y).pl, .string (ndT n y).name, .int .u64 (ndT n y).num, .string (ndT n y).op, .slice (atT n y) (nkT n y) (capT n y)] 25) := ⟨_, rfl⟩
        have hbl : Below wr.heap.size wr wk := by rw [hwk]; exact (Below.refl _ _).alloc (Nat.le_refl _) _
        have FC : Hid (Fr B pb W0 w vU vV w.heap.size #[.int .i64 17, .int .i64 pl, .string name, .int .u64 num, .string op, .slice (some ⟨b, off, none⟩) xs.length cap] wk vU1 vV1 st1 m1) := HR.out.fr.new hbl
        have e0 : wk.cell? ⟨w.heap.size, 0, none⟩ = some (.int .i64 17) := FC.out.box 0 _ rfl
        have x0 : wk.cell? ⟨wr.heap.size, 0, none⟩ = some (.int .i64 (ndT n y).kind) := by rw [hwk]; exact box_new wr _ _ 0 _ rfl
        have x1 : wk.cell? ⟨wr.heap.size, 1, none⟩ = some (.int .i64 (ndT n y).pl) := by rw [hwk]; exact box_new wr _ _ 1 _ rfl
        have x2 : wk.cell? ⟨wr.heap.size, 2, none⟩ = some (.string (ndT n y).name) := by rw [hwk]; exact box_new wr _ _ 2 _ rfl
        have x3 : wk.cell? ⟨wr.heap.size, 3, none⟩ = some (.int .u64 (ndT n y).num) := by rw [hwk]; exact box_new wr _ _ 3 _ rfl
        have x4 : wk.cell? ⟨wr.heap.size, 4, none⟩ = some (.string (ndT n y).op) := by rw [hwk]; exact box_new wr _ _ 4 _ rfl
        have x5 : wk.cell? ⟨wr.heap.size, 5, none⟩ = some (.slice (atT n y) (nkT n y) (capT n y)) := by rw [hwk]; exact box_new wr _ _ 5 _ rfl
        have hc := HH.out.term y gen HY.out.2 wk vU1 vV1 st1 m1 FC.out.bel FC.out.pl (by have h1 := HR.out.bud; have := HM.out; rw [HY.out.1, szL_cons] at h1; omega)
        have HG : Hid (semR n 0 y gen st1 = termKidR (semR n) (⟨17, pl, name, num, op⟩ : Nd) gen y st1) := by show _ = (if _ then _ else _); rw [if_neg (by simp), if_neg (by simp)]
        clear hbl
        go_upto_region 20 with fail
        rw [← hwk]
        clear hwk
        go_wp2_with fail
        refine hc.mono ?_
        rintro e w4 ⟨rfl, vU4, vV4, p4, s4, q4⟩
        have HX : Hid (TmAt B pb W0 w vU vV #[.int .i64 17, .int .i64 pl, .string name, .int .u64 num, .string op, .slice (some ⟨b, off, none⟩) xs.length cap] (termKidR (semR n) (⟨17, pl, name, num, op⟩ : Nd) gen) xs (some s) m (k + 1) w4 vU4 vV4 (termKidR (semR n) (⟨17, pl, name, num, op⟩ : Nd) gen y st1) (m1 + szT n y)) :=
          HR.out.next HY.out.1 c (by rw [← HG.out]; exact FC.out.call p4 s4 q4) (Nat.le_refl _)
        clear p4 s4 q4 hc
        go_wp2_with fail
        refine ⟨⟨k + 1, _, _, _, _, HX.out, by go_num⟩, ?_⟩
        simp [intOf]
        omega
      · have HE : Hid (foldR (termKidR (semR n) (⟨17, pl, name, num, op⟩ : Nd) gen) xs (some s) = st1) := by
          show _ = _
          rw [HR.out.val, List.drop_of_length_le c]
          rfl
        go_wp2_with fail
        go_end0
        rw [HE.out]
        exact ⟨rfl, HR.out.fr.done rfl (by have := HR.out.bud; omega)⟩

set_option maxRecDepth 100000 in
set_option maxHeartbeats 2000000 in
theorem term_step12 {B pb : Nat} {W0 : World} {n : Nat} (H : KidsRC B pb W0 n) (hB : B = W0.heap.size) (pl num : Int) (name op : ByteArray) (ad : Option Addr) (cap : Nat) (xs : List (Tr n)) (gen : Bool) (hsl : Sli.ok (encT n) 6 W0 ⟨ad, cap, xs⟩) (hk : ∀ y ∈ xs, okT n W0 y) (hcond : (shapeR (⟨17, pl, name, num, op⟩ : Nd)).2.2 = true ∧ ¬ (xs.length : Int) < (shapeR (⟨17, pl, name, num, op⟩ : Nd)).1 ∧ ¬ (0 ≤ (shapeR (⟨17, pl, name, num, op⟩ : Nd)).2.1 ∧ (shapeR (⟨17, pl, name, num, op⟩ : Nd)).2.1 < (xs.length : Int))) (k0 : Tr n) (hk0 : xs[0]? = some k0) (kk : Int) (hkk : kk = (ndT n k0).kind) (hk3 : kk = 13) (hn1 : isS name preS = false) (hn2 : isS name postS = false)
    (w : World) (vU vV : Value) (s : St) (m : Nat) (hb : Below B W0 w) (hp : PlAt B pb w (some s) m vU vV) (hm : m + (1 + szL xs) ≤ 1000000) (hl : xs.length ≤ 2 ^ 63 - 1) :
    Calls Try.prog 34 #[.pointer (some ⟨pb, 0, none⟩), .agg #[.int .i64 17, .int .i64 pl, .string name, .int .u64 num, .string op, .slice ad xs.length cap], .bool gen] w fun e w' => e = .returned (.tuple #[]) ∧ ∃ vU' vV', PlAt B pb w' (foldR (termKidR (semR n) ⟨17, pl, name, num, op⟩ gen) xs (none)) (m + (1 + szL xs)) vU' vV' ∧ Stp pb w vU vV w' vU' vV' ∧ Below B W0 w' := by
  have HH : Hid (KidsRC B pb W0 n) := H
  have HBE : Hid (B = W0.heap.size) := hB
  have HS : Hid (Sli.ok (encT n) 6 W0 ⟨ad, cap, xs⟩ ∧ ∀ y ∈ xs, okT n W0 y) := ⟨hsl, hk⟩
  have HM : Hid (m + (1 + szL xs) ≤ 1000000) := hm
  have HB : Hid (Below B W0 w ∧ PlAt B pb w (some s) m vU vV) := ⟨hb, hp⟩
  clear hb hp H hB hm hsl hk
  obtain ⟨wb, hwb⟩ : ∃ wb, wb = w.alloc (.cells #[.int .i64 17, .int .i64 pl, .string name, .int .u64 num, .string op, .slice ad xs.length cap] 25) := ⟨_, rfl⟩
  have FR : Hid (Fr B pb W0 w vU vV w.heap.size #[.int .i64 17, .int .i64 pl, .string name, .int .u64 num, .string op, .slice ad xs.length cap] wb vU vV (some s) m) := by rw [hwb]; exact Fr.start HB.out.1 HB.out.2 _ _
  have b0 : wb.cell? ⟨w.heap.size, 0, none⟩ = some (.int .i64 17) := FR.out.box 0 _ rfl
  have b1 : wb.cell? ⟨w.heap.size, 1, none⟩ = some (.int .i64 pl) := FR.out.box 1 _ rfl
  have b2 : wb.cell? ⟨w.heap.size, 2, none⟩ = some (.string name) := FR.out.box 2 _ rfl
  have b3 : wb.cell? ⟨w.heap.size, 3, none⟩ = some (.int .u64 num) := FR.out.box 3 _ rfl
  have b4 : wb.cell? ⟨w.heap.size, 4, none⟩ = some (.string op) := FR.out.box 4 _ rfl
  have b5 : wb.cell? ⟨w.heap.size, 5, none⟩ = some (.slice ad xs.length cap) := FR.out.box 5 _ rfl
  obtain ⟨c2, f2⟩ := FR.out.pl.bad
  simp only [Option.isNone_some] at c2
  obtain ⟨b, off, e1, hlie⟩ := kids_lie HS.out.1 (by intro e; simp only at e; rw [e] at hk0; simp at hk0)
  simp only at e1 hlie
  subst e1
  have HL : Hid (∀ (k : Nat) (y : Tr n), xs[k]? = some y → ∀ (B : Nat) (w : World), B = W0.heap.size → Below B W0 w → Six w b (off + k * 6) (ndT n y) (.slice (atT n y) (nkT n y) (capT n y))) := hlie
  have HK0 : Hid (xs[0]? = some k0 ∧ kk = (ndT n k0).kind) := ⟨hk0, hkk⟩
  have hlen0 : 0 < xs.length := by
    rcases Nat.eq_zero_or_pos xs.length with q | q
    · rw [List.length_eq_zero_iff] at q; rw [q] at hk0; simp at hk0
    · exact q
  clear hlie hk0 hkk
  have pbn : ¬ pb = w.heap.size := fun e => FR.out.sep (Or.inl e.symm)
  subst hk3
  unfold isS preS at hn1
  unfold isS postS at hn2
  have hsh := shape_any (⟨17, pl, name, num, op⟩ : Nd) (some ⟨b, off, none⟩) xs.length cap wb
  simp only at hsh
  obtain ⟨lo, hlo⟩ : ∃ lo, lo = (shapeR (⟨17, pl, name, num, op⟩ : Nd)).1 := ⟨_, rfl⟩
  obtain ⟨hi, hhi⟩ : ∃ hi, hi = (shapeR (⟨17, pl, name, num, op⟩ : Nd)).2.1 := ⟨_, rfl⟩
  obtain ⟨okk, hokk⟩ : ∃ okk, okk = (shapeR (⟨17, pl, name, num, op⟩ : Nd)).2.2 := ⟨_, rfl⟩
  unfold ShPost at hsh
  rw [← hlo, ← hhi, ← hokk] at hsh
  rw [← hlo, ← hhi, ← hokk] at hcond
  clear hlo hhi hokk
  obtain ⟨hok1, hok2, hok3⟩ := hcond
  subst hok1
  go_enter Try.func34, Try.ntmps34
  go_upto_region 1 with fail
  rw [← hwb]
  clear hwb
  go_wp2_with fail
  refine hsh.mono ?_
  rintro e w2 ⟨sb, zs, rfl, hstr, hany, hzl, hbel⟩
  have FR2 : Hid (Fr B pb W0 w vU vV w.heap.size #[.int .i64 17, .int .i64 pl, .string name, .int .u64 num, .string op, .slice (some ⟨b, off, none⟩) xs.length cap] w2 vU vV (some s) m) := FR.out.new hbel
  have b0' : w2.cell? ⟨w.heap.size, 0, none⟩ = some (.int .i64 17) := FR2.out.box 0 _ rfl
  have b1' : w2.cell? ⟨w.heap.size, 1, none⟩ = some (.int .i64 pl) := FR2.out.box 1 _ rfl
  have b2' : w2.cell? ⟨w.heap.size, 2, none⟩ = some (.string name) := FR2.out.box 2 _ rfl
  have b3' : w2.cell? ⟨w.heap.size, 3, none⟩ = some (.int .u64 num) := FR2.out.box 3 _ rfl
  have b4' : w2.cell? ⟨w.heap.size, 4, none⟩ = some (.string op) := FR2.out.box 4 _ rfl
  have b5' : w2.cell? ⟨w.heap.size, 5, none⟩ = some (.slice (some ⟨b, off, none⟩) xs.length cap) := FR2.out.box 5 _ rfl
  obtain ⟨g2, h2⟩ := FR2.out.pl.bad
  simp only [Option.isNone_some] at g2
  have ham := among_any op (some ⟨sb, 0, none⟩) zs.length zs w2 hstr hzl
  rw [hany] at ham
  clear hsh hstr hany hbel b0 b1 b2 b3 b4 b5 c2 f2
  go_wp2_with fail
  refine ham.mono ?_
  rintro e w3 ⟨rfl, rfl⟩
  clear ham
  go_upto_region 8 with fail
  go_cut [58] from 39 to 58 (fun c wx => c = .bool false ∧ wx = w3)
  case first =>
    have hok4 : decide ((xs.length : Int) < lo) = false := by simpa using hok2
    by_cases q : 0 ≤ hi
    · have q2 : ¬ hi < (xs.length : Int) := fun z => hok3 ⟨q, z⟩
      go_wp2_with fail
      go_meet
      exact ⟨rfl, rfl⟩
    · have q3 : decide (0 ≤ hi) = false := by simpa using q
      go_wp2_with fail
      go_meet
      exact ⟨rfl, rfl⟩
  case rest =>
    obtain ⟨rfl, rfl⟩ := hcut
    clear hok2 hok3
    have z0 : wc.cell? ⟨b, off, none⟩ = some (.int .i64 (13)) := by
      have := (HL.out 0 k0 HK0.out.1 B wc HBE.out FR2.out.bel).1
      rw [← HK0.out.2] at this
      simpa using this
    have HI : Hid (TmAt B pb W0 w vU vV #[.int .i64 17, .int .i64 pl, .string name, .int .u64 num, .string op, .slice (some ⟨b, off, none⟩) xs.length cap] (termKidR (semR n) (⟨17, pl, name, num, op⟩ : Nd) gen) xs (none) m 0 (wc.setCell ⟨pb, 2, none⟩ (.bool true)) vU vV (none) (m)) := ⟨Nat.zero_le _, rfl, FR2.out.spoil, by simp only [List.drop_zero]; omega⟩
    go_wp2_with fail
    go_loopw [10] (fun i wr => ∃ (k : Nat) (vU' vV' : Value) (st' : RS) (m' : Nat), TmAt B pb W0 w vU vV #[.int .i64 17, .int .i64 pl, .string name, .int .u64 num, .string op, .slice (some ⟨b, off, none⟩) xs.length cap] (termKidR (semR n) (⟨17, pl, name, num, op⟩ : Nd) gen) xs (none) m k wr vU' vV' st' m' ∧ i = .int .i64 k) (fun i wr => xs.length - (intOf i).toNat)
    case atStart => exact ⟨0, _, _, _, _, HI.out, rfl⟩
    case round =>
      obtain ⟨k, vU1, vV1, st1, m1, hr, rfl⟩ := hrel
      have ple := hr.le
      have HR : Hid (TmAt B pb W0 w vU vV #[.int .i64 17, .int .i64 pl, .string name, .int .u64 num, .string op, .slice (some ⟨b, off, none⟩) xs.length cap] (termKidR (semR n) (⟨17, pl, name, num, op⟩ : Nd) gen) xs (none) m k wr vU1 vV1 st1 m1) := hr
      have d0 : wr.cell? ⟨w.heap.size, 0, none⟩ = some (.int .i64 17) := hr.fr.box 0 _ rfl
      have d5 : wr.cell? ⟨w.heap.size, 5, none⟩ = some (.slice (some ⟨b, off, none⟩) xs.length cap) := hr.fr.box 5 _ rfl
      clear hr
      rcases Nat.lt_or_ge k xs.length with c | c
      · obtain ⟨y, hy, hd⟩ := kid_get c
        obtain ⟨y0, y1, y2, y3, y4, y5⟩ := HL.out k y hy B wr HBE.out HR.out.fr.bel
        have HY : Hid (xs.drop k = y :: xs.drop (k + 1) ∧ okT n W0 y) := ⟨hd, HS.out.2 y (List.mem_of_getElem? hy)⟩
        clear hy hd
        obtain ⟨wk, hwk⟩ : ∃ wk, wk = wr.alloc (.cells #[.int .i64 (ndT n y).kind, .int .i64 (ndT n y).pl, .string (ndT n y).name, .int .u64 (ndT n y).num, .string (ndT n y).op, .slice (atT n y) (nkT n y) (capT n y)] 25) := ⟨_, rfl⟩
        have hbl : Below wr.heap.size wr wk := by rw [hwk]; exact (Below.refl _ _).alloc (Nat.le_refl _) _
        have FC : Hid (Fr B pb W0 w vU vV w.heap.size #[.int .i64 17, .int .i64 pl, .string name, .int .u64 num, .string op, .slice (some ⟨b, off, none⟩) xs.length cap] wk vU1 vV1 st1 m1) := HR.out.fr.new hbl
        have e0 : wk.cell? ⟨w.heap.size, 0, none⟩ = some (.int .i64 17) := FC.out.box 0 _ rfl
        have x0 : wk.cell? ⟨wr.heap.size, 0, none⟩ = some (.int .i64 (ndT n y).kind) := by rw [hwk]; exact box_new wr _ _ 0 _ rfl
        have x1 : wk.cell? ⟨wr.heap.size, 1, none⟩ = some (.int .i64 (ndT n y).pl) := by rw [hwk]; exact box_new wr _ _ 1 _ rfl
        have x2 : wk.cell? ⟨wr.heap.size, 2, none⟩ = some (.string (ndT n y).name) := by rw [hwk]; exact box_new wr _ _ 2 _ rfl
        have x3 : wk.cell? ⟨wr.heap.size, 3, none⟩ = some (.int .u64 (ndT n y).num) := by rw [hwk]; exact box_new wr _ _ 3 _ rfl
        have x4 : wk.cell? ⟨wr.heap.size, 4, none⟩ = some (.string (ndT n y).op) := by rw [hwk]; exact box_new wr _ _ 4 _ rfl
        have x5 : wk.cell? ⟨wr.heap.size, 5, none⟩ = some (.slice (atT n y) (nkT n y) (capT n y)) := by rw [hwk]; exact box_new wr _ _ 5 _ rfl
        have hc := HH.out.term y gen HY.out.2 wk vU1 vV1 st1 m1 FC.out.bel FC.out.pl (by have h1 := HR.out.bud; have := HM.out; rw [HY.out.1, szL_cons] at h1; omega)
        have HG : Hid (semR n 0 y gen st1 = termKidR (semR n) (⟨17, pl, name, num, op⟩ : Nd) gen y st1) := by show _ = (if _ then _ else _); rw [if_neg (by simp), if_neg (by simp)]
        clear hbl
        go_upto_region 20 with fail
        rw [← hwk]
        clear hwk
        go_wp2_with fail
        refine hc.mono ?_
        rintro e w4 ⟨rfl, vU4, vV4, p4, s4, q4⟩
        have HX : Hid (TmAt B pb W0 w vU vV #[.int .i64 17, .int .i64 pl, .string name, .int .u64 num, .string op, .slice (some ⟨b, off, none⟩) xs.length cap] (termKidR (semR n) (⟨17, pl, name, num, op⟩ : Nd) gen) xs (none) m (k + 1) w4 vU4 vV4 (termKidR (semR n) (⟨17, pl, name, num, op⟩ : Nd) gen y st1) (m1 + szT n y)) :=
          HR.out.next HY.out.1 c (by rw [← HG.out]; exact FC.out.call p4 s4 q4) (Nat.le_refl _)
        clear p4 s4 q4 hc
        go_wp2_with fail
        refine ⟨⟨k + 1, _, _, _, _, HX.out, by go_num⟩, ?_⟩
        simp [intOf]
        omega
      · have HE : Hid (foldR (termKidR (semR n) (⟨17, pl, name, num, op⟩ : Nd) gen) xs (none) = st1) := by
          show _ = _
          rw [HR.out.val, List.drop_of_length_le c]
          rfl
        go_wp2_with fail
        go_end0
        rw [HE.out]
        exact ⟨rfl, HR.out.fr.done rfl (by have := HR.out.bud; omega)⟩

set_option maxRecDepth 100000 in
set_option maxHeartbeats 2000000 in
theorem term_step20 {B pb : Nat} {W0 : World} {n : Nat} (H : KidsRC B pb W0 n) (hB : B = W0.heap.size) (pl num : Int) (name op : ByteArray) (ad : Option Addr) (cap : Nat) (xs : List (Tr n)) (gen : Bool) (hsl : Sli.ok (encT n) 6 W0 ⟨ad, cap, xs⟩) (hk : ∀ y ∈ xs, okT n W0 y) (hcond : (shapeR (⟨17, pl, name, num, op⟩ : Nd)).2.2 = true ∧ ¬ (xs.length : Int) < (shapeR (⟨17, pl, name, num, op⟩ : Nd)).1 ∧ ¬ (0 ≤ (shapeR (⟨17, pl, name, num, op⟩ : Nd)).2.1 ∧ (shapeR (⟨17, pl, name, num, op⟩ : Nd)).2.1 < (xs.length : Int))) (k0 : Tr n) (hk0 : xs[0]? = some k0) (kk : Int) (hkk : kk = (ndT n k0).kind) (hk3 : kk ≠ 3) (hk13 : kk ≠ 13) (hn1 : isS name preS = true)
    (w : World) (vU vV : Value) (s : St) (m : Nat) (hb : Below B W0 w) (hp : PlAt B pb w (some s) m vU vV) (hm : m + (1 + szL xs) ≤ 1000000) (hl : xs.length ≤ 2 ^ 63 - 1) :
    Calls Try.prog 34 #[.pointer (some ⟨pb, 0, none⟩), .agg #[.int .i64 17, .int .i64 pl, .string name, .int .u64 num, .string op, .slice ad xs.length cap], .bool gen] w fun e w' => e = .returned (.tuple #[]) ∧ ∃ vU' vV', PlAt B pb w' (foldR (termKidR (semR n) ⟨17, pl, name, num, op⟩ gen) xs (none)) (m + (1 + szL xs)) vU' vV' ∧ Stp pb w vU vV w' vU' vV' ∧ Below B W0 w' := by
  have HH : Hid (KidsRC B pb W0 n) := H
  have HBE : Hid (B = W0.heap.size) := hB
  have HS : Hid (Sli.ok (encT n) 6 W0 ⟨ad, cap, xs⟩ ∧ ∀ y ∈ xs, okT n W0 y) := ⟨hsl, hk⟩
  have HM : Hid (m + (1 + szL xs) ≤ 1000000) := hm
  have HB : Hid (Below B W0 w ∧ PlAt B pb w (some s) m vU vV) := ⟨hb, hp⟩
  clear hb hp H hB hm hsl hk
  obtain ⟨wb, hwb⟩ : ∃ wb, wb = w.alloc (.cells #[.int .i64 17, .int .i64 pl, .string name, .int .u64 num, .string op, .slice ad xs.length cap] 25) := ⟨_, rfl⟩
  have FR : Hid (Fr B pb W0 w vU vV w.heap.size #[.int .i64 17, .int .i64 pl, .string name, .int .u64 num, .string op, .slice ad xs.length cap] wb vU vV (some s) m) := by rw [hwb]; exact Fr.start HB.out.1 HB.out.2 _ _
  have b0 : wb.cell? ⟨w.heap.size, 0, none⟩ = some (.int .i64 17) := FR.out.box 0 _ rfl
  have b1 : wb.cell? ⟨w.heap.size, 1, none⟩ = some (.int .i64 pl) := FR.out.box 1 _ rfl
  have b2 : wb.cell? ⟨w.heap.size, 2, none⟩ = some (.string name) := FR.out.box 2 _ rfl
  have b3 : wb.cell? ⟨w.heap.size, 3, none⟩ = some (.int .u64 num) := FR.out.box 3 _ rfl
  have b4 : wb.cell? ⟨w.heap.size, 4, none⟩ = some (.string op) := FR.out.box 4 _ rfl
  have b5 : wb.cell? ⟨w.heap.size, 5, none⟩ = some (.slice ad xs.length cap) := FR.out.box 5 _ rfl
  obtain ⟨c2, f2⟩ := FR.out.pl.bad
  simp only [Option.isNone_some] at c2
  obtain ⟨b, off, e1, hlie⟩ := kids_lie HS.out.1 (by intro e; simp only at e; rw [e] at hk0; simp at hk0)
  simp only at e1 hlie
  subst e1
  have HL : Hid (∀ (k : Nat) (y : Tr n), xs[k]? = some y → ∀ (B : Nat) (w : World), B = W0.heap.size → Below B W0 w → Six w b (off + k * 6) (ndT n y) (.slice (atT n y) (nkT n y) (capT n y))) := hlie
  have HK0 : Hid (xs[0]? = some k0 ∧ kk = (ndT n k0).kind) := ⟨hk0, hkk⟩
  have hlen0 : 0 < xs.length := by
    rcases Nat.eq_zero_or_pos xs.length with q | q
    · rw [List.length_eq_zero_iff] at q; rw [q] at hk0; simp at hk0
    · exact q
  clear hlie hk0 hkk
  have pbn : ¬ pb = w.heap.size := fun e => FR.out.sep (Or.inl e.symm)
  have hk3' : (kk != 3) = true := by simpa using hk3
  have hk13' : (kk != 13) = true := by simpa using hk13
  clear hk3 hk13
  unfold isS preS at hn1
  have hsh := shape_any (⟨17, pl, name, num, op⟩ : Nd) (some ⟨b, off, none⟩) xs.length cap wb
  simp only at hsh
  obtain ⟨lo, hlo⟩ : ∃ lo, lo = (shapeR (⟨17, pl, name, num, op⟩ : Nd)).1 := ⟨_, rfl⟩
  obtain ⟨hi, hhi⟩ : ∃ hi, hi = (shapeR (⟨17, pl, name, num, op⟩ : Nd)).2.1 := ⟨_, rfl⟩
  obtain ⟨okk, hokk⟩ : ∃ okk, okk = (shapeR (⟨17, pl, name, num, op⟩ : Nd)).2.2 := ⟨_, rfl⟩
  unfold ShPost at hsh
  rw [← hlo, ← hhi, ← hokk] at hsh
  rw [← hlo, ← hhi, ← hokk] at hcond
  clear hlo hhi hokk
  obtain ⟨hok1, hok2, hok3⟩ := hcond
  subst hok1
  go_enter Try.func34, Try.ntmps34
  go_upto_region 1 with fail
  rw [← hwb]
  clear hwb
  go_wp2_with fail
  refine hsh.mono ?_
  rintro e w2 ⟨sb, zs, rfl, hstr, hany, hzl, hbel⟩
  have FR2 : Hid (Fr B pb W0 w vU vV w.heap.size #[.int .i64 17, .int .i64 pl, .string name, .int .u64 num, .string op, .slice (some ⟨b, off, none⟩) xs.length cap] w2 vU vV (some s) m) := FR.out.new hbel
  have b0' : w2.cell? ⟨w.heap.size, 0, none⟩ = some (.int .i64 17) := FR2.out.box 0 _ rfl
  have b1' : w2.cell? ⟨w.heap.size, 1, none⟩ = some (.int .i64 pl) := FR2.out.box 1 _ rfl
  have b2' : w2.cell? ⟨w.heap.size, 2, none⟩ = some (.string name) := FR2.out.box 2 _ rfl
  have b3' : w2.cell? ⟨w.heap.size, 3, none⟩ = some (.int .u64 num) := FR2.out.box 3 _ rfl
  have b4' : w2.cell? ⟨w.heap.size, 4, none⟩ = some (.string op) := FR2.out.box 4 _ rfl
  have b5' : w2.cell? ⟨w.heap.size, 5, none⟩ = some (.slice (some ⟨b, off, none⟩) xs.length cap) := FR2.out.box 5 _ rfl
  obtain ⟨g2, h2⟩ := FR2.out.pl.bad
  simp only [Option.isNone_some] at g2
  have ham := among_any op (some ⟨sb, 0, none⟩) zs.length zs w2 hstr hzl
  rw [hany] at ham
  clear hsh hstr hany hbel b0 b1 b2 b3 b4 b5 c2 f2
  go_wp2_with fail
  refine ham.mono ?_
  rintro e w3 ⟨rfl, rfl⟩
  clear ham
  go_upto_region 8 with fail
  go_cut [58] from 39 to 58 (fun c wx => c = .bool false ∧ wx = w3)
  case first =>
    have hok4 : decide ((xs.length : Int) < lo) = false := by simpa using hok2
    by_cases q : 0 ≤ hi
    · have q2 : ¬ hi < (xs.length : Int) := fun z => hok3 ⟨q, z⟩
      go_wp2_with fail
      go_meet
      exact ⟨rfl, rfl⟩
    · have q3 : decide (0 ≤ hi) = false := by simpa using q
      go_wp2_with fail
      go_meet
      exact ⟨rfl, rfl⟩
  case rest =>
    obtain ⟨rfl, rfl⟩ := hcut
    clear hok2 hok3
    have z0 : wc.cell? ⟨b, off, none⟩ = some (.int .i64 (kk)) := by
      have := (HL.out 0 k0 HK0.out.1 B wc HBE.out FR2.out.bel).1
      rw [← HK0.out.2] at this
      simpa using this
    have HI : Hid (TmAt B pb W0 w vU vV #[.int .i64 17, .int .i64 pl, .string name, .int .u64 num, .string op, .slice (some ⟨b, off, none⟩) xs.length cap] (termKidR (semR n) (⟨17, pl, name, num, op⟩ : Nd) gen) xs (none) m 0 (wc.setCell ⟨pb, 2, none⟩ (.bool true)) vU vV (none) (m)) := ⟨Nat.zero_le _, rfl, FR2.out.spoil, by simp only [List.drop_zero]; omega⟩
    go_wp2_with fail
    go_loopw [10] (fun i wr => ∃ (k : Nat) (vU' vV' : Value) (st' : RS) (m' : Nat), TmAt B pb W0 w vU vV #[.int .i64 17, .int .i64 pl, .string name, .int .u64 num, .string op, .slice (some ⟨b, off, none⟩) xs.length cap] (termKidR (semR n) (⟨17, pl, name, num, op⟩ : Nd) gen) xs (none) m k wr vU' vV' st' m' ∧ i = .int .i64 k) (fun i wr => xs.length - (intOf i).toNat)
    case atStart => exact ⟨0, _, _, _, _, HI.out, rfl⟩
    case round =>
      obtain ⟨k, vU1, vV1, st1, m1, hr, rfl⟩ := hrel
      have ple := hr.le
      have HR : Hid (TmAt B pb W0 w vU vV #[.int .i64 17, .int .i64 pl, .string name, .int .u64 num, .string op, .slice (some ⟨b, off, none⟩) xs.length cap] (termKidR (semR n) (⟨17, pl, name, num, op⟩ : Nd) gen) xs (none) m k wr vU1 vV1 st1 m1) := hr
      have d0 : wr.cell? ⟨w.heap.size, 0, none⟩ = some (.int .i64 17) := hr.fr.box 0 _ rfl
      have d5 : wr.cell? ⟨w.heap.size, 5, none⟩ = some (.slice (some ⟨b, off, none⟩) xs.length cap) := hr.fr.box 5 _ rfl
      clear hr
      rcases Nat.lt_or_ge k xs.length with c | c
      · obtain ⟨y, hy, hd⟩ := kid_get c
        obtain ⟨y0, y1, y2, y3, y4, y5⟩ := HL.out k y hy B wr HBE.out HR.out.fr.bel
        have HY : Hid (xs.drop k = y :: xs.drop (k + 1) ∧ okT n W0 y) := ⟨hd, HS.out.2 y (List.mem_of_getElem? hy)⟩
        clear hy hd
        obtain ⟨wk, hwk⟩ : ∃ wk, wk = wr.alloc (.cells #[.int .i64 (ndT n y).kind, .int .i64 (ndT n y).pl, .string (ndT n y).name, .int .u64 (ndT n y).num, .string (ndT n y).op, .slice (atT n y) (nkT n y) (capT n y)] 25) := ⟨_, rfl⟩
        have hbl : Below wr.heap.size wr wk := by rw [hwk]; exact (Below.refl _ _).alloc (Nat.le_refl _) _
        have FC : Hid (Fr B pb W0 w vU vV w.heap.size #[.int .i64 17, .int .i64 pl, .string name, .int .u64 num, .string op, .slice (some ⟨b, off, none⟩) xs.length cap] wk vU1 vV1 st1 m1) := HR.out.fr.new hbl
        have e0 : wk.cell? ⟨w.heap.size, 0, none⟩ = some (.int .i64 17) := FC.out.box 0 _ rfl
        have x0 : wk.cell? ⟨wr.heap.size, 0, none⟩ = some (.int .i64 (ndT n y).kind) := by rw [hwk]; exact box_new wr _ _ 0 _ rfl
        have x1 : wk.cell? ⟨wr.heap.size, 1, none⟩ = some (.int .i64 (ndT n y).pl) := by rw [hwk]; exact box_new wr _ _ 1 _ rfl
        have x2 : wk.cell? ⟨wr.heap.size, 2, none⟩ = some (.string (ndT n y).name) := by rw [hwk]; exact box_new wr _ _ 2 _ rfl
        have x3 : wk.cell? ⟨wr.heap.size, 3, none⟩ = some (.int .u64 (ndT n y).num) := by rw [hwk]; exact box_new wr _ _ 3 _ rfl
        have x4 : wk.cell? ⟨wr.heap.size, 4, none⟩ = some (.string (ndT n y).op) := by rw [hwk]; exact box_new wr _ _ 4 _ rfl
        have x5 : wk.cell? ⟨wr.heap.size, 5, none⟩ = some (.slice (atT n y) (nkT n y) (capT n y)) := by rw [hwk]; exact box_new wr _ _ 5 _ rfl
        have hc := HH.out.term y gen HY.out.2 wk vU1 vV1 st1 m1 FC.out.bel FC.out.pl (by have h1 := HR.out.bud; have := HM.out; rw [HY.out.1, szL_cons] at h1; omega)
        have HG : Hid (semR n 0 y gen st1 = termKidR (semR n) (⟨17, pl, name, num, op⟩ : Nd) gen y st1) := by show _ = (if _ then _ else _); rw [if_neg (by simp), if_neg (by simp)]
        clear hbl
        go_upto_region 20 with fail
        rw [← hwk]
        clear hwk
        go_wp2_with fail
        refine hc.mono ?_
        rintro e w4 ⟨rfl, vU4, vV4, p4, s4, q4⟩
        have HX : Hid (TmAt B pb W0 w vU vV #[.int .i64 17, .int .i64 pl, .string name, .int .u64 num, .string op, .slice (some ⟨b, off, none⟩) xs.length cap] (termKidR (semR n) (⟨17, pl, name, num, op⟩ : Nd) gen) xs (none) m (k + 1) w4 vU4 vV4 (termKidR (semR n) (⟨17, pl, name, num, op⟩ : Nd) gen y st1) (m1 + szT n y)) :=
          HR.out.next HY.out.1 c (by rw [← HG.out]; exact FC.out.call p4 s4 q4) (Nat.le_refl _)
        clear p4 s4 q4 hc
        go_wp2_with fail
        refine ⟨⟨k + 1, _, _, _, _, HX.out, by go_num⟩, ?_⟩
        simp [intOf]
        omega
      · have HE : Hid (foldR (termKidR (semR n) (⟨17, pl, name, num, op⟩ : Nd) gen) xs (none) = st1) := by
          show _ = _
          rw [HR.out.val, List.drop_of_length_le c]
          rfl
        go_wp2_with fail
        go_end0
        rw [HE.out]
        exact ⟨rfl, HR.out.fr.done rfl (by have := HR.out.bud; omega)⟩

set_option maxRecDepth 100000 in
set_option maxHeartbeats 2000000 in
theorem term_step21 {B pb : Nat} {W0 : World} {n : Nat} (H : KidsRC B pb W0 n) (hB : B = W0.heap.size) (pl num : Int) (name op : ByteArray) (ad : Option Addr) (cap : Nat) (xs : List (Tr n)) (gen : Bool) (hsl : Sli.ok (encT n) 6 W0 ⟨ad, cap, xs⟩) (hk : ∀ y ∈ xs, okT n W0 y) (hcond : (shapeR (⟨17, pl, name, num, op⟩ : Nd)).2.2 = true ∧ ¬ (xs.length : Int) < (shapeR (⟨17, pl, name, num, op⟩ : Nd)).1 ∧ ¬ (0 ≤ (shapeR (⟨17, pl, name, num, op⟩ : Nd)).2.1 ∧ (shapeR (⟨17, pl, name, num, op⟩ : Nd)).2.1 < (xs.length : Int))) (k0 : Tr n) (hk0 : xs[0]? = some k0) (kk : Int) (hkk : kk = (ndT n k0).kind) (hk3 : kk ≠ 3) (hk13 : kk ≠ 13) (hn1 : isS name preS = false) (hn2 : isS name postS = true)
    (w : World) (vU vV : Value) (s : St) (m : Nat) (hb : Below B W0 w) (hp : PlAt B pb w (some s) m vU vV) (hm : m + (1 + szL xs) ≤ 1000000) (hl : xs.length ≤ 2 ^ 63 - 1) :
    Calls Try.prog 34 #[.pointer (some ⟨pb, 0, none⟩), .agg #[.int .i64 17, .int .i64 pl, .string name, .int .u64 num, .string op, .slice ad xs.length cap], .bool gen] w fun e w' => e = .returned (.tuple #[]) ∧ ∃ vU' vV', PlAt B pb w' (foldR (termKidR (semR n) ⟨17, pl, name, num, op⟩ gen) xs (none)) (m + (1 + szL xs)) vU' vV' ∧ Stp pb w vU vV w' vU' vV' ∧ Below B W0 w' := by
  have HH : Hid (KidsRC B pb W0 n) := H
  have HBE : Hid (B = W0.heap.size) := hB
  have HS : Hid (Sli.ok (encT n) 6 W0 ⟨ad, cap, xs⟩ ∧ ∀ y ∈ xs, okT n W0 y) := ⟨hsl, hk⟩
  have HM : Hid (m + (1 + szL xs) ≤ 1000000) := hm
  have HB : Hid (Below B W0 w ∧ PlAt B pb w (some s) m vU vV) := ⟨hb, hp⟩
  clear hb hp H hB hm hsl hk
  obtain ⟨wb, hwb⟩ : ∃ wb, wb = w.alloc (.cells #[.int .i64 17, .int .i64 pl, .string name, .int .u64 num, .string op, .slice ad xs.length cap] 25) := ⟨_, rfl⟩
  have FR : Hid (Fr B pb W0 w vU vV w.heap.size #[.int .i64 17, .int .i64 pl, .string name, .int .u64 num, .string op, .slice ad xs.length cap] wb vU vV (some s) m) := by rw [hwb]; exact Fr.start HB.out.1 HB.out.2 _ _
  have b0 : wb.cell? ⟨w.heap.size, 0, none⟩ = some (.int .i64 17) := FR.out.box 0 _ rfl
  have b1 : wb.cell? ⟨w.heap.size, 1, none⟩ = some (.int .i64 pl) := FR.out.box 1 _ rfl
  have b2 : wb.cell? ⟨w.heap.size, 2, none⟩ = some (.string name) := FR.out.box 2 _ rfl
  have b3 : wb.cell? ⟨w.heap.size, 3, none⟩ = some (.int .u64 num) := FR.out.box 3 _ rfl
  have b4 : wb.cell? ⟨w.heap.size, 4, none⟩ = some (.string op) := FR.out.box 4 _ rfl
  have b5 : wb.cell? ⟨w.heap.size, 5, none⟩ = some (.slice ad xs.length cap) := FR.out.box 5 _ rfl
  obtain ⟨c2, f2⟩ := FR.out.pl.bad
  simp only [Option.isNone_some] at c2
  obtain ⟨b, off, e1, hlie⟩ := kids_lie HS.out.1 (by intro e; simp only at e; rw [e] at hk0; simp at hk0)
  simp only at e1 hlie
  subst e1
  have HL : Hid (∀ (k : Nat) (y : Tr n), xs[k]? = some y → ∀ (B : Nat) (w : World), B = W0.heap.size → Below B W0 w → Six w b (off + k * 6) (ndT n y) (.slice (atT n y) (nkT n y) (capT n y))) := hlie
  have HK0 : Hid (xs[0]? = some k0 ∧ kk = (ndT n k0).kind) := ⟨hk0, hkk⟩
  have hlen0 : 0 < xs.length := by
    rcases Nat.eq_zero_or_pos xs.length with q | q
    · rw [List.length_eq_zero_iff] at q; rw [q] at hk0; simp at hk0
    · exact q
  clear hlie hk0 hkk
  have pbn : ¬ pb = w.heap.size := fun e => FR.out.sep (Or.inl e.symm)
  have hk3' : (kk != 3) = true := by simpa using hk3
  have hk13' : (kk != 13) = true := by simpa using hk13
  clear hk3 hk13
  unfold isS preS at hn1
  unfold isS postS at hn2
  have hsh := shape_any (⟨17, pl, name, num, op⟩ : Nd) (some ⟨b, off, none⟩) xs.length cap wb
  simp only at hsh
  obtain ⟨lo, hlo⟩ : ∃ lo, lo = (shapeR (⟨17, pl, name, num, op⟩ : Nd)).1 := ⟨_, rfl⟩
  obtain ⟨hi, hhi⟩ : ∃ hi, hi = (shapeR (⟨17, pl, name, num, op⟩ : Nd)).2.1 := ⟨_, rfl⟩
  obtain ⟨okk, hokk⟩ : ∃ okk, okk = (shapeR (⟨17, pl, name, num, op⟩ : Nd)).2.2 := ⟨_, rfl⟩
  unfold ShPost at hsh
  rw [← hlo, ← hhi, ← hokk] at hsh
  rw [← hlo, ← hhi, ← hokk] at hcond
  clear hlo hhi hokk
  obtain ⟨hok1, hok2, hok3⟩ := hcond
  subst hok1
  go_enter Try.func34, Try.ntmps34
  go_upto_region 1 with fail
  rw [← hwb]
  clear hwb
  go_wp2_with fail
  refine hsh.mono ?_
  rintro e w2 ⟨sb, zs, rfl, hstr, hany, hzl, hbel⟩
  have FR2 : Hid (Fr B pb W0 w vU vV w.heap.size #[.int .i64 17, .int .i64 pl, .string name, .int .u64 num, .string op, .slice (some ⟨b, off, none⟩) xs.length cap] w2 vU vV (some s) m) := FR.out.new hbel
  have b0' : w2.cell? ⟨w.heap.size, 0, none⟩ = some (.int .i64 17) := FR2.out.box 0 _ rfl
  have b1' : w2.cell? ⟨w.heap.size, 1, none⟩ = some (.int .i64 pl) := FR2.out.box 1 _ rfl
  have b2' : w2.cell? ⟨w.heap.size, 2, none⟩ = some (.string name) := FR2.out.box 2 _ rfl
  have b3' : w2.cell? ⟨w.heap.size, 3, none⟩ = some (.int .u64 num) := FR2.out.box 3 _ rfl
  have b4' : w2.cell? ⟨w.heap.size, 4, none⟩ = some (.string op) := FR2.out.box 4 _ rfl
  have b5' : w2.cell? ⟨w.heap.size, 5, none⟩ = some (.slice (some ⟨b, off, none⟩) xs.length cap) := FR2.out.box 5 _ rfl
  obtain ⟨g2, h2⟩ := FR2.out.pl.bad
  simp only [Option.isNone_some] at g2
  have ham := among_any op (some ⟨sb, 0, none⟩) zs.length zs w2 hstr hzl
  rw [hany] at ham
  clear hsh hstr hany hbel b0 b1 b2 b3 b4 b5 c2 f2
  go_wp2_with fail
  refine ham.mono ?_
  rintro e w3 ⟨rfl, rfl⟩
  clear ham
  go_upto_region 8 with fail
  go_cut [58] from 39 to 58 (fun c wx => c = .bool false ∧ wx = w3)
  case first =>
    have hok4 : decide ((xs.length : Int) < lo) = false := by simpa using hok2
    by_cases q : 0 ≤ hi
    · have q2 : ¬ hi < (xs.length : Int) := fun z => hok3 ⟨q, z⟩
      go_wp2_with fail
      go_meet
      exact ⟨rfl, rfl⟩
    · have q3 : decide (0 ≤ hi) = false := by simpa using q
      go_wp2_with fail
      go_meet
      exact ⟨rfl, rfl⟩
  case rest =>
    obtain ⟨rfl, rfl⟩ := hcut
    clear hok2 hok3
    have z0 : wc.cell? ⟨b, off, none⟩ = some (.int .i64 (kk)) := by
      have := (HL.out 0 k0 HK0.out.1 B wc HBE.out FR2.out.bel).1
      rw [← HK0.out.2] at this
      simpa using this
    have HI : Hid (TmAt B pb W0 w vU vV #[.int .i64 17, .int .i64 pl, .string name, .int .u64 num, .string op, .slice (some ⟨b, off, none⟩) xs.length cap] (termKidR (semR n) (⟨17, pl, name, num, op⟩ : Nd) gen) xs (none) m 0 (wc.setCell ⟨pb, 2, none⟩ (.bool true)) vU vV (none) (m)) := ⟨Nat.zero_le _, rfl, FR2.out.spoil, by simp only [List.drop_zero]; omega⟩
    go_wp2_with fail
    go_loopw [10] (fun i wr => ∃ (k : Nat) (vU' vV' : Value) (st' : RS) (m' : Nat), TmAt B pb W0 w vU vV #[.int .i64 17, .int .i64 pl, .string name, .int .u64 num, .string op, .slice (some ⟨b, off, none⟩) xs.length cap] (termKidR (semR n) (⟨17, pl, name, num, op⟩ : Nd) gen) xs (none) m k wr vU' vV' st' m' ∧ i = .int .i64 k) (fun i wr => xs.length - (intOf i).toNat)
    case atStart => exact ⟨0, _, _, _, _, HI.out, rfl⟩
    case round =>
      obtain ⟨k, vU1, vV1, st1, m1, hr, rfl⟩ := hrel
      have ple := hr.le
      have HR : Hid (TmAt B pb W0 w vU vV #[.int .i64 17, .int .i64 pl, .string name, .int .u64 num, .string op, .slice (some ⟨b, off, none⟩) xs.length cap] (termKidR (semR n) (⟨17, pl, name, num, op⟩ : Nd) gen) xs (none) m k wr vU1 vV1 st1 m1) := hr
      have d0 : wr.cell? ⟨w.heap.size, 0, none⟩ = some (.int .i64 17) := hr.fr.box 0 _ rfl
      have d5 : wr.cell? ⟨w.heap.size, 5, none⟩ = some (.slice (some ⟨b, off, none⟩) xs.length cap) := hr.fr.box 5 _ rfl
      clear hr
      rcases Nat.lt_or_ge k xs.length with c | c
      · obtain ⟨y, hy, hd⟩ := kid_get c
        obtain ⟨y0, y1, y2, y3, y4, y5⟩ := HL.out k y hy B wr HBE.out HR.out.fr.bel
        have HY : Hid (xs.drop k = y :: xs.drop (k + 1) ∧ okT n W0 y) := ⟨hd, HS.out.2 y (List.mem_of_getElem? hy)⟩
        clear hy hd
        obtain ⟨wk, hwk⟩ : ∃ wk, wk = wr.alloc (.cells #[.int .i64 (ndT n y).kind, .int .i64 (ndT n y).pl, .string (ndT n y).name, .int .u64 (ndT n y).num, .string (ndT n y).op, .slice (atT n y) (nkT n y) (capT n y)] 25) := ⟨_, rfl⟩
        have hbl : Below wr.heap.size wr wk := by rw [hwk]; exact (Below.refl _ _).alloc (Nat.le_refl _) _
        have FC : Hid (Fr B pb W0 w vU vV w.heap.size #[.int .i64 17, .int .i64 pl, .string name, .int .u64 num, .string op, .slice (some ⟨b, off, none⟩) xs.length cap] wk vU1 vV1 st1 m1) := HR.out.fr.new hbl
        have e0 : wk.cell? ⟨w.heap.size, 0, none⟩ = some (.int .i64 17) := FC.out.box 0 _ rfl
        have x0 : wk.cell? ⟨wr.heap.size, 0, none⟩ = some (.int .i64 (ndT n y).kind) := by rw [hwk]; exact box_new wr _ _ 0 _ rfl
        have x1 : wk.cell? ⟨wr.heap.size, 1, none⟩ = some (.int .i64 (ndT n y).pl) := by rw [hwk]; exact box_new wr _ _ 1 _ rfl
        have x2 : wk.cell? ⟨wr.heap.size, 2, none⟩ = some (.string (ndT n y).name) := by rw [hwk]; exact box_new wr _ _ 2 _ rfl
        have x3 : wk.cell? ⟨wr.heap.size, 3, none⟩ = some (.int .u64 (ndT n y).num) := by rw [hwk]; exact box_new wr _ _ 3 _ rfl
        have x4 : wk.cell? ⟨wr.heap.size, 4, none⟩ = some (.string (ndT n y).op) := by rw [hwk]; exact box_new wr _ _ 4 _ rfl
        have x5 : wk.cell? ⟨wr.heap.size, 5, none⟩ = some (.slice (atT n y) (nkT n y) (capT n y)) := by rw [hwk]; exact box_new wr _ _ 5 _ rfl
        have hc := HH.out.term y gen HY.out.2 wk vU1 vV1 st1 m1 FC.out.bel FC.out.pl (by have h1 := HR.out.bud; have := HM.out; rw [HY.out.1, szL_cons] at h1; omega)
        have HG : Hid (semR n 0 y gen st1 = termKidR (semR n) (⟨17, pl, name, num, op⟩ : Nd) gen y st1) := by show _ = (if _ then _ else _); rw [if_neg (by simp), if_neg (by simp)]
        clear hbl
        go_upto_region 20 with fail
        rw [← hwk]
        clear hwk
        go_wp2_with fail
        refine hc.mono ?_
        rintro e w4 ⟨rfl, vU4, vV4, p4, s4, q4⟩
        have HX : Hid (TmAt B pb W0 w vU vV #[.int .i64 17, .int .i64 pl, .string name, .int .u64 num, .string op, .slice (some ⟨b, off, none⟩) xs.length cap] (termKidR (semR n) (⟨17, pl, name, num, op⟩ : Nd) gen) xs (none) m (k + 1) w4 vU4 vV4 (termKidR (semR n) (⟨17, pl, name, num, op⟩ : Nd) gen y st1) (m1 + szT n y)) :=
          HR.out.next HY.out.1 c (by rw [← HG.out]; exact FC.out.call p4 s4 q4) (Nat.le_refl _)
        clear p4 s4 q4 hc
        go_wp2_with fail
        refine ⟨⟨k + 1, _, _, _, _, HX.out, by go_num⟩, ?_⟩
        simp [intOf]
        omega
      · have HE : Hid (foldR (termKidR (semR n) (⟨17, pl, name, num, op⟩ : Nd) gen) xs (none) = st1) := by
          show _ = _
          rw [HR.out.val, List.drop_of_length_le c]
          rfl
        go_wp2_with fail
        go_end0
        rw [HE.out]
        exact ⟨rfl, HR.out.fr.done rfl (by have := HR.out.bud; omega)⟩

set_option maxRecDepth 100000 in
set_option maxHeartbeats 2000000 in
theorem term_step22 {B pb : Nat} {W0 : World} {n : Nat} (H : KidsRC B pb W0 n) (hB : B = W0.heap.size) (pl num : Int) (name op : ByteArray) (ad : Option Addr) (cap : Nat) (xs : List (Tr n)) (gen : Bool) (hsl : Sli.ok (encT n) 6 W0 ⟨ad, cap, xs⟩) (hk : ∀ y ∈ xs, okT n W0 y) (hcond : (shapeR (⟨17, pl, name, num, op⟩ : Nd)).2.2 = true ∧ ¬ (xs.length : Int) < (shapeR (⟨17, pl, name, num, op⟩ : Nd)).1 ∧ ¬ (0 ≤ (shapeR (⟨17, pl, name, num, op⟩ : Nd)).2.1 ∧ (shapeR (⟨17, pl, name, num, op⟩ : Nd)).2.1 < (xs.length : Int))) (k0 : Tr n) (hk0 : xs[0]? = some k0) (kk : Int) (hkk : kk = (ndT n k0).kind) (hk3 : kk ≠ 3) (hk13 : kk ≠ 13) (hn1 : isS name preS = false) (hn2 : isS name postS = false)
    (w : World) (vU vV : Value) (s : St) (m : Nat) (hb : Below B W0 w) (hp : PlAt B pb w (some s) m vU vV) (hm : m + (1 + szL xs) ≤ 1000000) (hl : xs.length ≤ 2 ^ 63 - 1) :
    Calls Try.prog 34 #[.pointer (some ⟨pb, 0, none⟩), .agg #[.int .i64 17, .int .i64 pl, .string name, .int .u64 num, .string op, .slice ad xs.length cap], .bool gen] w fun e w' => e = .returned (.tuple #[]) ∧ ∃ vU' vV', PlAt B pb w' (foldR (termKidR (semR n) ⟨17, pl, name, num, op⟩ gen) xs (none)) (m + (1 + szL xs)) vU' vV' ∧ Stp pb w vU vV w' vU' vV' ∧ Below B W0 w' := by
  have HH : Hid (KidsRC B pb W0 n) := H
  have HBE : Hid (B = W0.heap.size) := hB
  have HS : Hid (Sli.ok (encT n) 6 W0 ⟨ad, cap, xs⟩ ∧ ∀ y ∈ xs, okT n W0 y) := ⟨hsl, hk⟩
  have HM : Hid (m + (1 + szL xs) ≤ 1000000) := hm
  have HB : Hid (Below B W0 w ∧ PlAt B pb w (some s) m vU vV) := ⟨hb, hp⟩
  clear hb hp H hB hm hsl hk
  obtain ⟨wb, hwb⟩ : ∃ wb, wb = w.alloc (.cells #[.int .i64 17, .int .i64 pl, .string name, .int .u64 num, .string op, .slice ad xs.length cap] 25) := ⟨_, rfl⟩
  have FR : Hid (Fr B pb W0 w vU vV w.heap.size #[.int .i64 17, .int .i64 pl, .string name, .int .u64 num, .string op, .slice ad xs.length cap] wb vU vV (some s) m) := by rw [hwb]; exact Fr.start HB.out.1 HB.out.2 _ _
  have b0 : wb.cell? ⟨w.heap.size, 0, none⟩ = some (.int .i64 17) := FR.out.box 0 _ rfl
  have b1 : wb.cell? ⟨w.heap.size, 1, none⟩ = some (.int .i64 pl) := FR.out.box 1 _ rfl
  have b2 : wb.cell? ⟨w.heap.size, 2, none⟩ = some (.string name) := FR.out.box 2 _ rfl
  have b3 : wb.cell? ⟨w.heap.size, 3, none⟩ = some (.int .u64 num) := FR.out.box 3 _ rfl
  have b4 : wb.cell? ⟨w.heap.size, 4, none⟩ = some (.string op) := FR.out.box 4 _ rfl
  have b5 : wb.cell? ⟨w.heap.size, 5, none⟩ = some (.slice ad xs.length cap) := FR.out.box 5 _ rfl
  obtain ⟨c2, f2⟩ := FR.out.pl.bad
  simp only [Option.isNone_some] at c2
  obtain ⟨b, off, e1, hlie⟩ := kids_lie HS.out.1 (by intro e; simp only at e; rw [e] at hk0; simp at hk0)
  simp only at e1 hlie
  subst e1
  have HL : Hid (∀ (k : Nat) (y : Tr n), xs[k]? = some y → ∀ (B : Nat) (w : World), B = W0.heap.size → Below B W0 w → Six w b (off + k * 6) (ndT n y) (.slice (atT n y) (nkT n y) (capT n y))) := hlie
  have HK0 : Hid (xs[0]? = some k0 ∧ kk = (ndT n k0).kind) := ⟨hk0, hkk⟩
  have hlen0 : 0 < xs.length := by
    rcases Nat.eq_zero_or_pos xs.length with q | q
    · rw [List.length_eq_zero_iff] at q; rw [q] at hk0; simp at hk0
    · exact q
  clear hlie hk0 hkk
  have pbn : ¬ pb = w.heap.size := fun e => FR.out.sep (Or.inl e.symm)
  have hk3' : (kk != 3) = true := by simpa using hk3
  have hk13' : (kk != 13) = true := by simpa using hk13
  clear hk3 hk13
  unfold isS preS at hn1
  unfold isS postS at hn2
  have hsh := shape_any (⟨17, pl, name, num, op⟩ : Nd) (some ⟨b, off, none⟩) xs.length cap wb
  simp only at hsh
  obtain ⟨lo, hlo⟩ : ∃ lo, lo = (shapeR (⟨17, pl, name, num, op⟩ : Nd)).1 := ⟨_, rfl⟩
  obtain ⟨hi, hhi⟩ : ∃ hi, hi = (shapeR (⟨17, pl, name, num, op⟩ : Nd)).2.1 := ⟨_, rfl⟩
  obtain ⟨okk, hokk⟩ : ∃ okk, okk = (shapeR (⟨17, pl, name, num, op⟩ : Nd)).2.2 := ⟨_, rfl⟩
  unfold ShPost at hsh
  rw [← hlo, ← hhi, ← hokk] at hsh
  rw [← hlo, ← hhi, ← hokk] at hcond
  clear hlo hhi hokk
  obtain ⟨hok1, hok2, hok3⟩ := hcond
  subst hok1
  go_enter Try.func34, Try.ntmps34
  go_upto_region 1 with fail
  rw [← hwb]
  clear hwb
  go_wp2_with fail
  refine hsh.mono ?_
  rintro e w2 ⟨sb, zs, rfl, hstr, hany, hzl, hbel⟩
  have FR2 : Hid (Fr B pb W0 w vU vV w.heap.size #[.int .i64 17, .int .i64 pl, .string name, .int .u64 num, .string op, .slice (some ⟨b, off, none⟩) xs.length cap] w2 vU vV (some s) m) := FR.out.new hbel
  have b0' : w2.cell? ⟨w.heap.size, 0, none⟩ = some (.int .i64 17) := FR2.out.box 0 _ rfl
  have b1' : w2.cell? ⟨w.heap.size, 1, none⟩ = some (.int .i64 pl) := FR2.out.box 1 _ rfl
  have b2' : w2.cell? ⟨w.heap.size, 2, none⟩ = some (.string name) := FR2.out.box 2 _ rfl
  have b3' : w2.cell? ⟨w.heap.size, 3, none⟩ = some (.int .u64 num) := FR2.out.box 3 _ rfl
  have b4' : w2.cell? ⟨w.heap.size, 4, none⟩ = some (.string op) := FR2.out.box 4 _ rfl
  have b5' : w2.cell? ⟨w.heap.size, 5, none⟩ = some (.slice (some ⟨b, off, none⟩) xs.length cap) := FR2.out.box 5 _ rfl
  obtain ⟨g2, h2⟩ := FR2.out.pl.bad
  simp only [Option.isNone_some] at g2
  have ham := among_any op (some ⟨sb, 0, none⟩) zs.length zs w2 hstr hzl
  rw [hany] at ham
  clear hsh hstr hany hbel b0 b1 b2 b3 b4 b5 c2 f2
  go_wp2_with fail
  refine ham.mono ?_
  rintro e w3 ⟨rfl, rfl⟩
  clear ham
  go_upto_region 8 with fail
  go_cut [58] from 39 to 58 (fun c wx => c = .bool false ∧ wx = w3)
  case first =>
    have hok4 : decide ((xs.length : Int) < lo) = false := by simpa using hok2
    by_cases q : 0 ≤ hi
    · have q2 : ¬ hi < (xs.length : Int) := fun z => hok3 ⟨q, z⟩
      go_wp2_with fail
      go_meet
      exact ⟨rfl, rfl⟩
    · have q3 : decide (0 ≤ hi) = false := by simpa using q
      go_wp2_with fail
      go_meet
      exact ⟨rfl, rfl⟩
  case rest =>
    obtain ⟨rfl, rfl⟩ := hcut
    clear hok2 hok3
    have z0 : wc.cell? ⟨b, off, none⟩ = some (.int .i64 (kk)) := by
      have := (HL.out 0 k0 HK0.out.1 B wc HBE.out FR2.out.bel).1
      rw [← HK0.out.2] at this
      simpa using this
    have HI : Hid (TmAt B pb W0 w vU vV #[.int .i64 17, .int .i64 pl, .string name, .int .u64 num, .string op, .slice (some ⟨b, off, none⟩) xs.length cap] (termKidR (semR n) (⟨17, pl, name, num, op⟩ : Nd) gen) xs (none) m 0 ((wc.setCell ⟨pb, 2, none⟩ (.bool true)).setCell ⟨pb, 2, none⟩ (.bool true)) vU vV (none) (m)) := ⟨Nat.zero_le _, rfl, FR2.out.spoil.spoil, by simp only [List.drop_zero]; omega⟩
    have HI2 : Hid (TmAt B pb W0 w vU vV #[.int .i64 17, .int .i64 pl, .string name, .int .u64 num, .string op, .slice (some ⟨b, off, none⟩) xs.length cap] (termKidR (semR n) (⟨17, pl, name, num, op⟩ : Nd) gen) xs none m 0 (wc.setCell ⟨pb, 2, none⟩ (.bool true)) vU vV none m) := ⟨Nat.zero_le _, rfl, FR2.out.spoil, by simp only [List.drop_zero]; omega⟩
    go_wp2_with fail
    go_loopw [10] (fun i wr => ∃ (k : Nat) (vU' vV' : Value) (st' : RS) (m' : Nat), TmAt B pb W0 w vU vV #[.int .i64 17, .int .i64 pl, .string name, .int .u64 num, .string op, .slice (some ⟨b, off, none⟩) xs.length cap] (termKidR (semR n) (⟨17, pl, name, num, op⟩ : Nd) gen) xs (none) m k wr vU' vV' st' m' ∧ i = .int .i64 k) (fun i wr => xs.length - (intOf i).toNat)
    case atStart => exact ⟨0, _, _, _, _, (by first | exact HI.out | exact HI2.out), rfl⟩
    case round =>
      obtain ⟨k, vU1, vV1, st1, m1, hr, rfl⟩ := hrel
      have ple := hr.le
      have HR : Hid (TmAt B pb W0 w vU vV #[.int .i64 17, .int .i64 pl, .string name, .int .u64 num, .string op, .slice (some ⟨b, off, none⟩) xs.length cap] (termKidR (semR n) (⟨17, pl, name, num, op⟩ : Nd) gen) xs (none) m k wr vU1 vV1 st1 m1) := hr
      have d0 : wr.cell? ⟨w.heap.size, 0, none⟩ = some (.int .i64 17) := hr.fr.box 0 _ rfl
      have d5 : wr.cell? ⟨w.heap.size, 5, none⟩ = some (.slice (some ⟨b, off, none⟩) xs.length cap) := hr.fr.box 5 _ rfl
      clear hr
      rcases Nat.lt_or_ge k xs.length with c | c
      · obtain ⟨y, hy, hd⟩ := kid_get c
        obtain ⟨y0, y1, y2, y3, y4, y5⟩ := HL.out k y hy B wr HBE.out HR.out.fr.bel
        have HY : Hid (xs.drop k = y :: xs.drop (k + 1) ∧ okT n W0 y) := ⟨hd, HS.out.2 y (List.mem_of_getElem? hy)⟩
        clear hy hd
        obtain ⟨wk, hwk⟩ : ∃ wk, wk = wr.alloc (.cells #[.int .i64 (ndT n y).kind, .int .i64 (ndT n y).pl, .string (ndT n y).name, .int .u64 (ndT n y).num, .string (ndT n y).op, .slice (atT n y) (nkT n y) (capT n y)] 25) := ⟨_, rfl⟩
        have hbl : Below wr.heap.size wr wk := by rw [hwk]; exact (Below.refl _ _).alloc (Nat.le_refl _) _
        have FC : Hid (Fr B pb W0 w vU vV w.heap.size #[.int .i64 17, .int .i64 pl, .string name, .int .u64 num, .string op, .slice (some ⟨b, off, none⟩) xs.length cap] wk vU1 vV1 st1 m1) := HR.out.fr.new hbl
        have e0 : wk.cell? ⟨w.heap.size, 0, none⟩ = some (.int .i64 17) := FC.out.box 0 _ rfl
        have x0 : wk.cell? ⟨wr.heap.size, 0, none⟩ = some (.int .i64 (ndT n y).kind) := by rw [hwk]; exact box_new wr _ _ 0 _ rfl
        have x1 : wk.cell? ⟨wr.heap.size, 1, none⟩ = some (.int .i64 (ndT n y).pl) := by rw [hwk]; exact box_new wr _ _ 1 _ rfl
        have x2 : wk.cell? ⟨wr.heap.size, 2, none⟩ = some (.string (ndT n y).name) := by rw [hwk]; exact box_new wr _ _ 2 _ rfl
        have x3 : wk.cell? ⟨wr.heap.size, 3, none⟩ = some (.int .u64 (ndT n y).num) := by rw [hwk]; exact box_new wr _ _ 3 _ rfl
        have x4 : wk.cell? ⟨wr.heap.size, 4, none⟩ = some (.string (ndT n y).op) := by rw [hwk]; exact box_new wr _ _ 4 _ rfl
        have x5 : wk.cell? ⟨wr.heap.size, 5, none⟩ = some (.slice (atT n y) (nkT n y) (capT n y)) := by rw [hwk]; exact box_new wr _ _ 5 _ rfl
        have hc := HH.out.term y gen HY.out.2 wk vU1 vV1 st1 m1 FC.out.bel FC.out.pl (by have h1 := HR.out.bud; have := HM.out; rw [HY.out.1, szL_cons] at h1; omega)
        have HG : Hid (semR n 0 y gen st1 = termKidR (semR n) (⟨17, pl, name, num, op⟩ : Nd) gen y st1) := by show _ = (if _ then _ else _); rw [if_neg (by simp), if_neg (by simp)]
        clear hbl
        go_upto_region 20 with fail
        rw [← hwk]
        clear hwk
        go_wp2_with fail
        refine hc.mono ?_
        rintro e w4 ⟨rfl, vU4, vV4, p4, s4, q4⟩
        have HX : Hid (TmAt B pb W0 w vU vV #[.int .i64 17, .int .i64 pl, .string name, .int .u64 num, .string op, .slice (some ⟨b, off, none⟩) xs.length cap] (termKidR (semR n) (⟨17, pl, name, num, op⟩ : Nd) gen) xs (none) m (k + 1) w4 vU4 vV4 (termKidR (semR n) (⟨17, pl, name, num, op⟩ : Nd) gen y st1) (m1 + szT n y)) :=
          HR.out.next HY.out.1 c (by rw [← HG.out]; exact FC.out.call p4 s4 q4) (Nat.le_refl _)
        clear p4 s4 q4 hc
        go_wp2_with fail
        refine ⟨⟨k + 1, _, _, _, _, HX.out, by go_num⟩, ?_⟩
        simp [intOf]
        omega
      · have HE : Hid (foldR (termKidR (semR n) (⟨17, pl, name, num, op⟩ : Nd) gen) xs (none) = st1) := by
          show _ = _
          rw [HR.out.val, List.drop_of_length_le c]
          rfl
        go_wp2_with fail
        go_end0
        rw [HE.out]
        exact ⟨rfl, HR.out.fr.done rfl (by have := HR.out.bud; omega)⟩

end Go.Proofs.Ytihmdcdifakepaa.Sc
