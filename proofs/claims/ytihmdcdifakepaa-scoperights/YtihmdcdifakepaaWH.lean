/- The document's tree: perhaps, braces, prop. -/
import Derived.Test.YtihmdcdifakepaaWG
import Derived.Deep.Cut
namespace Go.Proofs.Ytihmdcdifakepaa.Sc
open Go.RowKit
set_option linter.unusedVariables false

def functT : (n : Nat) → Tr n → RS → RS
  | 0, t => nomatch (t : Empty)
  | n + 1, (x, s) => functR (kidT n) (semR n) x s.xs

structure KidsRC (B pb : Nat) (W0 : World) (n : Nat) : Prop where
  term : ∀ (t : Tr n) (gen : Bool), okT n W0 t → RC B pb W0 34 #[.pointer (some ⟨pb, 0, none⟩), valT n t, .bool gen] (semR n 0 t gen) (szT n t)
  perh : ∀ (t : Tr n) (gen : Bool), okT n W0 t → RC B pb W0 35 #[.pointer (some ⟨pb, 0, none⟩), valT n t, .bool gen] (semR n 1 t gen) (szT n t)
  prop : ∀ (t : Tr n) (gen : Bool), okT n W0 t → RC B pb W0 50 #[.pointer (some ⟨pb, 0, none⟩), valT n t, .bool gen] (semR n 2 t gen) (szT n t)
  body : ∀ (t : Tr n) (gen : Bool), okT n W0 t → RC B pb W0 22 #[.pointer (some ⟨pb, 0, none⟩), .slice (atT n t) (nkT n t) (capT n t), .bool gen] (semR n 4 t gen) (szT n t)
  sing : ∀ (t : Tr n) (gen : Bool), okT n W0 t → RC B pb W0 31 #[.pointer (some ⟨pb, 0, none⟩), valT n t, .bool gen] (semR n 5 t gen) (szT n t)
  brac : ∀ (t : Tr n) (gen : Bool), okT n W0 t → RC B pb W0 45 #[.pointer (some ⟨pb, 0, none⟩), valT n t, .bool gen] (semR n 6 t gen) (szT n t)
  funct : ∀ (t : Tr n), okT n W0 t → RC B pb W0 33 #[.pointer (some ⟨pb, 0, none⟩), valT n t] (functT n t) (szT n t - 1)

/-- where the kids lie -/
theorem kids_lie {n : Nat} {W0 : World} {s : Sli (Tr n)} (h : s.ok (encT n) 6 W0) (hne : s.xs ≠ []) :
    ∃ (b off : Nat), s.at' = some ⟨b, off, none⟩ ∧ ∀ (k : Nat) (y : Tr n), s.xs[k]? = some y → ∀ (B : Nat) (w : World), B = W0.heap.size → Below B W0 w → Six w b (off + k * 6) (ndT n y) (.slice (atT n y) (nkT n y) (capT n y)) := by
  obtain ⟨b, off, h1, h2⟩ := h.cells hne
  refine ⟨b, off, h1, fun k y hk B w hB hb => ?_⟩
  subst hB
  have g := h2 k _ hk
  have c := cells_below hb
  exact ⟨c _ _ (g 0 _ rfl), c _ _ (g 1 _ rfl), c _ _ (g 2 _ rfl), c _ _ (g 3 _ rfl), c _ _ (g 4 _ rfl), c _ _ (g 5 _ rfl)⟩

set_option maxRecDepth 100000 in
theorem perh_rc {B pb : Nat} {W0 : World} {n : Nat} (x : Nd) (s : Sli (Tr n)) (gen : Bool) (hok : okT (n + 1) W0 ((x, s) : Nd × Sli (Tr n)))
    (ht : RC B pb W0 34 #[.pointer (some ⟨pb, 0, none⟩), valT (n + 1) ((x, s) : Nd × Sli (Tr n)), .bool gen] (termR (kidT n) (semR n) x s.xs gen) (szT (n + 1) ((x, s) : Nd × Sli (Tr n)))) :
    RC B pb W0 35 #[.pointer (some ⟨pb, 0, none⟩), valT (n + 1) ((x, s) : Nd × Sli (Tr n)), .bool gen] (perhapsR (kidT n) (semR n) x s.xs gen) (szT (n + 1) ((x, s) : Nd × Sli (Tr n))) := by
  intro w vU vV st m hb hp hm
  have hl : s.xs.length ≤ maxLen := Nat.le_trans hok.2.1.len hok.2.1.cap
  have HE : Hid (RC B pb W0 44 #[.pointer (some ⟨pb, 0, none⟩), valT (n + 1) ((x, s) : Nd × Sli (Tr n))] (emptyR s.xs) 0) := empty_rc B pb W0 x s.at' s.xs.length s.cap hl
  have HT : Hid (RC B pb W0 34 #[.pointer (some ⟨pb, 0, none⟩), valT (n + 1) ((x, s) : Nd × Sli (Tr n)), .bool gen] (termR (kidT n) (semR n) x s.xs gen) (szT (n + 1) ((x, s) : Nd × Sli (Tr n)))) := ht
  have HB : Hid (Below B W0 w ∧ PlAt B pb w st m vU vV) := ⟨hb, hp⟩
  clear hb hp ht hok hl
  rw [val_succ] at HE HT ⊢
  generalize hz : szT (n + 1) ((x, s) : Nd × Sli (Tr n)) = z at *
  clear hz
  unfold perhapsR
  obtain ⟨kind, pl, name, num, op⟩ := x
  obtain ⟨ad, cap, xs⟩ := s
  simp only at HE HT ⊢
  by_cases h0 : kind = 0
  · subst h0
    have hr : (if (0 : Int) ≠ 0 then termR (kidT n) (semR n) ⟨0, pl, name, num, op⟩ xs gen st else emptyR xs st) = emptyR xs st := rfl
    rw [hr]
    clear hr
    obtain ⟨wb, hwb⟩ : ∃ wb, wb = w.alloc (.cells #[.int .i64 0, .int .i64 pl, .string name, .int .u64 num, .string op, .slice ad xs.length cap] 25) := ⟨_, rfl⟩
    have FR : Hid (Fr B pb W0 w vU vV w.heap.size #[.int .i64 0, .int .i64 pl, .string name, .int .u64 num, .string op, .slice ad xs.length cap] wb vU vV (st) (m)) := by rw [hwb]; exact Fr.start HB.out.1 HB.out.2 _ _
    have b0 : wb.cell? ⟨w.heap.size, 0, none⟩ = some (.int .i64 0) := FR.out.box 0 _ rfl
    have b1 : wb.cell? ⟨w.heap.size, 1, none⟩ = some (.int .i64 pl) := FR.out.box 1 _ rfl
    have b2 : wb.cell? ⟨w.heap.size, 2, none⟩ = some (.string name) := FR.out.box 2 _ rfl
    have b3 : wb.cell? ⟨w.heap.size, 3, none⟩ = some (.int .u64 num) := FR.out.box 3 _ rfl
    have b4 : wb.cell? ⟨w.heap.size, 4, none⟩ = some (.string op) := FR.out.box 4 _ rfl
    have b5 : wb.cell? ⟨w.heap.size, 5, none⟩ = some (.slice ad xs.length cap) := FR.out.box 5 _ rfl
    obtain ⟨c2, f2⟩ := FR.out.pl.bad
    have hc := HE.out wb vU vV st m FR.out.bel FR.out.pl (by omega)
    go_enter Try.func35, Try.ntmps35
    go_upto_region 1 with fail
    rw [← hwb]
    clear hwb
    go_wp2_with (go_at_call 44; refine hc.mono ?_; rintro e w2 ⟨rfl, vU2, vV2, p2, s2, q2⟩; have FR2 : Hid (Fr B pb W0 w vU vV w.heap.size #[.int .i64 0, .int .i64 pl, .string name, .int .u64 num, .string op, .slice ad xs.length cap] w2 vU2 vV2 (emptyR xs st) m) := FR.out.call p2 s2 q2; clear p2 s2 q2 hc)
    go_end0
    exact ⟨rfl, FR2.out.done rfl (by omega)⟩
  · have hr : (if kind ≠ 0 then termR (kidT n) (semR n) ⟨kind, pl, name, num, op⟩ xs gen st else emptyR xs st) = termR (kidT n) (semR n) ⟨kind, pl, name, num, op⟩ xs gen st := if_pos h0
    rw [hr]
    clear hr
    obtain ⟨wb, hwb⟩ : ∃ wb, wb = w.alloc (.cells #[.int .i64 kind, .int .i64 pl, .string name, .int .u64 num, .string op, .slice ad xs.length cap] 25) := ⟨_, rfl⟩
    have FR : Hid (Fr B pb W0 w vU vV w.heap.size #[.int .i64 kind, .int .i64 pl, .string name, .int .u64 num, .string op, .slice ad xs.length cap] wb vU vV (st) (m)) := by rw [hwb]; exact Fr.start HB.out.1 HB.out.2 _ _
    have b0 : wb.cell? ⟨w.heap.size, 0, none⟩ = some (.int .i64 kind) := FR.out.box 0 _ rfl
    have b1 : wb.cell? ⟨w.heap.size, 1, none⟩ = some (.int .i64 pl) := FR.out.box 1 _ rfl
    have b2 : wb.cell? ⟨w.heap.size, 2, none⟩ = some (.string name) := FR.out.box 2 _ rfl
    have b3 : wb.cell? ⟨w.heap.size, 3, none⟩ = some (.int .u64 num) := FR.out.box 3 _ rfl
    have b4 : wb.cell? ⟨w.heap.size, 4, none⟩ = some (.string op) := FR.out.box 4 _ rfl
    have b5 : wb.cell? ⟨w.heap.size, 5, none⟩ = some (.slice ad xs.length cap) := FR.out.box 5 _ rfl
    obtain ⟨c2, f2⟩ := FR.out.pl.bad
    have hc := HT.out wb vU vV st m FR.out.bel FR.out.pl (by omega)
    go_enter Try.func35, Try.ntmps35
    go_upto_region 1 with fail
    rw [← hwb]
    clear hwb
    go_wp2_with (go_at_call 34; refine hc.mono ?_; rintro e w2 ⟨rfl, vU2, vV2, p2, s2, q2⟩; have FR2 : Hid (Fr B pb W0 w vU vV w.heap.size #[.int .i64 kind, .int .i64 pl, .string name, .int .u64 num, .string op, .slice ad xs.length cap] w2 vU2 vV2 (termR (kidT n) (semR n) ⟨kind, pl, name, num, op⟩ xs gen st) (m + z)) := FR.out.call p2 s2 q2; clear p2 s2 q2 hc)
    go_end0
    exact ⟨rfl, FR2.out.done rfl (by omega)⟩

set_option maxRecDepth 100000 in
theorem brac_rc {B pb : Nat} {W0 : World} {n : Nat} (x : Nd) (s : Sli (Tr n)) (gen : Bool) (hok : okT (n + 1) W0 ((x, s) : Nd × Sli (Tr n)))
    (ht : RC B pb W0 22 #[.pointer (some ⟨pb, 0, none⟩), .slice s.at' s.xs.length s.cap, .bool gen] (bodyR (semR n) s.xs gen) (szT (n + 1) ((x, s) : Nd × Sli (Tr n)))) :
    RC B pb W0 45 #[.pointer (some ⟨pb, 0, none⟩), valT (n + 1) ((x, s) : Nd × Sli (Tr n)), .bool gen] (bracesR (semR n) x s.xs gen) (szT (n + 1) ((x, s) : Nd × Sli (Tr n))) := by
  intro w vU vV st m hb hp hm
  have HT : Hid (RC B pb W0 22 #[.pointer (some ⟨pb, 0, none⟩), .slice s.at' s.xs.length s.cap, .bool gen] (bodyR (semR n) s.xs gen) (szT (n + 1) ((x, s) : Nd × Sli (Tr n)))) := ht
  have HB : Hid (Below B W0 w ∧ PlAt B pb w st m vU vV) := ⟨hb, hp⟩
  clear hb hp ht hok
  rw [val_succ]
  generalize hz : szT (n + 1) ((x, s) : Nd × Sli (Tr n)) = z at *
  clear hz
  unfold bracesR
  obtain ⟨kind, pl, name, num, op⟩ := x
  obtain ⟨ad, cap, xs⟩ := s
  simp only at HT ⊢
  by_cases h0 : kind = 44
  · subst h0
    rw [if_neg (by simp)]
    obtain ⟨wb, hwb⟩ : ∃ wb, wb = w.alloc (.cells #[.int .i64 44, .int .i64 pl, .string name, .int .u64 num, .string op, .slice ad xs.length cap] 25) := ⟨_, rfl⟩
    have FR : Hid (Fr B pb W0 w vU vV w.heap.size #[.int .i64 44, .int .i64 pl, .string name, .int .u64 num, .string op, .slice ad xs.length cap] wb vU vV (st) (m)) := by rw [hwb]; exact Fr.start HB.out.1 HB.out.2 _ _
    have b0 : wb.cell? ⟨w.heap.size, 0, none⟩ = some (.int .i64 44) := FR.out.box 0 _ rfl
    have b1 : wb.cell? ⟨w.heap.size, 1, none⟩ = some (.int .i64 pl) := FR.out.box 1 _ rfl
    have b2 : wb.cell? ⟨w.heap.size, 2, none⟩ = some (.string name) := FR.out.box 2 _ rfl
    have b3 : wb.cell? ⟨w.heap.size, 3, none⟩ = some (.int .u64 num) := FR.out.box 3 _ rfl
    have b4 : wb.cell? ⟨w.heap.size, 4, none⟩ = some (.string op) := FR.out.box 4 _ rfl
    have b5 : wb.cell? ⟨w.heap.size, 5, none⟩ = some (.slice ad xs.length cap) := FR.out.box 5 _ rfl
    obtain ⟨c2, f2⟩ := FR.out.pl.bad
    have hc := HT.out wb vU vV st m FR.out.bel FR.out.pl (by omega)
    go_enter Try.func45, Try.ntmps45
    go_upto_region 1 with fail
    rw [← hwb]
    clear hwb
    go_wp2_with (go_at_call 22; refine hc.mono ?_; rintro e w2 ⟨rfl, vU2, vV2, p2, s2, q2⟩; have FR2 : Hid (Fr B pb W0 w vU vV w.heap.size #[.int .i64 44, .int .i64 pl, .string name, .int .u64 num, .string op, .slice ad xs.length cap] w2 vU2 vV2 (bodyR (semR n) xs gen st) (m + z)) := FR.out.call p2 s2 q2; clear p2 s2 q2 hc)
    go_end0
    exact ⟨rfl, FR2.out.done rfl (by omega)⟩
  · rw [if_pos h0]
    obtain ⟨wb, hwb⟩ : ∃ wb, wb = w.alloc (.cells #[.int .i64 kind, .int .i64 pl, .string name, .int .u64 num, .string op, .slice ad xs.length cap] 25) := ⟨_, rfl⟩
    have FR : Hid (Fr B pb W0 w vU vV w.heap.size #[.int .i64 kind, .int .i64 pl, .string name, .int .u64 num, .string op, .slice ad xs.length cap] wb vU vV (st) (m)) := by rw [hwb]; exact Fr.start HB.out.1 HB.out.2 _ _
    have b0 : wb.cell? ⟨w.heap.size, 0, none⟩ = some (.int .i64 kind) := FR.out.box 0 _ rfl
    have b1 : wb.cell? ⟨w.heap.size, 1, none⟩ = some (.int .i64 pl) := FR.out.box 1 _ rfl
    have b2 : wb.cell? ⟨w.heap.size, 2, none⟩ = some (.string name) := FR.out.box 2 _ rfl
    have b3 : wb.cell? ⟨w.heap.size, 3, none⟩ = some (.int .u64 num) := FR.out.box 3 _ rfl
    have b4 : wb.cell? ⟨w.heap.size, 4, none⟩ = some (.string op) := FR.out.box 4 _ rfl
    have b5 : wb.cell? ⟨w.heap.size, 5, none⟩ = some (.slice ad xs.length cap) := FR.out.box 5 _ rfl
    obtain ⟨c2, f2⟩ := FR.out.pl.bad
    go_enter Try.func45, Try.ntmps45
    go_upto_region 1 with fail
    rw [← hwb]
    clear hwb
    go_wp2_with fail
    refine bodyPost_ret (results_none rfl _ _ _) rfl ?_
    exact ⟨rfl, FR.out.spoil.done rfl (by omega)⟩

end Go.Proofs.Ytihmdcdifakepaa.Sc
