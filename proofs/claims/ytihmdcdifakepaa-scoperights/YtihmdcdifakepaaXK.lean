/- The program's Right. -/
import Derived.Test.YtihmdcdifakepaaXJ
namespace Go.Proofs.Ytihmdcdifakepaa.Sc
open Go.RowKit
set_option linter.unusedVariables false

theorem part_all {B cb mu md : Nat} {W0 : World} (hBE : B = W0.heap.size) (n : Nat) : ∀ (t : Tr n) (p : UInt8), p ∈ letters → okT n W0 t → PC B cb mu md W0 30 #[.pointer (some ⟨cb, 0, none⟩), .int .u8 p.toNat, valT n t] (fun star st => partP n p t star st) (szT n t) := by
  induction n with
  | zero => intro t; exact nomatch (t : Empty)
  | succ n ih =>
    rintro ⟨x, s⟩ p hp hok
    refine part_pc hBE x s hok p hp ?_
    intro w star st m hb hck hm
    obtain ⟨kind, pl, name, num, op⟩ := x
    obtain ⟨ad, cap, xs⟩ := s
    exact right_loop hBE ih kind pl num name op ad cap xs hok.1 hok.2.1 hok.2.2 star st m w hb hck hm

theorem right_all {B cb mu md : Nat} {W0 : World} (hBE : B = W0.heap.size) (n : Nat) (x : Nd) (s : Sli (Tr n)) (hok : okT (n + 1) W0 ((x, s) : Nd × Sli (Tr n))) :
    PC B cb mu md W0 20 #[.pointer (some ⟨cb, 0, none⟩), valT (n + 1) ((x, s) : Nd × Sli (Tr n))] (fun star st => rightP (kidT n) (partP n) x s.xs star st) (szT (n + 1) ((x, s) : Nd × Sli (Tr n))) := by
  intro w star st m hb hck hm
  obtain ⟨kind, pl, name, num, op⟩ := x
  obtain ⟨ad, cap, xs⟩ := s
  exact right_loop hBE (part_all hBE n) kind pl num name op ad cap xs hok.1 hok.2.1 hok.2.2 star st m w hb hck hm

theorem heap_new (w : World) (o : Obj) : (w.alloc o).heap.size = w.heap.size + 1 := by simp

/-- the checker, made -/
theorem made_ck {B : Nat} (w : World) (hB : B ≤ w.heap.size) :
    CkAt B (w.heap.size + 2) w.heap.size (w.heap.size + 1) (((w.alloc (.map #[] 0)).alloc (.map #[] 0)).alloc (.cells #[.bool false, .map (some w.heap.size), .map (some (w.heap.size + 1))] 55)) false ([], []) 0 := by
  have s1 : SetAt (w.alloc (.map #[] 0)) w.heap.size 0 [] := SetAt.made w
  have s2 : SetAt ((w.alloc (.map #[] 0)).alloc (.map #[] 0)) (w.heap.size + 1) 0 [] := by
    have := SetAt.made (w.alloc (.map #[] 0))
    rw [heap_new] at this
    exact this
  have hsz : ((w.alloc (.map #[] 0)).alloc (.map #[] 0)).heap.size = w.heap.size + 2 := by simp
  have hb : ∀ (v : World) (o : Obj), Chg (fun _ => False) v (v.alloc o) := fun v o => Chg.of_below ((Below.refl _ _).alloc (Nat.le_refl _) _)
  have bx := box_new ((w.alloc (.map #[] 0)).alloc (.map #[] 0)) #[.bool false, .map (some w.heap.size), .map (some (w.heap.size + 1))] 55
  have fz := frozen_new ((w.alloc (.map #[] 0)).alloc (.map #[] 0)) #[.bool false, .map (some w.heap.size), .map (some (w.heap.size + 1))] 55 0
  rw [hsz] at bx fz
  exact ⟨[], [], rfl, bx 0 _ rfl, fz, bx 1 _ rfl, bx 2 _ rfl, (s1.kept (hb _ _) (fun q => q)).kept (hb _ _) (fun q => q), s2.kept (hb _ _) (fun q => q), by omega, by omega, by omega, by omega, by omega, by omega⟩

set_option maxRecDepth 100000 in
set_option maxHeartbeats 1000000 in
theorem Right_any (n : Nat) (t : Tr n) (w : World) (hok : okT n w t) : Calls Try.prog 9 #[valT n t] w fun e w' => e = .returned (.bool (rootP n t)) ∧ Below w.heap.size w w' := by
  cases n with
  | zero => exact nomatch (t : Empty)
  | succ n =>
    obtain ⟨⟨kind, pl, name, num, op⟩, ⟨ad, cap, xs⟩⟩ := t
    obtain ⟨R, hR⟩ : ∃ R, R = rootP (n + 1) ((⟨kind, pl, name, num, op⟩, ⟨ad, cap, xs⟩) : Nd × Sli (Tr n)) := ⟨_, rfl⟩
    rw [← hR]
    obtain ⟨Q, hQ⟩ : ∃ Q, Q = holdsT (n + 1) 300 ((⟨kind, pl, name, num, op⟩, ⟨ad, cap, xs⟩) : Nd × Sli (Tr n)) 131072 := ⟨_, rfl⟩
    have HR : Hid (R = (kind == 47 && Q.1 && (rightP (kidT n) (partP n) ⟨kind, pl, name, num, op⟩ xs false ([], [])).isSome)) := by
      show _ = _
      rw [hR, hQ]
      rfl
    have HQ : Hid (Q = holdsT (n + 1) 300 ((⟨kind, pl, name, num, op⟩, ⟨ad, cap, xs⟩) : Nd × Sli (Tr n)) 131072) := hQ
    have HOK : Hid (okT (n + 1) w ((⟨kind, pl, name, num, op⟩, ⟨ad, cap, xs⟩) : Nd × Sli (Tr n))) := hok
    have hsz : Q.1 = true → szT (n + 1) ((⟨kind, pl, name, num, op⟩, ⟨ad, cap, xs⟩) : Nd × Sli (Tr n)) ≤ 131072 := by
      intro h
      have h1 := holds_count (n + 1) ((⟨kind, pl, name, num, op⟩, ⟨ad, cap, xs⟩) : Nd × Sli (Tr n)) 131072 300
      rw [← hQ, h] at h1
      have h2 : 0 ≤ countT (n + 1) 300 ((⟨kind, pl, name, num, op⟩, ⟨ad, cap, xs⟩) : Nd × Sli (Tr n)) 131072 := by simpa using h1.symm
      have h3 := count_sz (n + 1) 300 _ 131072 h2
      omega
    have HSZ : Hid (Q.1 = true → szT (n + 1) ((⟨kind, pl, name, num, op⟩, ⟨ad, cap, xs⟩) : Nd × Sli (Tr n)) ≤ 131072) := hsz
    clear hok hR hsz
    rw [val_succ]
    simp only
    obtain ⟨wl, hwl⟩ : ∃ wl, wl = (w.alloc (.cells #[.int .i64 kind, .int .i64 pl, .string name, .int .u64 num, .string op, .slice ad xs.length cap] 25)).alloc (.cells #[.int .i64 131072] 51) := ⟨_, rfl⟩
    have hszl : wl.heap.size = w.heap.size + 2 := by rw [hwl]; simp
    obtain ⟨wp, hwp⟩ : ∃ wp, wp = ((wl.alloc (.map #[] 0)).alloc (.map #[] 0)).alloc (.cells #[.bool false, .map (some (w.heap.size + 2)), .map (some (w.heap.size + 3))] 55) := ⟨_, rfl⟩
    have hbl : Below w.heap.size w wl := by rw [hwl]; exact ((Below.refl w.heap.size w).alloc (Nat.le_refl _) _).alloc (by simp) _
    have hblp : Below wl.heap.size wl wp := by rw [hwp]; exact (((Below.refl wl.heap.size wl).alloc (Nat.le_refl _) _).alloc (by simp) _).alloc (by simp; omega) _
    have hck : CkAt w.heap.size (w.heap.size + 4) (w.heap.size + 2) (w.heap.size + 3) wp false ([], []) 0 := by
      have := made_ck (B := w.heap.size) wl (by omega)
      rw [hszl, show w.heap.size + 2 + 2 = w.heap.size + 4 from rfl, show w.heap.size + 2 + 1 = w.heap.size + 3 from rfl, ← hwp] at this
      exact this
    have hlc : wl.cell? ⟨w.heap.size + 1, 0, none⟩ = some (.int .i64 131072) := by
      rw [hwl]
      have := box_new (w.alloc (.cells #[.int .i64 kind, .int .i64 pl, .string name, .int .u64 num, .string op, .slice ad xs.length cap] 25)) #[.int .i64 131072] 51 0 _ rfl
      rw [heap_new] at this
      exact this
    have hlf : wl.frozen? ⟨w.heap.size + 1, 0, none⟩ = false := by
      rw [hwl]
      have := frozen_new (w.alloc (.cells #[.int .i64 kind, .int .i64 pl, .string name, .int .u64 num, .string op, .slice ad xs.length cap] 25)) #[.int .i64 131072] 51 0
      rw [heap_new] at this
      exact this
    have lc := cells_below hblp _ _ hlc
    have lf : wp.frozen? ⟨w.heap.size + 1, 0, none⟩ = false := by rw [hblp.frozen (p := ⟨w.heap.size + 1, 0, none⟩) (by show w.heap.size + 1 < wl.heap.size; omega)]; exact hlf
    have hbox : ∀ i v, (#[.int .i64 kind, .int .i64 pl, .string name, .int .u64 num, .string op, .slice ad xs.length cap] : Array Value)[i]? = some v → wp.cell? ⟨w.heap.size, i, none⟩ = some v := by
      intro i v h
      refine cells_below hblp _ _ ?_
      rw [hwl]
      exact cells_below ((Below.refl _ _).alloc (Nat.le_refl _) _) _ _ (box_new w _ 25 i v h)
    have hbp : Below w.heap.size w wp := hbl.trans (hblp.mono hbl.size)
    have HW : Hid (Below w.heap.size w wp ∧ CkAt w.heap.size (w.heap.size + 4) (w.heap.size + 2) (w.heap.size + 3) wp false ([], []) 0 ∧ (∀ i v, (#[.int .i64 kind, .int .i64 pl, .string name, .int .u64 num, .string op, .slice ad xs.length cap] : Array Value)[i]? = some v → wp.cell? ⟨w.heap.size, i, none⟩ = some v)) := ⟨hbp, hck, hbox⟩
    have b0 : wp.cell? ⟨w.heap.size, 0, none⟩ = some (.int .i64 kind) := hbox 0 _ rfl
    have b1 : wp.cell? ⟨w.heap.size, 1, none⟩ = some (.int .i64 pl) := hbox 1 _ rfl
    have b2 : wp.cell? ⟨w.heap.size, 2, none⟩ = some (.string name) := hbox 2 _ rfl
    have b3 : wp.cell? ⟨w.heap.size, 3, none⟩ = some (.int .u64 num) := hbox 3 _ rfl
    have b4 : wp.cell? ⟨w.heap.size, 4, none⟩ = some (.string op) := hbox 4 _ rfl
    have b5 : wp.cell? ⟨w.heap.size, 5, none⟩ = some (.slice ad xs.length cap) := hbox 5 _ rfl
    have hho := holds_any (n + 1) w.heap.size (w.heap.size + 1) w rfl (by omega) ((⟨kind, pl, name, num, op⟩, ⟨ad, cap, xs⟩) : Nd × Sli (Tr n)) 300 131072 wp HOK.out hbp (Nat.le_refl _) (Nat.le_refl _) lc lf
    rw [val_succ, show ((300 : Nat) : Int) = 300 from rfl, ← hQ] at hho
    simp only at hho
    rw [hwl] at hwp
    clear hck hlc hlf hbox hbp hbl hblp hQ hwl hszl
    have hmm := @run_makeMap Try.prog
    obtain ⟨Q1, Q2⟩ := Q
    simp only at hho
    by_cases h47 : kind = 47
    · subst h47
      cases Q1 with
      | false =>
        have e : R = false := by rw [HR.out]; rfl
        rw [e]
        go_enter Try.func9, Try.ntmps9
        go_upto_region 3 with fail
        rw [← hwp]
        clear hwp
        go_wp2_with fail
        refine hho.mono ?_
        rintro e w2 ⟨rfl, _, _, hc2⟩
        have HB : Hid (Below w.heap.size w w2) := hc2.below HW.out.1 HW.out.1.size (fun k q => by omega)
        clear hc2 hho
        go_wp2_with fail
        go_ret
        exact ⟨rfl, HB.out⟩
      | true =>
        have hszz := HSZ.out rfl
        have hra := right_all (B := w.heap.size) (cb := w.heap.size + 4) (mu := w.heap.size + 2) (md := w.heap.size + 3) (W0 := w) rfl n ⟨47, pl, name, num, op⟩ ⟨ad, cap, xs⟩ HOK.out
        obtain ⟨A, hA⟩ : ∃ A, A = rightP (kidT n) (partP n) ⟨47, pl, name, num, op⟩ xs false ([], []) := ⟨_, rfl⟩
        have e : R = A.isSome := by rw [HR.out, hA]; rfl
        rw [e]
        have HA : Hid (A = rightP (kidT n) (partP n) ⟨47, pl, name, num, op⟩ xs false ([], [])) := hA
        have HRA : Hid (PC w.heap.size (w.heap.size + 4) (w.heap.size + 2) (w.heap.size + 3) w 20 #[.pointer (some ⟨w.heap.size + 4, 0, none⟩), .agg #[.int .i64 47, .int .i64 pl, .string name, .int .u64 num, .string op, .slice ad xs.length cap]] (fun star st => rightP (kidT n) (partP n) ⟨47, pl, name, num, op⟩ xs star st) (szT (n + 1) ((⟨47, pl, name, num, op⟩, ⟨ad, cap, xs⟩) : Nd × Sli (Tr n)))) := hra
        have HS2 : Hid (szT (n + 1) ((⟨47, pl, name, num, op⟩, ⟨ad, cap, xs⟩) : Nd × Sli (Tr n)) ≤ 131072) := hszz
        clear hra hszz hA e
        go_enter Try.func9, Try.ntmps9
        go_upto_region 3 with fail
        rw [← hwp]
        clear hwp
        go_wp2_with fail
        refine hho.mono ?_
        rintro e w2 ⟨rfl, _, _, hc2⟩
        have HB : Hid (Below w.heap.size w w2) := hc2.below HW.out.1 HW.out.1.size (fun k q => by omega)
        have hck2 : CkAt w.heap.size (w.heap.size + 4) (w.heap.size + 2) (w.heap.size + 3) w2 false ([], []) 0 := by
          obtain ⟨U, D, e, h1⟩ := HW.out.2.1.mem
          exact ⟨U, D, e, h1.kept hc2 (by rintro k (q | q | q) z <;> omega)⟩
        have hbx : ∀ i v, (#[.int .i64 47, .int .i64 pl, .string name, .int .u64 num, .string op, .slice ad xs.length cap] : Array Value)[i]? = some v → w2.cell? ⟨w.heap.size, i, none⟩ = some v := fun i v h => hc2.cell (HW.out.2.2 i v h) (by show ¬ (w.heap.size = w.heap.size + 1); omega)
        have d0 : w2.cell? ⟨w.heap.size, 0, none⟩ = some (.int .i64 47) := hbx 0 _ rfl
        have d1 : w2.cell? ⟨w.heap.size, 1, none⟩ = some (.int .i64 pl) := hbx 1 _ rfl
        have d2 : w2.cell? ⟨w.heap.size, 2, none⟩ = some (.string name) := hbx 2 _ rfl
        have d3 : w2.cell? ⟨w.heap.size, 3, none⟩ = some (.int .u64 num) := hbx 3 _ rfl
        have d4 : w2.cell? ⟨w.heap.size, 4, none⟩ = some (.string op) := hbx 4 _ rfl
        have d5 : w2.cell? ⟨w.heap.size, 5, none⟩ = some (.slice ad xs.length cap) := hbx 5 _ rfl
        have hcall := HRA.out w2 false ([], []) 0 HB.out hck2 (by have := HS2.out; omega)
        simp only at hcall
        rw [← HA.out] at hcall
        clear hc2 hho hck2 hbx b0 b1 b2 b3 b4 b5 lc lf
        go_wp2_with fail
        refine hcall.mono ?_
        rintro e w3 ⟨rfl, h3, _⟩
        have HX : Hid (Below w.heap.size w w3) := h3.below HB.out HB.out.size (by rintro k (q | q | q) <;> omega)
        clear h3 hcall
        go_wp2_with fail
        go_ret
        exact ⟨rfl, HX.out⟩
    · have h47' : (kind == 47) = false := by simpa using h47
      have e : R = false := by rw [HR.out, h47']; rfl
      rw [e]
      go_enter Try.func9, Try.ntmps9
      go_upto_region 3 with fail
      rw [← hwp]
      clear hwp
      go_wp2_with fail
      go_ret
      exact ⟨rfl, HW.out.1⟩
end Go.Proofs.Ytihmdcdifakepaa.Sc
