/- The resolver's walk: open, shut, scope, stays. -/
import Derived.Test.YtihmdcdifakepaaMD
import Derived.Test.YtihmdcdifakepaaB6
import Derived.Deep.Cut
namespace Go.Proofs.Ytihmdcdifakepaa.Rv
open Go.RowKit Go.Proofs.Ytihmdcdifakepaa.Sc Go.Proofs.Ytihmdcdifakepaa.Rz
set_option linter.unusedVariables false

section
variable {w w' : World} {B rb : Nat} {tg : Nat → Nat} {s : Rz.RS} {v0 v1 v2 v3 v6 : Value} {ms : List (Option Nat)}

theorem MemAt.c (h : MemAt w B rb tg s v0 v1 v2 v3 v6 ms) : w.cell? ⟨rb, 0, none⟩ = some v0 ∧ w.cell? ⟨rb, 1, none⟩ = some v1 ∧ w.cell? ⟨rb, 2, none⟩ = some v2 ∧ w.cell? ⟨rb, 3, none⟩ = some v3 ∧ w.cell? ⟨rb, 4, none⟩ = some (.int .i64 (s.fn : Int)) ∧ w.cell? ⟨rb, 5, none⟩ = some (.int .i64 (s.loops : Int)) ∧ w.cell? ⟨rb, 6, none⟩ = some v6 := by
  have hb := h.box
  refine ⟨?_, ?_, ?_, ?_, ?_, ?_, ?_⟩ <;> (rw [cell_of_row w rb _ _ 72 (0, 0) hb]; rfl)

theorem MemAt.f (h : MemAt w B rb tg s v0 v1 v2 v3 v6 ms) (j : Nat) : w.frozen? ⟨rb, j, none⟩ = false := frozen_of_row w rb j _ 72 h.box

/-- a row, as a slice -/
theorem own_slice {β : Type} {enc : β → List Value} {k : Nat} {e : TypeId} {v : Value} {xs : List β} (h : OwnR enc k e B w v xs) : ∃ ad cap, v = .slice ad xs.length cap ∧ xs.length ≤ cap ∧ cap ≤ maxLen ∧ (xs ≠ [] → ∃ g, ad = some ⟨g, 0, none⟩) := by
  rcases h.2 with ⟨rfl, h0⟩ | ⟨g, cap, cur, rfl, hb, hg, hn, hc, _⟩
  · have := List.length_eq_zero_iff.1 h0
    subst this
    exact ⟨none, 0, rfl, Nat.le_refl _, Nat.zero_le _, fun q => absurd rfl q⟩
  · exact ⟨some ⟨g, 0, none⟩, cap, rfl, hn, hc, fun _ => ⟨g, rfl⟩⟩

theorem went_of {O : Nat → Prop} {tg' : Nat → Nat} {s' : Rz.RS} {u0 u1 u2 u3 u6 : Value} {ms' : List (Option Nat)} (hO : ∀ b, O b ↔ Ow rb v0 v1 v2 v3 v6 ms b) (h1 : MemAt w' B rb tg' s' u0 u1 u2 u3 u6 ms') (h2 : Chg (Ow rb v0 v1 v2 v3 v6 ms) w w') (h3 : ∀ b, Ow rb u0 u1 u2 u3 u6 ms' b → Ow rb v0 v1 v2 v3 v6 ms b ∨ w.heap.size ≤ b) : Went w B rb O s' u6 w' :=
  ⟨Ow rb u0 u1 u2 u3 u6 ms', ⟨tg', u0, u1, u2, u3, ms', h1, fun b => Iff.rfl⟩, h2.mono (fun b q => (hO b).2 q), fun b q => (h3 b q).imp (fun q => (hO b).2 q) id⟩

end

set_option maxRecDepth 100000 in
set_option maxHeartbeats 2000000 in
theorem open_any (w : World) (B rb : Nat) (O : Nat → Prop) (s : Rz.RS) (v6 : Value) (h : Mem w B rb O s v6) (hb : bg s ≤ 1000000000) :
    Calls Try.prog 51 #[.pointer (some ⟨rb, 0, none⟩)] w fun e w' => e = .returned (.tuple #[]) ∧ Went w B rb O (openP s) v6 w' := by
  obtain ⟨tg, v0, v1, v2, v3, ms, h, hO⟩ := h
  have HM : Hid (MemAt w B rb tg s v0 v1 v2 v3 v6 ms) := h
  have c3 := h.c.2.2.2.1
  have f3 := h.f 3
  obtain ⟨ad, cap, rfl, l1, l2, _⟩ := own_slice h.r3
  have HL : Hid (ms.length ≤ 1000000000) := by show _ ≤ _; have := h.ml; unfold bg at hb; omega
  have HA : Hid (∀ o, Below w.heap.size w (w.alloc o)) := fun o => (Below.refl _ _).alloc (Nat.le_refl _) _
  have HR : Hid (OwnR mpC 1 120 B (w.alloc (.cells #[.map none] 120)) (.slice ad ms.length cap) ms) := h.r3.below (HA.out _)
  have HON : Hid (Sli.ok mpC 1 (w.alloc (.cells #[.map none] 120)) ⟨some ⟨w.heap.size, 0, none⟩, 1, [none]⟩) := one_sli rtMp (at_new _ _) rfl
  have HBX : Hid (((ms.length + 1) + (ms.length + 1) / 4 + 192) * 8 ≤ 281474976710656 ∧ ms.length + 1 ≤ maxLen) := by have := HL.out; exact ⟨by omega, by unfold maxLen; omega⟩
  have HSZ : Hid (B ≤ (w.alloc (.cells #[.map none] 120)).heap.size) := Nat.le_trans (Nat.le_trans h.lo (Nat.le_of_lt h.rlt)) (HA.out _).size
  have hne : ¬ rb = w.heap.size := Nat.ne_of_lt h.rlt
  have HFZ : Hid (∀ w5, Chg (fun b => (Value.slice ad ms.length cap).ownBlock = some b) w w5 → w5.cell? ⟨rb, 3, none⟩ = some (.slice ad ms.length cap) ∧ w5.frozen? ⟨rb, 3, none⟩ = false) := fun w5 h5 => by
    have hrs : ¬ (Value.slice ad ms.length cap).ownBlock = some rb := fun q => by have := HM.out.t4 rb q; have := HM.out.t0; omega
    exact ⟨h5.cell c3 hrs, by rw [World.frozen?_of_block (w := w) (h5.block rb HM.out.rlt hrs)]; exact f3⟩
  have HG : Hid (Gd (openP s)) := ⟨h.gd.fnl, fun b hb e he => by
    rcases List.mem_cons.1 hb with q | q
    · rw [q] at he; cases he
    · exact h.gd.blk b q e he, fun b hb => by
    rcases List.mem_cons.1 hb with q | q
    · rw [q]; exact ⟨by simp, fun e he => by cases he⟩
    · exact h.gd.wf b q⟩
  clear h hb l1 l2
  go_enter Try.func51, Try.ntmps51
  go_wp2_with (at_builtin; refine app_row rtMp rfl _ _ rfl B (.slice ad ms.length cap) ms ?h1 HR.out ⟨some ⟨w.heap.size, 0, none⟩, 1, [none]⟩ ?h3 HON.out HBX.out.2 HBX.out.1 HSZ.out ?_)
  case h1 => rfl
  case h3 => rfl
  intro v5 w5 ho5 hg5 hl5
  have hc5 : Chg (fun b => (Value.slice ad ms.length cap).ownBlock = some b) w w5 := (Chg.of_below (HA.out _)).trans (Chg.of_grown (S := fun b => (Value.slice ad ms.length cap).ownBlock = some b) hg5 (fun b q => q)) (fun _ _ q => q)
  obtain ⟨g5, cap5, rfl, _, _⟩ := World.ownsRow.form ho5 (by simp)
  obtain ⟨z1, z2⟩ := HFZ.out w5 hc5
  have hrow := HM.out.row3 (v3' := .slice (some ⟨g5, 0, none⟩) (ms ++ [none]).length cap5) (ms' := ms ++ [none]) (bs' := [] :: s.blocks) hc5 ho5 (fun b q => by
      rcases hl5 with e | e
      · exact Or.inl (e ▸ q)
      · rw [e] at q
        cases q
        exact Or.inr (by first | exact (HA.out _).size | (simp <;> omega) | omega)) HG.out (by simp [HM.out.ml]) (fun i b q => by
      rcases Nat.lt_or_ge i ms.length with c | c
      · rw [List.getElem?_append_left c] at q; exact q
      · rw [List.getElem?_append_right c, List.getElem?_singleton] at q
        split at q
        · cases q
        · cases q) (fun i m b q1 q2 => by
      rw [List.reverse_cons] at q2
      have hml := HM.out.ml
      rcases Nat.lt_or_ge i ms.length with c | c
      · rw [List.getElem?_append_left c] at q1
        rw [List.getElem?_append_left (by rw [List.length_reverse]; omega)] at q2
        exact HM.out.mp i m b q1 q2
      · rw [List.getElem?_append_right c, List.getElem?_singleton] at q1
        rw [List.getElem?_append_right (by rw [List.length_reverse]; omega), List.getElem?_singleton] at q2
        split at q1
        · split at q2
          · cases q1; cases q2; exact Or.inl ⟨rfl, rfl⟩
          · cases q2
        · cases q1)
  have HW : Hid (Went w B rb O (openP s) v6 (w5.setCell ⟨rb, 3, none⟩ (.slice (some ⟨g5, 0, none⟩) (ms ++ [none]).length cap5))) := went_of hO hrow.1 hrow.2.1 hrow.2.2
  have hln : (ms ++ [none]).length = ms.length + 1 := by simp
  rw [hln] at HW
  clear hrow ho5 hg5 hl5 hc5 HM HR HON HBX HSZ HFZ HG HA HL hO hln
  go_wp2_with fail
  go_end0
  exact ⟨rfl, HW.out⟩

set_option maxRecDepth 100000 in
set_option maxHeartbeats 2000000 in
theorem shut_any (w : World) (B rb : Nat) (O : Nat → Prop) (s : Rz.RS) (v6 : Value) (h : Mem w B rb O s v6) (b0 : Blk) (bs : List Blk) (hbs : s.blocks = b0 :: bs) :
    Calls Try.prog 53 #[.pointer (some ⟨rb, 0, none⟩)] w fun e w' => e = .returned (.tuple #[]) ∧ Went w B rb O (shutP s) v6 w' := by
  obtain ⟨tg, v0, v1, v2, v3, ms, h, hO⟩ := h
  have hml := h.ml
  rw [hbs, List.length_cons] at hml
  obtain ⟨ms0, m, rfl⟩ : ∃ ms0 m, ms = ms0 ++ [m] := by
    rcases List.eq_nil_or_concat ms with e | ⟨a, b, e⟩
    · rw [e] at hml; simp at hml
    · exact ⟨a, b, by rw [e, List.concat_eq_append]⟩
  obtain ⟨ad, cap, rfl, l1, l2, hg⟩ := own_slice h.r3
  obtain ⟨g, rfl⟩ := hg (by simp)
  have hln : (ms0 ++ [m]).length = ms0.length + 1 := by simp
  rw [hln] at h l1 hml hO
  have c3 := h.c.2.2.2.1
  have f3 := h.f 3
  have hrow := h.row3 (v3' := .slice (some ⟨g, 0, none⟩) ms0.length cap) (ms' := ms0) (bs' := bs) (w5 := w) (Chg.refl _ _) (h.r3.cut rtMp.len) (fun b q => Or.inl q) ⟨h.gd.fnl, fun b hb e he => h.gd.blk b (by rw [hbs]; exact List.mem_cons_of_mem _ hb) e he, fun b hb => h.gd.wf b (by rw [hbs]; exact List.mem_cons_of_mem _ hb)⟩ (by omega) (fun i b q => by rw [List.getElem?_append_left (List.getElem?_eq_some_iff.1 q).1]; exact q) (fun i m' b q1 q2 => h.mp i m' b (by rw [List.getElem?_append_left (List.getElem?_eq_some_iff.1 q1).1]; exact q1) (by rw [hbs, List.reverse_cons, List.getElem?_append_left (List.getElem?_eq_some_iff.1 q2).1]; exact q2))
  have hsh : shutP s = { s with blocks := bs } := by unfold shutP; rw [hbs]; rfl
  have HW : Hid (Went w B rb O (shutP s) v6 (w.setCell ⟨rb, 3, none⟩ (.slice (some ⟨g, 0, none⟩) ms0.length cap))) := by
    rw [hsh]
    exact went_of hO hrow.1 hrow.2.1 hrow.2.2
  have l3 : (ms0.length : Int) ≤ cap := by omega
  have l4 : (cap : Int) ≤ 9223372036854775807 := by unfold maxLen at l2; omega
  have l5 : ((ms0.length : Int) + 1) ≤ 9223372036854775807 := by omega
  clear hrow h hsh hO l1 l2 hml hln hg hbs
  go_enter Try.func53, Try.ntmps53
  go_wp2_with fail
  go_region
  all_goals
    go_wp2_with fail
    go_end0
    exact ⟨rfl, HW.out.drew⟩

set_option maxRecDepth 100000 in
theorem scope_any (w : World) (B rb : Nat) (O : Nat → Prop) (s : Rz.RS) (v6 : Value) (tg : Nat → Nat) (v0 v1 v2 v3 : Value) (ms : List (Option Nat)) (h : MemAt w B rb tg s v0 v1 v2 v3 v6 ms) (g n cap : Nat) (hv : v0 = .slice (some ⟨g, 0, none⟩) n cap) :
    Calls Try.prog 71 #[.pointer (some ⟨rb, 0, none⟩)] w fun e w' => e = .returned (.pointer (some ⟨g, s.fn * 4, none⟩)) ∧ Below w.heap.size w w' := by
  subst hv
  have c0 := h.c.1
  have c4 := h.c.2.2.2.2.1
  obtain ⟨r1, r2, r3, r4, r5, r6, r7⟩ := h.r0.read rtScp.len
  have hf := h.gd.fnl
  have hfi : (s.fn : Int) < n := by omega
  have hlim : (n : Int) ≤ 9223372036854775807 := by unfold maxLen at r5; omega
  clear h r1 r2 r3 r4 r5 r6 r7 hf
  go_enter Try.func71, Try.ntmps71
  go_wp2_with fail
  go_region
  all_goals
    go_wp2_with fail
    go_ret
    exact ⟨rfl, (Below.refl _ _).drew⟩

set_option maxRecDepth 100000 in
theorem stays_any (w : World) (B rb : Nat) (O : Nat → Prop) (s : Rz.RS) (v6 : Value) (h : Mem w B rb O s v6) (v : Option Nat) (hv : ∀ i, v = some i → i < s.vars.length) :
    Calls Try.prog 86 #[.pointer (some ⟨rb, 0, none⟩), .int .i64 ((v.map (fun i => (i : Int))).getD (-1))] w fun e w' => e = .returned (.bool (staysP v s)) ∧ w' = w := by
  cases v with
  | none =>
    show Calls Try.prog 86 #[.pointer (some ⟨rb, 0, none⟩), .int .i64 (-1)] w fun e w' => e = .returned (.bool true) ∧ w' = w
    clear h hv
    go_enter Try.func86, Try.ntmps86
    go_wp2_with fail
    go_ret
    exact ⟨rfl, rfl⟩
  | some i =>
    show Calls Try.prog 86 #[.pointer (some ⟨rb, 0, none⟩), .int .i64 (i : Int)] w fun e w' => e = .returned (.bool (staysP (some i) s)) ∧ w' = w
    have hi := hv i rfl
    obtain ⟨tg, v0, v1, v2, v3, ms, h, hO⟩ := h
    have c1 := h.c.2.1
    obtain ⟨ad, cap, rfl, l1, l2, hg⟩ := own_slice h.r1
    obtain ⟨g, rfl⟩ := hg (by intro e; rw [e] at hi; simp at hi)
    obtain ⟨r1, r2, r3, r4, r5, r6, r7⟩ := h.r1.read rtVr.len
    have hx := List.getElem?_eq_getElem hi
    have d2 := r6 i _ hx 2 _ rfl
    have hst : staysP (some i) s = ((s.vars[i]).kind == 2 || (s.vars[i]).kind == 5) := by unfold staysP; simp only; rw [hx]; rfl
    rw [hst]
    have hii : (i : Int) < s.vars.length := by omega
    have hlim : (s.vars.length : Int) ≤ 9223372036854775807 := by unfold maxLen at l2; omega
    generalize (s.vars[i]).kind = K at *
    clear h r1 r2 r3 r4 r5 r6 r7 hv hx hst l1 l2 hg hO
    by_cases k2 : K = 2
    · subst k2
      go_enter Try.func86, Try.ntmps86
      go_wp2_with fail
      go_ret
      exact ⟨rfl, rfl⟩
    · have k2' : (K == 2) = false := by simpa using k2
      rw [k2', Bool.false_or]
      generalize hk5 : (K == 5) = K5 at *
      go_enter Try.func86, Try.ntmps86
      go_wp2_with fail
      go_ret
      exact ⟨rfl, rfl⟩

end Go.Proofs.Ytihmdcdifakepaa.Rv

/- The document's tree: perhaps, braces, prop. -/
namespace Go.Proofs.Ytihmdcdifakepaa.Sc
open Go.RowKit
set_option linter.unusedVariables false

def functT : (n : Nat) → Tr n → RS → RS
  | 0, t => nomatch (t : Empty)
  | n + 1, (x, s) => functR (kidT n) (semR n) x s.xs

structure KidsRC (B pb : Nat) (W0 : World) (n : Nat) : Prop where
  term : ∀ (t : Tr n) (gen : Bool), okT n W0 t → RC B pb W0 34 #[.pointer (some ⟨pb, 0, none⟩), valT n t, .bool gen] (semR n 0 t gen) (szT n t)
  perh : ∀ (t : Tr n) (gen : Bool), okT n W0 t → RC B pb W0 35 #[.pointer (some ⟨pb, 0, none⟩), valT n t, .bool gen] (semR n 1 t gen) (szT n t)
  prop : ∀ (t : Tr n) (gen : Bool), okT n W0 t → RC B pb W0 50 #[.pointer (some ⟨pb, 0, none⟩), valT n t, .bool gen] (semR n 2 t gen) (szT n t)
  body : ∀ (t : Tr n) (gen : Bool), okT n W0 t → RC B pb W0 22 #[.pointer (some ⟨pb, 0, none⟩), .slice (atT n t) (nkT n t) (capT n t), .bool gen] (semR n 4 t gen) (szT n t)
  sing : ∀ (t : Tr n) (gen : Bool), okT n W0 t → RC B pb W0 31 #[.pointer (some ⟨pb, 0, none⟩), valT n t, .bool gen] (semR n 5 t gen) (szT n t)
  brac : ∀ (t : Tr n) (gen : Bool), okT n W0 t → RC B pb W0 45 #[.pointer (some ⟨pb, 0, none⟩), valT n t, .bool gen] (semR n 6 t gen) (szT n t)
  funct : ∀ (t : Tr n), okT n W0 t → RC B pb W0 33 #[.pointer (some ⟨pb, 0, none⟩), valT n t] (functT n t) (szT n t - 1)

/-- where the kids lie -/
theorem kids_lie {n : Nat} {W0 : World} {s : Sli (Tr n)} (h : s.ok (encT n) 6 W0) (hne : s.xs ≠ []) :
    ∃ (b off : Nat), s.at' = some ⟨b, off, none⟩ ∧ ∀ (k : Nat) (y : Tr n), s.xs[k]? = some y → ∀ (B : Nat) (w : World), B = W0.heap.size → Below B W0 w → Six w b (off + k * 6) (ndT n y) (.slice (atT n y) (nkT n y) (capT n y)) := by
  obtain ⟨b, off, h1, h2⟩ := h.cells hne
  refine ⟨b, off, h1, fun k y hk B w hB hb => ?_⟩
  subst hB
  have g := h2 k _ hk
  have c := cells_below hb
  exact ⟨c _ _ (g 0 _ rfl), c _ _ (g 1 _ rfl), c _ _ (g 2 _ rfl), c _ _ (g 3 _ rfl), c _ _ (g 4 _ rfl), c _ _ (g 5 _ rfl)⟩

set_option maxRecDepth 100000 in
theorem perh_rc {B pb : Nat} {W0 : World} {n : Nat} (x : Nd) (s : Sli (Tr n)) (gen : Bool) (hok : okT (n + 1) W0 ((x, s) : Nd × Sli (Tr n)))
    (ht : RC B pb W0 34 #[.pointer (some ⟨pb, 0, none⟩), valT (n + 1) ((x, s) : Nd × Sli (Tr n)), .bool gen] (termR (kidT n) (semR n) x s.xs gen) (szT (n + 1) ((x, s) : Nd × Sli (Tr n)))) :
    RC B pb W0 35 #[.pointer (some ⟨pb, 0, none⟩), valT (n + 1) ((x, s) : Nd × Sli (Tr n)), .bool gen] (perhapsR (kidT n) (semR n) x s.xs gen) (szT (n + 1) ((x, s) : Nd × Sli (Tr n))) := by
  intro w vU vV st m hb hp hm
  have hl : s.xs.length ≤ maxLen := Nat.le_trans hok.2.1.len hok.2.1.cap
  have HE : Hid (RC B pb W0 44 #[.pointer (some ⟨pb, 0, none⟩), valT (n + 1) ((x, s) : Nd × Sli (Tr n))] (emptyR s.xs) 0) := empty_rc B pb W0 x s.at' s.xs.length s.cap hl
  have HT : Hid (RC B pb W0 34 #[.pointer (some ⟨pb, 0, none⟩), valT (n + 1) ((x, s) : Nd × Sli (Tr n)), .bool gen] (termR (kidT n) (semR n) x s.xs gen) (szT (n + 1) ((x, s) : Nd × Sli (Tr n)))) := ht
  have HB : Hid (Below B W0 w ∧ PlAt B pb w st m vU vV) := ⟨hb, hp⟩
  clear hb hp ht hok hl
  rw [val_succ] at HE HT ⊢
  generalize hz : szT (n + 1) ((x, s) : Nd × Sli (Tr n)) = z at *
  clear hz
  unfold perhapsR
  obtain ⟨kind, pl, name, num, op⟩ := x
  obtain ⟨ad, cap, xs⟩ := s
  simp only at HE HT ⊢
  by_cases h0 : kind = 0
  · subst h0
    have hr : (if (0 : Int) ≠ 0 then termR (kidT n) (semR n) ⟨0, pl, name, num, op⟩ xs gen st else emptyR xs st) = emptyR xs st := rfl
    rw [hr]
    clear hr
    obtain ⟨wb, hwb⟩ : ∃ wb, wb = w.alloc (.cells #[.int .i64 0, .int .i64 pl, .string name, .int .u64 num, .string op, .slice ad xs.length cap] 25) := ⟨_, rfl⟩
    have FR : Hid (Fr B pb W0 w vU vV w.heap.size #[.int .i64 0, .int .i64 pl, .string name, .int .u64 num, .string op, .slice ad xs.length cap] wb vU vV (st) (m)) := by rw [hwb]; exact Fr.start HB.out.1 HB.out.2 _ _
    have b0 : wb.cell? ⟨w.heap.size, 0, none⟩ = some (.int .i64 0) := FR.out.box 0 _ rfl
    have b1 : wb.cell? ⟨w.heap.size, 1, none⟩ = some (.int .i64 pl) := FR.out.box 1 _ rfl
    have b2 : wb.cell? ⟨w.heap.size, 2, none⟩ = some (.string name) := FR.out.box 2 _ rfl
    have b3 : wb.cell? ⟨w.heap.size, 3, none⟩ = some (.int .u64 num) := FR.out.box 3 _ rfl
    have b4 : wb.cell? ⟨w.heap.size, 4, none⟩ = some (.string op) := FR.out.box 4 _ rfl
    have b5 : wb.cell? ⟨w.heap.size, 5, none⟩ = some (.slice ad xs.length cap) := FR.out.box 5 _ rfl
    obtain ⟨c2, f2⟩ := FR.out.pl.bad
    have hc := HE.out wb vU vV st m FR.out.bel FR.out.pl (by omega)
    go_enter Try.func35, Try.ntmps35
    go_upto_region 1 with fail
    rw [← hwb]
    clear hwb
    go_wp2_with (go_at_call 44; refine hc.mono ?_; rintro e w2 ⟨rfl, vU2, vV2, p2, s2, q2⟩; have FR2 : Hid (Fr B pb W0 w vU vV w.heap.size #[.int .i64 0, .int .i64 pl, .string name, .int .u64 num, .string op, .slice ad xs.length cap] w2 vU2 vV2 (emptyR xs st) m) := FR.out.call p2 s2 q2; clear p2 s2 q2 hc)
    go_end0
    exact ⟨rfl, FR2.out.done rfl (by omega)⟩
  · have hr : (if kind ≠ 0 then termR (kidT n) (semR n) ⟨kind, pl, name, num, op⟩ xs gen st else emptyR xs st) = termR (kidT n) (semR n) ⟨kind, pl, name, num, op⟩ xs gen st := if_pos h0
    rw [hr]
    clear hr
    obtain ⟨wb, hwb⟩ : ∃ wb, wb = w.alloc (.cells #[.int .i64 kind, .int .i64 pl, .string name, .int .u64 num, .string op, .slice ad xs.length cap] 25) := ⟨_, rfl⟩
    have FR : Hid (Fr B pb W0 w vU vV w.heap.size #[.int .i64 kind, .int .i64 pl, .string name, .int .u64 num, .string op, .slice ad xs.length cap] wb vU vV (st) (m)) := by rw [hwb]; exact Fr.start HB.out.1 HB.out.2 _ _
    have b0 : wb.cell? ⟨w.heap.size, 0, none⟩ = some (.int .i64 kind) := FR.out.box 0 _ rfl
    have b1 : wb.cell? ⟨w.heap.size, 1, none⟩ = some (.int .i64 pl) := FR.out.box 1 _ rfl
    have b2 : wb.cell? ⟨w.heap.size, 2, none⟩ = some (.string name) := FR.out.box 2 _ rfl
    have b3 : wb.cell? ⟨w.heap.size, 3, none⟩ = some (.int .u64 num) := FR.out.box 3 _ rfl
    have b4 : wb.cell? ⟨w.heap.size, 4, none⟩ = some (.string op) := FR.out.box 4 _ rfl
    have b5 : wb.cell? ⟨w.heap.size, 5, none⟩ = some (.slice ad xs.length cap) := FR.out.box 5 _ rfl
    obtain ⟨c2, f2⟩ := FR.out.pl.bad
    have hc := HT.out wb vU vV st m FR.out.bel FR.out.pl (by omega)
    go_enter Try.func35, Try.ntmps35
    go_upto_region 1 with fail
    rw [← hwb]
    clear hwb
    go_wp2_with (go_at_call 34; refine hc.mono ?_; rintro e w2 ⟨rfl, vU2, vV2, p2, s2, q2⟩; have FR2 : Hid (Fr B pb W0 w vU vV w.heap.size #[.int .i64 kind, .int .i64 pl, .string name, .int .u64 num, .string op, .slice ad xs.length cap] w2 vU2 vV2 (termR (kidT n) (semR n) ⟨kind, pl, name, num, op⟩ xs gen st) (m + z)) := FR.out.call p2 s2 q2; clear p2 s2 q2 hc)
    go_end0
    exact ⟨rfl, FR2.out.done rfl (by omega)⟩

set_option maxRecDepth 100000 in
theorem brac_rc {B pb : Nat} {W0 : World} {n : Nat} (x : Nd) (s : Sli (Tr n)) (gen : Bool) (hok : okT (n + 1) W0 ((x, s) : Nd × Sli (Tr n)))
    (ht : RC B pb W0 22 #[.pointer (some ⟨pb, 0, none⟩), .slice s.at' s.xs.length s.cap, .bool gen] (bodyR (semR n) s.xs gen) (szT (n + 1) ((x, s) : Nd × Sli (Tr n)))) :
    RC B pb W0 45 #[.pointer (some ⟨pb, 0, none⟩), valT (n + 1) ((x, s) : Nd × Sli (Tr n)), .bool gen] (bracesR (semR n) x s.xs gen) (szT (n + 1) ((x, s) : Nd × Sli (Tr n))) := by
  intro w vU vV st m hb hp hm
  have HT : Hid (RC B pb W0 22 #[.pointer (some ⟨pb, 0, none⟩), .slice s.at' s.xs.length s.cap, .bool gen] (bodyR (semR n) s.xs gen) (szT (n + 1) ((x, s) : Nd × Sli (Tr n)))) := ht
  have HB : Hid (Below B W0 w ∧ PlAt B pb w st m vU vV) := ⟨hb, hp⟩
  clear hb hp ht hok
  rw [val_succ]
  generalize hz : szT (n + 1) ((x, s) : Nd × Sli (Tr n)) = z at *
  clear hz
  unfold bracesR
  obtain ⟨kind, pl, name, num, op⟩ := x
  obtain ⟨ad, cap, xs⟩ := s
  simp only at HT ⊢
  by_cases h0 : kind = 44
  · subst h0
    rw [if_neg (by simp)]
    obtain ⟨wb, hwb⟩ : ∃ wb, wb = w.alloc (.cells #[.int .i64 44, .int .i64 pl, .string name, .int .u64 num, .string op, .slice ad xs.length cap] 25) := ⟨_, rfl⟩
    have FR : Hid (Fr B pb W0 w vU vV w.heap.size #[.int .i64 44, .int .i64 pl, .string name, .int .u64 num, .string op, .slice ad xs.length cap] wb vU vV (st) (m)) := by rw [hwb]; exact Fr.start HB.out.1 HB.out.2 _ _
    have b0 : wb.cell? ⟨w.heap.size, 0, none⟩ = some (.int .i64 44) := FR.out.box 0 _ rfl
    have b1 : wb.cell? ⟨w.heap.size, 1, none⟩ = some (.int .i64 pl) := FR.out.box 1 _ rfl
    have b2 : wb.cell? ⟨w.heap.size, 2, none⟩ = some (.string name) := FR.out.box 2 _ rfl
    have b3 : wb.cell? ⟨w.heap.size, 3, none⟩ = some (.int .u64 num) := FR.out.box 3 _ rfl
    have b4 : wb.cell? ⟨w.heap.size, 4, none⟩ = some (.string op) := FR.out.box 4 _ rfl
    have b5 : wb.cell? ⟨w.heap.size, 5, none⟩ = some (.slice ad xs.length cap) := FR.out.box 5 _ rfl
    obtain ⟨c2, f2⟩ := FR.out.pl.bad
    have hc := HT.out wb vU vV st m FR.out.bel FR.out.pl (by omega)
    go_enter Try.func45, Try.ntmps45
    go_upto_region 1 with fail
    rw [← hwb]
    clear hwb
    go_wp2_with (go_at_call 22; refine hc.mono ?_; rintro e w2 ⟨rfl, vU2, vV2, p2, s2, q2⟩; have FR2 : Hid (Fr B pb W0 w vU vV w.heap.size #[.int .i64 44, .int .i64 pl, .string name, .int .u64 num, .string op, .slice ad xs.length cap] w2 vU2 vV2 (bodyR (semR n) xs gen st) (m + z)) := FR.out.call p2 s2 q2; clear p2 s2 q2 hc)
    go_end0
    exact ⟨rfl, FR2.out.done rfl (by omega)⟩
  · rw [if_pos h0]
    obtain ⟨wb, hwb⟩ : ∃ wb, wb = w.alloc (.cells #[.int .i64 kind, .int .i64 pl, .string name, .int .u64 num, .string op, .slice ad xs.length cap] 25) := ⟨_, rfl⟩
    have FR : Hid (Fr B pb W0 w vU vV w.heap.size #[.int .i64 kind, .int .i64 pl, .string name, .int .u64 num, .string op, .slice ad xs.length cap] wb vU vV (st) (m)) := by rw [hwb]; exact Fr.start HB.out.1 HB.out.2 _ _
    have b0 : wb.cell? ⟨w.heap.size, 0, none⟩ = some (.int .i64 kind) := FR.out.box 0 _ rfl
    have b1 : wb.cell? ⟨w.heap.size, 1, none⟩ = some (.int .i64 pl) := FR.out.box 1 _ rfl
    have b2 : wb.cell? ⟨w.heap.size, 2, none⟩ = some (.string name) := FR.out.box 2 _ rfl
    have b3 : wb.cell? ⟨w.heap.size, 3, none⟩ = some (.int .u64 num) := FR.out.box 3 _ rfl
    have b4 : wb.cell? ⟨w.heap.size, 4, none⟩ = some (.string op) := FR.out.box 4 _ rfl
    have b5 : wb.cell? ⟨w.heap.size, 5, none⟩ = some (.slice ad xs.length cap) := FR.out.box 5 _ rfl
    obtain ⟨c2, f2⟩ := FR.out.pl.bad
    go_enter Try.func45, Try.ntmps45
    go_upto_region 1 with fail
    rw [← hwb]
    clear hwb
    go_wp2_with fail
    refine bodyPost_ret (results_none rfl _ _ _) rfl ?_
    exact ⟨rfl, FR.out.spoil.done rfl (by omega)⟩

end Go.Proofs.Ytihmdcdifakepaa.Sc

/- The document's tree: prop; a list of statements. -/
namespace Go.Proofs.Ytihmdcdifakepaa.Sc
open Go.RowKit
set_option linter.unusedVariables false

set_option maxRecDepth 100000 in
theorem prop_rc {B pb : Nat} {W0 : World} {n : Nat} (H : KidsRC B pb W0 n) (hB : B = W0.heap.size) (x : Nd) (s : Sli (Tr n)) (gen : Bool) (hok : okT (n + 1) W0 ((x, s) : Nd × Sli (Tr n))) :
    RC B pb W0 50 #[.pointer (some ⟨pb, 0, none⟩), valT (n + 1) ((x, s) : Nd × Sli (Tr n)), .bool gen] (propR (semR n) x s.xs gen) (szT (n + 1) ((x, s) : Nd × Sli (Tr n))) := by
  intro w vU vV st m hb hp hm
  have HH : Hid (KidsRC B pb W0 n) := H
  have HBE : Hid (B = W0.heap.size) := hB
  have HS : Hid (s.ok (encT n) 6 W0 ∧ ∀ y ∈ s.xs, okT n W0 y) := hok.2
  have hl : s.xs.length ≤ maxLen := Nat.le_trans hok.2.1.len hok.2.1.cap
  have HB : Hid (Below B W0 w ∧ PlAt B pb w st m vU vV) := ⟨hb, hp⟩
  clear hb hp hok H hB
  rw [val_succ]
  obtain ⟨kind, pl, name, num, op⟩ := x
  obtain ⟨ad, cap, xs⟩ := s
  have HZ : Hid (szT (n + 1) ((⟨kind, pl, name, num, op⟩, ⟨ad, cap, xs⟩) : Nd × Sli (Tr n)) = 1 + szL xs) := rfl
  generalize hz : szT (n + 1) ((⟨kind, pl, name, num, op⟩, ⟨ad, cap, xs⟩) : Nd × Sli (Tr n)) = z at *
  clear hz
  unfold propR isS
  unfold maxLen at hl
  simp only at HS hl ⊢
  obtain ⟨R, hR⟩ : ∃ R : RS, R = if kind ≠ 11 ∨ xs.length ≠ 2 ∨ ((op.toList == [105, 110, 105, 116]) = false ∧ (op.toList == [103, 101, 116]) = false ∧ (op.toList == [115, 101, 116]) = false) then none else kidR (semR n) 0 xs 1 gen (kidR (semR n) 0 xs 0 gen st) := ⟨_, rfl⟩
  rw [← hR]
  have HR : Hid (R = if kind ≠ 11 ∨ xs.length ≠ 2 ∨ ((op.toList == [105, 110, 105, 116]) = false ∧ (op.toList == [103, 101, 116]) = false ∧ (op.toList == [115, 101, 116]) = false) then none else kidR (semR n) 0 xs 1 gen (kidR (semR n) 0 xs 0 gen st)) := hR
  clear hR
  by_cases h0 : kind = 11
  · by_cases h1 : xs.length = 2
    · by_cases hop : (op.toList == [105, 110, 105, 116]) = false ∧ (op.toList == [103, 101, 116]) = false ∧ (op.toList == [115, 101, 116]) = false
      · obtain ⟨o1, o2, o3⟩ := hop
        have e : R = none := by rw [HR.out, if_pos (Or.inr (Or.inr ⟨o1, o2, o3⟩))]
        rw [e]
        clear HR e
        subst h0
        rw [h1]
        obtain ⟨wb, hwb⟩ : ∃ wb, wb = w.alloc (.cells #[.int .i64 11, .int .i64 pl, .string name, .int .u64 num, .string op, .slice ad 2 cap] 25) := ⟨_, rfl⟩
        have FR : Hid (Fr B pb W0 w vU vV w.heap.size #[.int .i64 11, .int .i64 pl, .string name, .int .u64 num, .string op, .slice ad 2 cap] wb vU vV (st) (m)) := by rw [hwb]; exact Fr.start HB.out.1 HB.out.2 _ _
        have b0 : wb.cell? ⟨w.heap.size, 0, none⟩ = some (.int .i64 11) := FR.out.box 0 _ rfl
        have b1 : wb.cell? ⟨w.heap.size, 1, none⟩ = some (.int .i64 pl) := FR.out.box 1 _ rfl
        have b2 : wb.cell? ⟨w.heap.size, 2, none⟩ = some (.string name) := FR.out.box 2 _ rfl
        have b3 : wb.cell? ⟨w.heap.size, 3, none⟩ = some (.int .u64 num) := FR.out.box 3 _ rfl
        have b4 : wb.cell? ⟨w.heap.size, 4, none⟩ = some (.string op) := FR.out.box 4 _ rfl
        have b5 : wb.cell? ⟨w.heap.size, 5, none⟩ = some (.slice ad 2 cap) := FR.out.box 5 _ rfl
        obtain ⟨c2, f2⟩ := FR.out.pl.bad
        go_enter Try.func50, Try.ntmps50
        go_upto_region 1 with fail
        rw [← hwb]
        clear hwb
        go_wp2_with fail
        refine bodyPost_ret (results_none rfl _ _ _) rfl ?_
        exact ⟨rfl, FR.out.spoil.done rfl (by omega)⟩
      · have e : R = kidR (semR n) 0 xs 1 gen (kidR (semR n) 0 xs 0 gen st) := by rw [HR.out, if_neg (by rintro (q | q | q); exact q h0; exact q h1; exact hop q)]
        rw [e]
        clear HR e
        obtain ⟨k0, k1, rfl⟩ : ∃ k0 k1, xs = [k0, k1] := by
          match xs, h1 with
          | [k0, k1], _ => exact ⟨k0, k1, rfl⟩
        obtain ⟨b, off, e1, hlie⟩ := kids_lie HS.out.1 (by simp)
        simp only at e1 hlie
        subst e1
        have HL : Hid (∀ (k : Nat) (y : Tr n), [k0, k1][k]? = some y → ∀ (B : Nat) (w : World), B = W0.heap.size → Below B W0 w → Six w b (off + k * 6) (ndT n y) (.slice (atT n y) (nkT n y) (capT n y))) := hlie
        clear hlie
        have hz : z = 1 + (szT n k0 + (szT n k1 + 0)) := by rw [HZ.out, szL_cons, szL_cons]; rfl
        have e2 : kidR (semR n) 0 [k0, k1] 1 gen (kidR (semR n) 0 [k0, k1] 0 gen st) = semR n 0 k1 gen (semR n 0 k0 gen st) := rfl
        rw [e2]
        clear e2
        subst h0
        have hops : (op.toList == [105, 110, 105, 116]) = true ∨ ((op.toList == [105, 110, 105, 116]) = false ∧ (op.toList == [103, 101, 116]) = true) ∨ ((op.toList == [105, 110, 105, 116]) = false ∧ (op.toList == [103, 101, 116]) = false ∧ (op.toList == [115, 101, 116]) = true) := by
          cases z1 : (op.toList == [105, 110, 105, 116]) <;> cases z2 : (op.toList == [103, 101, 116]) <;> cases z3 : (op.toList == [115, 101, 116]) <;> simp_all
        clear hop h1
        simp only [List.length_cons, List.length_nil, Nat.zero_add, Nat.reduceAdd]
        obtain ⟨wb, hwb⟩ : ∃ wb, wb = w.alloc (.cells #[.int .i64 11, .int .i64 pl, .string name, .int .u64 num, .string op, .slice (some ⟨b, off, none⟩) 2 cap] 25) := ⟨_, rfl⟩
        have FR : Hid (Fr B pb W0 w vU vV w.heap.size #[.int .i64 11, .int .i64 pl, .string name, .int .u64 num, .string op, .slice (some ⟨b, off, none⟩) 2 cap] wb vU vV (st) (m)) := by rw [hwb]; exact Fr.start HB.out.1 HB.out.2 _ _
        have b0 : wb.cell? ⟨w.heap.size, 0, none⟩ = some (.int .i64 11) := FR.out.box 0 _ rfl
        have b1 : wb.cell? ⟨w.heap.size, 1, none⟩ = some (.int .i64 pl) := FR.out.box 1 _ rfl
        have b2 : wb.cell? ⟨w.heap.size, 2, none⟩ = some (.string name) := FR.out.box 2 _ rfl
        have b3 : wb.cell? ⟨w.heap.size, 3, none⟩ = some (.int .u64 num) := FR.out.box 3 _ rfl
        have b4 : wb.cell? ⟨w.heap.size, 4, none⟩ = some (.string op) := FR.out.box 4 _ rfl
        have b5 : wb.cell? ⟨w.heap.size, 5, none⟩ = some (.slice (some ⟨b, off, none⟩) 2 cap) := FR.out.box 5 _ rfl
        obtain ⟨c2, f2⟩ := FR.out.pl.bad
        have hc := HH.out.term k0 gen (HS.out.2 k0 (by simp)) wb vU vV st m FR.out.bel FR.out.pl (by omega)
        obtain ⟨y0, y1, y2, y3, y4, y5⟩ := HL.out 0 k0 rfl B wb HBE.out FR.out.bel
        simp only [Nat.zero_mul, Nat.add_zero] at y0 y1 y2 y3 y4 y5
        rcases hops with o1 | ⟨o1, o2⟩ | ⟨o1, o2, o3⟩
        all_goals
          go_enter Try.func50, Try.ntmps50
          go_upto_region 1 with fail
          rw [← hwb]
          clear hwb
          go_wp2_with fail
          refine hc.mono ?_
          rintro e w2 ⟨rfl, vU2, vV2, p2, s2, q2⟩
          have FR2 : Hid (Fr B pb W0 w vU vV w.heap.size #[.int .i64 11, .int .i64 pl, .string name, .int .u64 num, .string op, .slice (some ⟨b, off, none⟩) 2 cap] w2 vU2 vV2 (semR n 0 k0 gen st) (m + szT n k0)) := FR.out.call p2 s2 q2
          have b5' : w2.cell? ⟨w.heap.size, 5, none⟩ = some (.slice (some ⟨b, off, none⟩) 2 cap) := FR2.out.box 5 _ rfl
          obtain ⟨z0, z1, z2, z3, z4, z5⟩ := HL.out 1 k1 rfl B w2 HBE.out FR2.out.bel
          have hc2 := HH.out.term k1 gen (HS.out.2 k1 (by simp)) w2 vU2 vV2 (semR n 0 k0 gen st) (m + szT n k0) FR2.out.bel FR2.out.pl (by omega)
          clear p2 s2 q2 hc
          go_wp2_with fail
          refine hc2.mono ?_
          rintro e w3 ⟨rfl, vU3, vV3, p3, s3, q3⟩
          have FR3 : Hid (Fr B pb W0 w vU vV w.heap.size #[.int .i64 11, .int .i64 pl, .string name, .int .u64 num, .string op, .slice (some ⟨b, off, none⟩) 2 cap] w3 vU3 vV3 (semR n 0 k1 gen (semR n 0 k0 gen st)) (m + szT n k0 + szT n k1)) := FR2.out.call p3 s3 q3
          clear p3 s3 q3 hc2
          go_wp2_with fail
          go_end0
          exact ⟨rfl, FR3.out.done rfl (by omega)⟩
    · have e : R = none := by rw [HR.out, if_pos (Or.inr (Or.inl h1))]
      rw [e]
      clear HR e
      subst h0
      have h2 : (((xs.length : Int)) == 2) = false := by simp; omega
      obtain ⟨wb, hwb⟩ : ∃ wb, wb = w.alloc (.cells #[.int .i64 11, .int .i64 pl, .string name, .int .u64 num, .string op, .slice ad xs.length cap] 25) := ⟨_, rfl⟩
      have FR : Hid (Fr B pb W0 w vU vV w.heap.size #[.int .i64 11, .int .i64 pl, .string name, .int .u64 num, .string op, .slice ad xs.length cap] wb vU vV (st) (m)) := by rw [hwb]; exact Fr.start HB.out.1 HB.out.2 _ _
      have b0 : wb.cell? ⟨w.heap.size, 0, none⟩ = some (.int .i64 11) := FR.out.box 0 _ rfl
      have b1 : wb.cell? ⟨w.heap.size, 1, none⟩ = some (.int .i64 pl) := FR.out.box 1 _ rfl
      have b2 : wb.cell? ⟨w.heap.size, 2, none⟩ = some (.string name) := FR.out.box 2 _ rfl
      have b3 : wb.cell? ⟨w.heap.size, 3, none⟩ = some (.int .u64 num) := FR.out.box 3 _ rfl
      have b4 : wb.cell? ⟨w.heap.size, 4, none⟩ = some (.string op) := FR.out.box 4 _ rfl
      have b5 : wb.cell? ⟨w.heap.size, 5, none⟩ = some (.slice ad xs.length cap) := FR.out.box 5 _ rfl
      obtain ⟨c2, f2⟩ := FR.out.pl.bad
      go_enter Try.func50, Try.ntmps50
      go_upto_region 1 with fail
      rw [← hwb]
      clear hwb
      go_wp2_with fail
      refine bodyPost_ret (results_none rfl _ _ _) rfl ?_
      exact ⟨rfl, FR.out.spoil.done rfl (by omega)⟩
  · have e : R = none := by rw [HR.out, if_pos (Or.inl h0)]
    rw [e]
    clear HR e
    obtain ⟨wb, hwb⟩ : ∃ wb, wb = w.alloc (.cells #[.int .i64 kind, .int .i64 pl, .string name, .int .u64 num, .string op, .slice ad xs.length cap] 25) := ⟨_, rfl⟩
    have FR : Hid (Fr B pb W0 w vU vV w.heap.size #[.int .i64 kind, .int .i64 pl, .string name, .int .u64 num, .string op, .slice ad xs.length cap] wb vU vV (st) (m)) := by rw [hwb]; exact Fr.start HB.out.1 HB.out.2 _ _
    have b0 : wb.cell? ⟨w.heap.size, 0, none⟩ = some (.int .i64 kind) := FR.out.box 0 _ rfl
    have b1 : wb.cell? ⟨w.heap.size, 1, none⟩ = some (.int .i64 pl) := FR.out.box 1 _ rfl
    have b2 : wb.cell? ⟨w.heap.size, 2, none⟩ = some (.string name) := FR.out.box 2 _ rfl
    have b3 : wb.cell? ⟨w.heap.size, 3, none⟩ = some (.int .u64 num) := FR.out.box 3 _ rfl
    have b4 : wb.cell? ⟨w.heap.size, 4, none⟩ = some (.string op) := FR.out.box 4 _ rfl
    have b5 : wb.cell? ⟨w.heap.size, 5, none⟩ = some (.slice ad xs.length cap) := FR.out.box 5 _ rfl
    obtain ⟨c2, f2⟩ := FR.out.pl.bad
    go_enter Try.func50, Try.ntmps50
    go_upto_region 1 with fail
    rw [← hwb]
    clear hwb
    go_wp2_with fail
    refine bodyPost_ret (results_none rfl _ _ _) rfl ?_
    exact ⟨rfl, FR.out.spoil.done rfl (by omega)⟩

end Go.Proofs.Ytihmdcdifakepaa.Sc
