/- The resolver's walk: open, shut, scope, stays. -/
import Derived.Test.YtihmdcdifakepabMD
import Derived.Test.YtihmdcdifakepabB4
import Derived.Below
import Derived.BigQuiet
import Derived.Deep.Cut
import Derived.Deep.CutRange
import Derived.Deep.RegionHeldLaw
import Derived.Laws.AppendOwn
import Derived.Laws.Rows
import Derived.Maps.AppendAt
import Derived.WalkKit
import Derived.WalkLawsBesides
import Derived.WalkSpells
import Derived.Maps.OwnSet
import Derived.Maps.OwnOps
import Derived.Maps.Own
namespace Go.Proofs.Ytihmdcdifakepab.Rv
open Go.RowKit Go.Proofs.Ytihmdcdifakepab.Sc Go.Proofs.Ytihmdcdifakepab.Rz
set_option linter.unusedVariables false

section
variable {w w' : World} {B rb : Nat} {tg : Nat → Nat} {s : Rz.RS} {v0 v1 v2 v3 v6 : Value} {ms : List (Option Nat)}

theorem MemAt.c (h : MemAt w B rb tg s v0 v1 v2 v3 v6 ms) : w.cell? ⟨rb, 0, none⟩ = some v0 ∧ w.cell? ⟨rb, 1, none⟩ = some v1 ∧ w.cell? ⟨rb, 2, none⟩ = some v2 ∧ w.cell? ⟨rb, 3, none⟩ = some v3 ∧ w.cell? ⟨rb, 4, none⟩ = some (.int .i64 (s.fn : Int)) ∧ w.cell? ⟨rb, 5, none⟩ = some (.int .i64 (s.loops : Int)) ∧ w.cell? ⟨rb, 6, none⟩ = some v6 := by
  have hb := h.box
  refine ⟨?_, ?_, ?_, ?_, ?_, ?_, ?_⟩ <;> (rw [cell_of_row w rb _ _ 54 (0, 0) hb]; rfl)

theorem MemAt.f (h : MemAt w B rb tg s v0 v1 v2 v3 v6 ms) (j : Nat) : w.frozen? ⟨rb, j, none⟩ = false := frozen_of_row w rb j _ 54 h.box

/-- a row, as a slice -/
theorem own_slice {β : Type} {enc : β → List Value} {k : Nat} {e : TypeId} {v : Value} {xs : List β} (h : OwnR enc k e B w v xs) : ∃ ad cap, v = .slice ad xs.length cap ∧ xs.length ≤ cap ∧ cap ≤ maxLen ∧ (xs ≠ [] → ∃ g, ad = some ⟨g, 0, none⟩) := by
  rcases h.2 with ⟨rfl, h0⟩ | ⟨g, cap, cur, rfl, hb, hg, hn, hc, _⟩
  · have := List.length_eq_zero_iff.1 h0
    subst this
    exact ⟨none, 0, rfl, Nat.le_refl _, Nat.zero_le _, fun q => absurd rfl q⟩
  · exact ⟨some ⟨g, 0, none⟩, cap, rfl, hn, hc, fun _ => ⟨g, rfl⟩⟩

theorem went_of {O : Nat → Prop} {tg' : Nat → Nat} {s' : Rz.RS} {u0 u1 u2 u3 u6 : Value} {ms' : List (Option Nat)} (hO : ∀ b, O b ↔ Ow rb v0 v1 v2 v3 v6 ms b) (h1 : MemAt w' B rb tg' s' u0 u1 u2 u3 u6 ms') (h2 : Chg (Ow rb v0 v1 v2 v3 v6 ms) w w') (h3 : ∀ b, Ow rb u0 u1 u2 u3 u6 ms' b → Ow rb v0 v1 v2 v3 v6 ms b ∨ w.heap.size ≤ b) : Went w B rb O s' u6 w' :=
  ⟨Ow rb u0 u1 u2 u3 u6 ms', ⟨tg', u0, u1, u2, u3, ms', h1, fun b => Iff.rfl⟩, h2.mono (fun b q => (hO b).2 q), fun b q => (h3 b q).imp (fun q => (hO b).2 q) id⟩

end

set_option maxRecDepth 100000 in
set_option maxHeartbeats 2000000 in
theorem open_any (w : World) (B rb : Nat) (O : Nat → Prop) (s : Rz.RS) (v6 : Value) (h : Mem w B rb O s v6) (hb : bg s ≤ 1000000000) :
    Calls Try.prog 19 #[.pointer (some ⟨rb, 0, none⟩)] w fun e w' => e = .returned (.tuple #[]) ∧ Went w B rb O (openP s) v6 w' := by
  obtain ⟨tg, v0, v1, v2, v3, ms, h, hO⟩ := h
  have HM : Hid (MemAt w B rb tg s v0 v1 v2 v3 v6 ms) := h
  have c3 := h.c.2.2.2.1
  have f3 := h.f 3
  obtain ⟨ad, cap, rfl, l1, l2, _⟩ := own_slice h.r3
  have HL : Hid (ms.length ≤ 1000000000) := by show _ ≤ _; have := h.ml; unfold bg at hb; omega
  have HA : Hid (∀ o, Below w.heap.size w (w.alloc o)) := fun o => (Below.refl _ _).alloc (Nat.le_refl _) _
  have HR : Hid (OwnR mpC 1 98 B (w.alloc (.cells #[.map none] 98)) (.slice ad ms.length cap) ms) := h.r3.below (HA.out _)
  have HON : Hid (Sli.ok mpC 1 (w.alloc (.cells #[.map none] 98)) ⟨some ⟨w.heap.size, 0, none⟩, 1, [none]⟩) := one_sli rtMp (at_new _ _) rfl
  have HBX : Hid (((ms.length + 1) + (ms.length + 1) / 4 + 192) * 8 ≤ 281474976710656 ∧ ms.length + 1 ≤ maxLen) := by have := HL.out; exact ⟨by omega, by unfold maxLen; omega⟩
  have HSZ : Hid (B ≤ (w.alloc (.cells #[.map none] 98)).heap.size) := Nat.le_trans (Nat.le_trans h.lo (Nat.le_of_lt h.rlt)) (HA.out _).size
  have hne : ¬ rb = w.heap.size := Nat.ne_of_lt h.rlt
  have HFZ : Hid (∀ w5, Chg (fun b => (Value.slice ad ms.length cap).ownBlock = some b) w w5 → w5.cell? ⟨rb, 3, none⟩ = some (.slice ad ms.length cap) ∧ w5.frozen? ⟨rb, 3, none⟩ = false) := fun w5 h5 => by
    have hrs : ¬ (Value.slice ad ms.length cap).ownBlock = some rb := fun q => by have := HM.out.t4 rb q; have := HM.out.t0; omega
    exact ⟨h5.cell c3 hrs, by rw [World.frozen?_of_block (w := w) (h5.block rb HM.out.rlt hrs)]; exact f3⟩
  have HG : Hid (Gd (openP s)) := ⟨h.gd.fnl, fun b hb e he => by
    rcases List.mem_cons.1 hb with q | q
    · rw [q] at he; cases he
    · exact h.gd.blk b q e he, fun b hb => by
    rcases List.mem_cons.1 hb with q | q
    · rw [q]; exact ⟨by simp, fun e he => by cases he⟩
    · exact h.gd.wf b q⟩
  clear h hb l1 l2
  go_enter Try.func19, Try.ntmps19
  go_wp2_with (at_builtin; refine app_row rtMp rfl _ _ rfl B (.slice ad ms.length cap) ms ?h1 HR.out ⟨some ⟨w.heap.size, 0, none⟩, 1, [none]⟩ ?h3 HON.out HBX.out.2 HBX.out.1 HSZ.out ?_)
  case h1 => rfl
  case h3 => rfl
  intro v5 w5 ho5 hg5 hl5
  have hc5 : Chg (fun b => (Value.slice ad ms.length cap).ownBlock = some b) w w5 := (Chg.of_below (HA.out _)).trans (Chg.of_grown (S := fun b => (Value.slice ad ms.length cap).ownBlock = some b) hg5 (fun b q => q)) (fun _ _ q => q)
  obtain ⟨g5, cap5, rfl, _, _⟩ := World.ownsRow.form ho5 (by simp)
  obtain ⟨z1, z2⟩ := HFZ.out w5 hc5
  have hrow := HM.out.row3 (v3' := .slice (some ⟨g5, 0, none⟩) (ms ++ [none]).length cap5) (ms' := ms ++ [none]) (bs' := [] :: s.blocks) hc5 ho5 (fun b q => by
      rcases hl5 with e | e
      · exact Or.inl (e ▸ q)
      · rw [e] at q
        cases q
        exact Or.inr (by first | exact (HA.out _).size | (simp <;> omega) | omega)) HG.out (by simp [HM.out.ml]) (fun i b q => by
      rcases Nat.lt_or_ge i ms.length with c | c
      · rw [List.getElem?_append_left c] at q; exact q
      · rw [List.getElem?_append_right c, List.getElem?_singleton] at q
        split at q
        · cases q
        · cases q) (fun i m b q1 q2 => by
      rw [List.reverse_cons] at q2
      have hml := HM.out.ml
      rcases Nat.lt_or_ge i ms.length with c | c
      · rw [List.getElem?_append_left c] at q1
        rw [List.getElem?_append_left (by rw [List.length_reverse]; omega)] at q2
        exact HM.out.mp i m b q1 q2
      · rw [List.getElem?_append_right c, List.getElem?_singleton] at q1
        rw [List.getElem?_append_right (by rw [List.length_reverse]; omega), List.getElem?_singleton] at q2
        split at q1
        · split at q2
          · cases q1; cases q2; exact Or.inl ⟨rfl, rfl⟩
          · cases q2
        · cases q1)
  have HW : Hid (Went w B rb O (openP s) v6 (w5.setCell ⟨rb, 3, none⟩ (.slice (some ⟨g5, 0, none⟩) (ms ++ [none]).length cap5))) := went_of hO hrow.1 hrow.2.1 hrow.2.2
  have hln : (ms ++ [none]).length = ms.length + 1 := by simp
  rw [hln] at HW
  clear hrow ho5 hg5 hl5 hc5 HM HR HON HBX HSZ HFZ HG HA HL hO hln
  go_wp2_with fail
  go_end0
  exact ⟨rfl, HW.out⟩

set_option maxRecDepth 100000 in
set_option maxHeartbeats 2000000 in
theorem shut_any (w : World) (B rb : Nat) (O : Nat → Prop) (s : Rz.RS) (v6 : Value) (h : Mem w B rb O s v6) (b0 : Blk) (bs : List Blk) (hbs : s.blocks = b0 :: bs) :
    Calls Try.prog 21 #[.pointer (some ⟨rb, 0, none⟩)] w fun e w' => e = .returned (.tuple #[]) ∧ Went w B rb O (shutP s) v6 w' := by
  obtain ⟨tg, v0, v1, v2, v3, ms, h, hO⟩ := h
  have hml := h.ml
  rw [hbs, List.length_cons] at hml
  obtain ⟨ms0, m, rfl⟩ : ∃ ms0 m, ms = ms0 ++ [m] := by
    rcases List.eq_nil_or_concat ms with e | ⟨a, b, e⟩
    · rw [e] at hml; simp at hml
    · exact ⟨a, b, by rw [e, List.concat_eq_append]⟩
  obtain ⟨ad, cap, rfl, l1, l2, hg⟩ := own_slice h.r3
  obtain ⟨g, rfl⟩ := hg (by simp)
  have hln : (ms0 ++ [m]).length = ms0.length + 1 := by simp
  rw [hln] at h l1 hml hO
  have c3 := h.c.2.2.2.1
  have f3 := h.f 3
  have hrow := h.row3 (v3' := .slice (some ⟨g, 0, none⟩) ms0.length cap) (ms' := ms0) (bs' := bs) (w5 := w) (Chg.refl _ _) (h.r3.cut rtMp.len) (fun b q => Or.inl q) ⟨h.gd.fnl, fun b hb e he => h.gd.blk b (by rw [hbs]; exact List.mem_cons_of_mem _ hb) e he, fun b hb => h.gd.wf b (by rw [hbs]; exact List.mem_cons_of_mem _ hb)⟩ (by omega) (fun i b q => by rw [List.getElem?_append_left (List.getElem?_eq_some_iff.1 q).1]; exact q) (fun i m' b q1 q2 => h.mp i m' b (by rw [List.getElem?_append_left (List.getElem?_eq_some_iff.1 q1).1]; exact q1) (by rw [hbs, List.reverse_cons, List.getElem?_append_left (List.getElem?_eq_some_iff.1 q2).1]; exact q2))
  have hsh : shutP s = { s with blocks := bs } := by unfold shutP; rw [hbs]; rfl
  have HW : Hid (Went w B rb O (shutP s) v6 (w.setCell ⟨rb, 3, none⟩ (.slice (some ⟨g, 0, none⟩) ms0.length cap))) := by
    rw [hsh]
    exact went_of hO hrow.1 hrow.2.1 hrow.2.2
  have l3 : (ms0.length : Int) ≤ cap := by omega
  have l4 : (cap : Int) ≤ 9223372036854775807 := by unfold maxLen at l2; omega
  have l5 : ((ms0.length : Int) + 1) ≤ 9223372036854775807 := by omega
  clear hrow h hsh hO l1 l2 hml hln hg hbs
  go_enter Try.func21, Try.ntmps21
  go_wp2_with fail
  go_region
  all_goals
    go_wp2_with fail
    go_end0
    exact ⟨rfl, HW.out.drew⟩

set_option maxRecDepth 100000 in
theorem scope_any (w : World) (B rb : Nat) (O : Nat → Prop) (s : Rz.RS) (v6 : Value) (tg : Nat → Nat) (v0 v1 v2 v3 : Value) (ms : List (Option Nat)) (h : MemAt w B rb tg s v0 v1 v2 v3 v6 ms) (g n cap : Nat) (hv : v0 = .slice (some ⟨g, 0, none⟩) n cap) :
    Calls Try.prog 40 #[.pointer (some ⟨rb, 0, none⟩)] w fun e w' => e = .returned (.pointer (some ⟨g, s.fn * 4, none⟩)) ∧ Below w.heap.size w w' := by
  subst hv
  have c0 := h.c.1
  have c4 := h.c.2.2.2.2.1
  obtain ⟨r1, r2, r3, r4, r5, r6, r7⟩ := h.r0.read rtScp.len
  have hf := h.gd.fnl
  have hfi : (s.fn : Int) < n := by omega
  have hlim : (n : Int) ≤ 9223372036854775807 := by unfold maxLen at r5; omega
  clear h r1 r2 r3 r4 r5 r6 r7 hf
  go_enter Try.func40, Try.ntmps40
  go_wp2_with fail
  go_region
  all_goals
    go_wp2_with fail
    go_ret
    exact ⟨rfl, (Below.refl _ _).drew⟩

set_option maxRecDepth 100000 in
theorem stays_any (w : World) (B rb : Nat) (O : Nat → Prop) (s : Rz.RS) (v6 : Value) (h : Mem w B rb O s v6) (v : Option Nat) (hv : ∀ i, v = some i → i < s.vars.length) :
    Calls Try.prog 61 #[.pointer (some ⟨rb, 0, none⟩), .int .i64 ((v.map (fun i => (i : Int))).getD (-1))] w fun e w' => e = .returned (.bool (staysP v s)) ∧ w' = w := by
  cases v with
  | none =>
    show Calls Try.prog 61 #[.pointer (some ⟨rb, 0, none⟩), .int .i64 (-1)] w fun e w' => e = .returned (.bool true) ∧ w' = w
    clear h hv
    go_enter Try.func61, Try.ntmps61
    go_wp2_with fail
    go_ret
    exact ⟨rfl, rfl⟩
  | some i =>
    show Calls Try.prog 61 #[.pointer (some ⟨rb, 0, none⟩), .int .i64 (i : Int)] w fun e w' => e = .returned (.bool (staysP (some i) s)) ∧ w' = w
    have hi := hv i rfl
    obtain ⟨tg, v0, v1, v2, v3, ms, h, hO⟩ := h
    have c1 := h.c.2.1
    obtain ⟨ad, cap, rfl, l1, l2, hg⟩ := own_slice h.r1
    obtain ⟨g, rfl⟩ := hg (by intro e; rw [e] at hi; simp at hi)
    obtain ⟨r1, r2, r3, r4, r5, r6, r7⟩ := h.r1.read rtVr.len
    have hx := List.getElem?_eq_getElem hi
    have d2 := r6 i _ hx 2 _ rfl
    have hst : staysP (some i) s = ((s.vars[i]).kind == 2 || (s.vars[i]).kind == 5) := by unfold staysP; simp only; rw [hx]; rfl
    rw [hst]
    have hii : (i : Int) < s.vars.length := by omega
    have hlim : (s.vars.length : Int) ≤ 9223372036854775807 := by unfold maxLen at l2; omega
    generalize (s.vars[i]).kind = K at *
    clear h r1 r2 r3 r4 r5 r6 r7 hv hx hst l1 l2 hg hO
    by_cases k2 : K = 2
    · subst k2
      go_enter Try.func61, Try.ntmps61
      go_wp2_with fail
      go_ret
      exact ⟨rfl, rfl⟩
    · have k2' : (K == 2) = false := by simpa using k2
      rw [k2', Bool.false_or]
      generalize hk5 : (K == 5) = K5 at *
      go_enter Try.func61, Try.ntmps61
      go_wp2_with fail
      go_ret
      exact ⟨rfl, rfl⟩

end Go.Proofs.Ytihmdcdifakepab.Rv

/- How many nodes a tree has, as the program counts them. -/
namespace Go.Proofs.Ytihmdcdifakepab.Sc
open Go.RowKit
set_option linter.unusedVariables false

def bs (l : List UInt8) : ByteArray := ⟨l.toArray⟩

theorem bs_toList (l : List UInt8) : (bs l).toList = l := by rw [Lib.toList_data]; simp [bs]

theorem any_one (s : ByteArray) (L : List (List UInt8)) : ((L.map bs).any fun z => z.toList == s.toList) = oneB s L := by
  unfold oneB
  rw [List.any_map]
  induction L with
  | nil => rfl
  | cons a r ih =>
    rw [List.any_cons, List.contains_cons, ih]
    congr 1
    simp only [Function.comp, bs_toList]
    rw [Bool.eq_iff_iff]
    simp
    exact ⟨fun h => h.symm, fun h => h.symm⟩

/-- a row of texts on top -/
theorem strs_new (w : World) (zs : List ByteArray) : StrsAt (w.alloc (.cells (zs.map Value.string).toArray 9)) (some ⟨w.heap.size, 0, none⟩) zs := by
  intro _
  refine ⟨w.heap.size, 0, rfl, fun i z hi => ?_⟩
  have := box_new w (zs.map Value.string).toArray 9 (0 + i) (.string z) (by simp [hi])
  exact this

def Six (w : World) (b off : Nat) (x : Nd) (v : Value) : Prop :=
  w.cell? ⟨b, off, none⟩ = some (.int .i64 x.kind) ∧ w.cell? ⟨b, off + 1, none⟩ = some (.int .i64 x.pl) ∧ w.cell? ⟨b, off + 2, none⟩ = some (.string x.name) ∧
    w.cell? ⟨b, off + 3, none⟩ = some (.int .u64 x.num) ∧ w.cell? ⟨b, off + 4, none⟩ = some (.string x.op) ∧ w.cell? ⟨b, off + 5, none⟩ = some v

/-- where the kids lie -/
theorem kids_lie {n : Nat} {W0 : World} {s : Sli (Tr n)} (h : s.ok (encT n) 6 W0) (hne : s.xs ≠ []) :
    ∃ (b off : Nat), s.at' = some ⟨b, off, none⟩ ∧ ∀ (k : Nat) (y : Tr n), s.xs[k]? = some y → ∀ (B : Nat) (w : World), B = W0.heap.size → Below B W0 w → Six w b (off + k * 6) (ndT n y) (.slice (atT n y) (nkT n y) (capT n y)) := by
  obtain ⟨b, off, h1, h2⟩ := h.cells hne
  refine ⟨b, off, h1, fun k y hk B w hB hb => ?_⟩
  subst hB
  have g := h2 k _ hk
  have c := cells_below hb
  exact ⟨c _ _ (g 0 _ rfl), c _ _ (g 1 _ rfl), c _ _ (g 2 _ rfl), c _ _ (g 3 _ rfl), c _ _ (g 4 _ rfl), c _ _ (g 5 _ rfl)⟩

theorem sz_ge {n : Nat} (xs : List (Tr n)) : xs.length ≤ szL xs := by
  induction xs with
  | nil => exact Nat.le_refl _
  | cons k ks ih => rw [szL_cons, List.length_cons]; have := sz_pos n k; omega

theorem kid_get {n : Nat} {xs : List (Tr n)} {k : Nat} (c : k < xs.length) : ∃ y, xs[k]? = some y ∧ xs.drop k = y :: xs.drop (k + 1) := by
  refine ⟨xs[k], List.getElem?_eq_getElem c, ?_⟩
  rw [List.drop_eq_getElem_cons c]

theorem kd0_at {n : Nat} (xs : List (Tr n)) (i : Nat) (k : Tr n) (h : xs[i]? = some k) : kd0 (kidT n) xs i = (ndT n k).kind := by
  unfold kd0; rw [h]; exact kd_nd n k

theorem loopC_sz {n : Nat} (g : Tr n → Int → Int) (h : ∀ k r, 0 ≤ g k r → g k r = r - szT n k) (xs : List (Tr n)) (r : Int) (h0 : 0 ≤ loopC g xs r) : loopC g xs r = r - szL xs := by
  induction xs generalizing r with
  | nil => simp [loopC, szL_nil]
  | cons k ks ih =>
    rw [loopC] at h0 ⊢
    by_cases c : 0 ≤ r
    · rw [if_pos c] at h0 ⊢
      have h1 := ih (g k r) h0
      have h2 : 0 ≤ g k r := by rw [h1] at h0; omega
      rw [h1, h k r h2, szL_cons]
      omega
    · rw [if_neg c] at h0
      exact absurd h0 c
theorem count_sz (n lv : Nat) (t : Tr n) (r : Int) (h : 0 ≤ countT n lv t r) : countT n lv t r = r - szT n t := by
  induction n generalizing lv r with
  | zero => exact nomatch (t : Empty)
  | succ n ih =>
    obtain ⟨x, s⟩ := t
    rw [countT] at h ⊢
    by_cases c : lv = 0
    · rw [if_pos c] at h; omega
    · rw [if_neg c] at h ⊢
      rw [loopC_sz (countT n (lv - 1)) (fun k r hr => ih (lv - 1) k r hr) s.xs (r - 1) h]
      show _ = r - ((1 + szL s.xs : Nat) : Int)
      omega

theorem frozen_new (w : World) (cs : Array Value) (ty : TypeId) (i : Nat) : (w.alloc (.cells cs ty)).frozen? ⟨w.heap.size, i, none⟩ = false := by
  simp [go_sem]

end Go.Proofs.Ytihmdcdifakepab.Sc

/- The program's places: a set of numbers in a map; take. -/
namespace Go.Proofs.Ytihmdcdifakepab.Sc
open Go.RowKit Go.Maps
set_option linter.unusedVariables false

/-- the set of these numbers -/
def setD (L : List Int) : DataW Unit := setOf (.agg []) (L.map (Lit.int .i64))

theorem any_int (x : Int) : ∀ l : List Int, l.any ((fun y : Lit => y.sameKey (.int .i64 x)) ∘ Lit.int .i64) = l.contains x
  | [] => rfl
  | a :: r => by
    rw [List.any_cons, List.contains_cons, any_int x r]
    congr 1
    show decide (IntKind.i64 = IntKind.i64 ∧ a = x) = (x == a)
    by_cases e : a = x
    · subst e
      simp
    · have e' : ¬ x = a := fun h => e h.symm
      simp [e, e']
theorem has_setD (L : List Int) (x : Int) : Maps.has (setD L) (.int .i64 x) = L.contains x := by
  unfold setD
  rw [has_setOf _ _ _ (fun y hy => by obtain ⟨_, _, rfl⟩ := List.mem_map.1 hy; trivial), List.any_map]
  exact any_int x _
theorem setD_new (L : List Int) (x : Int) : (setD L).put (.int .i64 x) (.agg []) = setD (L ++ [x]) := by
  unfold setD
  rw [List.map_append, List.map_singleton, setOf_snoc]

theorem law3 : Keyed Try.prog 3 := int_keyed Try.underlying3
theorem zero110 (w : World) : (zeroValue 94).run Try.prog w = .ok (.agg #[]) w := by kernel_rfl

/-- a set of numbers in the map at b -/
def SetAt (w : World) (b m : Nat) (L : List Int) : Prop := w.ownsMap Try.prog 3 (unitElem (H := Unit)) b m (setD L)

theorem SetAt.lt {w : World} {b m : Nat} {L : List Int} (h : SetAt w b m L) : b < w.heap.size := World.ownsMap.lt h
theorem SetAt.kept {w w' : World} {b m : Nat} {L : List Int} {S : Nat → Prop} (h : SetAt w b m L) (hc : Chg S w w') (hs : ¬ S b) : SetAt w' b m L := by
  have hlt := h.lt
  obtain ⟨es, clock, hb, F, h1, h2⟩ := h
  exact ⟨es, clock, (hc.block b hlt hs).trans hb, F, h1, h2⟩
theorem SetAt.mono {w : World} {b m m' : Nat} {L : List Int} (h : SetAt w b m L) (hm : m ≤ m') : SetAt w b m' L := World.ownsMap.mono h hm
theorem SetAt.made (w : World) : SetAt (w.alloc (.map #[] 0)) w.heap.size 0 [] := World.ownsMap_made _ _ _ _

set_option maxRecDepth 100000 in
theorem take_any (b m : Nat) (L : List Int) (a : Int) (w : World) (h : SetAt w b m L) (hm : m ≤ 1000000) (hwf : (Lit.int .i64 a).wf = true) :
    Calls Try.prog 24 #[.map (some b), .int .i64 a] w fun e w' => e = .returned (.bool (!L.contains a)) ∧ SetAt w' b (m + 1) (L ++ [a]) ∧ Chg (fun k => k = b) w w' := by
  have hkey : keyOf Try.prog 3 (.int .i64 a) = some (.int .i64 a) := keyOf_int_mk Try.underlying3 hwf
  have HH : Hid (SetAt w b m L) := h
  have hown : w.ownsMap Try.prog 3 (unitElem (H := Unit)) b m (setD L) := h
  have hmm : m < maxLen := by unfold maxLen; omega
  have hu : Try.prog.underlying 60 = some (.map 3 94) := Try.underlying60
  have HC : Hid (Maps.has (setD L) (.int .i64 a) = L.contains a) := has_setD L a
  clear h
  go_enter Try.func24, Try.ntmps24
  go_wp2_with (first
    | (at_lookup; refine wpList_lookup_own_unit _ rfl _ _ 60 rfl 3 94 law3 hu (zero110 _) b m _ rfl hown _ _ rfl hkey ?_)
    | (at_mapUpdate; refine wpList_mapUpdate_own _ rfl _ _ _ 60 rfl 3 94 law3 hu (unitElem (H := Unit)) b m _ rfl (hown.alloc _) hmm _ _ _ rfl rfl hkey _ [] unitElem_mk ?_; intro w1 hown1 hgrow1))
  have HB : Hid (Chg (fun k => k = b) w w1) := (Chg.of_below ((Below.refl w.heap.size w).alloc (Nat.le_refl _) _)).trans (Chg.of_grown (S := fun k => k = b) hgrow1 (fun k e => by cases e; rfl)) (fun _ _ q => q)
  have HS : Hid (SetAt w1 b (m + 1) (L ++ [a])) := by
    have := hown1
    rw [setD_new] at this
    exact this
  clear hown1 hgrow1
  go_ret
  rw [HC.out]
  exact ⟨rfl, HS.out, HB.out⟩
end Go.Proofs.Ytihmdcdifakepab.Sc
