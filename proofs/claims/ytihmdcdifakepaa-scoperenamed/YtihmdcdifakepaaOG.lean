/- ScopeRenamed: the two told, and their names taken away. -/
import Derived.Test.YtihmdcdifakepaaOF
namespace Go.Proofs.Ytihmdcdifakepaa.Rv
open Go.RowKit Go.Proofs.Ytihmdcdifakepaa.Sc Go.Proofs.Ytihmdcdifakepaa.Rz
set_option linter.unusedVariables false
set_option linter.unusedSimpArgs false

theorem all2_map {α β : Type} {R S : α → β → Prop} (h : ∀ a b, R a b → S a b) : ∀ {l : List α} {k : List β}, All2 R l k → All2 S l k
  | [], [], _ => trivial
  | a :: l, b :: k, q => ⟨h a b q.1, all2_map h q.2⟩
  | [], b :: k, q => q.elim
  | a :: l, [], q => q.elim

/-- a right tree with few levels, whose names are as short -/
theorem cut_sh (W : World) (N : Nat) : ∀ (lv n : Nat) (t : Tr n) (r : Nat), (holdsT n lv t r).1 = true → ∃ u : Tr lv, Lk W n lv t u ∧ (shT N n t → shT N lv u)
  | lv, 0, t, r, h => nomatch (t : Empty)
  | 0, n + 1, (x, s), r, h => by
    have h : (if r = 0 ∨ 0 = 0 then (false, r) else loopH (holdsT n (0 - 1)) s.xs (r - 1)).1 = true := h
    simp at h
  | lv + 1, n + 1, (x, s), r, h => by
    have h : (if r = 0 ∨ lv + 1 = 0 then (false, r) else loopH (holdsT n (lv + 1 - 1)) s.xs (r - 1)).1 = true := h
    split at h
    · cases h
    · obtain ⟨k, hk⟩ := all2_of (R := fun a b => Lk W n lv a b ∧ (shT N n a → shT N lv b)) s.xs (fun a ha => by
        obtain ⟨r', hr⟩ := loopH_all lv s.xs _ h a ha
        exact cut_sh W N lv n a r' hr)
      refine ⟨_, lk_node (all2_map (fun a b q => q.1) hk), fun hs => ⟨hs.1, fun b hb => ?_⟩⟩
      obtain ⟨a, ha, hq⟩ := hk.mem hb
      exact hq.2 (hs.2 a ha)

theorem cut_root2 (W : World) (N n : Nat) (t : Tr n) (hok : okT n W t) (hs : shT N n t) (h : rootP n t = true) : ∃ u : Tr 300, valT 300 u = valT n t ∧ okT 300 W u ∧ rootP 300 u = true ∧ shT N 300 u := by
  cases n with
  | zero => exact nomatch (t : Empty)
  | succ n =>
    obtain ⟨x, s⟩ := t
    have h' : (x.kind == 47 && (holdsT (n + 1) 300 ((x, s) : Nd × Sli (Tr n)) 131072).1 && (rightP (kidT n) (partP n) x s.xs false ([], [])).isSome) = true := h
    simp only [Bool.and_eq_true] at h'
    obtain ⟨⟨h1, h2⟩, h3⟩ := h'
    obtain ⟨k, hk⟩ := all2_of (R := fun a b => Lk W n 299 a b ∧ (shT N n a → shT N 299 b)) s.xs (fun a ha => by
      have h2 : (if 131072 = 0 ∨ 300 = 0 then (false, 131072) else loopH (holdsT n (300 - 1)) s.xs (131072 - 1)).1 = true := h2
      split at h2
      · cases h2
      · obtain ⟨r', hr⟩ := loopH_all 299 s.xs _ h2 a ha
        exact cut_sh W N 299 n a r' hr)
    have hk1 := all2_map (fun a b (q : Lk W n 299 a b ∧ (shT N n a → shT N 299 b)) => q.1) hk
    have hl := lk_node (x := x) hk1
    refine ⟨((x, ⟨s.at', s.cap, k⟩) : Nd × Sli (Tr 299)), hl.val, hl.ok hok, ?_, hs.1, fun b hb => ?_⟩
    · show (x.kind == 47 && (holdsT 300 300 ((x, ⟨s.at', s.cap, k⟩) : Nd × Sli (Tr 299)) 131072).1 && (rightP (kidT 299) (partP 299) x k false ([], [])).isSome) = true
      simp only [Bool.and_eq_true]
      refine ⟨⟨h1, ?_⟩, ?_⟩
      · exact (congrArg Prod.fst (hl.hd 300 131072)).trans h2
      · rw [right_same hk1]; exact h3
    · obtain ⟨a, ha, hq⟩ := hk.mem hb
      exact hq.2 (hs.2 a ha)

theorem res_bound2 {n : Nat} {x : Nd} {sl : Sli (Tr n)} {s : Rz.RS} (hsz : szT (n + 1) ((x, sl) : Nd × Sli (Tr n)) ≤ 131072) (hR : resolveP bi (n + 1) ((x, sl) : Nd × Sli (Tr n)) = .ok s) : s.scopes.length ≤ 2000000 ∧ s.vars.length ≤ 2000000 ∧ s.uses.length ≤ 2000000 := by
  have hcr : cr s ≤ 1 + 8 * (sl.xs.map (szT n)).sum := by
    have := cr_block (ndR n) (szT n) (cr_res bi n).1 sl.xs (startP x.pl) s hR
    have e1 : cr (startP x.pl) = 1 := rfl
    omega
  have hsum : szT (n + 1) ((x, sl) : Nd × Sli (Tr n)) = 1 + (sl.xs.map (szT n)).sum := rfl
  have hc2 : cr s ≤ 1048577 := by omega
  unfold cr at hc2
  exact ⟨by omega, by omega, by omega⟩

theorem root_size2 {n : Nat} {x : Nd} {s : Sli (Tr n)} (h : rootP (n + 1) ((x, s) : Nd × Sli (Tr n)) = true) : szT (n + 1) ((x, s) : Nd × Sli (Tr n)) ≤ 131072 := by
  have h' : (x.kind == 47 && (holdsT (n + 1) 300 ((x, s) : Nd × Sli (Tr n)) 131072).1 && (rightP (kidT n) (partP n) x s.xs false ([], [])).isSome) = true := h
  simp only [Bool.and_eq_true] at h'
  obtain ⟨⟨_, h2⟩, _⟩ := h'
  have h5 := (holds_count (n + 1) ((x, s) : Nd × Sli (Tr n)) 131072 300).symm.trans h2
  have h6 := of_decide_eq_true h5
  have h7 := count_sz (n + 1) 300 _ _ h6
  rw [h7] at h6
  omega

def nn (v : Rz.Vr) : Rz.Vr := { v with name := ⟨#[]⟩ }
def half (k : Nat) (l : List Rz.Vr) : List Rz.Vr := (l.take k).map nn ++ l.drop k

theorem half_zero (l : List Rz.Vr) : half 0 l = l := by unfold half; simp
theorem half_end {k : Nat} {l : List Rz.Vr} (h : l.length ≤ k) : half k l = l.map nn := by unfold half; rw [List.take_of_length_le h, List.drop_of_length_le h, List.append_nil]
theorem half_len (k : Nat) (l : List Rz.Vr) : (half k l).length = l.length := by
  unfold half
  rw [List.length_append, List.length_map, ← List.length_append, List.take_append_drop]
theorem half_get {k : Nat} {l : List Rz.Vr} {v : Rz.Vr} (h : l[k]? = some v) : (half k l)[k]? = some v ∧ half (k + 1) l = (half k l).set k (nn v) := by
  have hk : k < l.length := (List.getElem?_eq_some_iff.1 h).1
  have hl : ((l.take k).map nn).length = k := by simp; omega
  have hd : l.drop k = v :: l.drop (k + 1) := by
    rw [List.drop_eq_getElem_cons hk]
    congr 1
    exact (List.getElem?_eq_some_iff.1 h).2
  unfold half
  refine ⟨?_, ?_⟩
  · rw [List.getElem?_append_right (by omega), hl, hd]
    simp
  · rw [List.take_add_one, h, List.set_append_right _ _ (by omega), hl, hd]
    simp

/-- two that were told, in one world -/
structure Tw (B1 B2 : Nat) (v0 v1 v2 u0 u1 u2 : Value) (sc : List Rz.Scp) (va vb : List Rz.Vr) (us : List Rz.Us) (W : World) : Prop where
  r0 : OwnR scpC 4 42 B1 W v0 sc
  r1 : OwnR vrC 6 45 B1 W v1 va
  r2 : OwnR usC 2 47 B1 W v2 us
  s0 : OwnR scpC 4 42 B2 W u0 sc
  s1 : OwnR vrC 6 45 B2 W u1 vb
  s2 : OwnR usC 2 47 B2 W u2 us

/-- unlike blocks -/
structure Ap6 (v0 v1 v2 u0 u1 u2 : Value) : Prop where
  a : ∀ b, v1.ownBlock = some b → ¬ v0.ownBlock = some b ∧ ¬ v2.ownBlock = some b ∧ ¬ u0.ownBlock = some b ∧ ¬ u1.ownBlock = some b ∧ ¬ u2.ownBlock = some b
  b : ∀ b, u1.ownBlock = some b → ¬ u0.ownBlock = some b ∧ ¬ u2.ownBlock = some b ∧ ¬ v0.ownBlock = some b ∧ ¬ v1.ownBlock = some b ∧ ¬ v2.ownBlock = some b

theorem own_ne {v : Value} {g : Nat} (h : ¬ v.ownBlock = some g) : ∀ b, v.ownBlock = some b → b ≠ g := fun b q e => h (by rw [← e]; exact q)

theorem Tw.step {B1 B2 : Nat} {v0 v2 u0 u2 : Value} {g1 n1 c1 g2 n2 c2 : Nat} {sc : List Rz.Scp} {va vb : List Rz.Vr} {us : List Rz.Us} {W : World} {k : Nat} {x y : Rz.Vr} (h : Tw B1 B2 v0 (.slice (some ⟨g1, 0, none⟩) n1 c1) v2 u0 (.slice (some ⟨g2, 0, none⟩) n2 c2) u2 sc (half k va) (half k vb) us W) (ap : Ap6 v0 (.slice (some ⟨g1, 0, none⟩) n1 c1) v2 u0 (.slice (some ⟨g2, 0, none⟩) n2 c2) u2) (hx : va[k]? = some x) (hy : vb[k]? = some y) :
    Tw B1 B2 v0 (.slice (some ⟨g1, 0, none⟩) n1 c1) v2 u0 (.slice (some ⟨g2, 0, none⟩) n2 c2) u2 sc (half (k + 1) va) (half (k + 1) vb) us ((W.setCell ⟨g1, k * 6, none⟩ (.string ⟨#[]⟩)).setCell ⟨g2, k * 6, none⟩ (.string ⟨#[]⟩)) := by
  obtain ⟨p1, p2⟩ := half_get hx
  obtain ⟨q1, q2⟩ := half_get hy
  obtain ⟨a0, a2, a3, a4, a5⟩ := ap.a g1 rfl
  obtain ⟨b0, b2, b3, b4, b5⟩ := ap.b g2 rfl
  have t1 := h.r1.put (fun y => (rfl : (vrC y).length = 6)) (i := k) (j := 0) (y' := nn x) (u := .string ⟨#[]⟩) p1 (by omega) rfl
  have t2 := (h.s1.set (a := ⟨g1, k * 6 + 0, none⟩) (own_ne a4) (.string ⟨#[]⟩)).put (fun y => (rfl : (vrC y).length = 6)) (i := k) (j := 0) (y' := nn y) (u := .string ⟨#[]⟩) q1 (by omega) rfl
  rw [← p2] at t1
  rw [← q2] at t2
  rw [Nat.add_zero] at t1 t2
  exact ⟨(h.r0.set (a := ⟨g1, k * 6, none⟩) (own_ne a0) _).set (a := ⟨g2, k * 6, none⟩) (own_ne b3) _, t1.set (a := ⟨g2, k * 6, none⟩) (own_ne b4) _, (h.r2.set (a := ⟨g1, k * 6, none⟩) (own_ne a2) _).set (a := ⟨g2, k * 6, none⟩) (own_ne b5) _, (h.s0.set (a := ⟨g1, k * 6, none⟩) (own_ne a3) _).set (a := ⟨g2, k * 6, none⟩) (own_ne b0) _, t2, (h.s2.set (a := ⟨g1, k * 6, none⟩) (own_ne a5) _).set (a := ⟨g2, k * 6, none⟩) (own_ne b2) _⟩

/-- what both Resolves tell -/
structure ReQ (sc : List Rz.Scp) (va vb : List Rz.Vr) (us : List Rz.Us) : Prop where
  len : vb.length = va.length
  nn' : vb.map nn = va.map nn
  m0 : sc.length ≤ 2000000
  m1 : va.length ≤ 2000000
  m2 : us.length ≤ 2000000

def ToO (w : World) (sc : List Rz.Scp) (va : List Rz.Vr) (us : List Rz.Us) (a c : Int) (e : Ending) (w' : World) : Prop :=
  Below w.heap.size w w' ∧ ∃ v0 v1 v2, e = .returned (.tuple #[.agg #[v0, v1, v2], .int .i64 a, .int .i64 c]) ∧ OwnR scpC 4 42 w.heap.size w' v0 sc ∧ OwnR vrC 6 45 w.heap.size w' v1 va ∧ OwnR usC 2 47 w.heap.size w' v2 us ∧ ∀ b, v1.ownBlock = some b → ¬ v0.ownBlock = some b ∧ ¬ v2.ownBlock = some b

end Go.Proofs.Ytihmdcdifakepaa.Rv
