/- ScopeCaptured: of each name that is used, the function that uses it. -/
import Derived.Test.YtihmdcdifakepabB14
import Derived.Test.YtihmdcdifakepabRN
namespace Go.Proofs.Ytihmdcdifakepab.Rv
open Go.RowKit Go.Proofs.Ytihmdcdifakepab.Sc Go.Proofs.Ytihmdcdifakepab.Rz
set_option linter.unusedVariables false
set_option linter.unusedSimpArgs false

theorem row_len2 {β : Type} {enc : β → List Value} {k : Nat} {e : TypeId} {B : Nat} {w : World} {v : Value} {xs : List β} (h : OwnR enc k e B w v xs) : ∃ p q, v = .slice p xs.length q := by
  obtain ⟨ad, cap, e1, _⟩ := own_slice h
  exact ⟨ad, cap, e1⟩

def ioC (x : Nat) : List Value := [.int .i64 (x : Int)]
theorem rtIo : RT ioC 36 3 1 8 := ⟨fun _ => rfl, Try.underlying36, rt_inf (z := .int .i64 0) (by kernel_rfl) rfl, by decide, fun y u h => by simp [ioC] at h; subst h; rfl⟩

theorem fold_snoc {α : Type} (f : α → Nat → Nat → List Nat × Nat) (fn : Nat) : ∀ (l : List α) (k : α) (c : Nat), foldOwn f fn (l ++ [k]) c = ((foldOwn f fn l c).1 ++ (f k fn (foldOwn f fn l c).2).1, (f k fn (foldOwn f fn l c).2).2)
  | [], k, c => by simp [foldOwn]
  | x :: l, k, c => by
    rw [List.cons_append, foldOwn, fold_snoc f fn l k]
    simp [foldOwn, List.append_assoc]

theorem fold_bound {α : Type} {f : α → Nat → Nat → List Nat × Nat} {sz : α → Nat} (h : ∀ a fn c, (f a fn c).1.length ≤ sz a ∧ (f a fn c).2 ≤ c + sz a) (fn : Nat) : ∀ (l : List α) (c : Nat), (foldOwn f fn l c).1.length ≤ (l.map sz).sum ∧ (foldOwn f fn l c).2 ≤ c + (l.map sz).sum
  | [], c => by simp [foldOwn]
  | k :: l, c => by
    have h1 := h k fn c
    have h2 := fold_bound h fn l (f k fn c).2
    simp only [foldOwn, List.length_append, List.map_cons, List.sum_cons]
    omega

theorem sum_drop_le {α : Type} (sz : α → Nat) (l : List α) (k : Nat) : ((l.drop k).map sz).sum ≤ (l.map sz).sum := by
  have := sum_take_drop sz l k
  omega

theorem own_bound : ∀ (n : Nat) (t : Tr n) (fn c : Nat), (ownersT n t fn c).1.length ≤ szT n t ∧ (ownersT n t fn c).2 ≤ c + szT n t
  | 0, t, fn, c => nomatch (t : Empty)
  | n + 1, (x, s), fn, c => by
    have hsz : szT (n + 1) ((x, s) : Nd × Sli (Tr n)) = 1 + (s.xs.map (szT n)).sum := rfl
    rw [hsz]
    simp only [ownersT]
    split
    · simp
    · split
      · have h1 := fold_bound (sz := szT n) (own_bound n) (c + 1) (s.xs.drop (s.xs.length - 1)) (c + 1)
        have h2 := sum_drop_le (szT n) s.xs (s.xs.length - 1)
        omega
      · have h1 := fold_bound (sz := szT n) (own_bound n) fn s.xs c
        omega

/-- what owners leaves -/
def OwO (W0 w : World) (cb : Nat) (v : Value) (l' : List Nat) (c' : Nat) (e : Ending) (w' : World) : Prop :=
  ∃ p q, e = .returned (.slice p l'.length q) ∧ OwnR ioC 1 3 W0.heap.size w' (.slice p l'.length q) l' ∧ w'.heap[cb]? = some (.cells #[.int .i64 (c' : Int)] 40 (0, 0)) ∧ Chg (fun b => b = cb ∨ v.ownBlock = some b) w w' ∧ ∀ b, (Value.slice p l'.length q).ownBlock = some b → v.ownBlock = some b ∨ w.heap.size ≤ b

/-- owners, of trees of n levels -/
def OwC (W0 : World) (n : Nat) : Prop := ∀ (t : Tr n), okF n W0 t → szT n t ≤ 131072 → ∀ (w : World) (cb fn c : Nat) (v : Value) (l : List Nat), Below W0.heap.size W0 w → W0.heap.size ≤ cb → w.heap[cb]? = some (.cells #[.int .i64 (c : Int)] 40 (0, 0)) → OwnR ioC 1 3 W0.heap.size w v l → ¬ v.ownBlock = some cb → l.length + szT n t ≤ 300000 → c + szT n t ≤ 300000 →
  Calls Try.prog 6 #[valT n t, .int .i64 (fn : Int), .pointer (some ⟨cb, 0, none⟩), v] w (OwO W0 w cb v (l ++ (ownersT n t fn c).1) (ownersT n t fn c).2)

/-- those up to k were gone through -/
structure OwAt (W0 : World) (n : Nat) (ks : List (Tr n)) (w1 : World) (cb fn c : Nat) (v : Value) (l : List Nat) (k : Nat) (lv : Value) (wr : World) : Prop where
  le : k ≤ ks.length
  ch : Chg (fun b => b = cb ∨ v.ownBlock = some b) w1 wr
  row : OwnR ioC 1 3 W0.heap.size wr lv (l ++ (foldOwn (ownersT n) fn (ks.take k) c).1)
  cnt : wr.heap[cb]? = some (.cells #[.int .i64 ((foldOwn (ownersT n) fn (ks.take k) c).2 : Int)] 40 (0, 0))
  sub : ∀ b, lv.ownBlock = some b → v.ownBlock = some b ∨ w1.heap.size ≤ b

theorem OwAt.start {W0 : World} {n : Nat} {ks : List (Tr n)} {w1 : World} {cb fn c : Nat} {v : Value} {l : List Nat} (h1 : OwnR ioC 1 3 W0.heap.size w1 v l) (h2 : w1.heap[cb]? = some (.cells #[.int .i64 (c : Int)] 40 (0, 0))) : OwAt W0 n ks w1 cb fn c v l 0 v w1 :=
  ⟨Nat.zero_le _, Chg.refl _ _, by simpa [foldOwn] using h1, by simpa [foldOwn] using h2, fun b q => Or.inl q⟩

theorem OwAt.step {W0 : World} {n : Nat} (ih : OwC W0 n) {ks : List (Tr n)} {w1 : World} {cb fn c : Nat} {v : Value} {l : List Nat} {k : Nat} {lv : Value} {wr wp : World} (h : OwAt W0 n ks w1 cb fn c v l k lv wr) {t : Tr n} (ht : ks[k]? = some t) (hok : okF n W0 t) (hbel : Below W0.heap.size W0 w1) (hcb : W0.heap.size ≤ cb) (hv : ∀ b, v.ownBlock = some b → W0.heap.size ≤ b) (hcl : cb < w1.heap.size) (hvc : ¬ v.ownBlock = some cb) (hp : Below wr.heap.size wr wp) (hsz : (ks.map (szT n)).sum ≤ 131072) (hl : l.length + (ks.map (szT n)).sum ≤ 300000) (hc : c + (ks.map (szT n)).sum ≤ 300000) :
    Calls Try.prog 6 #[valT n t, .int .i64 (fn : Int), .pointer (some ⟨cb, 0, none⟩), lv] wp fun e w' => ∃ p q, e = .returned (.slice p (l ++ (foldOwn (ownersT n) fn (ks.take (k + 1)) c).1).length q) ∧ OwAt W0 n ks w1 cb fn c v l (k + 1) (.slice p (l ++ (foldOwn (ownersT n) fn (ks.take (k + 1)) c).1).length q) w' := by
  have hk : k < ks.length := (List.getElem?_eq_some_iff.1 ht).1
  have htk : ks.take (k + 1) = ks.take k ++ [t] := by rw [List.take_add_one, ht]; rfl
  have hfs := fold_snoc (ownersT n) fn (ks.take k) t c
  rw [← htk] at hfs
  have hb := fold_bound (sz := szT n) (own_bound n) fn (ks.take k) c
  have hs1 : ((ks.take k).map (szT n)).sum + szT n t ≤ (ks.map (szT n)).sum := by
    have := sum_take_drop (szT n) ks (k + 1)
    rw [htk, List.map_append, List.sum_append, List.map_cons, List.map_nil, List.sum_cons, List.sum_nil] at this
    omega
  have hbw : Below W0.heap.size W0 wp := by
    have q := h.ch.below hbel hbel.size (fun b q => by exact q.elim (fun e => by omega) (fun e => hv b e))
    exact q.trans (hp.mono q.size)
  have hw1r := h.ch.size
  refine (ih t hok (by omega) wp cb fn _ lv _ hbw hcb ((hp.block cb (by omega)).trans h.cnt) (h.row.below hp) (fun q => ?_) (by rw [List.length_append]; omega) (by omega)).mono ?_
  · rcases h.sub cb q with r | r
    · exact hvc r
    · omega
  · rintro e w' ⟨p, q, he, h1, h2, h3, h4⟩
    have e1 : l ++ (foldOwn (ownersT n) fn (ks.take (k + 1)) c).1 = (l ++ (foldOwn (ownersT n) fn (ks.take k) c).1) ++ (ownersT n t fn (foldOwn (ownersT n) fn (ks.take k) c).2).1 := by
      rw [hfs, List.append_assoc]
    have e2 : (foldOwn (ownersT n) fn (ks.take (k + 1)) c).2 = (ownersT n t fn (foldOwn (ownersT n) fn (ks.take k) c).2).2 := by rw [hfs]
    have hr2 : wr.heap.size ≤ wp.heap.size := hp.size
    refine ⟨p, q, by rw [e1]; exact he, hk, ?_, by rw [e1]; exact h1, by rw [e2]; exact h2, fun b r => ?_⟩
    · refine (h.ch.trans (Chg.of_below hp) (fun _ _ (q : _ = cb ∨ v.ownBlock = some _) => q)).trans h3 (fun a ha r => ?_)
      rcases r with r | r
      · exact Or.inl r
      · rcases h.sub a r with r | r
        · exact Or.inr r
        · omega
    · rw [e1] at r
      rcases h4 b r with r | r
      · exact h.sub b r
      · exact Or.inr (by omega)

theorem OwAt.last {W0 : World} {n : Nat} {ks : List (Tr n)} {w1 : World} {cb fn c : Nat} {v : Value} {l : List Nat} {k : Nat} {lv : Value} {wr : World} (h : OwAt W0 n ks w1 cb fn c v l k lv wr) (hk : ks.length ≤ k) : OwnR ioC 1 3 W0.heap.size wr lv (l ++ (foldOwn (ownersT n) fn ks c).1) ∧ wr.heap[cb]? = some (.cells #[.int .i64 ((foldOwn (ownersT n) fn ks c).2 : Int)] 40 (0, 0)) := by
  have h1 := h.row
  have h2 := h.cnt
  rw [List.take_of_length_le hk] at h1 h2
  exact ⟨h1, h2⟩

/-- the last of a row -/
theorem run_last (w : World) (b off m kc : Nat) (h : m + 1 ≤ kc) (hk : kc ≤ maxLen) : (Instr.slice 23 (.slice (some ⟨b, off, none⟩) (m + 1) kc) (some (.int .i64 (m : Int))) none none).run Try.prog w = .ok (.slice (some ⟨b, off + m * 6, none⟩) 1 (kc - m)) w := by
  have h1 : (m : Int) ≤ (m : Int) + 1 := by omega
  have h2 : (0 : Int) ≤ (m : Int) := by omega
  have h3 : m ≤ m + 1 := by omega
  have h4 : ¬ (kc = 0) := by omega
  have h5 : m ≤ kc := by omega
  have h6 : ¬ (kc - m = 0) := by omega
  have h7 : ((m : Int) + 1 - (m : Int)) = 1 := by omega
  have h8 : (kc : Int).toNat = kc := by omega
  have h9 : ¬ kc ≤ m := by omega
  simp [Instr.slice, Instr.sliceBounds, Instr.sliceBound, asIntOf, run_underlying Try.underlying23, go_sem, h1, h2, h3, h4, h5, h6, h7, h9]
  omega

theorem kids_last {n : Nat} {w : World} {b off kc : Nat} {l : List (Tr n)} {t : Tr n} (h : Sli.ok (encT n) 6 w ⟨some ⟨b, off, none⟩, kc, l ++ [t]⟩) : Sli.ok (encT n) 6 w ⟨some ⟨b, off + l.length * 6, none⟩, kc - l.length, [t]⟩ := by
  have h1 := h.len
  have h2 := h.cap
  simp only [List.length_append, List.length_singleton] at h1 h2
  refine ⟨by simp only [List.length_singleton]; omega, by simp only; omega, fun h0 => ?_⟩
  obtain ⟨b', off', e1, hc⟩ := h.cells (by simp)
  cases e1
  refine ⟨b, off + l.length * 6, rfl, fun i y hi j u hj => ?_⟩
  cases i with
  | zero =>
    obtain rfl := Option.some.inj hi
    have := hc l.length t (by simp) j u hj
    rw [Nat.zero_mul, Nat.add_zero]
    exact this
  | succ i =>
    have hi : (none : Option (Tr n)) = some y := hi
    cases hi

end Go.Proofs.Ytihmdcdifakepab.Rv
