/- The resolver's walk: a function's parameters. -/
import Derived.Test.YtihmdcdifakepabNG
import Derived.Test.YtihmdcdifakepabB12
namespace Go.Proofs.Ytihmdcdifakepab.Rv
open Go.RowKit Go.Proofs.Ytihmdcdifakepab.Sc Go.Proofs.Ytihmdcdifakepab.Rz
set_option linter.unusedVariables false
set_option linter.unusedSimpArgs false

theorem pars_app {α : Type} (nd : α → Nd) : ∀ (l : List α) (k : α) (r : List α) (s s1 : Rz.RS), parsP nd l s = .ok s1 → parsP nd (l ++ k :: r) s = (declP (nd k).name (nd k).pl 3 s1).bind (parsP nd r)
  | [], k, r, s, s1, e => by
    unfold parsP at e
    obtain rfl := Except.ok.inj e
    rfl
  | x :: l, k, r, s, s1, e => by
    unfold parsP at e
    obtain ⟨s2, e1, e2⟩ := bind_ok e
    rw [List.cons_append, parsP, e1]
    exact pars_app nd l k r s2 s1 e2

/-- those up to i were declared -/
structure PaAt (W0 : World) (n : Nat) (w : World) (rb : Nat) (O : Nat → Prop) (s : Rz.RS) (v6 : Value) (xs : List (Tr n)) (i : Nat) (wr : World) : Prop where
  le : i ≤ xs.length
  went : ∃ s1, parsP (ndR n) (xs.take i) s = .ok s1 ∧ (∃ O1, On W0 rb O1 s1 v6 wr ∧ Chg O w wr ∧ (∀ b, O1 b → O b ∨ w.heap.size ≤ b)) ∧ cr s1 ≤ cr s + 2 * i ∧ s1.blocks.length = s.blocks.length ∧ s1.labels = s.labels ∧ s1.loops = s.loops ∧ s1.fn = s.fn

theorem PaAt.start {W0 : World} {n : Nat} {w : World} {rb : Nat} {O : Nat → Prop} {s : Rz.RS} {v6 : Value} {xs : List (Tr n)} (h : On W0 rb O s v6 w) : PaAt W0 n w rb O s v6 xs 0 w :=
  ⟨Nat.zero_le _, s, rfl, ⟨O, h, Chg.refl _ _, fun b q => Or.inl q⟩, by omega, rfl, rfl, rfl, rfl⟩
theorem PaAt.bel {W0 : World} {n : Nat} {w : World} {rb : Nat} {O : Nat → Prop} {s : Rz.RS} {v6 : Value} {xs : List (Tr n)} {i : Nat} {wr : World} (h : PaAt W0 n w rb O s v6 xs i wr) : Below W0.heap.size W0 wr := by
  obtain ⟨hle, s1, e1, ⟨O1, o1, o2, o3⟩, _⟩ := h
  exact o1.bel

/-- one more is declared -/
theorem PaAt.step {W0 : World} {n : Nat} {w : World} {rb : Nat} {O : Nat → Prop} {s : Rz.RS} {v6 : Value} {xs : List (Tr n)} {i : Nat} {wr wb : World} (h : PaAt W0 n w rb O s v6 xs i wr) {t : Tr n} (ht : xs[i]? = some t) (hb : Below wr.heap.size wr wb) (hbud : cr s + 2 * xs.length + 1 ≤ lim) (hd : dp s + 1 ≤ lim) (hne : 1 ≤ s.blocks.length) (hs : (ndR n t).name.size ≤ maxLen) (kind num : Int) (op : ByteArray) (kv : Value) :
    Calls Try.prog 28 #[.pointer (some ⟨rb, 0, none⟩), .agg #[.int .i64 kind, .int .i64 (ndR n t).pl, .string (ndR n t).name, .int .u64 num, .string op, kv], .int .i64 3] wb fun e w' => (e = .returned (.tuple #[]) ∧ PaAt W0 n w rb O s v6 xs (i + 1) w') ∨ ∃ er, e = .panicked (thrown er) ∧ parsP (ndR n) xs s = .error er ∧ Chg O w w' := by
  have hil : i < xs.length := (List.getElem?_eq_some_iff.1 ht).1
  obtain ⟨hle, s1, e1, ⟨O1, o1, o2, o3⟩, b1, b2, b3, b4, b5⟩ := h
  obtain ⟨c0, cs, hbs⟩ : ∃ c0 cs, s1.blocks = c0 :: cs := by
    cases hq : s1.blocks with
    | nil => rw [hq] at b2; simp at b2; omega
    | cons a b => exact ⟨a, b, rfl⟩
  have hbg : bg s1 < 1000000000 := by
    have hdp : dp s1 = dp s := by unfold dp; rw [b2, b3, b4]
    have := bg_of (s := s1) (by omega) (by omega)
    unfold cr dp bg lim at *
    omega
  have hc2 : Chg O w wb := o2.trans (Chg.of_below hb) (fun _ _ (q : O _) => q)
  have hsub : ∀ a, a < w.heap.size → O1 a → O a := fun a ha q => by
    rcases o3 a q with c | c
    · exact c
    · omega
  refine (declare_any wb W0.heap.size rb O1 s1 v6 (o1.below hb).mem hbg c0 cs hbs kind (ndR n t).pl num (ndR n t).name op kv hs 3).mono ?_
  intro e w' ho
  have hdr : xs.drop i = t :: xs.drop (i + 1) := by
    rw [List.drop_eq_getElem_cons hil]
    congr 1
    exact (List.getElem?_eq_some_iff.1 ht).2
  have hsp : xs = xs.take i ++ t :: xs.drop (i + 1) := by rw [← hdr, List.take_append_drop]
  have hea := pars_app (ndR n) (xs.take i) t (xs.drop (i + 1)) s s1 e1
  rw [← hsp] at hea
  cases hr : declP (ndR n t).name (ndR n t).pl 3 s1 with
  | error er =>
    rw [hr] at ho hea
    obtain ⟨rfl, g2⟩ := ho
    exact Or.inr ⟨er, rfl, hea, hc2.trans g2 hsub⟩
  | ok s2 =>
    rw [hr] at ho
    obtain ⟨rfl, g2⟩ := ho
    obtain ⟨O2, k1, k2, k3⟩ := (o1.below hb).went g2
    obtain ⟨p1, p2, p3, p4⟩ := decl_keeps hr
    have hcr := cr_decl _ _ _ s1 s2 hr
    refine Or.inl ⟨rfl, hil, s2, ?_, ⟨O2, k1, hc2.trans k2 hsub, fun b q => ?_⟩, by omega, by rw [p1, b2], by rw [p2, b3], by rw [p3, b4], by rw [p4, b5]⟩
    · have htk : xs.take (i + 1) = xs.take i ++ t :: [] := by rw [List.take_add_one, ht]; rfl
      rw [htk, pars_app (ndR n) (xs.take i) t [] s s1 e1, hr]
      rfl
    · rcases k3 b q with c | c
      · exact o3 b c
      · exact Or.inr (Nat.le_trans hc2.size c)
end Go.Proofs.Ytihmdcdifakepab.Rv

/- The resolver's walk: has a function a name of its own? -/
namespace Go.Proofs.Ytihmdcdifakepab.Rv
open Go.RowKit Go.Proofs.Ytihmdcdifakepab.Sc Go.Proofs.Ytihmdcdifakepab.Rz
set_option linter.unusedVariables false
set_option linter.unusedSimpArgs false

set_option maxRecDepth 100000 in
theorem hasSelf_any (w : World) (x : Nd) (kv : Value) : Calls Try.prog 37 #[.agg #[.int .i64 x.kind, .int .i64 x.pl, .string x.name, .int .u64 x.num, .string x.op, kv]] w fun e w' => e = .returned (.bool (selfB x)) ∧ Below w.heap.size w w' := by
  obtain ⟨wb, hwb⟩ : ∃ wb, wb = w.alloc (.cells #[.int .i64 x.kind, .int .i64 x.pl, .string x.name, .int .u64 x.num, .string x.op, kv] 25) := ⟨_, rfl⟩
  have hbl : Below w.heap.size w wb := by rw [hwb]; exact below_new (Below.refl _ _) (Nat.le_refl _) _
  have hX : NdB w.heap.size x kv wb := by rw [hwb]; exact at_new _ _
  obtain ⟨a0, _, a2, _, _, _⟩ := hX.cs
  have HB : Hid (Below w.heap.size w wb) := hbl
  obtain ⟨R, hR⟩ : ∃ R, R = selfB x := ⟨_, rfl⟩
  rw [← hR]
  unfold selfB isS at hR
  have HR := (show Hid _ from hR)
  generalize x.kind = kd at *
  generalize x.name = nm at *
  clear hR hX hbl
  by_cases ck : kd = 12
  · subst ck
    by_cases cn : nm.toList = []
    · have hne : (nm.toList == []) = true := by rw [cn]; rfl
      have hR2 : R = false := by rw [HR.out]; simp [cn]
      subst hR2
      clear HR
      go_enter Try.func37, Try.ntmps37
      go_upto_region 1 with fail
      rw [← hwb]
      clear hwb
      go_wp2_with fail
      go_ret
      exact ⟨rfl, HB.out⟩
    · have hne : (nm.toList == []) = false := by simpa using cn
      have hR2 : R = true := by rw [HR.out]; simp [cn]
      subst hR2
      clear HR
      go_enter Try.func37, Try.ntmps37
      go_upto_region 1 with fail
      rw [← hwb]
      clear hwb
      go_wp2_with fail
      go_ret
      exact ⟨rfl, HB.out⟩
  · have hck : (kd == (12 : Int)) = false := by simpa using ck
    have hR2 : R = false := by rw [HR.out]; simp [ck]
    subst hR2
    clear HR
    go_enter Try.func37, Try.ntmps37
    go_upto_region 1 with fail
    rw [← hwb]
    clear hwb
    go_wp2_with fail
    go_ret
    exact ⟨rfl, HB.out⟩
end Go.Proofs.Ytihmdcdifakepab.Rv

/- The resolver's walk: into a function, and out of it. -/
namespace Go.Proofs.Ytihmdcdifakepab.Rv
open Go.RowKit Go.Proofs.Ytihmdcdifakepab.Sc Go.Proofs.Ytihmdcdifakepab.Rz
set_option linter.unusedVariables false
set_option linter.unusedSimpArgs false

/-- the function, its loops and its labels are others -/
def hereW (w : World) (rb : Nat) (f l : Nat) (v : Value) : World := ((w.setCell ⟨rb, 4, none⟩ (.int .i64 (f : Int))).setCell ⟨rb, 5, none⟩ (.int .i64 (l : Int))).setCell ⟨rb, 6, none⟩ v

section
variable {w w' : World} {B rb : Nat} {tg : Nat → Nat} {s : Rz.RS} {v0 v1 v2 v3 v6 : Value} {ms : List (Option Nat)}

theorem OwnR.here {β : Type} {enc : β → List Value} {k : Nat} {e : TypeId} {v : Value} {xs : List β} (h : OwnR enc k e B w v xs) (hn : ∀ b, v.ownBlock = some b → b ≠ rb) (f l : Nat) (u : Value) : OwnR enc k e B (hereW w rb f l u) v xs :=
  ((h.set (a := ⟨rb, 4, none⟩) hn _).set (a := ⟨rb, 5, none⟩) hn _).set (a := ⟨rb, 6, none⟩) hn _
theorem here_block (w : World) (rb f l : Nat) (u : Value) (b : Nat) (h : b ≠ rb) : (hereW w rb f l u).heap[b]? = w.heap[b]? := by
  unfold hereW
  rw [Below.heap_setCell _ _ _ _ h, Below.heap_setCell _ _ _ _ h, Below.heap_setCell _ _ _ _ h]
theorem here_chg (w : World) (rb f l : Nat) (u : Value) : Chg (fun b => b = rb) w (hereW w rb f l u) :=
  ((Chg.set (S := fun b => b = rb) w ⟨rb, 4, none⟩ _ rfl).trans (Chg.set (S := fun b => b = rb) _ ⟨rb, 5, none⟩ _ rfl) (fun _ _ q => q)).trans (Chg.set (S := fun b => b = rb) _ ⟨rb, 6, none⟩ _ rfl) (fun _ _ q => q)

theorem MemW.here (h : MemW w B rb tg s v0 v1 v2 v3 v6 ms) (f l : Nat) {v6' : Value} {xs' : List (ByteArray × Bool)} (ho : OwnR lbC 2 116 B w v6' xs') (hno : ∀ b, v6'.ownBlock = some b → b ≠ rb ∧ ¬ v0.ownBlock = some b ∧ ¬ v1.ownBlock = some b ∧ ¬ v2.ownBlock = some b ∧ ¬ v3.ownBlock = some b ∧ ∀ i : Nat, ms[i]? ≠ some (some b)) :
    MemW (hereW w rb f l v6') B rb (retag tg v6' 5) { s with fn := f, loops := l, labels := xs' } v0 v1 v2 v3 v6' ms := by
  have hrb : rb < w.heap.size := h.rlt
  have hnr : ¬ v6'.ownBlock = some rb := fun q => (hno rb q).1 rfl
  have s4 := heap_setCell_same w rb 4 _ 54 (.int .i64 (f : Int)) h.box
  have s5 := heap_setCell_same _ rb 5 _ 54 (.int .i64 (l : Int)) s4
  have hset := heap_setCell_same _ rb 6 _ 54 v6' s5
  have n0 : ∀ b, v0.ownBlock = some b → ¬ v6'.ownBlock = some b ∧ b ≠ rb := fun b q => ⟨fun e => (hno b e).2.1 q, fun e => by have h1 := h.t1 b q; have h2 := h.t0; rw [e] at h1; omega⟩
  have n1 : ∀ b, v1.ownBlock = some b → ¬ v6'.ownBlock = some b ∧ b ≠ rb := fun b q => ⟨fun e => (hno b e).2.2.1 q, fun e => by have h1 := h.t2 b q; have h2 := h.t0; rw [e] at h1; omega⟩
  have n2 : ∀ b, v2.ownBlock = some b → ¬ v6'.ownBlock = some b ∧ b ≠ rb := fun b q => ⟨fun e => (hno b e).2.2.2.1 q, fun e => by have h1 := h.t3 b q; have h2 := h.t0; rw [e] at h1; omega⟩
  have n3 : ∀ b, v3.ownBlock = some b → ¬ v6'.ownBlock = some b ∧ b ≠ rb := fun b q => ⟨fun e => (hno b e).2.2.2.2.1 q, fun e => by have h1 := h.t4 b q; have h2 := h.t0; rw [e] at h1; omega⟩
  have nm : ∀ (i b : Nat), ms[i]? = some (some b) → ¬ v6'.ownBlock = some b ∧ b ≠ rb := fun i b q => by
    obtain ⟨a1, a2, a3⟩ := h.tm i b q
    exact ⟨fun e => (hno b e).2.2.2.2.2 i q, fun e => by have h2 := h.t0; rw [e] at a1; omega⟩
  have hmap : ∀ (i : Nat) (m : Option Nat) (b : Blk), ms[i]? = some m → MpAt w m b → MpAt (hereW w rb f l v6') m b := fun i m b q1 q2 => q2.kept (fun mb e => by
    subst e
    exact here_block w rb f l v6' mb (nm i mb q1).2)
  have hsz := (here_chg w rb f l v6').size
  exact ⟨hset, h.r0.here (fun b q => (n0 b q).2) f l v6', h.r1.here (fun b q => (n1 b q).2) f l v6', h.r2.here (fun b q => (n2 b q).2) f l v6', h.r3.here (fun b q => (n3 b q).2) f l v6', ho.here (fun b q e => by rw [e] at q; exact hnr q) f l v6', by rw [retag_no hnr]; exact h.t0, fun b q => by rw [retag_no (n0 b q).1]; exact h.t1 b q, fun b q => by rw [retag_no (n1 b q).1]; exact h.t2 b q, fun b q => by rw [retag_no (n2 b q).1]; exact h.t3 b q, fun b q => by rw [retag_no (n3 b q).1]; exact h.t4 b q, fun b q => retag_is q, fun i b q => by
    obtain ⟨a1, a2, a3⟩ := h.tm i b q
    rw [retag_no (nm i b q).1]
    exact ⟨a1, a2, Nat.lt_of_lt_of_le a3 hsz⟩, h.ml, fun i m b q1 q2 => hmap i m b q1 (h.mp i m b q1 q2), h.lo⟩

/-- its row of scopes is another one -/
theorem MemW.row0 (h : MemW w B rb tg s v0 v1 v2 v3 v6 ms) {w5 : World} {v0' : Value} {xs' : List Rz.Scp} (hc : Chg (fun b => v0.ownBlock = some b) w w5) (ho : OwnR scpC 4 66 B w5 v0' xs') (hat : ∀ b, v0'.ownBlock = some b → v0.ownBlock = some b ∨ w.heap.size ≤ b)  :
    MemW (w5.setCell ⟨rb, 0, none⟩ v0') B rb (retag tg v0' 1) { s with scopes := xs' } v0' v1 v2 v3 v6 ms ∧ Chg (Ow rb v0 v1 v2 v3 v6 ms) w (w5.setCell ⟨rb, 0, none⟩ v0') ∧ ∀ b, Ow rb v0' v1 v2 v3 v6 ms b → Ow rb v0 v1 v2 v3 v6 ms b ∨ w.heap.size ≤ b := by
  have hrb : rb < w.heap.size := h.rlt
  have hnr : ¬ v0'.ownBlock = some rb := other h.t1 hat hrb h.t0 (by omega)
  have hrs : ¬ v0.ownBlock = some rb := fun q => by have := h.t1 rb q; have := h.t0; omega
  have hbox5 : w5.heap[rb]? = _ := (hc.block rb hrb hrs).trans h.box
  have hset := heap_setCell_same w5 rb 0 _ 54 v0' hbox5
  have n1 : ∀ b, v1.ownBlock = some b → ¬ v0'.ownBlock = some b ∧ b ≠ rb := fun b q => ⟨other h.t1 hat (h.r1.lt b q).2 (h.t2 b q) (by omega), fun e => by have h1 := h.t2 b q; have h2 := h.t0; rw [e] at h1; omega⟩
  have o1 : OwnR vrC 6 44 B (w5.setCell ⟨rb, 0, none⟩ v0') v1 s.vars := (h.r1.kept hc (fun b q e => by have h1 := h.t2 b q; have h2 := h.t1 b e; omega)).set (a := ⟨rb, 0, none⟩) (fun b q => (n1 b q).2) v0'
  have n2 : ∀ b, v2.ownBlock = some b → ¬ v0'.ownBlock = some b ∧ b ≠ rb := fun b q => ⟨other h.t1 hat (h.r2.lt b q).2 (h.t3 b q) (by omega), fun e => by have h1 := h.t3 b q; have h2 := h.t0; rw [e] at h1; omega⟩
  have o2 : OwnR usC 2 42 B (w5.setCell ⟨rb, 0, none⟩ v0') v2 s.uses := (h.r2.kept hc (fun b q e => by have h1 := h.t3 b q; have h2 := h.t1 b e; omega)).set (a := ⟨rb, 0, none⟩) (fun b q => (n2 b q).2) v0'
  have n3 : ∀ b, v3.ownBlock = some b → ¬ v0'.ownBlock = some b ∧ b ≠ rb := fun b q => ⟨other h.t1 hat (h.r3.lt b q).2 (h.t4 b q) (by omega), fun e => by have h1 := h.t4 b q; have h2 := h.t0; rw [e] at h1; omega⟩
  have o3 : OwnR mpC 1 98 B (w5.setCell ⟨rb, 0, none⟩ v0') v3 ms := (h.r3.kept hc (fun b q e => by have h1 := h.t4 b q; have h2 := h.t1 b e; omega)).set (a := ⟨rb, 0, none⟩) (fun b q => (n3 b q).2) v0'
  have n6 : ∀ b, v6.ownBlock = some b → ¬ v0'.ownBlock = some b ∧ b ≠ rb := fun b q => ⟨other h.t1 hat (h.r6.lt b q).2 (h.t5 b q) (by omega), fun e => by have h1 := h.t5 b q; have h2 := h.t0; rw [e] at h1; omega⟩
  have o6 : OwnR lbC 2 116 B (w5.setCell ⟨rb, 0, none⟩ v0') v6 s.labels := (h.r6.kept hc (fun b q e => by have h1 := h.t5 b q; have h2 := h.t1 b e; omega)).set (a := ⟨rb, 0, none⟩) (fun b q => (n6 b q).2) v0'
  have oo : OwnR scpC 4 66 B (w5.setCell ⟨rb, 0, none⟩ v0') v0' xs' := ho.set (a := ⟨rb, 0, none⟩) (fun b q e => by have e2 : b = rb := e; rw [e2] at q; exact hnr q) v0'
  have nm : ∀ (i b : Nat), ms[i]? = some (some b) → ¬ v0'.ownBlock = some b ∧ b ≠ rb ∧ ¬ v0.ownBlock = some b := fun i b q => by
    obtain ⟨a1, a2, a3⟩ := h.tm i b q
    exact ⟨other h.t1 hat a3 a1 (by omega), fun e => by have h2 := h.t0; rw [e] at a1; omega, fun e => by have h2 := h.t1 b e; omega⟩
  have hmap : ∀ (i : Nat) (m : Option Nat) (b : Blk), ms[i]? = some m → MpAt w m b → MpAt (w5.setCell ⟨rb, 0, none⟩ v0') m b := fun i m b q1 q2 => q2.kept (fun mb e => by
    subst e
    obtain ⟨a1, a2, a3⟩ := nm i mb q1
    rw [Below.heap_setCell w5 ⟨rb, 0, none⟩ v0' mb a2]
    exact hc.block mb (h.tm i mb q1).2.2 a3)
  have hsz : w.heap.size ≤ (w5.setCell ⟨rb, 0, none⟩ v0').heap.size := by simp; exact hc.size
  refine ⟨⟨hset, oo, o1, o2, o3, o6, by rw [retag_no hnr]; exact h.t0, fun b q => retag_is q, fun b q => by rw [retag_no (n1 b q).1]; exact h.t2 b q, fun b q => by rw [retag_no (n2 b q).1]; exact h.t3 b q, fun b q => by rw [retag_no (n3 b q).1]; exact h.t4 b q, fun b q => by rw [retag_no (n6 b q).1]; exact h.t5 b q, fun i b q => by
    obtain ⟨a1, a2, a3⟩ := h.tm i b q
    rw [retag_no (nm i b q).1]
    exact ⟨a1, a2, Nat.lt_of_lt_of_le a3 hsz⟩, h.ml, fun i m b q1 q2 => hmap i m b q1 (h.mp i m b q1 q2), h.lo⟩, ?_, ?_⟩
  · exact (hc.mono (S' := Ow rb v0 v1 v2 v3 v6 ms) (fun b q => Or.inr (Or.inl q))).trans (Chg.set (S := Ow rb v0 v1 v2 v3 v6 ms) w5 ⟨rb, 0, none⟩ v0' (Or.inl rfl)) (fun _ _ q => q)
  · rintro b (q | q | q | q | q | q | ⟨i, q⟩)
    · exact Or.inl (Or.inl q)
    · exact (hat b q).imp (fun q => Or.inr (Or.inl q)) id
    · exact Or.inl (Or.inr (Or.inr (Or.inl q)))
    · exact Or.inl (Or.inr (Or.inr (Or.inr (Or.inl q))))
    · exact Or.inl (Or.inr (Or.inr (Or.inr (Or.inr (Or.inl q)))))
    · exact Or.inl (Or.inr (Or.inr (Or.inr (Or.inr (Or.inr (Or.inl q))))))
    · exact Or.inl (Or.inr (Or.inr (Or.inr (Or.inr (Or.inr (Or.inr ⟨i, q⟩))))))

end

end Go.Proofs.Ytihmdcdifakepab.Rv
