/- The resolver's walk: a function's parameters. -/
import Derived.Test.YtihmdcdifakepaaB20
import Derived.Test.YtihmdcdifakepaaB14
namespace Go.Proofs.Ytihmdcdifakepaa.Rv
open Go.RowKit Go.Proofs.Ytihmdcdifakepaa.Sc Go.Proofs.Ytihmdcdifakepaa.Rz
set_option linter.unusedVariables false
set_option linter.unusedSimpArgs false

theorem pars_app {α : Type} (nd : α → Nd) : ∀ (l : List α) (k : α) (r : List α) (s s1 : Rz.RS), parsP nd l s = .ok s1 → parsP nd (l ++ k :: r) s = (declP (nd k).name (nd k).pl 3 s1).bind (parsP nd r)
  | [], k, r, s, s1, e => by
    unfold parsP at e
    obtain rfl := Except.ok.inj e
    rfl
  | x :: l, k, r, s, s1, e => by
    unfold parsP at e
    obtain ⟨s2, e1, e2⟩ := bind_ok e
    rw [List.cons_append, parsP, e1]
    exact pars_app nd l k r s2 s1 e2

/-- those up to i were declared -/
structure PaAt (W0 : World) (n : Nat) (w : World) (rb : Nat) (O : Nat → Prop) (s : Rz.RS) (v6 : Value) (xs : List (Tr n)) (i : Nat) (wr : World) : Prop where
  le : i ≤ xs.length
  went : ∃ s1, parsP (ndR n) (xs.take i) s = .ok s1 ∧ (∃ O1, On W0 rb O1 s1 v6 wr ∧ Chg O w wr ∧ (∀ b, O1 b → O b ∨ w.heap.size ≤ b)) ∧ cr s1 ≤ cr s + 2 * i ∧ s1.blocks.length = s.blocks.length ∧ s1.labels = s.labels ∧ s1.loops = s.loops ∧ s1.fn = s.fn

theorem PaAt.start {W0 : World} {n : Nat} {w : World} {rb : Nat} {O : Nat → Prop} {s : Rz.RS} {v6 : Value} {xs : List (Tr n)} (h : On W0 rb O s v6 w) : PaAt W0 n w rb O s v6 xs 0 w :=
  ⟨Nat.zero_le _, s, rfl, ⟨O, h, Chg.refl _ _, fun b q => Or.inl q⟩, by omega, rfl, rfl, rfl, rfl⟩
theorem PaAt.bel {W0 : World} {n : Nat} {w : World} {rb : Nat} {O : Nat → Prop} {s : Rz.RS} {v6 : Value} {xs : List (Tr n)} {i : Nat} {wr : World} (h : PaAt W0 n w rb O s v6 xs i wr) : Below W0.heap.size W0 wr := by
  obtain ⟨hle, s1, e1, ⟨O1, o1, o2, o3⟩, _⟩ := h
  exact o1.bel

/-- one more is declared -/
theorem PaAt.step {W0 : World} {n : Nat} {w : World} {rb : Nat} {O : Nat → Prop} {s : Rz.RS} {v6 : Value} {xs : List (Tr n)} {i : Nat} {wr wb : World} (h : PaAt W0 n w rb O s v6 xs i wr) {t : Tr n} (ht : xs[i]? = some t) (hb : Below wr.heap.size wr wb) (hbud : cr s + 2 * xs.length + 1 ≤ lim) (hd : dp s + 1 ≤ lim) (hne : 1 ≤ s.blocks.length) (hs : (ndR n t).name.size ≤ maxLen) (kind num : Int) (op : ByteArray) (kv : Value) :
    Calls Try.prog 64 #[.pointer (some ⟨rb, 0, none⟩), .agg #[.int .i64 kind, .int .i64 (ndR n t).pl, .string (ndR n t).name, .int .u64 num, .string op, kv], .int .i64 3] wb fun e w' => (e = .returned (.tuple #[]) ∧ PaAt W0 n w rb O s v6 xs (i + 1) w') ∨ ∃ er, e = .panicked (thrown er) ∧ parsP (ndR n) xs s = .error er ∧ Chg O w w' := by
  have hil : i < xs.length := (List.getElem?_eq_some_iff.1 ht).1
  obtain ⟨hle, s1, e1, ⟨O1, o1, o2, o3⟩, b1, b2, b3, b4, b5⟩ := h
  obtain ⟨c0, cs, hbs⟩ : ∃ c0 cs, s1.blocks = c0 :: cs := by
    cases hq : s1.blocks with
    | nil => rw [hq] at b2; simp at b2; omega
    | cons a b => exact ⟨a, b, rfl⟩
  have hbg : bg s1 < 1000000000 := by
    have hdp : dp s1 = dp s := by unfold dp; rw [b2, b3, b4]
    have := bg_of (s := s1) (by omega) (by omega)
    unfold cr dp bg lim at *
    omega
  have hc2 : Chg O w wb := o2.trans (Chg.of_below hb) (fun _ _ (q : O _) => q)
  have hsub : ∀ a, a < w.heap.size → O1 a → O a := fun a ha q => by
    rcases o3 a q with c | c
    · exact c
    · omega
  refine (declare_any wb W0.heap.size rb O1 s1 v6 (o1.below hb).mem hbg c0 cs hbs kind (ndR n t).pl num (ndR n t).name op kv hs 3).mono ?_
  intro e w' ho
  have hdr : xs.drop i = t :: xs.drop (i + 1) := by
    rw [List.drop_eq_getElem_cons hil]
    congr 1
    exact (List.getElem?_eq_some_iff.1 ht).2
  have hsp : xs = xs.take i ++ t :: xs.drop (i + 1) := by rw [← hdr, List.take_append_drop]
  have hea := pars_app (ndR n) (xs.take i) t (xs.drop (i + 1)) s s1 e1
  rw [← hsp] at hea
  cases hr : declP (ndR n t).name (ndR n t).pl 3 s1 with
  | error er =>
    rw [hr] at ho hea
    obtain ⟨rfl, g2⟩ := ho
    exact Or.inr ⟨er, rfl, hea, hc2.trans g2 hsub⟩
  | ok s2 =>
    rw [hr] at ho
    obtain ⟨rfl, g2⟩ := ho
    obtain ⟨O2, k1, k2, k3⟩ := (o1.below hb).went g2
    obtain ⟨p1, p2, p3, p4⟩ := decl_keeps hr
    have hcr := cr_decl _ _ _ s1 s2 hr
    refine Or.inl ⟨rfl, hil, s2, ?_, ⟨O2, k1, hc2.trans k2 hsub, fun b q => ?_⟩, by omega, by rw [p1, b2], by rw [p2, b3], by rw [p3, b4], by rw [p4, b5]⟩
    · have htk : xs.take (i + 1) = xs.take i ++ t :: [] := by rw [List.take_add_one, ht]; rfl
      rw [htk, pars_app (ndR n) (xs.take i) t [] s s1 e1, hr]
      rfl
    · rcases k3 b q with c | c
      · exact o3 b c
      · exact Or.inr (Nat.le_trans hc2.size c)
end Go.Proofs.Ytihmdcdifakepaa.Rv

/- The resolver's walk: has a function a name of its own? -/
namespace Go.Proofs.Ytihmdcdifakepaa.Rv
open Go.RowKit Go.Proofs.Ytihmdcdifakepaa.Sc Go.Proofs.Ytihmdcdifakepaa.Rz
set_option linter.unusedVariables false
set_option linter.unusedSimpArgs false

set_option maxRecDepth 100000 in
theorem hasSelf_any (w : World) (x : Nd) (kv : Value) : Calls Try.prog 61 #[.agg #[.int .i64 x.kind, .int .i64 x.pl, .string x.name, .int .u64 x.num, .string x.op, kv]] w fun e w' => e = .returned (.bool (selfB x)) ∧ Below w.heap.size w w' := by
  obtain ⟨wb, hwb⟩ : ∃ wb, wb = w.alloc (.cells #[.int .i64 x.kind, .int .i64 x.pl, .string x.name, .int .u64 x.num, .string x.op, kv] 25) := ⟨_, rfl⟩
  have hbl : Below w.heap.size w wb := by rw [hwb]; exact below_new (Below.refl _ _) (Nat.le_refl _) _
  have hX : NdB w.heap.size x kv wb := by rw [hwb]; exact at_new _ _
  obtain ⟨a0, _, a2, _, _, _⟩ := hX.cs
  have HB : Hid (Below w.heap.size w wb) := hbl
  obtain ⟨R, hR⟩ : ∃ R, R = selfB x := ⟨_, rfl⟩
  rw [← hR]
  unfold selfB isS at hR
  have HR := (show Hid _ from hR)
  generalize x.kind = kd at *
  generalize x.name = nm at *
  clear hR hX hbl
  by_cases ck : kd = 12
  · subst ck
    by_cases cn : nm.toList = []
    · have hne : (nm.toList == []) = true := by rw [cn]; rfl
      have hR2 : R = false := by rw [HR.out]; simp [cn]
      subst hR2
      clear HR
      go_enter Try.func61, Try.ntmps61
      go_upto_region 1 with fail
      rw [← hwb]
      clear hwb
      go_wp2_with fail
      go_ret
      exact ⟨rfl, HB.out⟩
    · have hne : (nm.toList == []) = false := by simpa using cn
      have hR2 : R = true := by rw [HR.out]; simp [cn]
      subst hR2
      clear HR
      go_enter Try.func61, Try.ntmps61
      go_upto_region 1 with fail
      rw [← hwb]
      clear hwb
      go_wp2_with fail
      go_ret
      exact ⟨rfl, HB.out⟩
  · have hck : (kd == (12 : Int)) = false := by simpa using ck
    have hR2 : R = false := by rw [HR.out]; simp [ck]
    subst hR2
    clear HR
    go_enter Try.func61, Try.ntmps61
    go_upto_region 1 with fail
    rw [← hwb]
    clear hwb
    go_wp2_with fail
    go_ret
    exact ⟨rfl, HB.out⟩
end Go.Proofs.Ytihmdcdifakepaa.Rv

/- The resolver's walk: into a function, and out of it. -/
namespace Go.Proofs.Ytihmdcdifakepaa.Rv
open Go.RowKit Go.Proofs.Ytihmdcdifakepaa.Sc Go.Proofs.Ytihmdcdifakepaa.Rz
set_option linter.unusedVariables false
set_option linter.unusedSimpArgs false

/-- the function, its loops and its labels are others -/
def hereW (w : World) (rb : Nat) (f l : Nat) (v : Value) : World := ((w.setCell ⟨rb, 4, none⟩ (.int .i64 (f : Int))).setCell ⟨rb, 5, none⟩ (.int .i64 (l : Int))).setCell ⟨rb, 6, none⟩ v

section
variable {w w' : World} {B rb : Nat} {tg : Nat → Nat} {s : Rz.RS} {v0 v1 v2 v3 v6 : Value} {ms : List (Option Nat)}

theorem OwnR.here {β : Type} {enc : β → List Value} {k : Nat} {e : TypeId} {v : Value} {xs : List β} (h : OwnR enc k e B w v xs) (hn : ∀ b, v.ownBlock = some b → b ≠ rb) (f l : Nat) (u : Value) : OwnR enc k e B (hereW w rb f l u) v xs :=
  ((h.set (a := ⟨rb, 4, none⟩) hn _).set (a := ⟨rb, 5, none⟩) hn _).set (a := ⟨rb, 6, none⟩) hn _
theorem here_block (w : World) (rb f l : Nat) (u : Value) (b : Nat) (h : b ≠ rb) : (hereW w rb f l u).heap[b]? = w.heap[b]? := by
  unfold hereW
  rw [Below.heap_setCell _ _ _ _ h, Below.heap_setCell _ _ _ _ h, Below.heap_setCell _ _ _ _ h]
theorem here_chg (w : World) (rb f l : Nat) (u : Value) : Chg (fun b => b = rb) w (hereW w rb f l u) :=
  ((Chg.set (S := fun b => b = rb) w ⟨rb, 4, none⟩ _ rfl).trans (Chg.set (S := fun b => b = rb) _ ⟨rb, 5, none⟩ _ rfl) (fun _ _ q => q)).trans (Chg.set (S := fun b => b = rb) _ ⟨rb, 6, none⟩ _ rfl) (fun _ _ q => q)

theorem MemW.here (h : MemW w B rb tg s v0 v1 v2 v3 v6 ms) (f l : Nat) {v6' : Value} {xs' : List (ByteArray × Bool)} (ho : OwnR lbC 2 130 B w v6' xs') (hno : ∀ b, v6'.ownBlock = some b → b ≠ rb ∧ ¬ v0.ownBlock = some b ∧ ¬ v1.ownBlock = some b ∧ ¬ v2.ownBlock = some b ∧ ¬ v3.ownBlock = some b ∧ ∀ i : Nat, ms[i]? ≠ some (some b)) :
    MemW (hereW w rb f l v6') B rb (retag tg v6' 5) { s with fn := f, loops := l, labels := xs' } v0 v1 v2 v3 v6' ms := by
  have hrb : rb < w.heap.size := h.rlt
  have hnr : ¬ v6'.ownBlock = some rb := fun q => (hno rb q).1 rfl
  have s4 := heap_setCell_same w rb 4 _ 72 (.int .i64 (f : Int)) h.box
  have s5 := heap_setCell_same _ rb 5 _ 72 (.int .i64 (l : Int)) s4
  have hset := heap_setCell_same _ rb 6 _ 72 v6' s5
  have n0 : ∀ b, v0.ownBlock = some b → ¬ v6'.ownBlock = some b ∧ b ≠ rb := fun b q => ⟨fun e => (hno b e).2.1 q, fun e => by have h1 := h.t1 b q; have h2 := h.t0; rw [e] at h1; omega⟩
  have n1 : ∀ b, v1.ownBlock = some b → ¬ v6'.ownBlock = some b ∧ b ≠ rb := fun b q => ⟨fun e => (hno b e).2.2.1 q, fun e => by have h1 := h.t2 b q; have h2 := h.t0; rw [e] at h1; omega⟩
  have n2 : ∀ b, v2.ownBlock = some b → ¬ v6'.ownBlock = some b ∧ b ≠ rb := fun b q => ⟨fun e => (hno b e).2.2.2.1 q, fun e => by have h1 := h.t3 b q; have h2 := h.t0; rw [e] at h1; omega⟩
  have n3 : ∀ b, v3.ownBlock = some b → ¬ v6'.ownBlock = some b ∧ b ≠ rb := fun b q => ⟨fun e => (hno b e).2.2.2.2.1 q, fun e => by have h1 := h.t4 b q; have h2 := h.t0; rw [e] at h1; omega⟩
  have nm : ∀ (i b : Nat), ms[i]? = some (some b) → ¬ v6'.ownBlock = some b ∧ b ≠ rb := fun i b q => by
    obtain ⟨a1, a2, a3⟩ := h.tm i b q
    exact ⟨fun e => (hno b e).2.2.2.2.2 i q, fun e => by have h2 := h.t0; rw [e] at a1; omega⟩
  have hmap : ∀ (i : Nat) (m : Option Nat) (b : Blk), ms[i]? = some m → MpAt w m b → MpAt (hereW w rb f l v6') m b := fun i m b q1 q2 => q2.kept (fun mb e => by
    subst e
    exact here_block w rb f l v6' mb (nm i mb q1).2)
  have hsz := (here_chg w rb f l v6').size
  exact ⟨hset, h.r0.here (fun b q => (n0 b q).2) f l v6', h.r1.here (fun b q => (n1 b q).2) f l v6', h.r2.here (fun b q => (n2 b q).2) f l v6', h.r3.here (fun b q => (n3 b q).2) f l v6', ho.here (fun b q e => by rw [e] at q; exact hnr q) f l v6', by rw [retag_no hnr]; exact h.t0, fun b q => by rw [retag_no (n0 b q).1]; exact h.t1 b q, fun b q => by rw [retag_no (n1 b q).1]; exact h.t2 b q, fun b q => by rw [retag_no (n2 b q).1]; exact h.t3 b q, fun b q => by rw [retag_no (n3 b q).1]; exact h.t4 b q, fun b q => retag_is q, fun i b q => by
    obtain ⟨a1, a2, a3⟩ := h.tm i b q
    rw [retag_no (nm i b q).1]
    exact ⟨a1, a2, Nat.lt_of_lt_of_le a3 hsz⟩, h.ml, fun i m b q1 q2 => hmap i m b q1 (h.mp i m b q1 q2), h.lo⟩

/-- its row of scopes is another one -/
theorem MemW.row0 (h : MemW w B rb tg s v0 v1 v2 v3 v6 ms) {w5 : World} {v0' : Value} {xs' : List Rz.Scp} (hc : Chg (fun b => v0.ownBlock = some b) w w5) (ho : OwnR scpC 4 42 B w5 v0' xs') (hat : ∀ b, v0'.ownBlock = some b → v0.ownBlock = some b ∨ w.heap.size ≤ b)  :
    MemW (w5.setCell ⟨rb, 0, none⟩ v0') B rb (retag tg v0' 1) { s with scopes := xs' } v0' v1 v2 v3 v6 ms ∧ Chg (Ow rb v0 v1 v2 v3 v6 ms) w (w5.setCell ⟨rb, 0, none⟩ v0') ∧ ∀ b, Ow rb v0' v1 v2 v3 v6 ms b → Ow rb v0 v1 v2 v3 v6 ms b ∨ w.heap.size ≤ b := by
  have hrb : rb < w.heap.size := h.rlt
  have hnr : ¬ v0'.ownBlock = some rb := other h.t1 hat hrb h.t0 (by omega)
  have hrs : ¬ v0.ownBlock = some rb := fun q => by have := h.t1 rb q; have := h.t0; omega
  have hbox5 : w5.heap[rb]? = _ := (hc.block rb hrb hrs).trans h.box
  have hset := heap_setCell_same w5 rb 0 _ 72 v0' hbox5
  have n1 : ∀ b, v1.ownBlock = some b → ¬ v0'.ownBlock = some b ∧ b ≠ rb := fun b q => ⟨other h.t1 hat (h.r1.lt b q).2 (h.t2 b q) (by omega), fun e => by have h1 := h.t2 b q; have h2 := h.t0; rw [e] at h1; omega⟩
  have o1 : OwnR vrC 6 45 B (w5.setCell ⟨rb, 0, none⟩ v0') v1 s.vars := (h.r1.kept hc (fun b q e => by have h1 := h.t2 b q; have h2 := h.t1 b e; omega)).set (a := ⟨rb, 0, none⟩) (fun b q => (n1 b q).2) v0'
  have n2 : ∀ b, v2.ownBlock = some b → ¬ v0'.ownBlock = some b ∧ b ≠ rb := fun b q => ⟨other h.t1 hat (h.r2.lt b q).2 (h.t3 b q) (by omega), fun e => by have h1 := h.t3 b q; have h2 := h.t0; rw [e] at h1; omega⟩
  have o2 : OwnR usC 2 47 B (w5.setCell ⟨rb, 0, none⟩ v0') v2 s.uses := (h.r2.kept hc (fun b q e => by have h1 := h.t3 b q; have h2 := h.t1 b e; omega)).set (a := ⟨rb, 0, none⟩) (fun b q => (n2 b q).2) v0'
  have n3 : ∀ b, v3.ownBlock = some b → ¬ v0'.ownBlock = some b ∧ b ≠ rb := fun b q => ⟨other h.t1 hat (h.r3.lt b q).2 (h.t4 b q) (by omega), fun e => by have h1 := h.t4 b q; have h2 := h.t0; rw [e] at h1; omega⟩
  have o3 : OwnR mpC 1 120 B (w5.setCell ⟨rb, 0, none⟩ v0') v3 ms := (h.r3.kept hc (fun b q e => by have h1 := h.t4 b q; have h2 := h.t1 b e; omega)).set (a := ⟨rb, 0, none⟩) (fun b q => (n3 b q).2) v0'
  have n6 : ∀ b, v6.ownBlock = some b → ¬ v0'.ownBlock = some b ∧ b ≠ rb := fun b q => ⟨other h.t1 hat (h.r6.lt b q).2 (h.t5 b q) (by omega), fun e => by have h1 := h.t5 b q; have h2 := h.t0; rw [e] at h1; omega⟩
  have o6 : OwnR lbC 2 130 B (w5.setCell ⟨rb, 0, none⟩ v0') v6 s.labels := (h.r6.kept hc (fun b q e => by have h1 := h.t5 b q; have h2 := h.t1 b e; omega)).set (a := ⟨rb, 0, none⟩) (fun b q => (n6 b q).2) v0'
  have oo : OwnR scpC 4 42 B (w5.setCell ⟨rb, 0, none⟩ v0') v0' xs' := ho.set (a := ⟨rb, 0, none⟩) (fun b q e => by have e2 : b = rb := e; rw [e2] at q; exact hnr q) v0'
  have nm : ∀ (i b : Nat), ms[i]? = some (some b) → ¬ v0'.ownBlock = some b ∧ b ≠ rb ∧ ¬ v0.ownBlock = some b := fun i b q => by
    obtain ⟨a1, a2, a3⟩ := h.tm i b q
    exact ⟨other h.t1 hat a3 a1 (by omega), fun e => by have h2 := h.t0; rw [e] at a1; omega, fun e => by have h2 := h.t1 b e; omega⟩
  have hmap : ∀ (i : Nat) (m : Option Nat) (b : Blk), ms[i]? = some m → MpAt w m b → MpAt (w5.setCell ⟨rb, 0, none⟩ v0') m b := fun i m b q1 q2 => q2.kept (fun mb e => by
    subst e
    obtain ⟨a1, a2, a3⟩ := nm i mb q1
    rw [Below.heap_setCell w5 ⟨rb, 0, none⟩ v0' mb a2]
    exact hc.block mb (h.tm i mb q1).2.2 a3)
  have hsz : w.heap.size ≤ (w5.setCell ⟨rb, 0, none⟩ v0').heap.size := by simp; exact hc.size
  refine ⟨⟨hset, oo, o1, o2, o3, o6, by rw [retag_no hnr]; exact h.t0, fun b q => retag_is q, fun b q => by rw [retag_no (n1 b q).1]; exact h.t2 b q, fun b q => by rw [retag_no (n2 b q).1]; exact h.t3 b q, fun b q => by rw [retag_no (n3 b q).1]; exact h.t4 b q, fun b q => by rw [retag_no (n6 b q).1]; exact h.t5 b q, fun i b q => by
    obtain ⟨a1, a2, a3⟩ := h.tm i b q
    rw [retag_no (nm i b q).1]
    exact ⟨a1, a2, Nat.lt_of_lt_of_le a3 hsz⟩, h.ml, fun i m b q1 q2 => hmap i m b q1 (h.mp i m b q1 q2), h.lo⟩, ?_, ?_⟩
  · exact (hc.mono (S' := Ow rb v0 v1 v2 v3 v6 ms) (fun b q => Or.inr (Or.inl q))).trans (Chg.set (S := Ow rb v0 v1 v2 v3 v6 ms) w5 ⟨rb, 0, none⟩ v0' (Or.inl rfl)) (fun _ _ q => q)
  · rintro b (q | q | q | q | q | q | ⟨i, q⟩)
    · exact Or.inl (Or.inl q)
    · exact (hat b q).imp (fun q => Or.inr (Or.inl q)) id
    · exact Or.inl (Or.inr (Or.inr (Or.inl q)))
    · exact Or.inl (Or.inr (Or.inr (Or.inr (Or.inl q))))
    · exact Or.inl (Or.inr (Or.inr (Or.inr (Or.inr (Or.inl q)))))
    · exact Or.inl (Or.inr (Or.inr (Or.inr (Or.inr (Or.inr (Or.inl q))))))
    · exact Or.inl (Or.inr (Or.inr (Or.inr (Or.inr (Or.inr (Or.inr ⟨i, q⟩))))))

end

end Go.Proofs.Ytihmdcdifakepaa.Rv

/- The resolver's walk: into a function, and out of it. -/
namespace Go.Proofs.Ytihmdcdifakepaa.Rv
open Go.RowKit Go.Proofs.Ytihmdcdifakepaa.Sc Go.Proofs.Ytihmdcdifakepaa.Rz
set_option linter.unusedVariables false
set_option linter.unusedSimpArgs false

/-- a function is entered: its scope is told; behind what is done in it all is as it was around it -/
theorem Mem.enter {w : World} {B rb : Nat} {O : Nat → Prop} {s : Rz.RS} {v6 : Value} (h : Mem w B rb O s v6) : ∃ v0, w.cell? ⟨rb, 0, none⟩ = some v0 ∧ OwnR scpC 4 42 B w v0 s.scopes ∧ (∀ b, v0.ownBlock = some b → O b ∧ b ≠ rb) ∧ ∀ (y : Rz.Scp) (w5 : World) (v0' : Value), Chg (fun b => v0.ownBlock = some b) (hereW w rb s.scopes.length 0 (.slice none 0 0)) w5 → OwnR scpC 4 42 B w5 v0' (s.scopes ++ [y]) → (∀ b, v0'.ownBlock = some b → v0.ownBlock = some b ∨ w.heap.size ≤ b) →
    ∃ O1, Mem (w5.setCell ⟨rb, 0, none⟩ v0') B rb O1 { s with scopes := s.scopes ++ [y], fn := s.scopes.length, loops := 0, labels := [] } (.slice none 0 0) ∧ Chg O w (w5.setCell ⟨rb, 0, none⟩ v0') ∧ (∀ b, O1 b → O b ∨ w.heap.size ≤ b) ∧
      ∀ s2 w2, Went (w5.setCell ⟨rb, 0, none⟩ v0') B rb O1 s2 (.slice none 0 0) w2 → s.fn < s2.scopes.length → Went w B rb O { s2 with fn := s.fn, loops := s.loops, labels := s.labels } v6 (hereW w2 rb s.fn s.loops v6) := by
  obtain ⟨tg, v0, v1, v2, v3, ms, hm, hO⟩ := h
  have hno0 : ∀ b, v0.ownBlock = some b → b ≠ rb := fun b q e => by have h1 := hm.t1 b q; have h2 := hm.t0; rw [e] at h1; omega
  refine ⟨v0, hm.c.1, hm.r0, fun b q => ⟨(hO b).2 (Or.inr (Or.inl q)), hno0 b q⟩, fun y w5 v0' hc ho hat => ?_⟩
  have hW := hm.weak.here s.scopes.length 0 (v6' := .slice none 0 0) (xs' := []) (OwnR.nil _ _) (fun b q => by simp [Value.ownBlock] at q)
  have hch := here_chg w rb s.scopes.length 0 (.slice none 0 0)
  have hszh : (hereW w rb s.scopes.length 0 (.slice none 0 0)).heap.size = w.heap.size := by unfold hereW; simp
  obtain ⟨a1, a2, a3⟩ := hW.row0 hc ho (fun b q => by rw [hszh]; exact hat b q)
  have hfull := a1.full ⟨by simp, hm.gd.blk, hm.gd.wf⟩
  have hdown : ∀ b, Ow rb v0 v1 v2 v3 (.slice none 0 0) ms b → Ow rb v0 v1 v2 v3 v6 ms b := by
    rintro b (q | q | q | q | q | q | ⟨i, q⟩)
    · exact Or.inl q
    · exact Or.inr (Or.inl q)
    · exact Or.inr (Or.inr (Or.inl q))
    · exact Or.inr (Or.inr (Or.inr (Or.inl q)))
    · exact Or.inr (Or.inr (Or.inr (Or.inr (Or.inl q))))
    · simp [Value.ownBlock] at q
    · exact Or.inr (Or.inr (Or.inr (Or.inr (Or.inr (Or.inr ⟨i, q⟩)))))
  have hrbO : O rb := (hO rb).2 (Or.inl rfl)
  have hchg : Chg O w (w5.setCell ⟨rb, 0, none⟩ v0') := (hch.mono (S' := O) (fun b q => by rw [q]; exact hrbO)).trans a2 (fun a ha q => (hO a).2 (hdown a q))
  have hO1 : ∀ b, Ow rb v0' v1 v2 v3 (.slice none 0 0) ms b → O b ∨ w.heap.size ≤ b := fun b q => by
    rcases a3 b q with k | k
    · exact Or.inl ((hO b).2 (hdown b k))
    · rw [hszh] at k; exact Or.inr k
  refine ⟨Ow rb v0' v1 v2 v3 (.slice none 0 0) ms, ⟨_, v0', v1, v2, v3, ms, hfull, fun b => Iff.rfl⟩, hchg, hO1, ?_⟩
  rintro s2 w2 ⟨O2, ⟨tg2, u0, u1, u2, u3, ms2, h2, hO2⟩, c2, p2⟩ hfn
  have hsz5 : w.heap.size ≤ (w5.setCell ⟨rb, 0, none⟩ v0').heap.size := hchg.size
  have hnO : ∀ b, v6.ownBlock = some b → ¬ Ow rb v0' v1 v2 v3 (.slice none 0 0) ms b ∧ b < w.heap.size := fun b q => by
    have ht := hm.t5 b q
    have hlt := (hm.r6.lt b q).2
    refine ⟨?_, hlt⟩
    rintro (c | c | c | c | c | c | ⟨i, c⟩)
    · rw [c] at ht; have := hm.t0; omega
    · rcases hat b c with k | k
      · have := hm.t1 b k; omega
      · omega
    · have := hm.t2 b c; omega
    · have := hm.t3 b c; omega
    · have := hm.t4 b c; omega
    · simp [Value.ownBlock] at c
    · have := (hm.tm i b c).1; omega
  have hn6 : ∀ b, v6.ownBlock = some b → b ≠ rb := fun b q e => by have h1 := hm.t5 b q; have h2' := hm.t0; rw [e] at h1; omega
  have hn60 : ∀ b, v6.ownBlock = some b → ¬ v0.ownBlock = some b := fun b q e => by have h1 := hm.t5 b q; have h2' := hm.t1 b e; omega
  have hrow : OwnR lbC 2 130 B w2 v6 s.labels := by
    have o1 := hm.r6.here (rb := rb) hn6 s.scopes.length 0 (.slice none 0 0)
    have o2 := o1.kept hc hn60
    have o3 := o2.set (a := ⟨rb, 0, none⟩) hn6 v0'
    exact o3.kept c2 (fun b q => (hnO b q).1)
  have hno : ∀ b, v6.ownBlock = some b → b ≠ rb ∧ ¬ u0.ownBlock = some b ∧ ¬ u1.ownBlock = some b ∧ ¬ u2.ownBlock = some b ∧ ¬ u3.ownBlock = some b ∧ ∀ i : Nat, ms2[i]? ≠ some (some b) := by
    intro b q
    obtain ⟨c, d⟩ := hnO b q
    have hn2 : ¬ Ow rb u0 u1 u2 u3 (.slice none 0 0) ms2 b := fun e => by
      rcases p2 b ((hO2 b).2 e) with k | k
      · exact c k
      · omega
    exact ⟨fun e => hn2 (Or.inl e), fun e => hn2 (Or.inr (Or.inl e)), fun e => hn2 (Or.inr (Or.inr (Or.inl e))), fun e => hn2 (Or.inr (Or.inr (Or.inr (Or.inl e)))), fun e => hn2 (Or.inr (Or.inr (Or.inr (Or.inr (Or.inl e))))), fun i e => hn2 (Or.inr (Or.inr (Or.inr (Or.inr (Or.inr (Or.inr ⟨i, e⟩))))))⟩
  have hback := (h2.weak.here s.fn s.loops hrow hno).full ⟨hfn, h2.gd.blk, h2.gd.wf⟩
  have hup : ∀ b, Ow rb u0 u1 u2 u3 (.slice none 0 0) ms2 b → O b ∨ w.heap.size ≤ b := fun b q => by
    rcases p2 b ((hO2 b).2 q) with k | k
    · exact hO1 b k
    · exact Or.inr (Nat.le_trans hsz5 k)
  refine ⟨Ow rb u0 u1 u2 u3 v6 ms2, ⟨_, u0, u1, u2, u3, ms2, hback, fun b => Iff.rfl⟩, ?_, ?_⟩
  · have h1 : Chg O w w2 := hchg.trans c2 (fun a ha q => by
      rcases hO1 a q with k | k
      · exact k
      · omega)
    exact h1.trans (here_chg w2 rb s.fn s.loops v6) (fun a ha q => by rw [q]; exact hrbO)
  · rintro b (q | q | q | q | q | q | ⟨i, q⟩)
    · exact hup b (Or.inl q)
    · exact hup b (Or.inr (Or.inl q))
    · exact hup b (Or.inr (Or.inr (Or.inl q)))
    · exact hup b (Or.inr (Or.inr (Or.inr (Or.inl q))))
    · exact hup b (Or.inr (Or.inr (Or.inr (Or.inr (Or.inl q)))))
    · exact Or.inl ((hO b).2 (Or.inr (Or.inr (Or.inr (Or.inr (Or.inr (Or.inl q)))))))
    · exact hup b (Or.inr (Or.inr (Or.inr (Or.inr (Or.inr (Or.inr ⟨i, q⟩))))))
end Go.Proofs.Ytihmdcdifakepaa.Rv

/- The resolver's walk: what stands ahead of a function's body. -/
namespace Go.Proofs.Ytihmdcdifakepaa.Rv
open Go.RowKit Go.Proofs.Ytihmdcdifakepaa.Sc Go.Proofs.Ytihmdcdifakepaa.Rz
set_option linter.unusedVariables false
set_option linter.unusedSimpArgs false

/-- all of a row but its last -/
theorem run_init (w : World) (b off m kc : Nat) (h : m + 1 ≤ kc) (hk : kc ≤ maxLen) : (Instr.slice 23 (.slice (some ⟨b, off, none⟩) (m + 1) kc) none (some (.int .i64 (m : Int))) none).run Try.prog w = .ok (.slice (some ⟨b, off, none⟩) m kc) w := by
  have h1 : (m : Int) ≤ (kc : Int) := by omega
  have h2 : (0 : Int) ≤ (m : Int) := by omega
  have h3 : m ≤ kc := by omega
  have h4 : ¬ (kc = 0) := by omega
  simp [Instr.slice, Instr.sliceBounds, Instr.sliceBound, asIntOf, run_underlying Try.underlying23, go_sem, h1, h2, h3, h4]

theorem kids_init {n : Nat} {w : World} {b off kc : Nat} {l : List (Tr n)} {t : Tr n} (h : Sli.ok (encT n) 6 w ⟨some ⟨b, off, none⟩, kc, l ++ [t]⟩) : Sli.ok (encT n) 6 w ⟨some ⟨b, off, none⟩, kc, l⟩ := by
  have h1 := h.len
  have h2 := h.cap
  simp only [List.length_append, List.length_singleton] at h1 h2
  refine ⟨by simp only; omega, by simp only; omega, fun h0 => ?_⟩
  obtain ⟨b', off', e1, hc⟩ := h.cells (by simp)
  cases e1
  refine ⟨b, off, rfl, fun i y hi j u hj => hc i y ?_ j u hj⟩
  have hil := (List.getElem?_eq_some_iff.1 hi).1
  rw [List.getElem?_append_left hil]
  exact hi
end Go.Proofs.Ytihmdcdifakepaa.Rv

/- The resolver's walk: a function's parts. -/
namespace Go.Proofs.Ytihmdcdifakepaa.Rv
open Go.RowKit Go.Proofs.Ytihmdcdifakepaa.Sc Go.Proofs.Ytihmdcdifakepaa.Rz
set_option linter.unusedVariables false
set_option linter.unusedSimpArgs false

/-- in the function; its own name declared -/
def inS (x : Nd) (many : Nat) (s : Rz.RS) : Rz.RS := { s with scopes := s.scopes ++ [⟨x.pl, s.fn, many, 0⟩], fn := s.scopes.length, loops := 0, labels := [] }
def slS (x : Nd) (many : Nat) (s : Rz.RS) : Rz.RS := if selfB x then putVarP x.name x.pl 5 many (openP (inS x many s)) else openP (inS x many s)
def bpS (x : Nd) (s : Rz.RS) : Rz.RS := if selfB x then bumpP s else s

theorem enter_is (x : Nd) (many : Nat) (s : Rz.RS) : enterP x many s = openP (slS x many s) := rfl

theorem cr_in (x : Nd) (many : Nat) (s : Rz.RS) : cr (inS x many s) = cr s + 1 := by
  unfold cr inS
  simp only [List.length_append, List.length_singleton, List.map_append, List.map_cons, List.map_nil, List.sum_append, List.sum_cons, List.sum_nil]
  omega
theorem dp_in (x : Nd) (many : Nat) (s : Rz.RS) : dp (inS x many s) ≤ dp s := by
  unfold dp inS
  simp only [List.length_nil]
  omega

theorem put_keeps (nm : ByteArray) (pl kd : Int) (slot : Nat) (s : Rz.RS) : (putVarP nm pl kd slot s).blocks.length = s.blocks.length := by
  unfold putVarP
  simp only
  cases s.blocks with
  | nil => rfl
  | cons a b => rfl

theorem cr_sl (x : Nd) (many : Nat) (s : Rz.RS) : cr (slS x many s) ≤ cr s + 2 := by
  have h1 := cr_in x many s
  unfold slS
  split
  · rw [cr_put, cr_open]; omega
  · rw [cr_open]; omega
theorem dp_sl (x : Nd) (many : Nat) (s : Rz.RS) : dp (slS x many s) ≤ dp s + 1 ∧ (slS x many s).blocks.length = s.blocks.length + 1 ∧ (slS x many s).fn = s.scopes.length := by
  have h1 := dp_in x many s
  unfold slS
  split
  · refine ⟨?_, ?_, rfl⟩
    · unfold dp at *
      rw [put_keeps]
      show (openP (inS x many s)).blocks.length + (inS x many s).labels.length + (inS x many s).loops ≤ _
      unfold openP
      simp only [List.length_cons]
      omega
    · rw [put_keeps]; rfl
  · refine ⟨?_, rfl, rfl⟩
    unfold dp at *
    show (openP (inS x many s)).blocks.length + (inS x many s).labels.length + (inS x many s).loops ≤ _
    unfold openP
    simp only [List.length_cons]
    omega

/-- all parameters were declared -/
structure PaE (n : Nat) (l : List (Tr n)) (sN s1 : Rz.RS) : Prop where
  eq : parsP (ndR n) l sN = .ok s1
  cr' : cr s1 ≤ cr sN + 2 * l.length
  bl : s1.blocks.length = sN.blocks.length
  lb : s1.labels = sN.labels
  lo : s1.loops = sN.loops
  fn' : s1.fn = sN.fn

theorem PaAt.last {W0 : World} {n : Nat} {w : World} {rb : Nat} {O : Nat → Prop} {s : Rz.RS} {v6 : Value} {xs : List (Tr n)} {i : Nat} {wr : World} (h : PaAt W0 n w rb O s v6 xs i wr) (hi : xs.length ≤ i) : ∃ s1, PaE n xs s s1 ∧ Went w W0.heap.size rb O s1 v6 wr := by
  obtain ⟨hle, s1, e1, ⟨O1, o1, o2, o3⟩, b1, b2, b3, b4, b5⟩ := h
  rw [List.take_of_length_le hi] at e1
  have : i = xs.length := by omega
  subst this
  exact ⟨s1, ⟨e1, b1, b2, b3, b4, b5⟩, O1, o1.mem, o2, o3⟩

theorem bp_keeps (x : Nd) (s : Rz.RS) : (bpS x s).blocks = s.blocks ∧ (bpS x s).labels = s.labels ∧ (bpS x s).loops = s.loops ∧ (bpS x s).fn = s.fn ∧ cr (bpS x s) ≤ cr s + 1 := by
  unfold bpS
  split
  · exact ⟨rfl, rfl, rfl, rfl, cr_bump s⟩
  · exact ⟨rfl, rfl, rfl, rfl, by omega⟩

/-- a function's parts, each behind what went well ahead of it -/
structure FnK (W0 : World) (n : Nat) (w1 : World) (rb : Nat) (O1 : Nat → Prop) (s : Rz.RS) (v6 : Value) (x : Nd) (kv : Value) (many : Nat) (l : List (Tr n)) (c : Tr n) : Prop where
  opn : Calls Try.prog 51 #[.pointer (some ⟨rb, 0, none⟩)] w1 (fun e w' => e = .returned (.tuple #[]) ∧ Went w1 W0.heap.size rb O1 (openP (inS x many s)) v6 w')
  slf : ∀ s1 w2, Went w1 W0.heap.size rb O1 s1 v6 w2 → Calls Try.prog 61 #[.agg #[.int .i64 x.kind, .int .i64 x.pl, .string x.name, .int .u64 x.num, .string x.op, kv]] w2 (fun e w' => e = .returned (.bool (selfB x)) ∧ Went w1 W0.heap.size rb O1 s1 v6 w')
  var : ∀ w2, Went w1 W0.heap.size rb O1 (openP (inS x many s)) v6 w2 → Calls Try.prog 72 #[.pointer (some ⟨rb, 0, none⟩), .agg #[.int .i64 x.kind, .int .i64 x.pl, .string x.name, .int .u64 x.num, .string x.op, kv], .int .i64 5, .int .i64 (many : Int)] w2 (fun e w' => e = .returned (.tuple #[]) ∧ Went w1 W0.heap.size rb O1 (putVarP x.name x.pl 5 many (openP (inS x many s))) v6 w')
  op2 : ∀ w2, Went w1 W0.heap.size rb O1 (slS x many s) v6 w2 → Calls Try.prog 51 #[.pointer (some ⟨rb, 0, none⟩)] w2 (fun e w' => e = .returned (.tuple #[]) ∧ Went w1 W0.heap.size rb O1 (enterP x many s) v6 w')
  pst : ∀ w2, Went w1 W0.heap.size rb O1 (enterP x many s) v6 w2 → PaAt W0 n w1 rb O1 (enterP x many s) v6 l 0 w2
  pas : ∀ (i : Nat) (t : Tr n) wr wb, l[i]? = some t → PaAt W0 n w1 rb O1 (enterP x many s) v6 l i wr → Below wr.heap.size wr wb → Calls Try.prog 64 #[.pointer (some ⟨rb, 0, none⟩), valT n t, .int .i64 3] wb fun e w' => (e = .returned (.tuple #[]) ∧ PaAt W0 n w1 rb O1 (enterP x many s) v6 l (i + 1) w') ∨ ∃ er, e = .panicked (thrown er) ∧ parsP (ndR n) l (enterP x many s) = .error er ∧ Chg O1 w1 w'
  bmp : ∀ s1 w2, PaE n l (enterP x many s) s1 → Went w1 W0.heap.size rb O1 s1 v6 w2 → ∃ g, (varsAt s1 : Int) ≤ 100000000 ∧ Calls Try.prog 71 #[.pointer (some ⟨rb, 0, none⟩)] w2 (fun e w' => e = .returned (.pointer (some ⟨g, s1.fn * 4, none⟩)) ∧ w'.cell? ⟨g, s1.fn * 4 + 3, none⟩ = some (.int .i64 (varsAt s1 : Int)) ∧ w'.frozen? ⟨g, s1.fn * 4 + 3, none⟩ = false ∧ Went w1 W0.heap.size rb O1 (bumpP s1) v6 (w'.setCell ⟨g, s1.fn * 4 + 3, none⟩ (.int .i64 ((varsAt s1 : Int) + 1))))
  bod : ∀ s1 w2, PaE n l (enterP x many s) s1 → Went w1 W0.heap.size rb O1 (bpS x s1) v6 w2 → Calls Try.prog 52 #[.pointer (some ⟨rb, 0, none⟩), .slice (atT n c) (nkT n c) (capT n c)] w2 (Out w1 W0.heap.size rb O1 v6 (.tuple #[]) ((resP bi n).2 c (bpS x s1)))
  sh1 : ∀ s1 s3 w2, PaE n l (enterP x many s) s1 → (resP bi n).2 c (bpS x s1) = .ok s3 → Went w1 W0.heap.size rb O1 s3 v6 w2 → Calls Try.prog 53 #[.pointer (some ⟨rb, 0, none⟩)] w2 (fun e w' => e = .returned (.tuple #[]) ∧ Went w1 W0.heap.size rb O1 (shutP s3) v6 w')
  sh2 : ∀ s1 s3 w2, PaE n l (enterP x many s) s1 → (resP bi n).2 c (bpS x s1) = .ok s3 → Went w1 W0.heap.size rb O1 (shutP s3) v6 w2 → Calls Try.prog 53 #[.pointer (some ⟨rb, 0, none⟩)] w2 (fun e w' => e = .returned (.tuple #[]) ∧ Went w1 W0.heap.size rb O1 (shutP (shutP s3)) v6 w')
  fnl : ∀ s1 s3 w2, PaE n l (enterP x many s) s1 → (resP bi n).2 c (bpS x s1) = .ok s3 → Went w1 W0.heap.size rb O1 (shutP (shutP s3)) v6 w2 → s.scopes.length < (shutP (shutP s3)).scopes.length

theorem Went.gd {w w' : World} {B rb : Nat} {O : Nat → Prop} {s : Rz.RS} {v6 : Value} (h : Went w B rb O s v6 w') : s.fn < s.scopes.length := by
  obtain ⟨O', ⟨tg, v0, v1, v2, v3, ms, hm, hO⟩, _, _⟩ := h
  exact hm.gd.fnl

theorem vars_le {s : Rz.RS} : varsAt s ≤ cr s := by
  unfold varsAt cr
  cases hy : s.scopes[s.fn]? with
  | none => simp
  | some y =>
    have h2 : y.vars ≤ (s.scopes.map Rz.Scp.vars).sum := le_sum (List.mem_map.2 ⟨y, List.mem_of_getElem? hy, rfl⟩)
    simp only [Option.map_some, Option.getD_some]
    omega

theorem cons_of_len {α : Type} {l : List α} (h : 1 ≤ l.length) : ∃ a b, l = a :: b := by
  cases l with
  | nil => simp at h
  | cons a b => exact ⟨a, b, rfl⟩

theorem fnK_of {W0 : World} {n : Nat} (hN : ∀ m, m < n → NC W0 m) {w1 : World} {rb : Nat} {O1 : Nat → Prop} {s : Rz.RS} {v6 : Value} {x : Nd} {many : Nat} (h : On W0 rb O1 (inS x many s) v6 w1) (hnm : x.name.size ≤ maxLen) {kv : Value} {l : List (Tr n)} {c : Tr n} (hl : ∀ y ∈ l, okF n W0 y) (hc : okF n W0 c) (hb : cr s + 8 + 8 * ((l.map (szT n)).sum + szT n c) ≤ lim) (hd : dp s + 4 + 4 * n ≤ lim) : FnK W0 n w1 rb O1 s v6 x kv many l c := by
  have hci := cr_in x many s
  have hdi := dp_in x many s
  have hcs := cr_sl x many s
  obtain ⟨hds, hbs, hfs⟩ := dp_sl x many s
  have hsl := sum_len (szT n) (sz_pos n) l
  have hce : cr (enterP x many s) ≤ cr s + 2 := hcs
  have hbe : (enterP x many s).blocks.length = s.blocks.length + 2 := by rw [enter_is]; unfold openP; simp only [List.length_cons]; omega
  have hde : dp (enterP x many s) ≤ dp s + 2 := by
    rw [enter_is]
    unfold dp openP at *
    simp only [List.length_cons]
    omega
  have hfe : (enterP x many s).fn = s.scopes.length := hfs
  have hdp1 : ∀ {s1 : Rz.RS}, PaE n l (enterP x many s) s1 → dp (bpS x s1) ≤ dp s + 2 := fun {s1} p => by
    obtain ⟨q1, q2, q3, q4, q5⟩ := bp_keeps x s1
    unfold dp at *
    rw [q1, q2, q3, p.bl, p.lb, p.lo]
    exact hde
  refine ⟨open_any w1 W0.heap.size rb O1 _ v6 h.mem (bg_of (by omega) (by omega)), fun s1 w2 hw => relR (P := fun e => e = .returned (.bool (selfB x))) h hw fun O2 o2 => hasSelf_any w2 x kv, fun w2 hw => relW h hw fun O2 o2 => ?_, fun w2 hw => relW h hw fun O2 o2 => ?_, fun w2 hw => ?_, fun i t wr wb ht hp hbl => ?_, fun s1 w2 p hw => ?_, fun s1 w2 p hw => rel h hw fun O2 o2 => ?_, fun s1 s3 w2 p e hw => relW h hw fun O2 o2 => ?_, fun s1 s3 w2 p e hw => relW h hw fun O2 o2 => ?_, fun s1 s3 w2 p e hw => ?_⟩
  · exact variable_any w2 W0.heap.size rb O2 (openP (inS x many s)) v6 o2.mem (bg_of (by rw [cr_open]; omega) (by unfold dp openP at *; simp only [List.length_cons]; omega)) [] (inS x many s).blocks rfl x.kind x.pl x.num x.name x.op kv hnm (fun y hy => by cases hy) 5 many
  · rw [enter_is]
    exact open_any w2 W0.heap.size rb O2 (slS x many s) v6 o2.mem (bg_of (by omega) (by omega))
  · obtain ⟨O2, o1, o2, o3⟩ := h.went hw
    exact ⟨Nat.zero_le _, _, rfl, ⟨O2, o1, o2, o3⟩, by omega, rfl, rfl, rfl, rfl⟩
  · have ho := hl t (List.mem_of_getElem? ht)
    have hs := okT_name ho.1
    have q := hp.step ht hbl (by omega) (by omega) (by omega) (by rw [nd_same]; exact hs) (ndT n t).kind (ndT n t).num (ndT n t).op (.slice (atT n t) (nkT n t) (capT n t))
    rw [nd_same] at q
    exact q
  · obtain ⟨O2, o1, o2, o3⟩ := h.went hw
    obtain ⟨g, nn, cap, q0, q3, qf, qs, qw⟩ := o1.mem.bump
    refine ⟨g, ?_, (qs w2 (Below.refl _ _)).mono ?_⟩
    · have hv := vars_le (s := s1)
      have hp := p.cr'
      unfold lim at hb
      omega
    · rintro e w' ⟨rfl, hb'⟩
      have hlt := World.block_lt_of_cell? w2 _ q3
      refine ⟨rfl, Sc.cells_below hb' _ _ q3, ?_, ?_⟩
      · rw [World.frozen?_of_block (w := w2) (a := ⟨g, s1.fn * 4 + 3, none⟩) (hb'.block g hlt)]
        exact qf
      · exact went_then (o2.trans (Chg.of_below hb') (fun _ _ (q : O1 _) => q)) o3 (qw w' hb')
  · obtain ⟨q1, q2, q3, q4, q5⟩ := bp_keeps x s1
    have hp := p.cr'
    have hdd := hdp1 p
    exact body_any W0 n hN w2 rb O2 (bpS x s1) v6 o2 c hc (by omega) (by omega) (by rw [q1, p.bl]; omega)
  · obtain ⟨q1, q2, q3, q4, q5⟩ := bp_keeps x s1
    have hk := body_keeps e
    obtain ⟨c0, cs, hbs'⟩ := cons_of_len (l := s3.blocks) (by rw [hk, q1, p.bl]; omega)
    exact shut_any w2 W0.heap.size rb O2 s3 v6 o2.mem c0 cs hbs'
  · obtain ⟨q1, q2, q3, q4, q5⟩ := bp_keeps x s1
    have hk := body_keeps e
    obtain ⟨c0, cs, hbs'⟩ := cons_of_len (l := (shutP s3).blocks) (by unfold shutP; simp only [List.length_drop]; rw [hk, q1, p.bl]; omega)
    exact shut_any w2 W0.heap.size rb O2 (shutP s3) v6 o2.mem c0 cs hbs'
  · obtain ⟨q1, q2, q3, q4, q5⟩ := bp_keeps x s1
    have hg := hw.gd
    have ht := ((keeps_resP bi n).2 c _ s3 e).fn
    have : (shutP (shutP s3)).fn = s.scopes.length := by
      show s3.fn = _
      rw [ht, q4, p.fn', hfe]
    omega

end Go.Proofs.Ytihmdcdifakepaa.Rv
