/- Whose variable a name is: what nodes leave as it was. -/
import Derived.Test.YtihmdcdifakepabB2
import Derived.Test.YtihmdcdifakepabProg
import Derived.Test.YtihmdcdifakepabSD
import Derived.WalkKit
import Derived.WalkSpells
import Derived.WalkLawsBesides
import Derived.BigQuiet
import Derived.Below
import Derived.Laws.Rows
import Derived.Laws.AppendOwn
import Derived.Maps.AppendAt
namespace Go.Proofs.Ytihmdcdifakepab.Rz
open Go.Proofs.Ytihmdcdifakepab.Sc
set_option linter.unusedVariables false

theorem tails_pars {α : Type} (nd : α → Nd) : ∀ l, Tails (parsP nd l)
  | [], s, s', e => by obtain rfl := Except.ok.inj e; exact Tail.refl s
  | k :: r, s, s', e => by
    obtain ⟨s1, e1, e2⟩ := bind_ok e
    exact (tail_decl _ _ _ s s1 e1).trans (tails_pars nd r s1 s' e2)

theorem enterP_blocks (x : Nd) (many : Nat) (s : RS) : ∃ b, (enterP x many s).blocks = [] :: b :: s.blocks ∧ (selfB x = false → b = []) ∧ (selfB x = true → b = [(x.name, s.vars.length)]) := by
  unfold enterP
  cases selfB x with
  | true => exact ⟨_, rfl, (fun h => by cases h), fun _ => rfl⟩
  | false => exact ⟨_, rfl, (fun _ => rfl), (fun h => by cases h)⟩

theorem keeps_functionP {α : Type} (nd : α → Nd) {body : α → RM} (hb : ∀ k, Tails (body k)) (x : Nd) (l : List α) : Keeps (functionP nd body x l) := fun s s' e => by
  unfold functionP at e
  split at e
  · cases e
  · cases hl : l.getLast? with
    | none => rw [hl] at e; obtain rfl := Except.ok.inj e; exact Same.refl s
    | some b =>
      rw [hl] at e
      simp only at e
      obtain ⟨s1, e1, e2⟩ := bind_ok e
      obtain ⟨s2, e3, e4⟩ := bind_ok e2
      obtain rfl := Except.ok.inj e4
      have h1 := tails_pars nd _ _ s1 e1
      have h2 := hb b _ s2 e3
      have hbk : (if selfB x then bumpP s1 else s1).blocks = s1.blocks := by split <;> rfl
      obtain ⟨c, hc, _⟩ := enterP_blocks x (l.length - 1) s
      refine ⟨?_, rfl, rfl, rfl⟩
      show (s2.blocks.drop 1).drop 1 = s.blocks
      rw [h2.blocks, hbk, h1.blocks, hc]
      rfl

theorem keeps_useR (bi : ByteArray → Bool) (nm : ByteArray) (pl : Int) (wr : Bool) : Keeps (useR bi nm pl wr) := fun s s' e => by
  unfold useR at e
  cases hf : findP nm s.blocks with
  | some w =>
    rw [hf] at e
    simp only at e
    split at e
    · cases e
    · obtain rfl := Except.ok.inj e
      split <;> exact ⟨rfl, rfl, rfl, rfl⟩
  | none =>
    rw [hf] at e
    simp only at e
    split at e
    · split at e
      · cases e
      · obtain rfl := Except.ok.inj e
        exact ⟨rfl, rfl, rfl, rfl⟩
    · cases e

theorem keeps_give {α : Type} (bi : ByteArray → Bool) (nd : α → Nd) {f : α → RM} (hf : ∀ k, Keeps (f k)) (l : List α) : Keeps (giveP bi nd f l) := fun s s' e => by
  unfold giveP at e
  cases l with
  | nil => obtain rfl := Except.ok.inj e; exact Same.refl s
  | cons t r =>
    simp only at e
    split at e
    · cases hu : useP bi (nd t).name (nd t).pl s with
      | error x => rw [hu] at e; cases e
      | ok p =>
        obtain ⟨v, s1⟩ := p
        rw [hu] at e
        simp only at e
        split at e
        · cases e
        · exact (use_same bi _ _ s s1 v hu).trans (keeps_each hf r s1 s' e)
    · exact keeps_each hf _ s s' e

theorem keeps_resP (bi : ByteArray → Bool) : ∀ n, (∀ t, Keeps ((resP bi n).1 t)) ∧ (∀ t, Tails ((resP bi n).2 t))
  | 0 => ⟨(fun t => nomatch (t : Empty)), (fun t => nomatch (t : Empty))⟩
  | n + 1 => by
    obtain ⟨i1, i2⟩ := keeps_resP bi n
    refine ⟨fun t s s' e => ?_, fun t => tails_items (ndR n) i1 _⟩
    simp only [resP] at e
    split at e
    · cases hu : useP bi t.1.name t.1.pl s with
      | error x => rw [hu] at e; cases e
      | ok p =>
        obtain ⟨v, s1⟩ := p
        rw [hu] at e
        simp only at e
        obtain rfl := Except.ok.inj e
        exact use_same bi _ _ s s1 v hu
    · split at e
      · exact keeps_give bi _ i1 _ s s' e
      · split at e
        · exact keeps_functionP _ i2 _ _ s s' e
        · split at e
          · exact keeps_block _ i1 _ s s' e
          · split at e
            · exact keeps_bind (keeps_each i1 _) (keeps_bind (keeps_catch _ i2 _ _) (keeps_each i1 _)) s s' e
            · split at e
              · exact keeps_loop i1 _ s s' e
              · split at e
                · exact keeps_loopOf i1 i1 _ _ s s' e
                · split at e
                  · exact keeps_label i1 _ _ _ s s' e
                  · split at e
                    · exact keeps_jump _ s s' e
                    · split at e
                      · exact keeps_leave i1 _ _ s s' e
                      · exact keeps_each i1 _ s s' e

theorem keeps_functionR {α : Type} (nd : α → Nd) {body : α → RM} (hb : ∀ k, Tails (body k)) (x : Nd) (l : List α) : Keeps (functionR nd body x l) := fun s s' e => by
  unfold functionR at e
  split at e
  · cases e
  · cases hl : l.getLast? with
    | none => rw [hl] at e; obtain rfl := Except.ok.inj e; exact Same.refl s
    | some b =>
      rw [hl] at e
      simp only at e
      obtain ⟨s1, e1, e2⟩ := bind_ok e
      obtain ⟨s2, e3, e4⟩ := bind_ok e2
      obtain rfl := Except.ok.inj e4
      have h1 := tails_pars nd _ _ s1 e1
      have h2 := hb b _ s2 e3
      have hbk : (if selfB x then bumpP s1 else s1).blocks = s1.blocks := by split <;> rfl
      refine ⟨?_, rfl, rfl, rfl⟩
      show s2.blocks.drop (if selfB x then 2 else 1) = s.blocks
      have h3 : s2.blocks.drop 1 = (enterR x (l.length - 1) s).blocks.drop 1 := by rw [h2.blocks, hbk, h1.blocks]
      unfold enterR at h3
      cases c : selfB x with
      | true =>
        rw [c] at h3
        have : s2.blocks.drop 2 = (s2.blocks.drop 1).drop 1 := by rw [List.drop_drop]
        simp only [if_true]
        rw [this, h3]
        rfl
      | false =>
        rw [c] at h3
        simp only [Bool.false_eq_true, if_false]
        rw [h3]
        rfl

theorem keeps_ok : Keeps (fun s => .ok s) := fun s s' e => by obtain rfl := Except.ok.inj e; exact Same.refl s

theorem keeps_giveR {α : Type} (bi : ByteArray → Bool) (nd : α → Nd) {f : α → RM} (hf : ∀ k, Keeps (f k)) (l : List α) : Keeps (giveR bi nd f l) := fun s s' e => by
  unfold giveR at e
  cases l with
  | nil => exact keeps_ok s s' e
  | cons t0 r =>
    simp only at e
    obtain ⟨s1, e1, e2⟩ := bind_ok e
    have h1 : Same s s1 := by
      split at e1
      · exact keeps_useR bi _ _ _ s s1 e1
      · exact hf t0 s s1 e1
    exact h1.trans (keeps_each hf r s1 s' e2)

theorem keeps_resR (bi : ByteArray → Bool) : ∀ n, (∀ t, Keeps ((resR bi n).1 t)) ∧ (∀ t, Keeps ((resR bi n).2.1 t)) ∧ (∀ t, Tails ((resR bi n).2.2 t))
  | 0 => ⟨(fun t => nomatch (t : Empty)), (fun t => nomatch (t : Empty)), (fun t => nomatch (t : Empty))⟩
  | n + 1 => by
    obtain ⟨i1, i2, i3⟩ := keeps_resR bi n
    refine ⟨fun t s s' e => ?_, fun t s s' e => ?_, fun t => tails_items (ndR n) i2 _⟩
    · simp only [resR] at e
      split at e
      · exact keeps_useR bi _ _ _ s s' e
      · split at e
        · exact keeps_functionR _ i3 _ _ s s' e
        · split at e
          · exact keeps_giveR bi _ i1 _ s s' e
          · exact keeps_each i1 _ s s' e
    · simp only [resR] at e
      split at e
      · exact keeps_functionR _ i3 _ _ s s' e
      · split at e
        · exact keeps_leave i1 _ _ s s' e
        · split at e
          · exact keeps_bind (keeps_each i1 _) (keeps_each i2 _) s s' e
          · split at e
            · exact keeps_bind (keeps_each i1 _) (keeps_loop i2 _) s s' e
            · split at e
              · exact keeps_loopOf i1 i2 _ _ s s' e
              · split at e
                · exact keeps_jump _ s s' e
                · split at e
                  · exact keeps_label i2 _ _ _ s s' e
                  · split at e
                    · exact keeps_each i1 _ s s' e
                    · split at e
                      · exact keeps_bind (keeps_each i2 _) (keeps_bind (keeps_catch _ i3 _ _) (keeps_each i2 _)) s s' e
                      · split at e
                        · exact keeps_block _ i2 _ s s' e
                        · exact keeps_ok s s' e

end Go.Proofs.Ytihmdcdifakepab.Rz

/- Trees as they lie in memory; how many nodes (the document's count, the program's holds). -/
namespace Go.Proofs.Ytihmdcdifakepab.Sc
open Go.RowKit
set_option linter.unusedVariables false

def Sli.val {β : Type} (s : Sli β) : Value := .slice s.at' s.xs.length s.cap

/-- it lies in memory, k cells an element -/
structure Sli.ok {β : Type} (enc : β → List Value) (k : Nat) (w : World) (s : Sli β) : Prop where
  len : s.xs.length ≤ s.cap
  cap : s.cap ≤ maxLen
  cells : s.xs ≠ [] → ∃ b off, s.at' = some ⟨b, off, none⟩ ∧ ∀ i y, s.xs[i]? = some y → ∀ j u, (enc y)[j]? = some u → w.cell? ⟨b, off + i * k + j, none⟩ = some u

theorem Sli.ok.kept {β : Type} {enc : β → List Value} {k : Nat} {w w' : World} {s : Sli β} (h : s.ok enc k w) (hc : ∀ a u, w.cell? a = some u → w'.cell? a = some u) : s.ok enc k w' := by
  refine ⟨h.len, h.cap, fun h0 => ?_⟩
  obtain ⟨b, off, h1, h2⟩ := h.cells h0
  exact ⟨b, off, h1, fun i y hi j u hj => hc _ _ (h2 i y hi j u hj)⟩

theorem cells_below {w w' : World} (h : Below w.heap.size w w') : ∀ a u, w.cell? a = some u → w'.cell? a = some u := by
  intro a u hu
  rw [h.cell (World.block_lt_of_cell? w _ hu)]
  exact hu

def ndT : (n : Nat) → Tr n → Nd
  | 0, t => nomatch (t : Empty)
  | _ + 1, (x, _) => x
def atT : (n : Nat) → Tr n → Option Addr
  | 0, t => nomatch (t : Empty)
  | _ + 1, (_, s) => s.at'
def capT : (n : Nat) → Tr n → Nat
  | 0, t => nomatch (t : Empty)
  | _ + 1, (_, s) => s.cap

theorem kd_nd (n : Nat) (t : Tr n) : kdT n t = (ndT n t).kind := by
  cases n with
  | zero => exact nomatch (t : Empty)
  | succ n => rfl
theorem pl_nd (n : Nat) (t : Tr n) : plT n t = (ndT n t).pl := by
  cases n with
  | zero => exact nomatch (t : Empty)
  | succ n => rfl

structure Nd.wf (x : Nd) : Prop where
  pl : (Lit.int .i64 x.pl).wf = true
  name : x.name.size ≤ maxLen
  op : x.op.size ≤ maxLen

def encT (n : Nat) (t : Tr n) : List Value := [.int .i64 (ndT n t).kind, .int .i64 (ndT n t).pl, .string (ndT n t).name, .int .u64 (ndT n t).num, .string (ndT n t).op, .slice (atT n t) (nkT n t) (capT n t)]
def valT (n : Nat) (t : Tr n) : Value := .agg #[.int .i64 (ndT n t).kind, .int .i64 (ndT n t).pl, .string (ndT n t).name, .int .u64 (ndT n t).num, .string (ndT n t).op, .slice (atT n t) (nkT n t) (capT n t)]

def okT : (n : Nat) → World → Tr n → Prop
  | 0, _, t => nomatch (t : Empty)
  | n + 1, w, (x, s) => x.wf ∧ s.ok (encT n) 6 w ∧ ∀ y ∈ s.xs, okT n w y

theorem okT_kept {n : Nat} {w w' : World} {t : Tr n} (h : okT n w t) (hc : ∀ a u, w.cell? a = some u → w'.cell? a = some u) : okT n w' t := by
  induction n with
  | zero => exact nomatch (t : Empty)
  | succ n ih =>
    obtain ⟨x, s⟩ := t
    exact ⟨h.1, h.2.1.kept hc, fun y hy => ih (h.2.2 y hy)⟩

theorem val_succ (n : Nat) (x : Nd) (s : Sli (Tr n)) : valT (n + 1) ((x, s) : Nd × Sli (Tr n)) = .agg #[.int .i64 x.kind, .int .i64 x.pl, .string x.name, .int .u64 x.num, .string x.op, .slice s.at' s.xs.length s.cap] := rfl

/-- the kid at a place -/
theorem kid_at {n : Nat} {w : World} {s : Sli (Tr n)} (h : s.ok (encT n) 6 w) {k : Nat} (hk : k < s.xs.length) :
    ∃ (y : Tr n) (b off : Nat), s.at' = some ⟨b, off, none⟩ ∧ s.xs[k]? = some y ∧
      w.cell? ⟨b, off + k * 6, none⟩ = some (.int .i64 (ndT n y).kind) ∧ w.cell? ⟨b, off + k * 6 + 1, none⟩ = some (.int .i64 (ndT n y).pl) ∧ w.cell? ⟨b, off + k * 6 + 2, none⟩ = some (.string (ndT n y).name) ∧
      w.cell? ⟨b, off + k * 6 + 3, none⟩ = some (.int .u64 (ndT n y).num) ∧ w.cell? ⟨b, off + k * 6 + 4, none⟩ = some (.string (ndT n y).op) ∧ w.cell? ⟨b, off + k * 6 + 5, none⟩ = some (.slice (atT n y) (nkT n y) (capT n y)) := by
  obtain ⟨b, off, h1, h2⟩ := h.cells (by intro e; rw [e] at hk; simp at hk)
  have hy := List.getElem?_eq_getElem hk
  have g := h2 k _ hy
  exact ⟨s.xs[k], b, off, h1, hy, g 0 _ rfl, g 1 _ rfl, g 2 _ rfl, g 3 _ rfl, g 4 _ rfl, g 5 _ rfl⟩
end Go.Proofs.Ytihmdcdifakepab.Sc

/- How many nodes: the document's count. -/
namespace Go.Proofs.Ytihmdcdifakepab.Sc
open Go.RowKit
set_option linter.unusedVariables false

theorem loopC_range {α : Type} (f : α → Int → Int) (hf : ∀ k r, 0 ≤ r → -1 ≤ f k r ∧ f k r ≤ r) (xs : List α) (r : Int) (h : -1 ≤ r) : -1 ≤ loopC f xs r ∧ loopC f xs r ≤ r := by
  induction xs generalizing r with
  | nil => exact ⟨h, Int.le_refl _⟩
  | cons k ks ih =>
    rw [loopC]
    by_cases c : 0 ≤ r
    · rw [if_pos c]
      have h1 := hf k r c
      have h2 := ih (f k r) h1.1
      omega
    · rw [if_neg c]
      omega

theorem count_range (n lv : Nat) (t : Tr n) (r : Int) (h : 0 ≤ r) : -1 ≤ countT n lv t r ∧ countT n lv t r ≤ r := by
  induction n generalizing lv r with
  | zero => exact nomatch (t : Empty)
  | succ n ih =>
    obtain ⟨x, s⟩ := t
    rw [countT]
    by_cases c : lv = 0
    · rw [if_pos c]; omega
    · rw [if_neg c]
      have := loopC_range (countT n (lv - 1)) (fun k r hr => ih (lv - 1) k r hr) s.xs (r - 1) (by omega)
      omega

/-- a box on top -/
theorem box_new (w : World) (cs : Array Value) (ty : TypeId) : ∀ i v, cs[i]? = some v → (w.alloc (.cells cs ty)).cell? ⟨w.heap.size, i, none⟩ = some v := by
  intro i v h
  rw [cell_of_row _ w.heap.size _ cs ty (0, 0) (by show (w.heap.push _)[w.heap.size]? = _; rw [Array.getElem?_push_size])]
  exact h

structure CntAt {n : Nat} (lv : Nat) (xs : List (Tr n)) (r0 : Int) (w1 wr : World) (k : Nat) (r : Int) : Prop where
  le : k ≤ xs.length
  val : loopC (countT n lv) xs r0 = loopC (countT n lv) (xs.drop k) r
  lo : -1 ≤ r
  hi : r ≤ r0
  bel : Below w1.heap.size w1 wr
end Go.Proofs.Ytihmdcdifakepab.Sc

/- What a call leaves as it was; rows of numbers of the call's own; the document's places: once, declared, used. -/
namespace Go.Proofs.Ytihmdcdifakepab.Sc
open Go.RowKit
set_option linter.unusedVariables false

/-- nothing has turned but blocks of S, and new ones -/
structure Chg (S : Nat → Prop) (w w' : World) : Prop where
  os : w'.os = w.os
  tape : w'.tape = w.tape
  output : w'.output = w.output
  size : w.heap.size ≤ w'.heap.size
  block : ∀ k, k < w.heap.size → ¬ S k → w'.heap[k]? = w.heap[k]?

theorem Chg.refl (S : Nat → Prop) (w : World) : Chg S w w := ⟨rfl, rfl, rfl, Nat.le_refl _, fun _ _ _ => rfl⟩
theorem Chg.trans {S S' : Nat → Prop} {a b c : World} (h : Chg S a b) (k : Chg S' b c) (hs : ∀ i, i < a.heap.size → S' i → S i) : Chg S a c :=
  ⟨k.os.trans h.os, k.tape.trans h.tape, k.output.trans h.output, Nat.le_trans h.size k.size, fun i hi hn => (k.block i (Nat.lt_of_lt_of_le hi h.size) (fun q => hn (hs i hi q))).trans (h.block i hi hn)⟩
theorem Chg.of_below {S : Nat → Prop} {w w' : World} (h : Below w.heap.size w w') : Chg S w w' := ⟨h.os, h.tape, h.output, h.size, fun k hk _ => h.block k hk⟩
theorem Chg.of_grown {S : Nat → Prop} {w w' : World} {row : Option Nat} (h : w.grownBy w' row) (hr : ∀ k, row = some k → S k) : Chg S w w' :=
  ⟨h.os, h.tape, h.output, h.size, fun k hk hn => h.block k hk (fun e => hn (hr k e.symm))⟩
theorem Chg.set {S : Nat → Prop} (w : World) (p : Addr) (v : Value) (hs : S p.block) : Chg S w (w.setCell p v) :=
  ⟨rfl, rfl, rfl, by simp, fun k hk hn => Below.heap_setCell w p v k (fun e => hn (e ▸ hs))⟩
theorem Chg.cell {S : Nat → Prop} {w w' : World} (h : Chg S w w') {a : Addr} {u : Value} (hu : w.cell? a = some u) (hn : ¬ S a.block) : w'.cell? a = some u := by
  rw [World.cell?_of_block (w := w) (h.block a.block (World.block_lt_of_cell? w _ hu) hn)]
  exact hu
theorem Chg.below {S : Nat → Prop} {B : Nat} {W w w' : World} (h : Chg S w w') (hb : Below B W w) (hB : B ≤ w.heap.size) (hs : ∀ k, S k → B ≤ k) : Below B W w' :=
  ⟨h.os.trans hb.os, h.tape.trans hb.tape, h.output.trans hb.output, Nat.le_trans hb.size h.size, fun k hk => (h.block k (by omega) (fun q => by have := hs k q; omega)).trans (hb.block k hk)⟩

def iv (z : Int) : Value := .int .i64 z
/-- a row of numbers of the call's own -/
def OwnI (B : Nat) (w : World) (v : Value) (zs : List Int) : Prop := w.ownsRow B 3 1 v zs.length (zs.map iv)

theorem grown_of_below {w w' : World} (h : Below w.heap.size w w') : w.grownBy w' none := ⟨h.os, h.tape, h.output, h.size, fun k hk _ => h.block k hk⟩

theorem OwnI.lt {B : Nat} {w : World} {v : Value} {zs : List Int} (h : OwnI B w v zs) : ∀ k, v.ownBlock = some k → B ≤ k ∧ k < w.heap.size := by
  intro k hk
  rcases h.2 with ⟨rfl, _⟩ | ⟨g, cap, cur, rfl, hb, hg, _⟩
  · simp [Value.ownBlock] at hk
  · simp [Value.ownBlock] at hk
    subst hk
    refine ⟨hb, ?_⟩
    rcases Nat.lt_or_ge g w.heap.size with c | c
    · exact c
    · rw [Array.getElem?_eq_none c] at hg; cases hg

theorem OwnI.kept {B : Nat} {w w' : World} {v : Value} {zs : List Int} {S : Nat → Prop} (h : OwnI B w v zs) (hb : Chg S w w') (hs : ∀ k, v.ownBlock = some k → ¬ S k) : OwnI B w' v zs := by
  cases hv : v.ownBlock with
  | none =>
    rcases h.2 with ⟨rfl, h0⟩ | ⟨g, cap, cur, rfl, _⟩
    · exact ⟨h.1, Or.inl ⟨rfl, h0⟩⟩
    · simp [Value.ownBlock] at hv
  | some k =>
    rcases h.2 with ⟨rfl, h0⟩ | ⟨g, cap, cur, rfl, hbg, hg, h3⟩
    · simp [Value.ownBlock] at hv
    · simp [Value.ownBlock] at hv
      subst hv
      exact ⟨h.1, Or.inr ⟨g, cap, cur, rfl, hbg, by rw [hb.block g (h.lt g rfl).2 (hs g rfl)]; exact hg, h3⟩⟩

theorem OwnI.nil (B : Nat) (w : World) : OwnI B w (.slice none 0 0) [] := ⟨rfl, Or.inl ⟨rfl, rfl⟩⟩

/-- numbers in memory -/
def IntsAt (w : World) (ad : Option Addr) (zs : List Int) : Prop := zs ≠ [] → ∃ b off, ad = some ⟨b, off, none⟩ ∧ ∀ i z, zs[i]? = some z → w.cell? ⟨b, off + i, none⟩ = some (.int .i64 z)

theorem OwnI.ints {B : Nat} {w : World} {v : Value} {zs : List Int} (h : OwnI B w v zs) : ∃ ad cap, v = .slice ad zs.length cap ∧ zs.length ≤ cap ∧ cap ≤ maxLen ∧ IntsAt w ad zs := by
  rcases h.2 with ⟨rfl, hn⟩ | ⟨g, cap, cur, rfl, hb, hg, hnc, hcm, hcs, ht⟩
  · exact ⟨none, 0, by rw [hn], by omega, by unfold maxLen; omega, fun h0 => absurd (List.length_eq_zero_iff.1 hn) h0⟩
  · refine ⟨some ⟨g, 0, none⟩, cap, rfl, hnc, hcm, fun h0 => ⟨g, 0, rfl, ?_⟩⟩
    intro i z hi
    rw [cell_of_row w g _ cur 3 (0, 0) hg]
    have il : i < zs.length := by
      rcases Nat.lt_or_ge i zs.length with k | k
      · exact k
      · rw [List.getElem?_eq_none k] at hi
        exact absurd hi (by simp)
    have e : (cur.toList.take (zs.length * 1))[i]? = (zs.map iv)[i]? := by rw [ht]
    rw [List.getElem?_take_of_lt (by omega), List.getElem?_map, hi] at e
    simpa [iv] using e

theorem info3 : (Try.prog.info? 3).map (fun i => (i.zero, i.size, i.bytes)) = some (some (.int .i64 0), 1, 8) := by kernel_rfl

/-- a number more behind the row -/
theorem app_one {w : World} {ops : Array Oper} {rest : List Oper} {o : Oper} {a : Act} {Q : Exit → Act → World → Prop} (hgd : o.guard = none) (s x : Operand)
    (ho : o.op = .call { callee := .builtin .append, args := #[s, x], argTypes := #[36, 36] })
    (B : Nat) (v : Value) (zs : List Int) (hs : a.eval s = v) (hown : OwnI B w v zs) (g : Nat) (z : Int) (hx : a.eval x = .slice (some ⟨g, 0, none⟩) 1 1) (hg : w.cell? ⟨g, 0, none⟩ = some (.int .i64 z))
    (hb : (zs.length + 1) * 8 ≤ 140737488355328) (hB : B ≤ w.heap.size)
    (h : ∀ v' w', OwnI B w' v' (zs ++ [z]) → w.grownBy w' v.ownBlock → (v'.ownBlock = v.ownBlock ∨ v'.ownBlock = some w.heap.size) → wpList Try.prog ops Q rest (a.put o.dst v') w') : wpList Try.prog ops Q (o :: rest) a w := by
  obtain ⟨i0, hi, hz0, hz1, hz2⟩ := info_parts info3
  refine wpList_append_own_at _ hgd s x 36 ho B 3 i0 (.int .i64 0) 1 8 Try.underlying36 hi hz0 hz1 hz2 rfl (by decide) v zs.length (zs.map iv) hs hown ⟨g, 0, none⟩ 1 1 [.int .i64 z] hx rfl ?_ ?_ (by unfold maxLen; omega) hb hB ?_
  · intro j u hj
    cases j with
    | zero => simp at hj; subst hj; exact hg
    | succ j => simp at hj
  · intro u hu
    simp at hu
    subst hu
    rfl
  · intro v' w' h1 h2 _ h4
    refine h v' w' ?_ h2 h4
    unfold OwnI
    rw [List.length_append, List.map_append]
    exact h1

theorem one_cell (w : World) (z : Int) : (w.alloc (.cells #[.int .i64 z] 3)).cell? ⟨w.heap.size, 0, none⟩ = some (.int .i64 z) := box_new w #[.int .i64 z] 3 0 _ rfl

def onceI (zs : List Int) (a : Int) : List Int := if a ∈ zs then zs else zs ++ [a]

structure OnAt (zs : List Int) (x : Int) (w wr : World) (k : Nat) : Prop where
  le : k ≤ zs.length
  val : x ∉ zs.take k
  same : wr = w
end Go.Proofs.Ytihmdcdifakepab.Sc
