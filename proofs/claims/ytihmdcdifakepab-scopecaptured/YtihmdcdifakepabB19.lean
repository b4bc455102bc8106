/- The resolver's walk: into a function, and out of it. -/
import Derived.Test.YtihmdcdifakepabB18
namespace Go.Proofs.Ytihmdcdifakepab.Rv
open Go.RowKit Go.Proofs.Ytihmdcdifakepab.Sc Go.Proofs.Ytihmdcdifakepab.Rz
set_option linter.unusedVariables false
set_option linter.unusedSimpArgs false

/-- a function is entered: its scope is told; behind what is done in it all is as it was around it -/
theorem Mem.enter {w : World} {B rb : Nat} {O : Nat → Prop} {s : Rz.RS} {v6 : Value} (h : Mem w B rb O s v6) : ∃ v0, w.cell? ⟨rb, 0, none⟩ = some v0 ∧ OwnR scpC 4 66 B w v0 s.scopes ∧ (∀ b, v0.ownBlock = some b → O b ∧ b ≠ rb) ∧ ∀ (y : Rz.Scp) (w5 : World) (v0' : Value), Chg (fun b => v0.ownBlock = some b) (hereW w rb s.scopes.length 0 (.slice none 0 0)) w5 → OwnR scpC 4 66 B w5 v0' (s.scopes ++ [y]) → (∀ b, v0'.ownBlock = some b → v0.ownBlock = some b ∨ w.heap.size ≤ b) →
    ∃ O1, Mem (w5.setCell ⟨rb, 0, none⟩ v0') B rb O1 { s with scopes := s.scopes ++ [y], fn := s.scopes.length, loops := 0, labels := [] } (.slice none 0 0) ∧ Chg O w (w5.setCell ⟨rb, 0, none⟩ v0') ∧ (∀ b, O1 b → O b ∨ w.heap.size ≤ b) ∧
      ∀ s2 w2, Went (w5.setCell ⟨rb, 0, none⟩ v0') B rb O1 s2 (.slice none 0 0) w2 → s.fn < s2.scopes.length → Went w B rb O { s2 with fn := s.fn, loops := s.loops, labels := s.labels } v6 (hereW w2 rb s.fn s.loops v6) := by
  obtain ⟨tg, v0, v1, v2, v3, ms, hm, hO⟩ := h
  have hno0 : ∀ b, v0.ownBlock = some b → b ≠ rb := fun b q e => by have h1 := hm.t1 b q; have h2 := hm.t0; rw [e] at h1; omega
  refine ⟨v0, hm.c.1, hm.r0, fun b q => ⟨(hO b).2 (Or.inr (Or.inl q)), hno0 b q⟩, fun y w5 v0' hc ho hat => ?_⟩
  have hW := hm.weak.here s.scopes.length 0 (v6' := .slice none 0 0) (xs' := []) (OwnR.nil _ _) (fun b q => by simp [Value.ownBlock] at q)
  have hch := here_chg w rb s.scopes.length 0 (.slice none 0 0)
  have hszh : (hereW w rb s.scopes.length 0 (.slice none 0 0)).heap.size = w.heap.size := by unfold hereW; simp
  obtain ⟨a1, a2, a3⟩ := hW.row0 hc ho (fun b q => by rw [hszh]; exact hat b q)
  have hfull := a1.full ⟨by simp, hm.gd.blk, hm.gd.wf⟩
  have hdown : ∀ b, Ow rb v0 v1 v2 v3 (.slice none 0 0) ms b → Ow rb v0 v1 v2 v3 v6 ms b := by
    rintro b (q | q | q | q | q | q | ⟨i, q⟩)
    · exact Or.inl q
    · exact Or.inr (Or.inl q)
    · exact Or.inr (Or.inr (Or.inl q))
    · exact Or.inr (Or.inr (Or.inr (Or.inl q)))
    · exact Or.inr (Or.inr (Or.inr (Or.inr (Or.inl q))))
    · simp [Value.ownBlock] at q
    · exact Or.inr (Or.inr (Or.inr (Or.inr (Or.inr (Or.inr ⟨i, q⟩)))))
  have hrbO : O rb := (hO rb).2 (Or.inl rfl)
  have hchg : Chg O w (w5.setCell ⟨rb, 0, none⟩ v0') := (hch.mono (S' := O) (fun b q => by rw [q]; exact hrbO)).trans a2 (fun a ha q => (hO a).2 (hdown a q))
  have hO1 : ∀ b, Ow rb v0' v1 v2 v3 (.slice none 0 0) ms b → O b ∨ w.heap.size ≤ b := fun b q => by
    rcases a3 b q with k | k
    · exact Or.inl ((hO b).2 (hdown b k))
    · rw [hszh] at k; exact Or.inr k
  refine ⟨Ow rb v0' v1 v2 v3 (.slice none 0 0) ms, ⟨_, v0', v1, v2, v3, ms, hfull, fun b => Iff.rfl⟩, hchg, hO1, ?_⟩
  rintro s2 w2 ⟨O2, ⟨tg2, u0, u1, u2, u3, ms2, h2, hO2⟩, c2, p2⟩ hfn
  have hsz5 : w.heap.size ≤ (w5.setCell ⟨rb, 0, none⟩ v0').heap.size := hchg.size
  have hnO : ∀ b, v6.ownBlock = some b → ¬ Ow rb v0' v1 v2 v3 (.slice none 0 0) ms b ∧ b < w.heap.size := fun b q => by
    have ht := hm.t5 b q
    have hlt := (hm.r6.lt b q).2
    refine ⟨?_, hlt⟩
    rintro (c | c | c | c | c | c | ⟨i, c⟩)
    · rw [c] at ht; have := hm.t0; omega
    · rcases hat b c with k | k
      · have := hm.t1 b k; omega
      · omega
    · have := hm.t2 b c; omega
    · have := hm.t3 b c; omega
    · have := hm.t4 b c; omega
    · simp [Value.ownBlock] at c
    · have := (hm.tm i b c).1; omega
  have hn6 : ∀ b, v6.ownBlock = some b → b ≠ rb := fun b q e => by have h1 := hm.t5 b q; have h2' := hm.t0; rw [e] at h1; omega
  have hn60 : ∀ b, v6.ownBlock = some b → ¬ v0.ownBlock = some b := fun b q e => by have h1 := hm.t5 b q; have h2' := hm.t1 b e; omega
  have hrow : OwnR lbC 2 116 B w2 v6 s.labels := by
    have o1 := hm.r6.here (rb := rb) hn6 s.scopes.length 0 (.slice none 0 0)
    have o2 := o1.kept hc hn60
    have o3 := o2.set (a := ⟨rb, 0, none⟩) hn6 v0'
    exact o3.kept c2 (fun b q => (hnO b q).1)
  have hno : ∀ b, v6.ownBlock = some b → b ≠ rb ∧ ¬ u0.ownBlock = some b ∧ ¬ u1.ownBlock = some b ∧ ¬ u2.ownBlock = some b ∧ ¬ u3.ownBlock = some b ∧ ∀ i : Nat, ms2[i]? ≠ some (some b) := by
    intro b q
    obtain ⟨c, d⟩ := hnO b q
    have hn2 : ¬ Ow rb u0 u1 u2 u3 (.slice none 0 0) ms2 b := fun e => by
      rcases p2 b ((hO2 b).2 e) with k | k
      · exact c k
      · omega
    exact ⟨fun e => hn2 (Or.inl e), fun e => hn2 (Or.inr (Or.inl e)), fun e => hn2 (Or.inr (Or.inr (Or.inl e))), fun e => hn2 (Or.inr (Or.inr (Or.inr (Or.inl e)))), fun e => hn2 (Or.inr (Or.inr (Or.inr (Or.inr (Or.inl e))))), fun i e => hn2 (Or.inr (Or.inr (Or.inr (Or.inr (Or.inr (Or.inr ⟨i, e⟩))))))⟩
  have hback := (h2.weak.here s.fn s.loops hrow hno).full ⟨hfn, h2.gd.blk, h2.gd.wf⟩
  have hup : ∀ b, Ow rb u0 u1 u2 u3 (.slice none 0 0) ms2 b → O b ∨ w.heap.size ≤ b := fun b q => by
    rcases p2 b ((hO2 b).2 q) with k | k
    · exact hO1 b k
    · exact Or.inr (Nat.le_trans hsz5 k)
  refine ⟨Ow rb u0 u1 u2 u3 v6 ms2, ⟨_, u0, u1, u2, u3, ms2, hback, fun b => Iff.rfl⟩, ?_, ?_⟩
  · have h1 : Chg O w w2 := hchg.trans c2 (fun a ha q => by
      rcases hO1 a q with k | k
      · exact k
      · omega)
    exact h1.trans (here_chg w2 rb s.fn s.loops v6) (fun a ha q => by rw [q]; exact hrbO)
  · rintro b (q | q | q | q | q | q | ⟨i, q⟩)
    · exact hup b (Or.inl q)
    · exact hup b (Or.inr (Or.inl q))
    · exact hup b (Or.inr (Or.inr (Or.inl q)))
    · exact hup b (Or.inr (Or.inr (Or.inr (Or.inl q))))
    · exact hup b (Or.inr (Or.inr (Or.inr (Or.inr (Or.inl q)))))
    · exact Or.inl ((hO b).2 (Or.inr (Or.inr (Or.inr (Or.inr (Or.inr (Or.inl q)))))))
    · exact hup b (Or.inr (Or.inr (Or.inr (Or.inr (Or.inr (Or.inr ⟨i, q⟩))))))
end Go.Proofs.Ytihmdcdifakepab.Rv

/- The resolver's walk: what stands ahead of a function's body. -/
namespace Go.Proofs.Ytihmdcdifakepab.Rv
open Go.RowKit Go.Proofs.Ytihmdcdifakepab.Sc Go.Proofs.Ytihmdcdifakepab.Rz
set_option linter.unusedVariables false
set_option linter.unusedSimpArgs false

/-- all of a row but its last -/
theorem run_init (w : World) (b off m kc : Nat) (h : m + 1 ≤ kc) (hk : kc ≤ maxLen) : (Instr.slice 23 (.slice (some ⟨b, off, none⟩) (m + 1) kc) none (some (.int .i64 (m : Int))) none).run Try.prog w = .ok (.slice (some ⟨b, off, none⟩) m kc) w := by
  have h1 : (m : Int) ≤ (kc : Int) := by omega
  have h2 : (0 : Int) ≤ (m : Int) := by omega
  have h3 : m ≤ kc := by omega
  have h4 : ¬ (kc = 0) := by omega
  simp [Instr.slice, Instr.sliceBounds, Instr.sliceBound, asIntOf, run_underlying Try.underlying23, go_sem, h1, h2, h3, h4]

theorem kids_init {n : Nat} {w : World} {b off kc : Nat} {l : List (Tr n)} {t : Tr n} (h : Sli.ok (encT n) 6 w ⟨some ⟨b, off, none⟩, kc, l ++ [t]⟩) : Sli.ok (encT n) 6 w ⟨some ⟨b, off, none⟩, kc, l⟩ := by
  have h1 := h.len
  have h2 := h.cap
  simp only [List.length_append, List.length_singleton] at h1 h2
  refine ⟨by simp only; omega, by simp only; omega, fun h0 => ?_⟩
  obtain ⟨b', off', e1, hc⟩ := h.cells (by simp)
  cases e1
  refine ⟨b, off, rfl, fun i y hi j u hj => hc i y ?_ j u hj⟩
  have hil := (List.getElem?_eq_some_iff.1 hi).1
  rw [List.getElem?_append_left hil]
  exact hi
end Go.Proofs.Ytihmdcdifakepab.Rv

/- The resolver's walk: a function's parts. -/
namespace Go.Proofs.Ytihmdcdifakepab.Rv
open Go.RowKit Go.Proofs.Ytihmdcdifakepab.Sc Go.Proofs.Ytihmdcdifakepab.Rz
set_option linter.unusedVariables false
set_option linter.unusedSimpArgs false

/-- in the function; its own name declared -/
def inS (x : Nd) (many : Nat) (s : Rz.RS) : Rz.RS := { s with scopes := s.scopes ++ [⟨x.pl, s.fn, many, 0⟩], fn := s.scopes.length, loops := 0, labels := [] }
def slS (x : Nd) (many : Nat) (s : Rz.RS) : Rz.RS := if selfB x then putVarP x.name x.pl 5 many (openP (inS x many s)) else openP (inS x many s)
def bpS (x : Nd) (s : Rz.RS) : Rz.RS := if selfB x then bumpP s else s

theorem enter_is (x : Nd) (many : Nat) (s : Rz.RS) : enterP x many s = openP (slS x many s) := rfl

theorem cr_in (x : Nd) (many : Nat) (s : Rz.RS) : cr (inS x many s) = cr s + 1 := by
  unfold cr inS
  simp only [List.length_append, List.length_singleton, List.map_append, List.map_cons, List.map_nil, List.sum_append, List.sum_cons, List.sum_nil]
  omega
theorem dp_in (x : Nd) (many : Nat) (s : Rz.RS) : dp (inS x many s) ≤ dp s := by
  unfold dp inS
  simp only [List.length_nil]
  omega

theorem put_keeps (nm : ByteArray) (pl kd : Int) (slot : Nat) (s : Rz.RS) : (putVarP nm pl kd slot s).blocks.length = s.blocks.length := by
  unfold putVarP
  simp only
  cases s.blocks with
  | nil => rfl
  | cons a b => rfl

theorem cr_sl (x : Nd) (many : Nat) (s : Rz.RS) : cr (slS x many s) ≤ cr s + 2 := by
  have h1 := cr_in x many s
  unfold slS
  split
  · rw [cr_put, cr_open]; omega
  · rw [cr_open]; omega
theorem dp_sl (x : Nd) (many : Nat) (s : Rz.RS) : dp (slS x many s) ≤ dp s + 1 ∧ (slS x many s).blocks.length = s.blocks.length + 1 ∧ (slS x many s).fn = s.scopes.length := by
  have h1 := dp_in x many s
  unfold slS
  split
  · refine ⟨?_, ?_, rfl⟩
    · unfold dp at *
      rw [put_keeps]
      show (openP (inS x many s)).blocks.length + (inS x many s).labels.length + (inS x many s).loops ≤ _
      unfold openP
      simp only [List.length_cons]
      omega
    · rw [put_keeps]; rfl
  · refine ⟨?_, rfl, rfl⟩
    unfold dp at *
    show (openP (inS x many s)).blocks.length + (inS x many s).labels.length + (inS x many s).loops ≤ _
    unfold openP
    simp only [List.length_cons]
    omega

/-- all parameters were declared -/
structure PaE (n : Nat) (l : List (Tr n)) (sN s1 : Rz.RS) : Prop where
  eq : parsP (ndR n) l sN = .ok s1
  cr' : cr s1 ≤ cr sN + 2 * l.length
  bl : s1.blocks.length = sN.blocks.length
  lb : s1.labels = sN.labels
  lo : s1.loops = sN.loops
  fn' : s1.fn = sN.fn

theorem PaAt.last {W0 : World} {n : Nat} {w : World} {rb : Nat} {O : Nat → Prop} {s : Rz.RS} {v6 : Value} {xs : List (Tr n)} {i : Nat} {wr : World} (h : PaAt W0 n w rb O s v6 xs i wr) (hi : xs.length ≤ i) : ∃ s1, PaE n xs s s1 ∧ Went w W0.heap.size rb O s1 v6 wr := by
  obtain ⟨hle, s1, e1, ⟨O1, o1, o2, o3⟩, b1, b2, b3, b4, b5⟩ := h
  rw [List.take_of_length_le hi] at e1
  have : i = xs.length := by omega
  subst this
  exact ⟨s1, ⟨e1, b1, b2, b3, b4, b5⟩, O1, o1.mem, o2, o3⟩

theorem bp_keeps (x : Nd) (s : Rz.RS) : (bpS x s).blocks = s.blocks ∧ (bpS x s).labels = s.labels ∧ (bpS x s).loops = s.loops ∧ (bpS x s).fn = s.fn ∧ cr (bpS x s) ≤ cr s + 1 := by
  unfold bpS
  split
  · exact ⟨rfl, rfl, rfl, rfl, cr_bump s⟩
  · exact ⟨rfl, rfl, rfl, rfl, by omega⟩

/-- a function's parts, each behind what went well ahead of it -/
structure FnK (W0 : World) (n : Nat) (w1 : World) (rb : Nat) (O1 : Nat → Prop) (s : Rz.RS) (v6 : Value) (x : Nd) (kv : Value) (many : Nat) (l : List (Tr n)) (c : Tr n) : Prop where
  opn : Calls Try.prog 19 #[.pointer (some ⟨rb, 0, none⟩)] w1 (fun e w' => e = .returned (.tuple #[]) ∧ Went w1 W0.heap.size rb O1 (openP (inS x many s)) v6 w')
  slf : ∀ s1 w2, Went w1 W0.heap.size rb O1 s1 v6 w2 → Calls Try.prog 37 #[.agg #[.int .i64 x.kind, .int .i64 x.pl, .string x.name, .int .u64 x.num, .string x.op, kv]] w2 (fun e w' => e = .returned (.bool (selfB x)) ∧ Went w1 W0.heap.size rb O1 s1 v6 w')
  var : ∀ w2, Went w1 W0.heap.size rb O1 (openP (inS x many s)) v6 w2 → Calls Try.prog 41 #[.pointer (some ⟨rb, 0, none⟩), .agg #[.int .i64 x.kind, .int .i64 x.pl, .string x.name, .int .u64 x.num, .string x.op, kv], .int .i64 5, .int .i64 (many : Int)] w2 (fun e w' => e = .returned (.tuple #[]) ∧ Went w1 W0.heap.size rb O1 (putVarP x.name x.pl 5 many (openP (inS x many s))) v6 w')
  op2 : ∀ w2, Went w1 W0.heap.size rb O1 (slS x many s) v6 w2 → Calls Try.prog 19 #[.pointer (some ⟨rb, 0, none⟩)] w2 (fun e w' => e = .returned (.tuple #[]) ∧ Went w1 W0.heap.size rb O1 (enterP x many s) v6 w')
  pst : ∀ w2, Went w1 W0.heap.size rb O1 (enterP x many s) v6 w2 → PaAt W0 n w1 rb O1 (enterP x many s) v6 l 0 w2
  pas : ∀ (i : Nat) (t : Tr n) wr wb, l[i]? = some t → PaAt W0 n w1 rb O1 (enterP x many s) v6 l i wr → Below wr.heap.size wr wb → Calls Try.prog 28 #[.pointer (some ⟨rb, 0, none⟩), valT n t, .int .i64 3] wb fun e w' => (e = .returned (.tuple #[]) ∧ PaAt W0 n w1 rb O1 (enterP x many s) v6 l (i + 1) w') ∨ ∃ er, e = .panicked (thrown er) ∧ parsP (ndR n) l (enterP x many s) = .error er ∧ Chg O1 w1 w'
  bmp : ∀ s1 w2, PaE n l (enterP x many s) s1 → Went w1 W0.heap.size rb O1 s1 v6 w2 → ∃ g, (varsAt s1 : Int) ≤ 100000000 ∧ Calls Try.prog 40 #[.pointer (some ⟨rb, 0, none⟩)] w2 (fun e w' => e = .returned (.pointer (some ⟨g, s1.fn * 4, none⟩)) ∧ w'.cell? ⟨g, s1.fn * 4 + 3, none⟩ = some (.int .i64 (varsAt s1 : Int)) ∧ w'.frozen? ⟨g, s1.fn * 4 + 3, none⟩ = false ∧ Went w1 W0.heap.size rb O1 (bumpP s1) v6 (w'.setCell ⟨g, s1.fn * 4 + 3, none⟩ (.int .i64 ((varsAt s1 : Int) + 1))))
  bod : ∀ s1 w2, PaE n l (enterP x many s) s1 → Went w1 W0.heap.size rb O1 (bpS x s1) v6 w2 → Calls Try.prog 20 #[.pointer (some ⟨rb, 0, none⟩), .slice (atT n c) (nkT n c) (capT n c)] w2 (Out w1 W0.heap.size rb O1 v6 (.tuple #[]) ((resP bi n).2 c (bpS x s1)))
  sh1 : ∀ s1 s3 w2, PaE n l (enterP x many s) s1 → (resP bi n).2 c (bpS x s1) = .ok s3 → Went w1 W0.heap.size rb O1 s3 v6 w2 → Calls Try.prog 21 #[.pointer (some ⟨rb, 0, none⟩)] w2 (fun e w' => e = .returned (.tuple #[]) ∧ Went w1 W0.heap.size rb O1 (shutP s3) v6 w')
  sh2 : ∀ s1 s3 w2, PaE n l (enterP x many s) s1 → (resP bi n).2 c (bpS x s1) = .ok s3 → Went w1 W0.heap.size rb O1 (shutP s3) v6 w2 → Calls Try.prog 21 #[.pointer (some ⟨rb, 0, none⟩)] w2 (fun e w' => e = .returned (.tuple #[]) ∧ Went w1 W0.heap.size rb O1 (shutP (shutP s3)) v6 w')
  fnl : ∀ s1 s3 w2, PaE n l (enterP x many s) s1 → (resP bi n).2 c (bpS x s1) = .ok s3 → Went w1 W0.heap.size rb O1 (shutP (shutP s3)) v6 w2 → s.scopes.length < (shutP (shutP s3)).scopes.length

theorem Went.gd {w w' : World} {B rb : Nat} {O : Nat → Prop} {s : Rz.RS} {v6 : Value} (h : Went w B rb O s v6 w') : s.fn < s.scopes.length := by
  obtain ⟨O', ⟨tg, v0, v1, v2, v3, ms, hm, hO⟩, _, _⟩ := h
  exact hm.gd.fnl

theorem vars_le {s : Rz.RS} : varsAt s ≤ cr s := by
  unfold varsAt cr
  cases hy : s.scopes[s.fn]? with
  | none => simp
  | some y =>
    have h2 : y.vars ≤ (s.scopes.map Rz.Scp.vars).sum := le_sum (List.mem_map.2 ⟨y, List.mem_of_getElem? hy, rfl⟩)
    simp only [Option.map_some, Option.getD_some]
    omega

theorem cons_of_len {α : Type} {l : List α} (h : 1 ≤ l.length) : ∃ a b, l = a :: b := by
  cases l with
  | nil => simp at h
  | cons a b => exact ⟨a, b, rfl⟩

theorem fnK_of {W0 : World} {n : Nat} (hN : ∀ m, m < n → NC W0 m) {w1 : World} {rb : Nat} {O1 : Nat → Prop} {s : Rz.RS} {v6 : Value} {x : Nd} {many : Nat} (h : On W0 rb O1 (inS x many s) v6 w1) (hnm : x.name.size ≤ maxLen) {kv : Value} {l : List (Tr n)} {c : Tr n} (hl : ∀ y ∈ l, okF n W0 y) (hc : okF n W0 c) (hb : cr s + 8 + 8 * ((l.map (szT n)).sum + szT n c) ≤ lim) (hd : dp s + 4 + 4 * n ≤ lim) : FnK W0 n w1 rb O1 s v6 x kv many l c := by
  have hci := cr_in x many s
  have hdi := dp_in x many s
  have hcs := cr_sl x many s
  obtain ⟨hds, hbs, hfs⟩ := dp_sl x many s
  have hsl := sum_len (szT n) (sz_pos n) l
  have hce : cr (enterP x many s) ≤ cr s + 2 := hcs
  have hbe : (enterP x many s).blocks.length = s.blocks.length + 2 := by rw [enter_is]; unfold openP; simp only [List.length_cons]; omega
  have hde : dp (enterP x many s) ≤ dp s + 2 := by
    rw [enter_is]
    unfold dp openP at *
    simp only [List.length_cons]
    omega
  have hfe : (enterP x many s).fn = s.scopes.length := hfs
  have hdp1 : ∀ {s1 : Rz.RS}, PaE n l (enterP x many s) s1 → dp (bpS x s1) ≤ dp s + 2 := fun {s1} p => by
    obtain ⟨q1, q2, q3, q4, q5⟩ := bp_keeps x s1
    unfold dp at *
    rw [q1, q2, q3, p.bl, p.lb, p.lo]
    exact hde
  refine ⟨open_any w1 W0.heap.size rb O1 _ v6 h.mem (bg_of (by omega) (by omega)), fun s1 w2 hw => relR (P := fun e => e = .returned (.bool (selfB x))) h hw fun O2 o2 => hasSelf_any w2 x kv, fun w2 hw => relW h hw fun O2 o2 => ?_, fun w2 hw => relW h hw fun O2 o2 => ?_, fun w2 hw => ?_, fun i t wr wb ht hp hbl => ?_, fun s1 w2 p hw => ?_, fun s1 w2 p hw => rel h hw fun O2 o2 => ?_, fun s1 s3 w2 p e hw => relW h hw fun O2 o2 => ?_, fun s1 s3 w2 p e hw => relW h hw fun O2 o2 => ?_, fun s1 s3 w2 p e hw => ?_⟩
  · exact variable_any w2 W0.heap.size rb O2 (openP (inS x many s)) v6 o2.mem (bg_of (by rw [cr_open]; omega) (by unfold dp openP at *; simp only [List.length_cons]; omega)) [] (inS x many s).blocks rfl x.kind x.pl x.num x.name x.op kv hnm (fun y hy => by cases hy) 5 many
  · rw [enter_is]
    exact open_any w2 W0.heap.size rb O2 (slS x many s) v6 o2.mem (bg_of (by omega) (by omega))
  · obtain ⟨O2, o1, o2, o3⟩ := h.went hw
    exact ⟨Nat.zero_le _, _, rfl, ⟨O2, o1, o2, o3⟩, by omega, rfl, rfl, rfl, rfl⟩
  · have ho := hl t (List.mem_of_getElem? ht)
    have hs := okT_name ho.1
    have q := hp.step ht hbl (by omega) (by omega) (by omega) (by rw [nd_same]; exact hs) (ndT n t).kind (ndT n t).num (ndT n t).op (.slice (atT n t) (nkT n t) (capT n t))
    rw [nd_same] at q
    exact q
  · obtain ⟨O2, o1, o2, o3⟩ := h.went hw
    obtain ⟨g, nn, cap, q0, q3, qf, qs, qw⟩ := o1.mem.bump
    refine ⟨g, ?_, (qs w2 (Below.refl _ _)).mono ?_⟩
    · have hv := vars_le (s := s1)
      have hp := p.cr'
      unfold lim at hb
      omega
    · rintro e w' ⟨rfl, hb'⟩
      have hlt := World.block_lt_of_cell? w2 _ q3
      refine ⟨rfl, Sc.cells_below hb' _ _ q3, ?_, ?_⟩
      · rw [World.frozen?_of_block (w := w2) (a := ⟨g, s1.fn * 4 + 3, none⟩) (hb'.block g hlt)]
        exact qf
      · exact went_then (o2.trans (Chg.of_below hb') (fun _ _ (q : O1 _) => q)) o3 (qw w' hb')
  · obtain ⟨q1, q2, q3, q4, q5⟩ := bp_keeps x s1
    have hp := p.cr'
    have hdd := hdp1 p
    exact body_any W0 n hN w2 rb O2 (bpS x s1) v6 o2 c hc (by omega) (by omega) (by rw [q1, p.bl]; omega)
  · obtain ⟨q1, q2, q3, q4, q5⟩ := bp_keeps x s1
    have hk := body_keeps e
    obtain ⟨c0, cs, hbs'⟩ := cons_of_len (l := s3.blocks) (by rw [hk, q1, p.bl]; omega)
    exact shut_any w2 W0.heap.size rb O2 s3 v6 o2.mem c0 cs hbs'
  · obtain ⟨q1, q2, q3, q4, q5⟩ := bp_keeps x s1
    have hk := body_keeps e
    obtain ⟨c0, cs, hbs'⟩ := cons_of_len (l := (shutP s3).blocks) (by unfold shutP; simp only [List.length_drop]; rw [hk, q1, p.bl]; omega)
    exact shut_any w2 W0.heap.size rb O2 (shutP s3) v6 o2.mem c0 cs hbs'
  · obtain ⟨q1, q2, q3, q4, q5⟩ := bp_keeps x s1
    have hg := hw.gd
    have ht := ((keeps_resP bi n).2 c _ s3 e).fn
    have : (shutP (shutP s3)).fn = s.scopes.length := by
      show s3.fn = _
      rw [ht, q4, p.fn', hfe]
    omega

end Go.Proofs.Ytihmdcdifakepab.Rv
