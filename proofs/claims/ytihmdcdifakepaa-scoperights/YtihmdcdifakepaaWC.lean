/- What a call leaves as it was; rows of numbers of the call's own; the document's places: once, declared, used. -/
import Derived.Test.YtihmdcdifakepaaWB
import Derived.Laws.AppendOwn
import Derived.Maps.AppendAt
namespace Go.Proofs.Ytihmdcdifakepaa.Sc
open Go.RowKit
set_option linter.unusedVariables false

/-- nothing has turned but blocks of S, and new ones -/
structure Chg (S : Nat → Prop) (w w' : World) : Prop where
  os : w'.os = w.os
  tape : w'.tape = w.tape
  output : w'.output = w.output
  size : w.heap.size ≤ w'.heap.size
  block : ∀ k, k < w.heap.size → ¬ S k → w'.heap[k]? = w.heap[k]?

theorem Chg.refl (S : Nat → Prop) (w : World) : Chg S w w := ⟨rfl, rfl, rfl, Nat.le_refl _, fun _ _ _ => rfl⟩
theorem Chg.trans {S S' : Nat → Prop} {a b c : World} (h : Chg S a b) (k : Chg S' b c) (hs : ∀ i, i < a.heap.size → S' i → S i) : Chg S a c :=
  ⟨k.os.trans h.os, k.tape.trans h.tape, k.output.trans h.output, Nat.le_trans h.size k.size, fun i hi hn => (k.block i (Nat.lt_of_lt_of_le hi h.size) (fun q => hn (hs i hi q))).trans (h.block i hi hn)⟩
theorem Chg.of_below {S : Nat → Prop} {w w' : World} (h : Below w.heap.size w w') : Chg S w w' := ⟨h.os, h.tape, h.output, h.size, fun k hk _ => h.block k hk⟩
theorem Chg.of_grown {S : Nat → Prop} {w w' : World} {row : Option Nat} (h : w.grownBy w' row) (hr : ∀ k, row = some k → S k) : Chg S w w' :=
  ⟨h.os, h.tape, h.output, h.size, fun k hk hn => h.block k hk (fun e => hn (hr k e.symm))⟩
theorem Chg.set {S : Nat → Prop} (w : World) (p : Addr) (v : Value) (hs : S p.block) : Chg S w (w.setCell p v) :=
  ⟨rfl, rfl, rfl, by simp, fun k hk hn => Below.heap_setCell w p v k (fun e => hn (e ▸ hs))⟩
theorem Chg.cell {S : Nat → Prop} {w w' : World} (h : Chg S w w') {a : Addr} {u : Value} (hu : w.cell? a = some u) (hn : ¬ S a.block) : w'.cell? a = some u := by
  rw [World.cell?_of_block (w := w) (h.block a.block (World.block_lt_of_cell? w _ hu) hn)]
  exact hu
theorem Chg.below {S : Nat → Prop} {B : Nat} {W w w' : World} (h : Chg S w w') (hb : Below B W w) (hB : B ≤ w.heap.size) (hs : ∀ k, S k → B ≤ k) : Below B W w' :=
  ⟨h.os.trans hb.os, h.tape.trans hb.tape, h.output.trans hb.output, Nat.le_trans hb.size h.size, fun k hk => (h.block k (by omega) (fun q => by have := hs k q; omega)).trans (hb.block k hk)⟩

def iv (z : Int) : Value := .int .i64 z
/-- a row of numbers of the call's own -/
def OwnI (B : Nat) (w : World) (v : Value) (zs : List Int) : Prop := w.ownsRow B 3 1 v zs.length (zs.map iv)

theorem grown_of_below {w w' : World} (h : Below w.heap.size w w') : w.grownBy w' none := ⟨h.os, h.tape, h.output, h.size, fun k hk _ => h.block k hk⟩

theorem OwnI.lt {B : Nat} {w : World} {v : Value} {zs : List Int} (h : OwnI B w v zs) : ∀ k, v.ownBlock = some k → B ≤ k ∧ k < w.heap.size := by
  intro k hk
  rcases h.2 with ⟨rfl, _⟩ | ⟨g, cap, cur, rfl, hb, hg, _⟩
  · simp [Value.ownBlock] at hk
  · simp [Value.ownBlock] at hk
    subst hk
    refine ⟨hb, ?_⟩
    rcases Nat.lt_or_ge g w.heap.size with c | c
    · exact c
    · rw [Array.getElem?_eq_none c] at hg; cases hg

theorem OwnI.kept {B : Nat} {w w' : World} {v : Value} {zs : List Int} {S : Nat → Prop} (h : OwnI B w v zs) (hb : Chg S w w') (hs : ∀ k, v.ownBlock = some k → ¬ S k) : OwnI B w' v zs := by
  cases hv : v.ownBlock with
  | none =>
    rcases h.2 with ⟨rfl, h0⟩ | ⟨g, cap, cur, rfl, _⟩
    · exact ⟨h.1, Or.inl ⟨rfl, h0⟩⟩
    · simp [Value.ownBlock] at hv
  | some k =>
    rcases h.2 with ⟨rfl, h0⟩ | ⟨g, cap, cur, rfl, hbg, hg, h3⟩
    · simp [Value.ownBlock] at hv
    · simp [Value.ownBlock] at hv
      subst hv
      exact ⟨h.1, Or.inr ⟨g, cap, cur, rfl, hbg, by rw [hb.block g (h.lt g rfl).2 (hs g rfl)]; exact hg, h3⟩⟩

theorem OwnI.nil (B : Nat) (w : World) : OwnI B w (.slice none 0 0) [] := ⟨rfl, Or.inl ⟨rfl, rfl⟩⟩

/-- numbers in memory -/
def IntsAt (w : World) (ad : Option Addr) (zs : List Int) : Prop := zs ≠ [] → ∃ b off, ad = some ⟨b, off, none⟩ ∧ ∀ i z, zs[i]? = some z → w.cell? ⟨b, off + i, none⟩ = some (.int .i64 z)

theorem OwnI.ints {B : Nat} {w : World} {v : Value} {zs : List Int} (h : OwnI B w v zs) : ∃ ad cap, v = .slice ad zs.length cap ∧ zs.length ≤ cap ∧ cap ≤ maxLen ∧ IntsAt w ad zs := by
  rcases h.2 with ⟨rfl, hn⟩ | ⟨g, cap, cur, rfl, hb, hg, hnc, hcm, hcs, ht⟩
  · exact ⟨none, 0, by rw [hn], by omega, by unfold maxLen; omega, fun h0 => absurd (List.length_eq_zero_iff.1 hn) h0⟩
  · refine ⟨some ⟨g, 0, none⟩, cap, rfl, hnc, hcm, fun h0 => ⟨g, 0, rfl, ?_⟩⟩
    intro i z hi
    rw [cell_of_row w g _ cur 3 (0, 0) hg]
    have il : i < zs.length := by
      rcases Nat.lt_or_ge i zs.length with k | k
      · exact k
      · rw [List.getElem?_eq_none k] at hi
        exact absurd hi (by simp)
    have e : (cur.toList.take (zs.length * 1))[i]? = (zs.map iv)[i]? := by rw [ht]
    rw [List.getElem?_take_of_lt (by omega), List.getElem?_map, hi] at e
    simpa [iv] using e

theorem info3 : (Try.prog.info? 3).map (fun i => (i.zero, i.size, i.bytes)) = some (some (.int .i64 0), 1, 8) := by kernel_rfl

/-- a number more behind the row -/
theorem app_one {w : World} {ops : Array Oper} {rest : List Oper} {o : Oper} {a : Act} {Q : Exit → Act → World → Prop} (hgd : o.guard = none) (s x : Operand)
    (ho : o.op = .call { callee := .builtin .append, args := #[s, x], argTypes := #[58, 58] })
    (B : Nat) (v : Value) (zs : List Int) (hs : a.eval s = v) (hown : OwnI B w v zs) (g : Nat) (z : Int) (hx : a.eval x = .slice (some ⟨g, 0, none⟩) 1 1) (hg : w.cell? ⟨g, 0, none⟩ = some (.int .i64 z))
    (hb : (zs.length + 1) * 8 ≤ 140737488355328) (hB : B ≤ w.heap.size)
    (h : ∀ v' w', OwnI B w' v' (zs ++ [z]) → w.grownBy w' v.ownBlock → (v'.ownBlock = v.ownBlock ∨ v'.ownBlock = some w.heap.size) → wpList Try.prog ops Q rest (a.put o.dst v') w') : wpList Try.prog ops Q (o :: rest) a w := by
  obtain ⟨i0, hi, hz0, hz1, hz2⟩ := info_parts info3
  refine wpList_append_own_at _ hgd s x 58 ho B 3 i0 (.int .i64 0) 1 8 Try.underlying58 hi hz0 hz1 hz2 rfl (by decide) v zs.length (zs.map iv) hs hown ⟨g, 0, none⟩ 1 1 [.int .i64 z] hx rfl ?_ ?_ (by unfold maxLen; omega) hb hB ?_
  · intro j u hj
    cases j with
    | zero => simp at hj; subst hj; exact hg
    | succ j => simp at hj
  · intro u hu
    simp at hu
    subst hu
    rfl
  · intro v' w' h1 h2 _ h4
    refine h v' w' ?_ h2 h4
    unfold OwnI
    rw [List.length_append, List.map_append]
    exact h1

theorem one_cell (w : World) (z : Int) : (w.alloc (.cells #[.int .i64 z] 3)).cell? ⟨w.heap.size, 0, none⟩ = some (.int .i64 z) := box_new w #[.int .i64 z] 3 0 _ rfl

def onceI (zs : List Int) (a : Int) : List Int := if a ∈ zs then zs else zs ++ [a]

structure OnAt (zs : List Int) (x : Int) (w wr : World) (k : Nat) : Prop where
  le : k ≤ zs.length
  val : x ∉ zs.take k
  same : wr = w

set_option maxRecDepth 100000 in
theorem once_any (B : Nat) (v : Value) (zs : List Int) (x : Int) (w : World) (ho : OwnI B w v zs) (hl : zs.length ≤ 1000000) (hB : B ≤ w.heap.size) :
    Calls Try.prog 46 #[v, .int .i64 x] w fun e w' => ∃ v', e = .returned (.tuple #[v', .bool (decide (x ∉ zs))]) ∧ OwnI B w' v' (onceI zs x) ∧ Chg (fun k => v.ownBlock = some k) w w' ∧ (v'.ownBlock = v.ownBlock ∨ ∃ k, v'.ownBlock = some k ∧ w.heap.size ≤ k) := by
  obtain ⟨ad, cap, rfl, h1, h2, hz⟩ := ho.ints
  have HO : Hid (OwnI B w (.slice ad zs.length cap) zs) := ho
  have HZ : Hid (IntsAt w ad zs) := hz
  have HI : Hid (OnAt zs x w w 0) := ⟨Nat.zero_le _, by simp, rfl⟩
  have HB : Hid (B ≤ w.heap.size) := hB
  clear ho hz hB
  have hl2 : (zs.length : Int) ≤ 1000000 := by omega
  go_enter Try.func46, Try.ntmps46
  go_wp2_with fail
  go_loopw [6] (fun i wr => ∃ k : Nat, OnAt zs x w wr k ∧ i = .int .i64 k) (fun i wr => zs.length - (intOf i).toNat)
  case atStart => exact ⟨0, HI.out, rfl⟩
  case round =>
    obtain ⟨k, hr, rfl⟩ := hrel
    obtain rfl := hr.same
    have ple := hr.le
    have HR : Hid (x ∉ zs.take k) := hr.val
    clear hr HI
    rcases Nat.lt_or_ge k zs.length with c | c
    · have hex : ∃ y, zs[k]? = some y := ⟨_, List.getElem?_eq_getElem c⟩
      obtain ⟨y, hy⟩ := hex
      obtain ⟨b, off, rfl, hc⟩ := HZ.out (by intro e; subst e; simp at c)
      have c0 := hc k y hy
      have HY : Hid (zs[k]? = some y) := hy
      clear hc hy
      by_cases t : y = x
      · subst t
        have HM : Hid (y ∈ zs) := List.mem_of_getElem? HY.out
        go_wp2_with fail
        refine bodyPost_ret (v := .tuple #[.slice (some ⟨b, off, none⟩) zs.length cap, .bool false]) (by simp [results, Try.results46, go_sem]) rfl ⟨_, ?_, ?_, Chg.refl _ _, Or.inl rfl⟩
        · rw [show decide (y ∉ zs) = false by simpa using HM.out]
        · unfold onceI
          rw [if_pos HM.out]
          exact HO.out
      · have HN : Hid (OnAt zs x wr wr (k + 1)) := by
          refine ⟨c, ?_, rfl⟩
          rw [List.take_add_one, HY.out]
          simp
          exact ⟨HR.out, fun e => t e.symm⟩
        go_wp2_with fail
        refine ⟨⟨k + 1, HN.out, by go_num⟩, ?_⟩
        simp [intOf]
        omega
    · have HM : Hid (x ∉ zs) := by
        have := HR.out
        rw [List.take_of_length_le c] at this
        exact this
      have HO1 : OwnI B (wr.alloc (.cells #[.int .i64 x] 3)) (.slice ad zs.length cap) zs := HO.out.kept (S := fun _ => False) (Chg.of_below ((Below.refl _ _).alloc (Nat.le_refl _) _)) (fun _ _ q => q)
      have hc1 := one_cell wr x
      have hB1 : B ≤ (wr.alloc (.cells #[.int .i64 x] 3)).heap.size := by have := HB.out; simp; omega
      have ob : (zs.length + 1) * 8 ≤ 140737488355328 := by omega
      go_wp2_with (at_builtin; refine app_one rfl _ _ rfl B (.slice ad zs.length cap) zs rfl HO1 wr.heap.size x rfl hc1 ob hB1 ?_)
      intro v' w3 ho3 hg3 hloc
      clear HO1
      go_wp2_with fail
      refine bodyPost_ret (v := .tuple #[v', .bool true]) (by simp [results, Try.results46, go_sem]) rfl ⟨v', ?_, ?_, ?_, ?_⟩
      · rw [show decide (x ∉ zs) = true by simpa using HM.out]
      · unfold onceI
        rw [if_neg HM.out]
        exact ho3
      · exact (Chg.of_below ((Below.refl wr.heap.size wr).alloc (Nat.le_refl _) _)).trans (Chg.of_grown (S := fun k => (Value.slice ad zs.length cap).ownBlock = some k) hg3 (fun k e => e)) (fun _ _ q => q)
      · rcases hloc with q | q
        · exact Or.inl q
        · exact Or.inr ⟨_, q, by simp⟩
end Go.Proofs.Ytihmdcdifakepaa.Sc
