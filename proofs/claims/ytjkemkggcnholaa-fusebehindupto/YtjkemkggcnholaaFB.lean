/- The document's put; rows of numbers. -/
import Derived.Test.YtjkemkggcnholaaFA
import Derived.Test.YtjkemkggcnholaaFP
namespace Go.Proofs.Ytjkemkggcnholaa.Fu
open Go.RowKit
set_option linter.unusedVariables false

def iv (z : Int) : Value := .int .i64 z

/-- a row of numbers of the call's own -/
def OwnI (B : Nat) (w : World) (v : Value) (zs : List Int) : Prop := w.ownsRow B 3 1 v zs.length (zs.map iv)

/-- numbers in memory -/
def IntsAt (w : World) (ad : Option Addr) (zs : List Int) : Prop := zs ≠ [] → ∃ b off, ad = some ⟨b, off, none⟩ ∧ ∀ i z, zs[i]? = some z → w.cell? ⟨b, off + i, none⟩ = some (.int .i64 z)

theorem IntsAt.kept {w w' : World} {ad : Option Addr} {zs : List Int} (h : IntsAt w ad zs) (hc : ∀ a u, w.cell? a = some u → w'.cell? a = some u) : IntsAt w' ad zs := by
  intro h0
  obtain ⟨b, off, h1, h2⟩ := h h0
  exact ⟨b, off, h1, fun i z hi => hc _ _ (h2 i z hi)⟩

theorem grown_of_below {w w' : World} (h : Below w.heap.size w w') : w.grownBy w' none := ⟨h.os, h.tape, h.output, h.size, fun k hk _ => h.block k hk⟩

theorem OwnI.kept {B : Nat} {w w' : World} {v : Value} {zs : List Int} (h : OwnI B w v zs) (hb : Below w.heap.size w w') : OwnI B w' v zs :=
  World.ownsRow.kept h (grown_of_below hb) (by cases hv : v.ownBlock <;> simp)

theorem OwnI.nil (B : Nat) (w : World) : OwnI B w (.slice none 0 0) [] := ⟨rfl, Or.inl ⟨rfl, rfl⟩⟩

theorem OwnI.base {B : Nat} {w : World} {v : Value} {zs : List Int} (h : OwnI B w v zs) : ∀ k, v.ownBlock = some k → B ≤ k := by
  intro k hk
  rcases h.2 with ⟨rfl, _⟩ | ⟨g, cap, cur, rfl, hb, _⟩
  · simp [Value.ownBlock] at hk
  · simp [Value.ownBlock] at hk
    omega

theorem OwnI.low {B B' : Nat} {w : World} {v : Value} {zs : List Int} (h : OwnI B w v zs) (hB : B' ≤ B) : OwnI B' w v zs := by
  refine ⟨h.1, ?_⟩
  rcases h.2 with h0 | ⟨g, cap, cur, h1, hb, h2⟩
  · exact Or.inl h0
  · exact Or.inr ⟨g, cap, cur, h1, by omega, h2⟩

/-- such a row, read -/
theorem OwnI.ints {B : Nat} {w : World} {v : Value} {zs : List Int} (h : OwnI B w v zs) : ∃ ad cap, v = .slice ad zs.length cap ∧ zs.length ≤ cap ∧ cap ≤ maxLen ∧ IntsAt w ad zs := by
  rcases h.2 with ⟨rfl, hn⟩ | ⟨g, cap, cur, rfl, hb, hg, hnc, hcm, hcs, ht⟩
  · exact ⟨none, 0, by rw [hn], by omega, by unfold maxLen; omega, fun h0 => absurd (List.length_eq_zero_iff.1 hn) h0⟩
  · refine ⟨some ⟨g, 0, none⟩, cap, rfl, hnc, hcm, fun h0 => ⟨g, 0, rfl, ?_⟩⟩
    intro i z hi
    rw [cell_of_row w g _ cur 3 (0, 0) hg]
    have il : i < zs.length := by
      rcases Nat.lt_or_ge i zs.length with k | k
      · exact k
      · rw [List.getElem?_eq_none k] at hi
        exact absurd hi (by simp)
    have e : (cur.toList.take (zs.length * 1))[i]? = (zs.map iv)[i]? := by rw [ht]
    rw [List.getElem?_take_of_lt (by omega), List.getElem?_map, hi] at e
    simpa [iv] using e

theorem info3 : (Try.prog.info? 3).map (fun i => (i.zero, i.size, i.bytes)) = some (some (.int .i64 0), 1, 8) := by kernel_rfl

/-- a number more behind the row -/
theorem app_one {w : World} {ops : Array Oper} {rest : List Oper} {o : Oper} {a : Act} {Q : Exit → Act → World → Prop} (hgd : o.guard = none) (s x : Operand)
    (ho : o.op = .call { callee := .builtin .append, args := #[s, x], argTypes := #[35, 35] })
    (B : Nat) (v : Value) (zs : List Int) (hs : a.eval s = v) (hown : OwnI B w v zs) (g : Nat) (z : Int) (hx : a.eval x = .slice (some ⟨g, 0, none⟩) 1 1) (hg : w.cell? ⟨g, 0, none⟩ = some (.int .i64 z))
    (hb : (zs.length + 1) * 8 ≤ 140737488355328) (hB : B ≤ w.heap.size)
    (h : ∀ v' w', OwnI B w' v' (zs ++ [z]) → w.grownBy w' v.ownBlock → wpList Try.prog ops Q rest (a.put o.dst v') w') : wpList Try.prog ops Q (o :: rest) a w := by
  obtain ⟨i0, hi, hz0, hz1, hz2⟩ := info_parts info3
  refine wpList_append_own _ hgd s x 35 ho B 3 i0 (.int .i64 0) 1 8 Try.underlying35 hi hz0 hz1 hz2 rfl (by decide) v zs.length (zs.map iv) hs hown ⟨g, 0, none⟩ 1 1 [.int .i64 z] hx rfl ?_ ?_ (by unfold maxLen; omega) hb hB ?_
  · intro j u hj
    cases j with
    | zero => simp at hj; subst hj; exact hg
    | succ j => simp at hj
  · intro u hu
    simp at hu
    subst hu
    rfl
  · intro v' w' h1 h2 _
    refine h v' w' ?_ h2
    unfold OwnI
    rw [List.length_append, List.map_append]
    exact h1

structure PutAt (n : Int) (zs : List Int) (w0 wr : World) (v : Value) (d : Bool) (k : Nat) (out : List Int) : Prop where
  le : k ≤ zs.length
  val : putF n false zs = out ++ putF n d (zs.drop k)
  own : OwnI w0.heap.size wr v out
  bel : Below w0.heap.size w0 wr
  cnt : out.length ≤ k + (if d then 1 else 0)

theorem one_cell (w : World) (z : Int) : (w.alloc (.cells #[.int .i64 z] 3)).cell? ⟨w.heap.size, 0, none⟩ = some (.int .i64 z) := by
  rw [cell_of_row _ w.heap.size 0 #[.int .i64 z] 3 (0, 0) (by show (w.heap.push _)[w.heap.size]? = _; rw [Array.getElem?_push_size])]
  rfl

set_option maxRecDepth 100000 in
theorem put_any (ad : Option Addr) (cap : Nat) (zs : List Int) (n : Int) (w : World) (hz : IntsAt w ad zs) (hlen : (zs.length + 1) * 8 ≤ 140737488355328) :
    Calls Try.prog 19 #[.slice ad zs.length cap, .int .i64 n] w fun e w' => ∃ v, e = .returned v ∧ OwnI w.heap.size w' v (putF n false zs) ∧ Below w.heap.size w w' := by
  have HZ : Hid (IntsAt w ad zs) := hz
  have HI : Hid (PutAt n zs w w (.slice none 0 0) false 0 []) := ⟨Nat.zero_le _, by simp, OwnI.nil _ _, Below.refl _ _, by simp⟩
  clear hz
  have HL : Hid ((zs.length + 1) * 8 ≤ 140737488355328) := hlen
  have hl2 : (zs.length : Int) ≤ 17592186044416 := by omega
  clear hlen
  go_enter Try.func19, Try.ntmps19
  go_wp2_with fail
  go_loopw [5, 6, 7] (fun ov dv i wr => ∃ (k : Nat) (d : Bool) (out : List Int), PutAt n zs w wr ov d k out ∧ dv = .bool d ∧ i = .int .i64 k) (fun ov dv i wr => zs.length - (intOf i).toNat)
  case atStart => exact ⟨0, false, [], HI.out, rfl, rfl⟩
  case round =>
    obtain ⟨k, d, out, hr, rfl, rfl⟩ := hrel
    have HR : Hid (PutAt n zs w wr u5 d k out) := hr
    have ple := hr.le
    clear hr
    rcases Nat.lt_or_ge k zs.length with c | c
    · have hex : ∃ y, zs[k]? = some y := ⟨_, List.getElem?_eq_getElem c⟩
      obtain ⟨y, hy⟩ := hex
      have hd : zs.drop k = y :: zs.drop (k + 1) := by
        rw [List.drop_eq_getElem_cons c]
        rw [List.getElem?_eq_getElem c] at hy
        rw [Option.some.inj hy]
      obtain ⟨b, off, rfl, hc⟩ := (HZ.out.kept (cells_below HR.out.bel)) (by intro e; subst e; simp at c)
      have c0 := hc k y hy
      have HC : Hid (∀ i z, zs[i]? = some z → wr.cell? ⟨b, off + i, none⟩ = some (.int .i64 z)) := hc
      have HD : Hid (zs.drop k = y :: zs.drop (k + 1) ∧ zs[k]? = some y) := ⟨hd, hy⟩
      clear hc hd hy
      have hno : ∀ z, Hid (OwnI w.heap.size (wr.alloc (.cells #[.int .i64 z] 3)) u5 out) := fun z => HR.out.own.kept ((Below.refl _ _).alloc (Nat.le_refl _) _)
      have HB1 : ∀ z, Hid (Below w.heap.size w (wr.alloc (.cells #[.int .i64 z] 3))) := fun z => HR.out.bel.alloc HR.out.bel.size _
      by_cases t1 : d = false ∧ n ≤ y
      · obtain ⟨rfl, t1⟩ := t1
        have HO1 := (hno n).out
        have hc1 := one_cell wr n
        have hB1 := (HB1 n).out.size
        have ob : (out.length + 1) * 8 ≤ 140737488355328 := by have := HR.out.cnt; have := HL.out; simp at *; omega
        by_cases t2 : y = n
        · subst t2
          go_wp2_with (at_builtin; refine app_one rfl _ _ rfl w.heap.size u5 out rfl HO1 wr.heap.size y rfl hc1 ob hB1 ?_)
          intro v' w3 ho hg
          have HB3 : Hid (Below w.heap.size w w3) := (HB1 y).out.grown hg hB1 HO1.base
          obtain ⟨b', off', e1, c4⟩ := (HZ.out.kept (cells_below HB3.out)) (by intro e; subst e; simp at c)
          cases e1
          have c3 := c4 k y HD.out.2
          clear c4
          have HP : Hid (PutAt y zs w w3 v' true (k + 1) (out ++ [y])) := by
            refine ⟨c, ?_, ho, HB3.out, ?_⟩
            · rw [HR.out.val, HD.out.1, putF]
              simp
            · have := HR.out.cnt
              simp at *
              omega
          clear ho hg HO1 hc1
          go_wp2_with fail
          refine ⟨⟨k + 1, true, _, HP.out, rfl, by go_num⟩, ?_⟩
          simp [intOf]
          omega
        · go_wp2_with (at_builtin; refine app_one rfl _ _ rfl w.heap.size u5 out rfl HO1 wr.heap.size n rfl hc1 ob hB1 ?_)
          intro v' w3 ho hg
          have HB3 : Hid (Below w.heap.size w w3) := (HB1 n).out.grown hg hB1 HO1.base
          obtain ⟨b', off', e1, c4⟩ := (HZ.out.kept (cells_below HB3.out)) (by intro e; subst e; simp at c)
          cases e1
          have c3 := c4 k y HD.out.2
          clear c4
          have HO3 : OwnI w.heap.size (w3.alloc (.cells #[.int .i64 y] 3)) v' (out ++ [n]) := ho.kept ((Below.refl _ _).alloc (Nat.le_refl _) _)
          have HB4 : Hid (Below w.heap.size w (w3.alloc (.cells #[.int .i64 y] 3))) := HB3.out.alloc HB3.out.size _
          have hB4 := HB4.out.size
          have hc4 := one_cell w3 y
          have ob4 : ((out ++ [n]).length + 1) * 8 ≤ 140737488355328 := by have := HR.out.cnt; have := HL.out; simp at *; omega
          clear ho hg HO1 hc1
          go_wp2_with (at_builtin; refine app_one rfl _ _ rfl w.heap.size v' (out ++ [n]) rfl HO3 w3.heap.size y rfl hc4 ob4 hB4 ?_)
          intro v5 w5 ho5 hg5
          have HP : Hid (PutAt n zs w w5 v5 true (k + 1) (out ++ [n, y])) := by
            refine ⟨c, ?_, ho5, HB4.out.grown hg5 hB4 HO3.base, ?_⟩
            · rw [HR.out.val, HD.out.1, putF]
              simp [t1, t2]
            · have := HR.out.cnt
              simp at *
              omega
          clear ho5 hg5 HO3 hc4
          go_wp2_with fail
          refine ⟨⟨k + 1, true, _, HP.out, rfl, by go_num⟩, ?_⟩
          simp [intOf]
          omega
      · by_cases t2 : y = n
        · have d1 : d = true := by
            cases d with
            | true => rfl
            | false => exact absurd ⟨rfl, by omega⟩ t1
          subst d1
          have HP : Hid (PutAt n zs w wr u5 true (k + 1) out) := by
            refine ⟨c, ?_, HR.out.own, HR.out.bel, ?_⟩
            · rw [HR.out.val, HD.out.1, putF]
              simp [t2]
            · have := HR.out.cnt
              simp at *
              omega
          clear t1
          go_wp2_with fail
          refine ⟨⟨k + 1, true, _, HP.out, rfl, by go_num⟩, ?_⟩
          simp [intOf]
          omega
        · have HO1 := (hno y).out
          have hc1 := one_cell wr y
          have hB1 := (HB1 y).out.size
          have ob : (out.length + 1) * 8 ≤ 140737488355328 := by have := HR.out.cnt; have := HL.out; cases d <;> simp at * <;> omega
          cases d with
          | true =>
            go_wp2_with (at_builtin; refine app_one rfl _ _ rfl w.heap.size u5 out rfl HO1 wr.heap.size y rfl hc1 ob hB1 ?_)
            intro v' w3 ho hg
            have HP : Hid (PutAt n zs w w3 v' true (k + 1) (out ++ [y])) := by
              refine ⟨c, ?_, ho, (HB1 y).out.grown hg hB1 HO1.base, ?_⟩
              · rw [HR.out.val, HD.out.1, putF]
                simp [t2]
              · have := HR.out.cnt
                simp at *
                omega
            clear ho hg HO1 hc1
            go_wp2_with fail
            refine ⟨⟨k + 1, true, _, HP.out, rfl, by go_num⟩, ?_⟩
            simp [intOf]
            omega
          | false =>
            have t3 : ¬ n ≤ y := fun h => t1 ⟨rfl, h⟩
            clear t1
            go_wp2_with (at_builtin; refine app_one rfl _ _ rfl w.heap.size u5 out rfl HO1 wr.heap.size y rfl hc1 ob hB1 ?_)
            intro v' w3 ho hg
            have HP : Hid (PutAt n zs w w3 v' false (k + 1) (out ++ [y])) := by
              refine ⟨c, ?_, ho, (HB1 y).out.grown hg hB1 HO1.base, ?_⟩
              · rw [HR.out.val, HD.out.1, putF]
                have e1 : decide (n ≤ y) = false := decide_eq_false (by omega)
                have e2 : (y != n) = true := by simpa using t2
                rw [e1, e2]
                simp
              · have := HR.out.cnt
                simp at *
                omega
            clear ho hg HO1 hc1
            go_wp2_with fail
            refine ⟨⟨k + 1, false, _, HP.out, rfl, by go_num⟩, ?_⟩
            simp [intOf]
            omega
    · have hdr : zs.drop k = [] := List.drop_of_length_le c
      cases d with
      | true =>
        have HP : Hid (putF n false zs = out) := by show _ = _; rw [HR.out.val, hdr]; simp [putF]
        clear hdr
        go_wp2_with fail
        go_ret
        exact ⟨_, rfl, by rw [HP.out]; exact HR.out.own, HR.out.bel⟩
      | false =>
        have HP : Hid (putF n false zs = out ++ [n]) := by show _ = _; rw [HR.out.val, hdr]; simp [putF]
        clear hdr
        have HO1 : OwnI w.heap.size (wr.alloc (.cells #[.int .i64 n] 3)) u5 out := HR.out.own.kept ((Below.refl _ _).alloc (Nat.le_refl _) _)
        have HB1 : Hid (Below w.heap.size w (wr.alloc (.cells #[.int .i64 n] 3))) := HR.out.bel.alloc HR.out.bel.size _
        have hc1 := one_cell wr n
        have hB1 := HB1.out.size
        have ob : (out.length + 1) * 8 ≤ 140737488355328 := by have := HR.out.cnt; have := HL.out; simp at *; omega
        go_wp2_with (at_builtin; refine app_one rfl _ _ rfl w.heap.size u5 out rfl HO1 wr.heap.size n rfl hc1 ob hB1 ?_)
        intro v' w3 ho hg
        have HB3 : Hid (Below w.heap.size w w3) := HB1.out.grown hg hB1 HO1.base
        have HO3 : Hid (OwnI w.heap.size w3 v' (out ++ [n])) := ho
        clear ho hg HO1 hc1
        go_wp2_with fail
        go_ret
        exact ⟨_, rfl, by rw [HP.out]; exact HO3.out, HB3.out⟩

/-- a function's own box -/
def fnB (f : Fn) : Obj := .cells #[.string f.name, .int .i64 f.params, .int .i64 f.regs, .bool f.gen, f.code.val, f.consts.val, f.caps.val, f.hnds.val] 27

theorem fnB_cell (f : Fn) (w : World) (j : Nat) (u : Value) (h : (fnC f)[j]? = some u) : (w.alloc (fnB f)).cell? ⟨w.heap.size, j, none⟩ = some u := by
  unfold fnB
  rw [cell_of_row _ w.heap.size j _ 27 (0, 0) (by show (w.heap.push _)[w.heap.size]? = _; rw [Array.getElem?_push_size])]
  unfold fnC at h
  simpa using h

theorem own_new {B : Nat} {w : World} {v : Value} {zs : List Int} (h : OwnI B w v zs) (o : Obj) : OwnI B (w.alloc o) v zs := h.kept ((Below.refl _ _).alloc (Nat.le_refl _) _)

theorem below_new {B : Nat} {w0 w : World} (h : Below B w0 w) (hB : B ≤ w.heap.size) (o : Obj) : Below B w0 (w.alloc o) := h.alloc hB o

theorem putF_len (n : Int) : ∀ (d : Bool) (l : List Int), (putF n d l).length ≤ l.length + (if d then 0 else 1)
  | true, [] => by simp [putF]
  | false, [] => by simp [putF]
  | d, x :: l => by
    rw [putF]
    have h := putF_len n (d || decide (n ≤ x)) l
    have h2 : (if x = n then [] else [x]).length ≤ 1 := by split <;> simp
    cases d with
    | true =>
      simp at h ⊢
      omega
    | false =>
      by_cases c : n ≤ x
      · simp [c] at h ⊢
        omega
      · simp [c] at h ⊢
        omega

/-- put, on a row of the call's own -/
theorem put_own (B : Nat) (w : World) (v : Value) (zs : List Int) (n : Int) (ho : OwnI B w v zs) (hB : B ≤ w.heap.size) (hlen : (zs.length + 1) * 8 ≤ 140737488355328) :
    Calls Try.prog 19 #[v, .int .i64 n] w fun e w' => ∃ v', e = .returned v' ∧ OwnI B w' v' (putF n false zs) ∧ Below w.heap.size w w' := by
  obtain ⟨ad, cap, rfl, _, _, hz⟩ := ho.ints
  refine (put_any ad cap zs n w hz hlen).mono ?_
  rintro e w' ⟨v', rfl, h1, h2⟩
  exact ⟨v', rfl, h1.low hB, h2⟩

theorem insB_cell (a b c d : Int) (w : World) (j : Nat) (u : Value) (h : ([.int .i64 a, .int .i64 b, .int .i64 c, .int .i64 d] : List Value)[j]? = some u) : (w.alloc (.cells #[.int .i64 a, .int .i64 b, .int .i64 c, .int .i64 d] 41)).cell? ⟨w.heap.size, j, none⟩ = some u := by
  rw [cell_of_row _ w.heap.size j _ 41 (0, 0) (by show (w.heap.push _)[w.heap.size]? = _; rw [Array.getElem?_push_size])]
  simpa using h
end Go.Proofs.Ytjkemkggcnholaa.Fu
