/- Appends to rows of whatever kind, as long as what is grown to is within the limit. -/
import Derived.Test.YtfhdmglfpkmjbaaHB
import Derived.Maps.AppendAt
namespace Go.Proofs.Ytfhdmglfpkmjbaa.Hp
open Go.RowKit
set_option linter.unusedVariables false

/-- elements of type e, k cells each, in slices of type t -/
structure RT {β : Type} (enc : β → List Value) (t e : TypeId) (k bytes : Nat) : Prop where
  len : ∀ y, (enc y).length = k
  und : Try.prog.underlying t = some (.slice e)
  inf : ∃ i z, Try.prog.info? e = some i ∧ i.zero = some z ∧ i.size = k ∧ i.bytes = bytes ∧ z.cells.size = k
  pos : 0 < k
  one : ∀ y, ∀ u ∈ enc y, u.oneCell' = true

theorem rt_inf {t : TypeId} {z : Value} {s b : Nat} (h : (Try.prog.info? t).map (fun i => (i.zero, i.size, i.bytes)) = some (some z, s, b)) (hz : z.cells.size = s) : ∃ i z, Try.prog.info? t = some i ∧ i.zero = some z ∧ i.size = s ∧ i.bytes = b ∧ z.cells.size = s := by
  obtain ⟨i, h1, h2, h3, h4⟩ := info_parts h
  exact ⟨i, z, h1, h2, h3, h4, hz⟩



section
variable {β : Type} {enc : β → List Value} {t e : TypeId} {k bytes : Nat}

/-- a slice of one, in a block of its own -/
theorem one_sli (R : RT enc t e k bytes) {w : World} {cb : Nat} {y : β} {cs : Array Value} {t' : TypeId} (h : w.heap[cb]? = some (.cells cs t' (0, 0))) (hc : cs.toList = enc y) : Sli.ok enc k w ⟨some ⟨cb, 0, none⟩, 1, [y]⟩ := by
  refine ⟨Nat.le_refl _, by show (1 : Nat) ≤ 2 ^ 63 - 1; decide, fun _ => ⟨cb, 0, rfl, fun i z hi j u hj => ?_⟩⟩
  cases i with
  | zero =>
    simp at hi
    subst hi
    rw [cell_of_row w cb _ cs t' (0, 0) h]
    rw [show 0 + 0 * k + j = j by omega, ← hj, ← hc]
    simp
  | succ i => simp at hi

theorem app_zero (R : RT enc t e k bytes) {w : World} {B : Nat} {v : Value} {xs : List β} (h : OwnR enc k e B w v xs) (ka : Option Addr) (kc : Nat) (ty : TypeId) : (Builtin.append_ #[t, t] ty #[v, .slice ka 0 kc]).run Try.prog w = .ok v w := by
  obtain ⟨i, z, hi, _⟩ := R.inf
  rcases h.2 with ⟨rfl, h0⟩ | ⟨g, cap, cur, rfl, hb, hg, hn, hc, hs, ht⟩
  · cases ka with
    | none => simp [Builtin.append_, run_underlying R.und, sizeOf, typeInfo, hi, Builtin.lenOf, Builtin.firstCells]
    | some a => simp [Builtin.append_, run_underlying R.und, sizeOf, typeInfo, hi, Builtin.lenOf, Builtin.firstCells, loadCells, loadCellsFrom]
  · cases ka with
    | none => simp [Builtin.append_, run_underlying R.und, sizeOf, typeInfo, hi, Builtin.lenOf, Builtin.firstCells, storeCells, hn]
    | some a => simp [Builtin.append_, run_underlying R.und, sizeOf, typeInfo, hi, Builtin.lenOf, Builtin.firstCells, storeCells, loadCells, loadCellsFrom, hn]

/-- some put behind a row: where the new row lies -/
theorem run_app (R : RT enc t e k bytes) {w : World} {B : Nat} {v : Value} {xs : List β} (hown : OwnR enc k e B w v xs) (ad : Addr) (m c : Nat) (ty : TypeId) (news : List Value) (hl : news.length = m * k) (hnews : ∀ j u, news[j]? = some u → w.cell? (ad.add j) = some u) (h1 : ∀ u ∈ news, u.oneCell' = true) (hm0 : 0 < m)
    (hm : xs.length + m ≤ maxLen) (hb : ((xs.length + m) + (xs.length + m) / 4 + 192) * bytes ≤ 281474976710656) (hB : B ≤ w.heap.size) :
    ∃ v' w', (Builtin.append_ #[t, t] ty #[v, .slice (some ad) m c]).run Try.prog w = .ok v' w' ∧ w'.ownsRow B e k v' (xs.length + m) (xs.flatMap enc ++ news) ∧ w.grownBy w' v.ownBlock ∧ (v'.ownBlock = v.ownBlock ∨ v'.ownBlock = some w.heap.size) := by
  obtain ⟨i, z, hi, hz, e1, e2, e3⟩ := R.inf
  have hsmall : xs.length + m ≤ 9223372036854775807 := by simp only [maxLen] at hm; omega
  obtain ⟨v', w', hr, h2, h3, h4⟩ := run_append_own_wide (P := Try.prog) w B t ty e i z k bytes R.und hi hz e1 e2 e3 R.pos v xs.length (xs.flatMap enc) hown ad m c news hl hnews h1 hm hb hB
  refine ⟨v', w', hr, h2, h3, ?_⟩
  subst e1
  subst e2
  rcases hown.2 with ⟨rfl, h0⟩ | ⟨g, cap, cur, rfl, hbg, hg, hnc, hcm, hcs, htake⟩
  · have hx : xs = [] := List.eq_nil_of_length_eq_zero h0
    subst hx
    have hb' : m * i.bytes ≤ 281474976710656 := Nat.le_trans (Nat.mul_le_mul_right _ (by simp only [List.length_nil]; omega)) hb
    have hr2 := run_append_nil (P := Try.prog) w t ty e i z R.und hi hz ad m c news hl hnews (by omega) (by simp only [List.length_nil] at hsmall; omega) hb'
    rw [hr2] at hr
    injection hr with hr _
    exact Or.inr (by rw [← hr]; rfl)
  · by_cases hroom : xs.length + m ≤ cap
    · have hfit : xs.length * i.size + news.length ≤ cur.size := by rw [hl, hcs, ← Nat.add_mul]; exact Nat.mul_le_mul_right _ hroom
      have hr2 := run_append_room (P := Try.prog) w t ty e i R.und hi g xs.length cap cur hg ad m c news hl hnews h1 hroom hfit
      rw [hr2] at hr
      injection hr with hr _
      exact Or.inl (by rw [← hr]; rfl)
    · have hr2 := run_append_grow (P := Try.prog) w t ty e i z R.und hi hz ⟨g, 0, none⟩ xs.length cap (xs.flatMap enc) hown.1 (World.ownsRow.cells hown (g := g) rfl) ad m c news hl hnews (by omega) (by omega) (growslice_fits_wide (by omega) hb)
      rw [hr2] at hr
      injection hr with hr _
      exact Or.inr (by rw [← hr]; rfl)

/-- a slice put behind a row -/
theorem app_row (R : RT enc t e k bytes) {w : World} {ops : Array Oper} {rest : List Oper} {o : Oper} {a : Act} {Q : Exit → Act → World → Prop} (hgd : o.guard = none) (s x : Operand)
    (ho : o.op = .call { callee := .builtin .append, args := #[s, x], argTypes := #[t, t] })
    (B : Nat) (v : Value) (xs : List β) (hs : a.eval s = v) (hown : OwnR enc k e B w v xs) (sl : Sli β) (hx : a.eval x = sl.val) (hok : sl.ok enc k w)
    (hm : xs.length + sl.xs.length ≤ maxLen) (hb : ((xs.length + sl.xs.length) + (xs.length + sl.xs.length) / 4 + 192) * bytes ≤ 281474976710656) (hB : B ≤ w.heap.size)
    (h : ∀ v' w', OwnR enc k e B w' v' (xs ++ sl.xs) → w.grownBy w' v.ownBlock → (v'.ownBlock = v.ownBlock ∨ v'.ownBlock = some w.heap.size) → wpList Try.prog ops Q rest (a.put o.dst v') w') : wpList Try.prog ops Q (o :: rest) a w := by
  by_cases c : sl.xs = []
  · have hr := app_zero R hown sl.at' sl.cap o.type
    refine wpList_plain hgd fun K hK => ?_
    have hx2 : a.eval x = .slice sl.at' 0 sl.cap := by rw [hx]; unfold Sli.val; rw [c]; rfl
    unfold Oper.wp execOp
    simp only [ho, resolve, invoke, builtin, Sem.run_bind, Sem.run_pure, Result.andThen_ok, List.map_toArray, List.map_cons, List.map_nil, hs, hx2, hr]
    refine hK _ _ (h _ _ ?_ ⟨rfl, rfl, rfl, Nat.le_refl _, fun _ _ _ => rfl⟩ (Or.inl rfl))
    rw [c, List.append_nil]
    exact hown
  · obtain ⟨b, off, e1, hc⟩ := hok.cells c
    have hlp : 0 < sl.xs.length := by
      rcases Nat.eq_zero_or_pos sl.xs.length with q | q
      · exact absurd (List.eq_nil_of_length_eq_zero q) c
      · exact q
    obtain ⟨v', w', hr, g1, g2, g3⟩ := run_app R hown ⟨b, off, none⟩ sl.xs.length sl.cap o.type (sl.xs.flatMap enc) (flat_len R.len _) (news_of R.len hc) (fun u hu => by obtain ⟨g, g1, g2⟩ := List.mem_flatMap.1 hu; exact R.one g u g2) hlp hm hb hB
    refine wpList_plain hgd fun K hK => ?_
    have hx2 : a.eval x = .slice (some ⟨b, off, none⟩) sl.xs.length sl.cap := by rw [hx]; unfold Sli.val; rw [e1]
    unfold Oper.wp execOp
    simp only [ho, resolve, invoke, builtin, Sem.run_bind, Sem.run_pure, Result.andThen_ok, List.map_toArray, List.map_cons, List.map_nil, hs, hx2, hr]
    refine hK _ _ (h v' w' ?_ g2 g3)
    unfold OwnR
    rw [List.length_append, List.flatMap_append]
    exact g1

/-- one put behind a row, in a drawn region -/
theorem step_row (R : RT enc t e k bytes) {W : World} {ops : Array Oper} {o : Oper} {a : Act} {K : Act → World → Prop} {Q : Exit → Act → World → Prop} {E : Prop} (hgd : o.guard = none) (s x : Operand)
    (ho : o.op = .call { callee := .builtin .append, args := #[s, x], argTypes := #[t, t] })
    (B : Nat) (v : Value) (xs : List β) (hs : a.eval s = v) (hown : OwnR enc k e B W v xs) (cb : Nat) (y : β) (cs : Array Value) (t' : TypeId) (hx : a.eval x = .slice (some ⟨cb, 0, none⟩) 1 1) (hcb : W.heap[cb]? = some (.cells cs t' (0, 0))) (hcs : cs.toList = enc y)
    (hm : xs.length + 1 ≤ maxLen) (hb : ((xs.length + 1) + (xs.length + 1) / 4 + 192) * bytes ≤ 281474976710656) (hB : B ≤ W.heap.size)
    (h : ∀ g cap w', OwnR enc k e B w' (.slice (some ⟨g, 0, none⟩) (xs.length + 1) cap) (xs ++ [y]) → W.grownBy w' v.ownBlock → (v.ownBlock = some g ∨ g = W.heap.size) → K (a.put o.dst (.slice (some ⟨g, 0, none⟩) (xs.length + 1) cap)) w') :
    if Region.wanted o (yielded ops a.tmps) = true then Oper.wp Try.prog o a W K Q else E := by
  have hw : Region.wanted o (yielded ops a.tmps) = true := by simp [Region.wanted, hgd]
  rw [if_pos hw]
  have hn : ∀ j u, (enc y)[j]? = some u → W.cell? ((⟨cb, 0, none⟩ : Addr).add j) = some u := by
    rw [← hcs]
    exact World.news_of_block (cs := cs) (t := t') (fr := (0, 0)) hcb
  obtain ⟨v', w', hr, g1, g2, g3⟩ := run_app R hown ⟨cb, 0, none⟩ 1 1 o.type (enc y) (by rw [R.len, Nat.one_mul]) hn (R.one y) (by decide) hm hb hB
  obtain ⟨g, cap, rfl, _, _⟩ := g1.form (by omega)
  unfold Oper.wp execOp
  simp only [ho, resolve, invoke, builtin, Sem.run_bind, Sem.run_pure, Result.andThen_ok, List.map_toArray, List.map_cons, List.map_nil, hs, hx, hr]
  refine h g cap w' ?_ g2 ?_
  · unfold OwnR
    rw [List.length_append, List.flatMap_append]
    have : [y].flatMap enc = enc y := by simp
    rw [this]
    exact g1
  · rcases g3 with q | q
    · exact Or.inl (by rw [← q]; rfl)
    · exact Or.inr (by simpa [Value.ownBlock] using q)

theorem empty_own {w : World} {B g : Nat} (hg : w.heap[g]? = some (.cells #[] e (0, 0))) (hb : B ≤ g) : OwnR enc k e B w (.slice (some ⟨g, 0, none⟩) 0 0) [] := by
  refine ⟨?_, Or.inr ⟨g, 0, #[], rfl, hb, hg, Nat.le_refl _, Nat.zero_le _, ?_, ?_⟩⟩ <;> simp

end

end Go.Proofs.Ytfhdmglfpkmjbaa.Hp
