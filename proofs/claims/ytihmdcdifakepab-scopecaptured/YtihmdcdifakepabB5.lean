/- Appends to rows of whatever kind, as long as what is grown to is within the limit. -/
import Derived.Test.YtihmdcdifakepabB4
import Derived.Maps.AppendAt
import Derived.StringKeys
namespace Go.Proofs.Ytihmdcdifakepab.Rv
open Go.RowKit Go.Proofs.Ytihmdcdifakepab.Sc
set_option linter.unusedVariables false

/-- elements of type e, k cells each, in slices of type t -/
structure RT {β : Type} (enc : β → List Value) (t e : TypeId) (k bytes : Nat) : Prop where
  len : ∀ y, (enc y).length = k
  und : Try.prog.underlying t = some (.slice e)
  inf : ∃ i z, Try.prog.info? e = some i ∧ i.zero = some z ∧ i.size = k ∧ i.bytes = bytes ∧ z.cells.size = k
  pos : 0 < k
  one : ∀ y, ∀ u ∈ enc y, u.oneCell' = true

theorem rt_inf {t : TypeId} {z : Value} {s b : Nat} (h : (Try.prog.info? t).map (fun i => (i.zero, i.size, i.bytes)) = some (some z, s, b)) (hz : z.cells.size = s) : ∃ i z, Try.prog.info? t = some i ∧ i.zero = some z ∧ i.size = s ∧ i.bytes = b ∧ z.cells.size = s := by
  obtain ⟨i, h1, h2, h3, h4⟩ := info_parts h
  exact ⟨i, z, h1, h2, h3, h4, hz⟩

def scpC (s : Rz.Scp) : List Value := [.int .i64 s.pl, .int .i64 s.parent, .int .i64 (s.params : Int), .int .i64 (s.vars : Int)]
def vrC (v : Rz.Vr) : List Value := [.string v.name, .int .i64 v.pl, .int .i64 v.kind, .int .i64 (v.fn : Int), .int .i64 (v.slot : Int), .bool v.cap]
def usC (u : Rz.Us) : List Value := [.int .i64 u.pl, .int .i64 u.var]
def mpC (m : Option Nat) : List Value := [.map m]
def lbC (l : ByteArray × Bool) : List Value := [.string l.1, .bool l.2]

theorem rtScp : RT scpC 26 66 4 32 := ⟨fun _ => rfl, Try.underlying26, rt_inf (z := .agg #[.int .i64 0, .int .i64 0, .int .i64 0, .int .i64 0]) (by kernel_rfl) rfl, by decide, fun y u h => by simp [scpC] at h; rcases h with rfl | rfl | rfl | rfl <;> rfl⟩
theorem rtVr : RT vrC 27 44 6 56 := ⟨fun _ => rfl, Try.underlying27, rt_inf (z := .agg #[.string ⟨#[]⟩, .int .i64 0, .int .i64 0, .int .i64 0, .int .i64 0, .bool false]) (by kernel_rfl) rfl, by decide, fun y u h => by simp [vrC] at h; rcases h with rfl | rfl | rfl | rfl | rfl | rfl <;> rfl⟩
theorem rtUs : RT usC 28 42 2 16 := ⟨fun _ => rfl, Try.underlying28, rt_inf (z := .agg #[.int .i64 0, .int .i64 0]) (by kernel_rfl) rfl, by decide, fun y u h => by simp [usC] at h; rcases h with rfl | rfl <;> rfl⟩
theorem rtMp : RT mpC 49 98 1 8 := ⟨fun _ => rfl, Try.underlying49, rt_inf (z := .map none) (by kernel_rfl) rfl, by decide, fun y u h => by simp [mpC] at h; subst h; rfl⟩
theorem rtLb : RT lbC 50 116 2 24 := ⟨fun _ => rfl, Try.underlying50, rt_inf (z := .agg #[.string ⟨#[]⟩, .bool false]) (by kernel_rfl) rfl, by decide, fun y u h => by simp [lbC] at h; rcases h with rfl | rfl <;> rfl⟩

section
variable {β : Type} {enc : β → List Value} {t e : TypeId} {k bytes : Nat}

/-- a slice of one, in a block of its own -/
theorem one_sli (R : RT enc t e k bytes) {w : World} {cb : Nat} {y : β} {cs : Array Value} {t' : TypeId} (h : w.heap[cb]? = some (.cells cs t' (0, 0))) (hc : cs.toList = enc y) : Sli.ok enc k w ⟨some ⟨cb, 0, none⟩, 1, [y]⟩ := by
  refine ⟨Nat.le_refl _, by show (1 : Nat) ≤ 2 ^ 63 - 1; decide, fun _ => ⟨cb, 0, rfl, fun i z hi j u hj => ?_⟩⟩
  cases i with
  | zero =>
    simp at hi
    subst hi
    rw [cell_of_row w cb _ cs t' (0, 0) h]
    rw [show 0 + 0 * k + j = j by omega, ← hj, ← hc]
    simp
  | succ i => simp at hi

theorem app_zero (R : RT enc t e k bytes) {w : World} {B : Nat} {v : Value} {xs : List β} (h : OwnR enc k e B w v xs) (ka : Option Addr) (kc : Nat) (ty : TypeId) : (Builtin.append_ #[t, t] ty #[v, .slice ka 0 kc]).run Try.prog w = .ok v w := by
  obtain ⟨i, z, hi, _⟩ := R.inf
  rcases h.2 with ⟨rfl, h0⟩ | ⟨g, cap, cur, rfl, hb, hg, hn, hc, hs, ht⟩
  · cases ka with
    | none => simp [Builtin.append_, run_underlying R.und, sizeOf, typeInfo, hi, Builtin.lenOf, Builtin.firstCells]
    | some a => simp [Builtin.append_, run_underlying R.und, sizeOf, typeInfo, hi, Builtin.lenOf, Builtin.firstCells, loadCells, loadCellsFrom]
  · cases ka with
    | none => simp [Builtin.append_, run_underlying R.und, sizeOf, typeInfo, hi, Builtin.lenOf, Builtin.firstCells, storeCells, hn]
    | some a => simp [Builtin.append_, run_underlying R.und, sizeOf, typeInfo, hi, Builtin.lenOf, Builtin.firstCells, storeCells, loadCells, loadCellsFrom, hn]

/-- some put behind a row: where the new row lies -/
theorem run_app (R : RT enc t e k bytes) {w : World} {B : Nat} {v : Value} {xs : List β} (hown : OwnR enc k e B w v xs) (ad : Addr) (m c : Nat) (ty : TypeId) (news : List Value) (hl : news.length = m * k) (hnews : ∀ j u, news[j]? = some u → w.cell? (ad.add j) = some u) (h1 : ∀ u ∈ news, u.oneCell' = true) (hm0 : 0 < m)
    (hm : xs.length + m ≤ maxLen) (hb : ((xs.length + m) + (xs.length + m) / 4 + 192) * bytes ≤ 281474976710656) (hB : B ≤ w.heap.size) :
    ∃ v' w', (Builtin.append_ #[t, t] ty #[v, .slice (some ad) m c]).run Try.prog w = .ok v' w' ∧ w'.ownsRow B e k v' (xs.length + m) (xs.flatMap enc ++ news) ∧ w.grownBy w' v.ownBlock ∧ (v'.ownBlock = v.ownBlock ∨ v'.ownBlock = some w.heap.size) := by
  obtain ⟨i, z, hi, hz, e1, e2, e3⟩ := R.inf
  have hsmall : xs.length + m ≤ 9223372036854775807 := by simp only [maxLen] at hm; omega
  obtain ⟨v', w', hr, h2, h3, h4⟩ := run_append_own_wide (P := Try.prog) w B t ty e i z k bytes R.und hi hz e1 e2 e3 R.pos v xs.length (xs.flatMap enc) hown ad m c news hl hnews h1 hm hb hB
  refine ⟨v', w', hr, h2, h3, ?_⟩
  subst e1
  subst e2
  rcases hown.2 with ⟨rfl, h0⟩ | ⟨g, cap, cur, rfl, hbg, hg, hnc, hcm, hcs, htake⟩
  · have hx : xs = [] := List.eq_nil_of_length_eq_zero h0
    subst hx
    have hb' : m * i.bytes ≤ 281474976710656 := Nat.le_trans (Nat.mul_le_mul_right _ (by simp only [List.length_nil]; omega)) hb
    have hr2 := run_append_nil (P := Try.prog) w t ty e i z R.und hi hz ad m c news hl hnews (by omega) (by simp only [List.length_nil] at hsmall; omega) hb'
    rw [hr2] at hr
    injection hr with hr _
    exact Or.inr (by rw [← hr]; rfl)
  · by_cases hroom : xs.length + m ≤ cap
    · have hfit : xs.length * i.size + news.length ≤ cur.size := by rw [hl, hcs, ← Nat.add_mul]; exact Nat.mul_le_mul_right _ hroom
      have hr2 := run_append_room (P := Try.prog) w t ty e i R.und hi g xs.length cap cur hg ad m c news hl hnews h1 hroom hfit
      rw [hr2] at hr
      injection hr with hr _
      exact Or.inl (by rw [← hr]; rfl)
    · have hr2 := run_append_grow (P := Try.prog) w t ty e i z R.und hi hz ⟨g, 0, none⟩ xs.length cap (xs.flatMap enc) hown.1 (World.ownsRow.cells hown (g := g) rfl) ad m c news hl hnews (by omega) (by omega) (growslice_fits_wide (by omega) hb)
      rw [hr2] at hr
      injection hr with hr _
      exact Or.inr (by rw [← hr]; rfl)

/-- a slice put behind a row -/
theorem app_row (R : RT enc t e k bytes) {w : World} {ops : Array Oper} {rest : List Oper} {o : Oper} {a : Act} {Q : Exit → Act → World → Prop} (hgd : o.guard = none) (s x : Operand)
    (ho : o.op = .call { callee := .builtin .append, args := #[s, x], argTypes := #[t, t] })
    (B : Nat) (v : Value) (xs : List β) (hs : a.eval s = v) (hown : OwnR enc k e B w v xs) (sl : Sli β) (hx : a.eval x = sl.val) (hok : sl.ok enc k w)
    (hm : xs.length + sl.xs.length ≤ maxLen) (hb : ((xs.length + sl.xs.length) + (xs.length + sl.xs.length) / 4 + 192) * bytes ≤ 281474976710656) (hB : B ≤ w.heap.size)
    (h : ∀ v' w', OwnR enc k e B w' v' (xs ++ sl.xs) → w.grownBy w' v.ownBlock → (v'.ownBlock = v.ownBlock ∨ v'.ownBlock = some w.heap.size) → wpList Try.prog ops Q rest (a.put o.dst v') w') : wpList Try.prog ops Q (o :: rest) a w := by
  by_cases c : sl.xs = []
  · have hr := app_zero R hown sl.at' sl.cap o.type
    refine wpList_plain hgd fun K hK => ?_
    have hx2 : a.eval x = .slice sl.at' 0 sl.cap := by rw [hx]; unfold Sli.val; rw [c]; rfl
    unfold Oper.wp execOp
    simp only [ho, resolve, invoke, builtin, Sem.run_bind, Sem.run_pure, Result.andThen_ok, List.map_toArray, List.map_cons, List.map_nil, hs, hx2, hr]
    refine hK _ _ (h _ _ ?_ ⟨rfl, rfl, rfl, Nat.le_refl _, fun _ _ _ => rfl⟩ (Or.inl rfl))
    rw [c, List.append_nil]
    exact hown
  · obtain ⟨b, off, e1, hc⟩ := hok.cells c
    have hlp : 0 < sl.xs.length := by
      rcases Nat.eq_zero_or_pos sl.xs.length with q | q
      · exact absurd (List.eq_nil_of_length_eq_zero q) c
      · exact q
    obtain ⟨v', w', hr, g1, g2, g3⟩ := run_app R hown ⟨b, off, none⟩ sl.xs.length sl.cap o.type (sl.xs.flatMap enc) (flat_len R.len _) (news_of R.len hc) (fun u hu => by obtain ⟨g, g1, g2⟩ := List.mem_flatMap.1 hu; exact R.one g u g2) hlp hm hb hB
    refine wpList_plain hgd fun K hK => ?_
    have hx2 : a.eval x = .slice (some ⟨b, off, none⟩) sl.xs.length sl.cap := by rw [hx]; unfold Sli.val; rw [e1]
    unfold Oper.wp execOp
    simp only [ho, resolve, invoke, builtin, Sem.run_bind, Sem.run_pure, Result.andThen_ok, List.map_toArray, List.map_cons, List.map_nil, hs, hx2, hr]
    refine hK _ _ (h v' w' ?_ g2 g3)
    unfold OwnR
    rw [List.length_append, List.flatMap_append]
    exact g1

/-- one put behind a row, in a drawn region -/
theorem step_row (R : RT enc t e k bytes) {W : World} {ops : Array Oper} {o : Oper} {a : Act} {K : Act → World → Prop} {Q : Exit → Act → World → Prop} {E : Prop} (hgd : o.guard = none) (s x : Operand)
    (ho : o.op = .call { callee := .builtin .append, args := #[s, x], argTypes := #[t, t] })
    (B : Nat) (v : Value) (xs : List β) (hs : a.eval s = v) (hown : OwnR enc k e B W v xs) (cb : Nat) (y : β) (cs : Array Value) (t' : TypeId) (hx : a.eval x = .slice (some ⟨cb, 0, none⟩) 1 1) (hcb : W.heap[cb]? = some (.cells cs t' (0, 0))) (hcs : cs.toList = enc y)
    (hm : xs.length + 1 ≤ maxLen) (hb : ((xs.length + 1) + (xs.length + 1) / 4 + 192) * bytes ≤ 281474976710656) (hB : B ≤ W.heap.size)
    (h : ∀ g cap w', OwnR enc k e B w' (.slice (some ⟨g, 0, none⟩) (xs.length + 1) cap) (xs ++ [y]) → W.grownBy w' v.ownBlock → (v.ownBlock = some g ∨ g = W.heap.size) → K (a.put o.dst (.slice (some ⟨g, 0, none⟩) (xs.length + 1) cap)) w') :
    if Region.wanted o (yielded ops a.tmps) = true then Oper.wp Try.prog o a W K Q else E := by
  have hw : Region.wanted o (yielded ops a.tmps) = true := by simp [Region.wanted, hgd]
  rw [if_pos hw]
  have hn : ∀ j u, (enc y)[j]? = some u → W.cell? ((⟨cb, 0, none⟩ : Addr).add j) = some u := by
    rw [← hcs]
    exact World.news_of_block (cs := cs) (t := t') (fr := (0, 0)) hcb
  obtain ⟨v', w', hr, g1, g2, g3⟩ := run_app R hown ⟨cb, 0, none⟩ 1 1 o.type (enc y) (by rw [R.len, Nat.one_mul]) hn (R.one y) (by decide) hm hb hB
  obtain ⟨g, cap, rfl, _, _⟩ := g1.form (by omega)
  unfold Oper.wp execOp
  simp only [ho, resolve, invoke, builtin, Sem.run_bind, Sem.run_pure, Result.andThen_ok, List.map_toArray, List.map_cons, List.map_nil, hs, hx, hr]
  refine h g cap w' ?_ g2 ?_
  · unfold OwnR
    rw [List.length_append, List.flatMap_append]
    have : [y].flatMap enc = enc y := by simp
    rw [this]
    exact g1
  · rcases g3 with q | q
    · exact Or.inl (by rw [← q]; rfl)
    · exact Or.inr (by simpa [Value.ownBlock] using q)

theorem empty_own {w : World} {B g : Nat} (hg : w.heap[g]? = some (.cells #[] e (0, 0))) (hb : B ≤ g) : OwnR enc k e B w (.slice (some ⟨g, 0, none⟩) 0 0) [] := by
  refine ⟨?_, Or.inr ⟨g, 0, #[], rfl, hb, hg, Nat.le_refl _, Nat.zero_le _, ?_, ?_⟩⟩ <;> simp

end

section
variable {β : Type} {enc : β → List Value} {k : Nat} {e : TypeId} {B : Nat}

/-- what is read of a row of one's own -/
theorem OwnR.read {w : World} {g n cap : Nat} {xs : List β} (hk : ∀ y, (enc y).length = k) (h : OwnR enc k e B w (.slice (some ⟨g, 0, none⟩) n cap) xs) :
    n = xs.length ∧ B ≤ g ∧ g < w.heap.size ∧ xs.length ≤ cap ∧ cap ≤ maxLen ∧ (∀ (i : Nat) (y : β), xs[i]? = some y → ∀ (j : Nat) (u : Value), (enc y)[j]? = some u → w.cell? ⟨g, i * k + j, none⟩ = some u) ∧ (∀ m, w.frozen? ⟨g, m, none⟩ = false) := by
  rcases h.2 with ⟨h1, h0⟩ | ⟨g', cap', cur, h1, hb, hg, hn, hc, hs, ht⟩
  · cases h1
  · cases h1
    refine ⟨rfl, hb, (Array.getElem?_eq_some_iff.1 hg).1, hn, hc, fun i y hi j u hu => ?_, fun m => frozen_of_row w g m cur e hg⟩
    have hf := flat_at hk xs i y hi j u hu
    rw [cell_of_row w g _ cur e (0, 0) hg]
    have hl := (List.getElem?_eq_some_iff.1 hf).1
    rw [flat_len hk] at hl
    have e1 : (cur.toList.take (xs.length * k))[i * k + j]? = some u := by rw [ht]; exact hf
    rw [List.getElem?_take_of_lt hl] at e1
    simpa using e1

theorem flat_set (hk : ∀ y, (enc y).length = k) {y y' : β} {j : Nat} {u : Value} (hj : j < k) (he : enc y' = (enc y).set j u) : ∀ (xs : List β) (i : Nat), xs[i]? = some y → (xs.set i y').flatMap enc = (xs.flatMap enc).set (i * k + j) u := by
  intro xs
  induction xs with
  | nil => intro i hi; simp at hi
  | cons x xs ih =>
    intro i hi
    cases i with
    | zero =>
      simp at hi
      subst hi
      rw [List.set_cons_zero, List.flatMap_cons, List.flatMap_cons, Nat.zero_mul, Nat.zero_add, List.set_append_left _ _ (by rw [hk]; exact hj), he]
    | succ i =>
      simp at hi
      rw [List.set_cons_succ, List.flatMap_cons, List.flatMap_cons, ih i hi, List.set_append_right _ _ (by rw [hk, Nat.succ_mul]; omega)]
      congr 2
      rw [hk, Nat.succ_mul]
      omega

/-- a cell of such a row is laid anew -/
theorem OwnR.put {w : World} {g n cap : Nat} {xs : List β} (hk : ∀ y, (enc y).length = k) (h : OwnR enc k e B w (.slice (some ⟨g, 0, none⟩) n cap) xs) {i j : Nat} {y y' : β} {u : Value} (hi : xs[i]? = some y) (hj : j < k) (he : enc y' = (enc y).set j u) : OwnR enc k e B (w.setCell ⟨g, i * k + j, none⟩ u) (.slice (some ⟨g, 0, none⟩) n cap) (xs.set i y') := by
  rcases h.2 with ⟨h1, h0⟩ | ⟨g', cap', cur, h1, hb, hg, hn, hc, hs, ht⟩
  · cases h1
  · cases h1
    refine ⟨flat_len hk _, Or.inr ⟨g, cap, cur.setIfInBounds (i * k + j) u, by rw [List.length_set], hb, heap_setCell_same w g (i * k + j) cur e u hg, by rw [List.length_set]; exact hn, hc, by rw [Array.size_setIfInBounds]; exact hs, ?_⟩⟩
    rw [Array.toList_setIfInBounds, List.length_set, flat_set hk hj he xs i hi, ← ht, List.take_set]

end

/-- a row without its last ones -/
theorem OwnR.cut {β : Type} {enc : β → List Value} {k : Nat} {e : TypeId} {B : Nat} {w : World} {g n cap : Nat} {xs ys : List β} (hk : ∀ y, (enc y).length = k) (h : OwnR enc k e B w (.slice (some ⟨g, 0, none⟩) n cap) (xs ++ ys)) : OwnR enc k e B w (.slice (some ⟨g, 0, none⟩) xs.length cap) xs := by
  rcases h.2 with ⟨h1, h0⟩ | ⟨g', cap', cur, h1, hb, hg, hn, hc, hs, ht⟩
  · cases h1
  · cases h1
    rw [List.length_append] at hn ht
    refine ⟨flat_len hk xs, Or.inr ⟨g, cap, cur, rfl, hb, hg, by omega, hc, hs, ?_⟩⟩
    have h2 : (cur.toList.take ((xs.length + ys.length) * k)).take (xs.length * k) = ((xs ++ ys).flatMap enc).take (xs.length * k) := by rw [ht]
    have h3 : (xs.flatMap enc).take (xs.length * k) = xs.flatMap enc := List.take_of_length_le (by rw [flat_len hk]; exact Nat.le_refl _)
    rw [List.take_take, List.flatMap_append, List.take_append_of_le_length (by rw [flat_len hk]; exact Nat.le_refl _), h3] at h2
    rw [← h2]
    congr 1
    rw [Nat.add_mul]
    omega

theorem rows_same {β : Type} {enc : β → List Value} {k w0 : Nat} {e : TypeId} {w w' : World} {v : Value} {l : List β} (h : OwnR enc k e w0 w v l) (hk : ∀ b, v.ownBlock = some b → w'.heap[b]? = w.heap[b]?) : OwnR enc k e w0 w' v l := by
  rcases h.2 with ⟨rfl, h0⟩ | ⟨g, cap, cur, rfl, hb, hg, h3⟩
  · exact ⟨h.1, Or.inl ⟨rfl, h0⟩⟩
  · exact ⟨h.1, Or.inr ⟨g, cap, cur, rfl, hb, by rw [hk g rfl]; exact hg, h3⟩⟩

end Go.Proofs.Ytihmdcdifakepab.Rv

/- The resolver's walk: blocks of names, as maps. -/
namespace Go.Proofs.Ytihmdcdifakepab.Rv
open Go.RowKit Go.Proofs.Ytihmdcdifakepab.Sc
set_option linter.unusedVariables false

theorem laidOut : laidOutB Try.prog = true := by kernel_rfl
theorem key_law : WideMaps.KeyLaw Try.prog 9 := Go.WideMaps.string_law Try.underlying9

theorem key_of {s : ByteArray} (hs : s.size ≤ maxLen) : keyOf Try.prog 9 (.string s) = some (.string s.data.toList) := by simp [keyOf, mapKey, Try.underlying9, hs]

theorem zero3 (w : World) : (zeroValue 3).run Try.prog w = .ok (.int .i64 0) w := by
  kernel_rfl
theorem look_none (s : ByteArray) (hs : s.size ≤ maxLen) (w : World) : (Instr.lookup 98 (.map none) (.string s) true).run Try.prog w = .ok (.tuple #[.int .i64 0, .bool false]) w :=
  Maps.look_nil (k := 9) true (Maps.string_keyed Try.underlying9) Try.underlying98 (zero3 w) (kl := .string s.data.toList) (key_of hs)

abbrev Blk := List (ByteArray × Nat)

/-- a block's names are unlike each other, and texts -/
structure Blk.wf (b : Blk) : Prop where
  nd : (b.map Prod.fst).Nodup
  sz : ∀ e ∈ b, e.1.size ≤ maxLen

def enM (e : ByteArray × Nat) : Value × Value := (.string e.1, .int .i64 (e.2 : Int))

/-- a block's map: none as long as it has no names; the newest name stands last -/
def MpAt (w : World) (m : Option Nat) (b : Blk) : Prop :=
  (m = none ∧ b = []) ∨ ∃ mb es clock, m = some mb ∧ w.heap[mb]? = some (.map es clock) ∧ es.toList.map (fun e => (e.key, e.val)) = b.reverse.map enM

theorem MpAt.kept {w w' : World} {m : Option Nat} {b : Blk} (h : MpAt w m b) (hk : ∀ mb, m = some mb → w'.heap[mb]? = w.heap[mb]?) : MpAt w' m b := by
  rcases h with h | ⟨mb, es, clock, h1, h2, h3⟩
  · exact Or.inl h
  · exact Or.inr ⟨mb, es, clock, h1, by rw [hk mb h1]; exact h2, h3⟩

theorem enM_at {b : Blk} {es : List MapEntry} (h : es.map (fun e => (e.key, e.val)) = b.reverse.map enM) (j : Nat) (e : MapEntry) (he : es[j]? = some e) : ∃ x, x ∈ b ∧ e.key = .string x.1 ∧ e.val = .int .i64 (x.2 : Int) := by
  have h1 := congrArg (·[j]?) h
  simp only [List.getElem?_map, he, Option.map_some] at h1
  cases hx : b.reverse[j]? with
  | none => rw [hx] at h1; simp at h1
  | some x =>
    rw [hx] at h1
    simp [enM] at h1
    exact ⟨x, List.mem_reverse.1 (List.mem_of_getElem? hx), h1.1, h1.2⟩

theorem enM_keys {b : Blk} (hw : Blk.wf b) {es : List MapEntry} (h : es.map (fun e => (e.key, e.val)) = b.reverse.map enM) : ∀ e ∈ es, ∃ l, keyOf Try.prog 9 e.key = some l := by
  intro e he
  obtain ⟨j, hj⟩ := List.mem_iff_getElem?.1 he
  obtain ⟨x, h1, h2, _⟩ := enM_at h j e hj
  rw [h2]
  exact ⟨_, key_of (hw.sz x h1)⟩

/-- a name of a block, by the first that has it -/
def fnd (nm : ByteArray) (b : Blk) : Option (ByteArray × Nat) := b.find? (fun e => decide (e.1 = nm))

theorem fnd_none {nm : ByteArray} {b : Blk} (h : ∀ x ∈ b, x.1 ≠ nm) : fnd nm b = none := by
  unfold fnd
  rw [List.find?_eq_none]
  intro x hx
  simpa using h x hx

theorem fnd_some {nm : ByteArray} : ∀ {b : Blk}, (b.map Prod.fst).Nodup → ∀ x, x ∈ b → x.1 = nm → fnd nm b = some x
  | [], _, x, h, _ => by cases h
  | y :: b, hn, x, h, hx => by
    unfold fnd
    rw [List.map_cons, List.nodup_cons] at hn
    by_cases c : y.1 = nm
    · rw [List.find?_cons_of_pos (by simpa using c)]
      rcases List.mem_cons.1 h with q | q
      · rw [q]
      · exact absurd (List.mem_map.2 ⟨x, q, by rw [hx, c]⟩) hn.1
    · rw [List.find?_cons_of_neg (by simpa using c)]
      rcases List.mem_cons.1 h with q | q
      · rw [q] at hx
        exact absurd hx c
      · exact fnd_some hn.2 x q hx

/-- what a map tells of a name -/
def lookV (nm : ByteArray) (b : Blk) : Value := .tuple #[.int .i64 (((fnd nm b).map (fun e => (e.2 : Int))).getD 0), .bool (fnd nm b).isSome]

theorem MpAt.look {w : World} {m : Option Nat} {b : Blk} (h : MpAt w m b) (hw : Blk.wf b) {nm : ByteArray} (hn : nm.size ≤ maxLen) : (Instr.lookup 98 (.map m) (.string nm) true).run Try.prog w = .ok (lookV nm b) w := by
  rcases h with ⟨rfl, rfl⟩ | ⟨mb, es, clock, rfl, hb, he⟩
  · exact look_none nm hn w
  · have hz := key_of hn
    rcases key_law.find w hz es.toList (enM_keys hw he) with ⟨f1, f2⟩ | ⟨j, e, f1, f2, f3⟩
    · have hno : fnd nm b = none := fnd_none (fun x hx hs => by
        have hx2 := List.mem_reverse.2 hx
        obtain ⟨j, hj⟩ := List.mem_iff_getElem?.1 hx2
        have h1 := congrArg (·[j]?) he
        simp only [List.getElem?_map, hj, Option.map_some] at h1
        cases hq : es.toList[j]? with
        | none => rw [hq] at h1; simp at h1
        | some e =>
          rw [hq] at h1
          simp [enM] at h1
          exact f2 e (List.mem_of_getElem? hq) (by rw [h1.1, hs]))
      unfold lookV
      rw [hno]
      simp [Instr.lookup, run_underlying Try.underlying98, MapKept.run_getObj_map hb, key_law.check w _ hz, f1, Result.andThen]
    · obtain ⟨x, h1, h2, h3⟩ := enM_at he j e f2
      have hs : fnd nm b = some x := fnd_some hw.nd x h1 (by
        rw [h2] at f3
        simpa using f3)
      unfold lookV
      rw [hs]
      simp [Instr.lookup, run_underlying Try.underlying98, MapKept.run_getObj_map hb, key_law.check w _ hz, f1, h3, Result.andThen]

/-- a name more -/
theorem MpAt.put {w : World} {mb : Nat} {b : Blk} (h : MpAt w (some mb) b) (hw : Blk.wf b) {nm : ByteArray} (hn : nm.size ≤ maxLen) (hno : ∀ x ∈ b, x.1 ≠ nm) (v : Nat) :
    ∃ w', (Instr.mapUpdate 98 (.map (some mb)) (.string nm) (.int .i64 (v : Int))).run Try.prog w = .ok () w' ∧ MpAt w' (some mb) ((nm, v) :: b) ∧ w.grownBy w' (some mb) ∧ w'.heap.size = w.heap.size := by
  rcases h with ⟨h, _⟩ | ⟨mb', es, clock, e1, hb, he⟩
  · cases h
  · cases e1
    have hz := key_of hn
    rcases key_law.find w hz es.toList (enM_keys hw he) with ⟨f1, f2⟩ | ⟨j, e, f1, f2, f3⟩
    · refine ⟨ChangeMaps.setBlock w mb (.map (es.push ⟨.string nm, .int .i64 (v : Int), clock⟩) (clock + 1)), ?_, Or.inr ⟨mb, _, _, rfl, ChangeMaps.heap_setBlock_same hb _, ?_⟩, ⟨rfl, rfl, rfl, by simp [ChangeMaps.setBlock], fun i _ hi => ChangeMaps.heap_setBlock_other hb _ (fun e => hi (by rw [e]))⟩, by simp [ChangeMaps.setBlock]⟩
      · simp [Instr.mapUpdate, run_underlying Try.underlying98, MapKept.run_getObj_map hb, key_law.check w _ hz, f1, MapKept.run_setObj_map _ hb, Result.andThen, ChangeMaps.setBlock]
      · simp [he, enM]
    · obtain ⟨x, h1, h2, h3⟩ := enM_at he j e f2
      exact absurd (by rw [h2] at f3; simpa using f3) (hno x h1)

end Go.Proofs.Ytihmdcdifakepab.Rv
