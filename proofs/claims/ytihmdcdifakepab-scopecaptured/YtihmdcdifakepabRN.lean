/- ScopeCaptured, plain. -/
import Derived.Test.YtihmdcdifakepabRM
namespace Go.Proofs.Ytihmdcdifakepab.Rz
open Go.Proofs.Ytihmdcdifakepab.Sc
set_option linter.unusedVariables false

theorem parts_no (k : Int) (n : Nat) (h1 : k ≠ 12) (h2 : k ≠ 33) : ∀ q ∈ partsI k n, q ≠ 110 := by
  intro q hq
  unfold partsI at hq
  by_cases a0 : k = 9
  · rw [if_pos a0] at hq
    rw [List.mem_replicate] at hq
    rw [hq.2]
    decide
  rw [if_neg a0] at hq
  by_cases a1 : k = 14 ∨ k = 15
  · rw [if_pos a1] at hq
    rw [List.mem_replicate] at hq
    rw [hq.2]
    decide
  rw [if_neg a1] at hq
  by_cases a2 : k = 10
  · rw [if_pos a2] at hq
    rw [List.mem_replicate] at hq
    rw [hq.2]
    decide
  rw [if_neg a2] at hq
  by_cases a3 : k = 44 ∨ k = 47
  · rw [if_pos a3] at hq
    rw [List.mem_replicate] at hq
    rw [hq.2]
    decide
  rw [if_neg a3] at hq
  rw [if_neg (show ¬ (k = 12 ∨ k = 33) by omega)] at hq
  by_cases a5 : k = 11 ∨ k = 13 ∨ k = 18 ∨ k = 19
  · rw [if_pos a5] at hq
    simp at hq
    rw [hq]
    decide
  rw [if_neg a5] at hq
  by_cases a6 : k = 21
  · rw [if_pos a6] at hq
    simp at hq
    rcases hq with hq | hq <;> (rw [hq]; decide)
  rw [if_neg a6] at hq
  by_cases a7 : k = 17
  · rw [if_pos a7] at hq
    simp at hq
    rw [hq]
    decide
  rw [if_neg a7] at hq
  by_cases a8 : k = 20
  · rw [if_pos a8] at hq
    simp at hq
    rw [hq]
    decide
  rw [if_neg a8] at hq
  by_cases a9 : k = 16 ∨ k = 32 ∨ k = 42 ∨ k = 46
  · rw [if_pos a9] at hq
    simp at hq
    rw [hq]
    decide
  rw [if_neg a9] at hq
  by_cases a10 : k = 22 ∨ k = 31 ∨ k = 34
  · rw [if_pos a10] at hq
    simp at hq
    rw [hq]
    decide
  rw [if_neg a10] at hq
  by_cases a11 : k = 35
  · rw [if_pos a11] at hq
    simp at hq
    rcases hq with hq | hq | hq <;> (rw [hq]; decide)
  rw [if_neg a11] at hq
  by_cases a12 : k = 36 ∨ k = 38
  · rw [if_pos a12] at hq
    simp at hq
    rcases hq with hq | hq <;> (rw [hq]; decide)
  rw [if_neg a12] at hq
  by_cases a13 : k = 37
  · rw [if_pos a13] at hq
    simp at hq
    rcases hq with hq | hq <;> (rw [hq]; decide)
  rw [if_neg a13] at hq
  by_cases a14 : k = 41
  · rw [if_pos a14] at hq
    simp at hq
    rw [hq]
    decide
  rw [if_neg a14] at hq
  by_cases a15 : k = 43
  · rw [if_pos a15] at hq
    simp at hq
    rcases hq with hq | hq <;> (rw [hq]; decide)
  rw [if_neg a15] at hq
  cases hq

theorem cs_res (bi : ByteArray → Bool) : ∀ n,
    (∀ p t, p ≠ 110 → Good n p t → CS ((resP bi n).1 t) (ownersT n t)) ∧
    (∀ p t, (p = 98 ∨ p = 66) → Good n p t → (ndR n t).kind ≠ 0 → CS ((resP bi n).2 t) (ownersT n t)) ∧
    (∀ p t, p ≠ 110 → Good n p t → (ndR n t).kind = 0 → ∀ fn c, ownersT n t fn c = ([], c)) ∧
    (∀ t, (ndR n t).kind = 3 → ∀ fn c, ownersT n t fn c = ([fn], c))
  | 0 => ⟨(fun p t => nomatch (t : Empty)), (fun p t => nomatch (t : Empty)), (fun p t => nomatch (t : Empty)), (fun t => nomatch (t : Empty))⟩
  | n + 1 => by
    obtain ⟨i1, i2, i0, i3⟩ := cs_res bi n
    obtain ⟨hp, hpb⟩ := pres_res bi n
    refine ⟨?_, ?_, ?_, ?_⟩
    · intro p t hpn hg
      have hparts := good_parts n p t hg
      by_cases c3 : t.1.kind = 3
      · intro s s' own c hi h hl e
        simp only [resP, c3, if_true] at e
        cases hu : useP bi t.1.name t.1.pl s with
        | error x => rw [hu] at e; cases e
        | ok q =>
          obtain ⟨v, s1⟩ := q
          rw [hu] at e
          simp only at e
          obtain rfl := Except.ok.inj e
          obtain ⟨a, b⟩ := use_cp bi _ _ s s1 v own h hi hu
          have e2 : ownersT (n + 1) t s.fn c = ([s.fn], c) := by
            obtain ⟨x, sl⟩ := t
            simp only at c3
            simp only [ownersT, c3, if_true]
          rw [e2]
          exact ⟨a, by rw [b]; exact hl⟩
      by_cases c12 : t.1.kind = 12 ∨ t.1.kind = 33
      · have ho : ownersT (n + 1) t = fun fn c => foldOwn (ownersT n) (c + 1) (t.2.xs.drop (t.2.xs.length - 1)) (c + 1) := by
          obtain ⟨x, sl⟩ := t
          funext fn c
          simp only at c3 c12
          simp only [ownersT]
          rw [if_neg c3, if_pos c12]
        rw [ho]
        have hf : (resP bi (n + 1)).1 t = functionP (ndR n) (resP bi n).2 t.1 t.2.xs := by
          funext s
          simp only [resP]
          rw [if_neg c3, if_neg (by omega), if_pos c12]
        rw [hf]
        have hk0 : t.1.kind ≠ 0 := by omega
        obtain ⟨_, hpart, hq⟩ := hparts.resolve_left (fun h => hk0 h.1)
        obtain ⟨hlen, hgood⟩ := hq.resolve_left hpn
        have hps : partsI t.1.kind t.2.xs.length = List.replicate (t.2.xs.length - 1) 110 ++ [98] := by
          rcases c12 with c | c <;> (rw [c]; rfl)
        have hx : t.2.xs ≠ [] := by
          intro e
          rw [hps, e] at hlen
          simp at hlen
        refine cs_function (ndR n) hpb t.1 t.2.xs hx fun b hb => ?_
        have hl0 : 0 < t.2.xs.length := List.length_pos_iff.2 hx
        have hb1 : t.2.xs[t.2.xs.length - 1]? = some b := by rw [List.getLast?_eq_getElem?] at hb; exact hb
        have hgb := hgood (t.2.xs.length - 1) 98 b (by rw [hps]; simp) hb1
        cases n with
        | zero => exact nomatch (b : Empty)
        | succ m =>
          refine i2 98 b (Or.inl rfl) hgb ?_
          rcases good_parts m 98 b hgb with ⟨_, h1, _⟩ | ⟨h1, _, _⟩
          · exact absurd h1 (by decide)
          · exact h1
      have ho : ownersT (n + 1) t = fun fn c => foldOwn (ownersT n) fn t.2.xs c := by
        obtain ⟨x, sl⟩ := t
        funext fn c
        simp only at c3 c12
        simp only [ownersT]
        rw [if_neg c3, if_neg c12]
      rw [ho]
      have hkids : ∀ k ∈ t.2.xs, CS ((resP bi n).1 k) (ownersT n k) := by
        rcases hparts with ⟨_, _, h⟩ | ⟨_, _, h⟩
        · intro k hk; rw [h] at hk; cases hk
        · obtain ⟨hlen, hgood⟩ := h.resolve_left hpn
          intro k hk
          obtain ⟨q, h1, h2⟩ := good_all hlen hgood (fun q => q ≠ 110) (parts_no _ _ (by omega) (by omega)) k hk
          exact i1 q k h1 h2
      by_cases c21 : t.1.kind = 21 ∨ t.1.kind = 17
      · have hf : (resP bi (n + 1)).1 t = giveP bi (ndR n) (resP bi n).1 t.2.xs := by
          funext s; simp only [resP]; rw [if_neg c3, if_pos c21]
        rw [hf]
        exact cs_give bi (ndR n) hp t.2.xs i3 hkids
      by_cases c44 : t.1.kind = 44
      · have hf : (resP bi (n + 1)).1 t = blockP (ndR n) (resP bi n).1 t.2.xs := by
          funext s; simp only [resP]; rw [if_neg c3, if_neg c21, if_neg c12, if_pos c44]
        rw [hf]
        exact cs_block (ndR n) hp t.2.xs hkids
      by_cases c43 : t.1.kind = 43
      · have hf : (resP bi (n + 1)).1 t = tryP (ndR n) (resP bi n).1 (resP bi n).2 t.1 t.2.xs := by
          funext s; simp only [resP]; rw [if_neg c3, if_neg c21, if_neg c12, if_neg c44, if_pos c43]
        rw [hf]
        have hk0 : t.1.kind ≠ 0 := by omega
        obtain ⟨_, hpart, hq⟩ := hparts.resolve_left (fun h => hk0 h.1)
        obtain ⟨hlen, hgood⟩ := hq.resolve_left hpn
        have hg1 : ∀ j, t.2.xs[1]? = some j → Good n 66 j := fun j hj => hgood 1 66 j (by rw [c43]; rfl) hj
        exact cs_try (ndR n) hp hpb t.1 t.2.xs hkids (fun j hj h0 => i0 66 j (by decide) (hg1 j hj) h0) (fun j hj h0 => i2 66 j (Or.inr rfl) (hg1 j hj) h0)
      by_cases c36 : t.1.kind = 36 ∨ t.1.kind = 37
      · have hf : (resP bi (n + 1)).1 t = loopP (resP bi n).1 t.2.xs := by
          funext s; simp only [resP]; rw [if_neg c3, if_neg c21, if_neg c12, if_neg c44, if_neg c43, if_pos c36]
        rw [hf]
        exact cs_loop hp t.2.xs hkids
      by_cases c38 : t.1.kind = 38
      · have hf : (resP bi (n + 1)).1 t = loopOfP (resP bi n).1 t.1 t.2.xs := by
          funext s; simp only [resP]; rw [if_neg c3, if_neg c21, if_neg c12, if_neg c44, if_neg c43, if_neg c36, if_pos c38]
        rw [hf]
        exact cs_loopOf hp t.1 t.2.xs hkids
      by_cases c41 : t.1.kind = 41
      · have hf : (resP bi (n + 1)).1 t = labelP (resP bi n).1 t.1 (leadT (n + 1) t) t.2.xs := by
          funext s; simp only [resP]; rw [if_neg c3, if_neg c21, if_neg c12, if_neg c44, if_neg c43, if_neg c36, if_neg c38, if_pos c41]
        rw [hf]
        exact cs_label hp t.1 _ t.2.xs hkids
      by_cases c39 : t.1.kind = 39 ∨ t.1.kind = 40
      · have hf : (resP bi (n + 1)).1 t = jumpP t.1 := by
          funext s; simp only [resP]; rw [if_neg c3, if_neg c21, if_neg c12, if_neg c44, if_neg c43, if_neg c36, if_neg c38, if_neg c41, if_pos c39]
        rw [hf]
        have hk0 : t.1.kind ≠ 0 := by omega
        obtain ⟨_, hpart, hq⟩ := hparts.resolve_left (fun h => hk0 h.1)
        obtain ⟨hlen, hgood⟩ := hq.resolve_left hpn
        have hx : t.2.xs = [] := List.length_eq_zero_iff.1 (by rw [← hlen]; rcases c39 with c | c <;> (rw [c]; rfl))
        intro s s' own c hi h hl e
        simp only
        rw [hx]
        unfold jumpP at e
        generalize (if isS t.1.name [] then decide (0 < s.loops) else s.labels.any fun e => decide (e.1 = t.1.name) && (e.2 || t.1.kind == 39)) = b at e
        cases b with
        | true => obtain rfl := Except.ok.inj e; exact ⟨by simpa [foldOwn] using h, hl⟩
        | false => cases e
      by_cases c34 : t.1.kind = 34
      · have hf : (resP bi (n + 1)).1 t = leaveP (resP bi n).1 t.1 t.2.xs := by
          funext s; simp only [resP]; rw [if_neg c3, if_neg c21, if_neg c12, if_neg c44, if_neg c43, if_neg c36, if_neg c38, if_neg c41, if_neg c39, if_pos c34]
        rw [hf]
        exact cs_leave hp t.1 t.2.xs hkids
      have hf : (resP bi (n + 1)).1 t = eachP (resP bi n).1 t.2.xs := by
        funext s; simp only [resP]; rw [if_neg c3, if_neg c21, if_neg c12, if_neg c44, if_neg c43, if_neg c36, if_neg c38, if_neg c41, if_neg c39, if_neg c34]
      rw [hf]
      exact cs_each hp t.2.xs hkids
    · intro p t hpp hg hk
      rcases good_parts n p t hg with ⟨k0, _, _⟩ | ⟨k0, hpart, hparts⟩
      · exact absurd k0 hk
      · have c44 : t.1.kind = 44 := by
          unfold isPartB at hpart
          rcases hpp with rfl | rfl <;> simpa using hpart
        have hp110 : p ≠ 110 := by rcases hpp with rfl | rfl <;> decide
        obtain ⟨hlen, hgood⟩ := hparts.resolve_left hp110
        have ho : ownersT (n + 1) t = fun fn c => foldOwn (ownersT n) fn t.2.xs c := by
          obtain ⟨x, sl⟩ := t
          funext fn c
          simp only at c44
          simp only [ownersT]
          rw [if_neg (by omega), if_neg (by omega)]
        rw [ho]
        have hf : (resP bi (n + 1)).2 t = itemsP (ndR n) (resP bi n).1 t.2.xs := by funext s; rfl
        rw [hf]
        refine cs_items (ndR n) hp t.2.xs fun k hk' => ?_
        obtain ⟨q, h1, h2⟩ := good_all hlen hgood (fun q => q ≠ 110) (parts_no _ _ (by omega) (by omega)) k hk'
        exact i1 q k h1 h2
    · intro p t hpn hg hk fn c
      rcases good_parts n p t hg with ⟨k0, _, hx⟩ | ⟨k0, _, _⟩
      · obtain ⟨x, sl⟩ := t
        simp only at k0 hx
        simp only [ownersT]
        rw [if_neg (by omega), if_neg (by omega), hx]
        rfl
      · exact absurd hk k0
    · intro t hk fn c
      obtain ⟨x, sl⟩ := t
      have hk' : x.kind = 3 := hk
      simp only [ownersT]
      rw [if_pos hk']

/-- ScopeCaptured, plain: of a right program -/
theorem captured_plain (bi : ByteArray → Bool) (n : Nat) (t : Tr (n + 1)) (s : RS) (hk : t.1.kind = 47) (hl : (partsI 47 t.2.xs.length).length = t.2.xs.length) (hg : ∀ (i : Nat) (q : UInt8) (k : Tr n), (partsI 47 t.2.xs.length)[i]? = some q → t.2.xs[i]? = some k → Good n q k)
    (e : resolveP bi (n + 1) t = .ok s) : Cp s (ownersT (n + 1) t 0 0).1 := by
  obtain ⟨i1, _, _, _⟩ := cs_res bi n
  obtain ⟨hp, hpb⟩ := pres_res bi n
  have ho : ownersT (n + 1) t 0 0 = foldOwn (ownersT n) 0 t.2.xs 0 := by
    obtain ⟨x, sl⟩ := t
    simp only at hk
    simp only [ownersT]
    rw [if_neg (by omega), if_neg (by omega)]
  rw [ho]
  have hb := cs_block (f := (resP bi n).1) (g := ownersT n) (ndR n) hp t.2.xs (fun k hk' => by
    obtain ⟨q, h1, h2⟩ := good_all hl hg (fun q => q ≠ 110) (parts_no _ _ (by decide) (by decide)) k hk'
    exact i1 q k h1 h2)
  have h0 : Cp (startP t.1.pl) [] := ⟨rfl, fun v x hx => by simp [startP] at hx⟩
  exact (hb (startP t.1.pl) s [] 0 (start_inv _) h0 rfl e).1

end Go.Proofs.Ytihmdcdifakepab.Rz
