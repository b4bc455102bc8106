/- Mul64, Add64, Sub64; the walk of scaled. -/
import Derived.Test.YtaikkmehmiiffaaGreatDoorA1
import Derived.Test.YtaikkmehmiiffaaGreatDoorW20
import Derived.Test.YtaikkmehmiiffaaGreatDoorW25
import Derived.Test.YtaikkmehmiiffaaGreatDoorMN
import Derived.Laws.BitsAllLaws
import Derived.Shelf.Spec.BitsCarry
namespace Go.Proofs.YtaikkmehmiiffaaGreatDoor
open Go.RowKit
set_option linter.unusedVariables false

theorem add64_run (x y c : Nat) (hc : c ≤ 1) (w : World) :
    (callFunc 110 #[.int .u64 x, .int .u64 y, .int .u64 c]).run Tryz.prog w =
      .ok (.value (.tuple #[.int .u64 (((x + y + c) % 18446744073709551616 : Nat) : Int), .int .u64 (((x + y + c) / 18446744073709551616 : Nat) : Int)])) w := by
  rw [run_callFunc_extern Tryz.func110 (by kernel_rfl) (by kernel_rfl) (by kernel_rfl) (e := add64Entry) (by kernel_rfl), run_add64 x y c (by omega) (by omega) (by omega) (by omega)]
  simp only [Result.andThen]
  congr 5 <;> omega

theorem sub64_run (x y b : Nat) (hb : b ≤ 1) (w : World) :
    (callFunc 128 #[.int .u64 x, .int .u64 y, .int .u64 b]).run Tryz.prog w =
      .ok (.value (.tuple #[.int .u64 (((x + 18446744073709551616 - y - b) % 18446744073709551616 : Nat) : Int), .int .u64 ((if x < y + b then 1 else 0 : Nat) : Int)])) w := by
  rw [run_callFunc_extern Tryz.func128 (by kernel_rfl) (by kernel_rfl) (by kernel_rfl) (e := sub64Entry) (by kernel_rfl), run_sub64 x y b hb]
  rfl

/-- the words of scaled: those that are done and those that are not -/
def ScaledAt (w wr : World) (g cap : Nat) (xs : List Nat) (b p k c : Nat) : Prop :=
  ∃ A : List Nat, A.length = k ∧ Fit A ∧ wval A + 18446744073709551616 ^ k * c = wval (xs.take k) * b + p ∧
    wr.ownsRow g 29 1 (.slice (some ⟨g, 0, none⟩) xs.length cap) xs.length ((A ++ xs.drop k).map wordV) ∧ w.grownBy wr (some g)

theorem ScaledAt.cell {w wr : World} {g cap : Nat} {xs : List Nat} {b p k c : Nat} (h : ScaledAt w wr g cap xs b p k c) {x : Nat} (hx : xs[k]? = some x) :
    wr.cell? ⟨g, k, none⟩ = some (.int .u64 (x : Int)) := by
  obtain ⟨A, hA, _, _, hown, _⟩ := h
  refine owns_cell hown ?_
  rw [List.getElem?_append_right (by omega), hA, Nat.sub_self, List.getElem?_drop]
  simpa using hx

theorem ScaledAt.frozen {w wr : World} {g cap : Nat} {xs : List Nat} {b p k c : Nat} (h : ScaledAt w wr g cap xs b p k c) : wr.frozen? ⟨g, k, none⟩ = false := by
  obtain ⟨A, hA, _, _, hown, _⟩ := h
  exact hown.frozenAt k

theorem grown_trans {w w1 w2 : World} {row : Option Nat} (h : w.grownBy w1 row) (k : w1.grownBy w2 row) : w.grownBy w2 row :=
  ⟨k.os.trans h.os, k.tape.trans h.tape, k.output.trans h.output, Nat.le_trans h.size k.size, fun j hj hr => (k.block j (Nat.lt_of_lt_of_le hj h.size) hr).trans (h.block j hj hr)⟩

theorem ScaledAt.next {w wr : World} {g cap : Nat} {xs : List Nat} {b p k c : Nat} (h : ScaledAt w wr g cap xs b p k c) {x : Nat} (hx : xs[k]? = some x) :
    ScaledAt w (wr.setCell ⟨g, k, none⟩ (.int .u64 (((x * b + c) % 18446744073709551616 : Nat) : Int))) g cap xs b p (k + 1) ((x * b + c) / 18446744073709551616) := by
  obtain ⟨A, hA, fA, hv, hown, hg⟩ := h
  have hk : k < xs.length := (List.getElem?_eq_some_iff.1 hx).1
  obtain ⟨s1, s2⟩ := hown.stored k (.int .u64 (((x * b + c) % 18446744073709551616 : Nat) : Int))
  refine ⟨A ++ [(x * b + c) % 18446744073709551616], by simp [hA], fit_append fA (fit_one (by omega)), scaled_step xs A k x b c p hA hx hv, ?_, grown_trans hg s2⟩
  have e : ((A ++ xs.drop k).map wordV).set k (.int .u64 (((x * b + c) % 18446744073709551616 : Nat) : Int)) = (A ++ [(x * b + c) % 18446744073709551616] ++ xs.drop (k + 1)).map wordV := by
    rw [show (Value.int .u64 (((x * b + c) % 18446744073709551616 : Nat) : Int)) = wordV ((x * b + c) % 18446744073709551616) from rfl, ← List.map_set]
    congr 1
    rw [List.set_append_right (s := A) (t := xs.drop k) k _ (by omega), hA, Nat.sub_self, List.drop_eq_getElem_cons hk, List.set_cons_zero, List.append_assoc]
    rfl
  rw [e] at s1
  exact s1

theorem Tryz.info29 : (Tryz.prog.info? 29).map (fun i => (i.zero, i.size, i.bytes)) = some (some (.int .u64 0), 1, 8) := by kernel_rfl

theorem owns_rebase {w : World} {base g n cap : Nat} {xs : List Value} (h : w.ownsRow base 29 1 (.slice (some ⟨g, 0, none⟩) n cap) n xs) : w.ownsRow g 29 1 (.slice (some ⟨g, 0, none⟩) n cap) n xs := by
  refine ⟨h.1, ?_⟩
  rcases h.2 with ⟨h', _⟩ | ⟨g', cap', cur, h', hb, rest⟩
  · simp at h'
  · simp only [Value.slice.injEq, Option.some.injEq, Addr.mk.injEq, and_true, true_and] at h'
    obtain ⟨rfl, rfl⟩ := h'
    exact .inr ⟨g, cap, cur, rfl, Nat.le_refl _, rest⟩

/-- append, and where its row lies -/
theorem run_app (w : World) (ty : TypeId) (g n cap : Nat) (xs : List Value) (hown : w.ownsRow g 29 1 (.slice (some ⟨g, 0, none⟩) n cap) n xs)
    (a : Addr) (m c : Nat) (news : List Value) (hl : news.length = m) (hnews : ∀ j u, news[j]? = some u → w.cell? (a.add j) = some u) (h1 : ∀ u ∈ news, u.oneCell' = true) (hbytes : (n + m) * 8 ≤ 140737488355328) :
    ∃ g' cap' w', (Builtin.append_ #[106, 106] ty #[.slice (some ⟨g, 0, none⟩) n cap, .slice (some a) m c]).run Tryz.prog w = .ok (.slice (some ⟨g', 0, none⟩) (n + m) cap') w' ∧
      w'.ownsRow g' 29 1 (.slice (some ⟨g', 0, none⟩) (n + m) cap') (n + m) (xs ++ news) ∧ w.grownBy w' (some g) ∧ (g' = g ∨ w.heap.size ≤ g') := by
  obtain ⟨i0, hi, hz0, hz1, hz2⟩ := info_parts Tryz.info29
  have bnd := owns_bound hown
  have h63 : n + m ≤ maxLen := by unfold maxLen; omega
  obtain ⟨v', w', hr, h2, h3, h4⟩ := run_append_own (P := Tryz.prog) w g 106 ty 29 i0 (.int .u64 0) 1 8 Tryz.underlying106 hi hz0 hz1 hz2 rfl (by decide) _ n xs hown a m c news (by omega) hnews h1 h63 hbytes (by omega)
  by_cases room : n + m ≤ cap
  · rcases hown.2 with ⟨h', _⟩ | ⟨g', cap', cur, h', hb, hg, hnc, hcm, hcs, ht⟩
    · simp at h'
    · simp only [Value.slice.injEq, Option.some.injEq, Addr.mk.injEq, and_true, true_and] at h'
      obtain ⟨rfl, rfl⟩ := h'
      have hr2 := run_append_room (P := Tryz.prog) w 106 ty 29 i0 Tryz.underlying106 hi g n cap cur hg a m c news (by rw [hz1]; omega) hnews h1 room (by rw [hz1]; omega)
      rw [hr2] at hr
      injection hr with e1 e2
      subst e1; subst e2
      exact ⟨g, cap, _, hr2, h2, h3, .inl rfl⟩
  · have holds : ∀ j u, xs[j]? = some u → w.cell? ((⟨g, 0, none⟩ : Addr).add j) = some u := hown.cells (g := g) rfl
    have hr2 := run_append_grow (P := Tryz.prog) w 106 ty 29 i0 (.int .u64 0) Tryz.underlying106 hi hz0 ⟨g, 0, none⟩ n cap xs (by rw [hz1]; exact hown.1) holds a m c news (by rw [hz1]; omega) hnews (by omega) (by unfold maxLen at h63; omega) (growslice_fits (by omega) (by rw [hz2]; exact hbytes))
    rw [hr2] at hr
    injection hr with e1 e2
    subst e1; subst e2
    exact ⟨_, _, _, hr2, owns_rebase h2, h3, .inr (Nat.le_refl _)⟩

theorem wpList_app {w : World} {ops : Array Oper} {rest : List Oper} {o : Oper} {a : Act} {Q : Exit → Act → World → Prop} (hgd : o.guard = none) (s x : Operand)
    (ho : o.op = .call { callee := .builtin .append, args := #[s, x], argTypes := #[106, 106] })
    (g n cap : Nat) (xs : List Value) (hs : a.eval s = .slice (some ⟨g, 0, none⟩) n cap) (hown : w.ownsRow g 29 1 (.slice (some ⟨g, 0, none⟩) n cap) n xs)
    (ad : Addr) (m c : Nat) (news : List Value) (hx : a.eval x = .slice (some ad) m c) (hl : news.length = m) (hnews : ∀ j u, news[j]? = some u → w.cell? (ad.add j) = some u) (h1 : ∀ u ∈ news, u.oneCell' = true)
    (hbytes : (n + m) * 8 ≤ 140737488355328)
    (h : ∀ g' cap' w', w'.ownsRow g' 29 1 (.slice (some ⟨g', 0, none⟩) (n + m) cap') (n + m) (xs ++ news) → w.grownBy w' (some g) → (g' = g ∨ w.heap.size ≤ g') → wpList Tryz.prog ops Q rest (a.put o.dst (.slice (some ⟨g', 0, none⟩) (n + m) cap')) w') : wpList Tryz.prog ops Q (o :: rest) a w := by
  refine wpList_plain hgd fun _ hK => ?_
  obtain ⟨g', cap', w', hr, h2, h3, h4⟩ := run_app w o.type g n cap xs hown ad m c news hl hnews h1 hbytes
  unfold Oper.wp execOp
  simp only [ho, resolve, invoke, builtin, Sem.run_bind, Sem.run_pure, Result.andThen_ok, List.map_toArray, List.map_cons, List.map_nil, hs, hx, hr]
  exact hK _ _ (h g' cap' w' h2 h3 h4)

theorem scaled_parts (x b c : Nat) (hx : x < 18446744073709551616) (hb : b < 18446744073709551616) (hc : c < 18446744073709551616) :
    ∃ H L C Z : Nat, H + C < 18446744073709551616 ∧ H + C = (x * b + c) / 18446744073709551616 ∧ Z = (x * b + c) % 18446744073709551616 ∧
      (∀ w : World, Calls Tryz.prog 109 #[.int .u64 x, .int .u64 b] w fun e w' => e = .returned (.tuple #[.int .u64 (H : Int), .int .u64 (L : Int)]) ∧ w' = w) ∧
      (∀ w : World, (callFunc 110 #[.int .u64 (L : Int), .int .u64 (c : Int), .int .u64 0]).run Tryz.prog w = .ok (.value (.tuple #[.int .u64 (Z : Int), .int .u64 (C : Int)])) w) := by
  have hcy := scaled_carry x b c hx hb hc
  refine ⟨x * b / 18446744073709551616, x * b % 18446744073709551616, (x * b % 18446744073709551616 + c + 0) / 18446744073709551616, (x * b % 18446744073709551616 + c + 0) % 18446744073709551616, ?_, ?_, ?_,
    fun w => mul64_nat x b hx hb w, fun w => add64_run _ c 0 (by omega) w⟩
  · omega
  · omega
  · omega

theorem scaled_walk (w : World) (g cap : Nat) (xs : List Nat) (b p : Nat) (fx : Fit xs) (hb : b < 18446744073709551616) (hp : p < 18446744073709551616) (hlen : xs.length ≤ 1000000)
    (hown : w.ownsRow g 29 1 (.slice (some ⟨g, 0, none⟩) xs.length cap) xs.length (xs.map wordV)) :
    Calls Tryz.prog 94 #[.slice (some ⟨g, 0, none⟩) xs.length cap, .int .u64 b, .int .u64 p] w fun e w' => ∃ v' g', e = .returned v' ∧ Holds w' v' g' (wds (wval xs * b + p)) ∧ w.grownBy w' (some g) ∧ (g' = g ∨ w.heap.size ≤ g') := by
  obtain ⟨b0, b1, b2⟩ := owns_bound hown
  unfold maxLen at b1
  go_enter Tryz.func94, Tryz.ntmps94
  go_wp2_with fail
  go_loopw [2, 14] (fun q i wr => ∃ k c : Nat, k ≤ xs.length ∧ i = .int .i64 k ∧ q = .int .u64 c ∧ c < 18446744073709551616 ∧ ScaledAt w wr g cap xs b p k c) (fun _ i _ => xs.length - (intOf i).toNat)
  case atStart => exact ⟨0, p, Nat.zero_le _, rfl, rfl, hp, [], rfl, (by intro x hx; simp at hx), by simp [wval], by simpa using hown, ⟨rfl, rfl, rfl, Nat.le_refl _, fun _ _ _ => rfl⟩⟩
  case round =>
    obtain ⟨k, c, hk, rfl, rfl, hc, hs⟩ := hrel
    rcases Nat.lt_or_ge k xs.length with hlt | hge
    · obtain ⟨x, hx⟩ : ∃ x, xs[k]? = some x := ⟨_, List.getElem?_eq_getElem hlt⟩
      have hx1 := fit_get fx hx
      have cl := hs.cell hx
      have fr := hs.frozen
      have nx := hs.next hx
      obtain ⟨H, L, C, Z, k1, k2, k3, m, a⟩ := scaled_parts x b c hx1 hb hc
      rw [← k2, ← k3] at nx
      clear k2 k3
      go_wp2_with (go_at_call 109; refine (m _).mono ?_; rintro e w1 ⟨rfl, rfl⟩)
      go_roundw
      case rel => exact ⟨k + 1, H + C, by omega, by go_num, by go_num, k1, nx⟩
      case measure => simp [intOf]; omega
    · have : k = xs.length := by omega
      subst this
      obtain ⟨A, hA, fA, hv, hown', hg'⟩ := hs
      rw [List.drop_length, List.append_nil] at hown'
      go_wp2_with (at_builtin; refine wpList_app rfl _ _ rfl g xs.length cap _ rfl (hown'.alloc _) ⟨wr.heap.size, 0, none⟩ 1 1 [.int .u64 (c : Int)] rfl rfl ?c1 ?c2 ?c3 ?_)
      case c1 =>
        intro j u hj
        match j, hj with
        | 0, hj => simp at hj; subst hj; simp [Addr.add]
      case c2 => intro u hu; simp at hu; subst hu; rfl
      case c3 => omega
      · intro g' cap' w1 hown1 hgr hg1
        have hH : Holds w1 (.slice (some ⟨g', 0, none⟩) (xs.length + 1) cap') g' (A ++ [c]) := by
          have hl : (A ++ [c]).length = xs.length + 1 := by simp [hA]
          refine ⟨cap', by rw [hl], ?_⟩
          rw [hl, List.map_append]
          exact hown1
        have hval := scaled_done xs A b c p hA hv
        have tr := trimmed_any w1 _ g' (A ++ [c]) hH (fit_append fA (fit_one hc))
        rw [hval] at tr
        have gg : w.grownBy w1 (some g) := grown_trans (grown_trans hg' (World.grownBy_alloc wr _ _)) hgr
        have hsz : g' = g ∨ w.heap.size ≤ g' := by
          have := hg'.size
          rcases hg1 with h | h
          · exact .inl h
          · right; have h3 := (World.grownBy_alloc wr (.cells #[.int .u64 (c : Int)] 29) none).size; omega
        clear hH hown1 hgr hg1 hown' hg' hown
        go_wp2_with (go_at_call 111; refine tr.mono ?_; rintro e w2 ⟨rfl, v', rfl, hh⟩)
        go_ret
        exact ⟨_, g', rfl, hh, gg, hsz⟩

/-- v holds the number N, in block g -/
def Num (w : World) (v : Value) (g : Nat) (N : Nat) : Prop := Holds w v g (wds N)

theorem nscaled_any (w : World) (v : Value) (g N b p : Nat) (hv : Num w v g N) (hb : b < 18446744073709551616) (hp : p < 18446744073709551616) (hlen : (wds N).length ≤ 1000000) :
    Calls Tryz.prog 94 #[v, .int .u64 b, .int .u64 p] w fun e w' => ∃ v' g', e = .returned v' ∧ Num w' v' g' (N * b + p) ∧ w.grownBy w' (some g) ∧ (g' = g ∨ w.heap.size ≤ g') := by
  obtain ⟨cap, rfl, hown⟩ := hv
  have := scaled_walk w g cap (wds N) b p (fit_wds N) hb hp hlen hown
  rw [wval_wds] at this
  exact this

end Go.Proofs.YtaikkmehmiiffaaGreatDoor
