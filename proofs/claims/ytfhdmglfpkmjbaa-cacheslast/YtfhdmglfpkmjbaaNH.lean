/- CachesFew: the walk. -/
import Derived.Test.YtfhdmglfpkmjbaaNG
namespace Go.Proofs.Ytfhdmglfpkmjbaa.Hp
open Go.RowKit
set_option linter.unusedVariables false
set_option linter.unusedSimpArgs false

theorem hld_T (e : En) : hldB (fun _ => true) e = true := by unfold hldB; simp
theorem fnd_T (n : Int) : ∀ es : List En, (fndE (fun _ => true) n es).isSome = inB (es.map En.sh) n
  | [] => rfl
  | e :: es => by
    have ih := fnd_T n es
    unfold fndE inB at *
    by_cases c : e.sh = n
    · rw [List.find?_cons_of_pos (by unfold isE; rw [hld_T]; simp [c])]
      simp [c]
    · rw [List.find?_cons_of_neg (by unfold isE; rw [hld_T]; simp [c]), ih]
      have h2 : n ≠ e.sh := fun q => c q.symm
      simp [c, h2]
theorem oth_T {n : Int} {es : List En} (h : inB (es.map En.sh) n = false) : othE (fun _ => true) n es = es := by
  unfold othE
  rw [List.filter_eq_self]
  intro e he
  unfold keE
  rw [hld_T]
  have : e.sh ≠ n := by
    intro q
    unfold inB at h
    have : n ∈ es.map En.sh := List.mem_map.2 ⟨e, he, q⟩
    simp at h
    exact h e he q
  simp [this]
theorem lrn_T {n st : Int} {es : List En} (h : inB (es.map En.sh) n = false) (hl : es.length < 4) (hs : st < 3) : ∃ st', (lrnP (fun _ => true) st es ⟨n, 0, 0, 1⟩ = (st', es ++ [⟨n, 0, 0, 1⟩])) ∧ st' < 3 := by
  unfold lrnP
  rw [if_neg (by omega)]
  simp only
  rw [oth_T h, if_neg (by simp; omega)]
  by_cases c : 1 < (es ++ [(⟨n, 0, 0, 1⟩ : En)]).length ∨ st = 2
  · rw [if_pos c]; exact ⟨2, rfl, by omega⟩
  · rw [if_neg c]; exact ⟨1, rfl, by omega⟩

theorem own_ne {β : Type} {enc : β → List Value} {k : Nat} {t u : TypeId} {w : World} {B b : Nat} {v : Value} {xs : List β} {cs : Array Value} (ho : OwnR enc k t B w v xs) (hb : w.heap[b]? = some (.cells cs u (0, 0))) (hne : t ≠ u) : ∀ j, v.ownBlock = some j → j ≠ b := by
  intro j hj e
  subst e
  rcases ho.2 with ⟨rfl, _⟩ | ⟨g, cap, cur, rfl, _, hg, _⟩
  · simp [Value.ownBlock] at hj
  · have : g = j := by simpa [Value.ownBlock] using hj
    subst this
    rw [hb] at hg
    injection hg with hg
    injection hg with _ ht
    exact absurd ht.symm hne
theorem own_own {β γ : Type} {enc : β → List Value} {enc' : γ → List Value} {k k' : Nat} {t u : TypeId} {w : World} {B B' : Nat} {v v' : Value} {xs : List β} {ys : List γ} (ho : OwnR enc k t B w v xs) (ho' : OwnR enc' k' u B' w v' ys) (hne : t ≠ u) : ∀ j, v.ownBlock = some j → ¬ v'.ownBlock = some j := by
  intro j hj hj'
  rcases ho'.2 with ⟨rfl, _⟩ | ⟨g, cap, cur, rfl, _, hg, _⟩
  · simp [Value.ownBlock] at hj'
  · have : g = j := by simpa [Value.ownBlock] using hj'
    subst this
    exact own_ne ho hg hne g hj rfl

/-- a site's variable, and its row of the call's own -/
structure SiS (w0 w : World) (sb : Nat) (st : Int) (ad : Option Addr) (cp : Nat) (es : List En) : Prop where
  box : BxS w sb st (.slice ad es.length cp)
  row : OwnR encE 4 26 w0.heap.size w (.slice ad es.length cp) es
  ge : w0.heap.size ≤ sb
  bel : Below w0.heap.size w0 w
theorem SiS.below {w0 w w' : World} {sb : Nat} {st : Int} {ad : Option Addr} {cp : Nat} {es : List En} (h : SiS w0 w sb st ad cp es) (hb : Below w.heap.size w w') : SiS w0 w' sb st ad cp es :=
  ⟨h.box.below hb, h.row.below hb, h.ge, h.bel.trans (hb.mono h.bel.size)⟩
/-- a new site is stored -/
theorem SiS.put {w0 w w' : World} {sb : Nat} {st st' : Int} {ad ad' : Option Addr} {cp cp' : Nat} {es es' : List En} (h : SiS w0 w sb st ad cp es) (hb : Below w.heap.size w w') (ho : OwnR encE 4 26 w.heap.size w' (.slice ad' es'.length cp') es') : SiS w0 (stS w' sb st' (.slice ad' es'.length cp')) sb st' ad' cp' es' := by
  have hx := h.box.below hb
  exact ⟨hx.put _ _, lr_own hx (ho.low h.bel.size) _ _, h.ge, stS_below (h.bel.trans (hb.mono h.bel.size)) h.ge _ _⟩
theorem SiS.new (w0 w : World) (hb : Below w0.heap.size w0 w) : SiS w0 (w.alloc (.cells #[.int .i64 0, .slice none 0 0] 24)) w.heap.size 0 none 0 [] :=
  ⟨bxS_new w 0 _, OwnR.nil _ _, hb.size, below_new hb hb.size _⟩

/-- on the way through CachesFew -/
structure FeC (w0 w : World) (sb : Nat) (met : List Int) : Prop where
  at' : ∃ st ad cp es, SiS w0 w sb st ad cp es ∧ es.map En.sh = met ∧ st < 3
  few : met.length ≤ 4
structure FeS (w0 w : World) (sb : Nat) (vm : Value) (met : List Int) : Prop where
  c : FeC w0 w sb met
  mrow : OwnR iC 1 3 w0.heap.size w vm met

theorem own_sliI {w : World} {B : Nat} {v : Value} {xs : List Int} (h : OwnR iC 1 3 B w v xs) : ∃ s : Sli Int, v = s.val ∧ s.xs = xs ∧ s.ok iC 1 w := by
  obtain ⟨s, h1, h2, h3, _⟩ := h.sl (fun y => (rfl : (iC y).length = 1))
  exact ⟨s, h1, h2, h3⟩

theorem own_okI {w : World} {B : Nat} {a : Option Addr} {c : Nat} {xs : List Int} (h : OwnR iC 1 3 B w (.slice a xs.length c) xs) : Sli.ok iC 1 w ⟨a, c, xs⟩ := by
  obtain ⟨s, h1, h2, h3⟩ := own_sliI h
  obtain ⟨sa, sc, sl⟩ := s
  simp only at h2
  subst h2
  unfold Sli.val at h1
  simp only [Value.slice.injEq] at h1
  obtain ⟨rfl, _, rfl⟩ := h1
  exact h3

section
variable {w0 w w' : World} {sb : Nat} {vm : Value} {met : List Int}
theorem FeC.below (h : FeC w0 w sb met) (hb : Below w.heap.size w w') : FeC w0 w' sb met := by
  obtain ⟨st, ad, cp, es, h1, h2, h3⟩ := h.at'
  exact ⟨⟨st, ad, cp, es, h1.below hb, h2, h3⟩, h.few⟩
theorem FeS.below (h : FeS w0 w sb vm met) (hb : Below w.heap.size w w') : FeS w0 w' sb vm met := ⟨h.c.below hb, h.mrow.below hb⟩
theorem FeC.find (h : FeC w0 w sb met) (n : Int) : ∃ st ad cp k, (w.cell? ⟨sb, 0, none⟩ = some (.int .i64 st) ∧ w.cell? ⟨sb, 1, none⟩ = some (.slice ad k cp)) ∧ Calls Try.prog 11 #[.agg #[.int .i64 st, .slice ad k cp], .int .i64 n, .func (.func 18) #[] #[]] w fun r w' => ∃ a b c d, r = .returned (.tuple #[.agg #[.int .i64 a, .int .i64 b, .int .i64 c, .int .i64 d], .bool (inB met n)]) ∧ Below w.heap.size w w' := by
  obtain ⟨st, ad, cp, es, h1, h2, h3⟩ := h.at'
  refine ⟨st, ad, cp, es.length, h1.box.ce, ?_⟩
  refine (find_own ask_few h1.row st n trivial).mono ?_
  rintro r w' ⟨rfl, hb⟩
  refine ⟨((fndE (fun _ => true) n es).getD noE).sh, ((fndE (fun _ => true) n es).getD noE).ho, ((fndE (fun _ => true) n es).getD noE).sl, ((fndE (fun _ => true) n es).getD noE).ce, ?_, hb⟩
  rw [← h2, ← fnd_T]
  rfl
theorem FeC.learn (h : FeC w0 w sb met) (n : Int) (hn : inB met n = false) (hl : met.length < 4) : ∃ st ad cp k, (w.cell? ⟨sb, 0, none⟩ = some (.int .i64 st) ∧ w.cell? ⟨sb, 1, none⟩ = some (.slice ad k cp)) ∧ Calls Try.prog 15 #[.agg #[.int .i64 st, .slice ad k cp], .agg #[.int .i64 n, .int .i64 0, .int .i64 0, .int .i64 1], .func (.func 18) #[] #[]] w fun r w' => ∃ st' ad' cp' k', r = .returned (.agg #[.int .i64 st', .slice ad' k' cp']) ∧ (w'.cell? ⟨sb, 0, none⟩ = some (.int .i64 st) ∧ w'.cell? ⟨sb, 1, none⟩ = some (.slice ad k cp) ∧ w'.frozen? ⟨sb, 0, none⟩ = false ∧ w'.frozen? ⟨sb, 1, none⟩ = false) ∧ ∀ vm', OwnR iC 1 3 w0.heap.size w vm' (met ++ [n]) → FeS w0 (stS w' sb st' (.slice ad' k' cp')) sb vm' (met ++ [n]) := by
  obtain ⟨st, ad, cp, es, h1, h2, h3⟩ := h.at'
  have hel : es.length = met.length := by rw [← h2, List.length_map]
  refine ⟨st, ad, cp, es.length, h1.box.ce, ?_⟩
  refine (learn_own ask_few h1.row (by omega) st ⟨n, 0, 0, 1⟩ trivial).mono ?_
  rw [← h2] at hn
  obtain ⟨st', hp, hs⟩ := lrn_T hn (by omega : es.length < 4) h3
  rw [hp]
  rintro r w' ⟨ad', cp', rfl, ho, hb⟩
  refine ⟨st', ad', cp', _, rfl, ⟨((h1.box.below hb).ce).1, ((h1.box.below hb).ce).2, (h1.box.below hb).fz 0, (h1.box.below hb).fz 1⟩, fun vm' hm' => ⟨⟨⟨st', ad', cp', _, h1.put hb ho, ?_, hs⟩, by simp; omega⟩, ?_⟩⟩
  · rw [List.map_append, h2]; rfl
  · have hm2 := hm'.below hb
    have hbx := h1.box.below hb
    have hne := own_ne hm2 hbx (by decide)
    exact (hm2.set (a := ⟨sb, 0, none⟩) hne _).set (a := ⟨sb, 1, none⟩) hne _
/-- behind a number more that was met -/
theorem FeS.grown {vm' : Value} {met' : List Int} (h : FeS w0 w sb vm met) (hg : w.grownBy w' vm.ownBlock) : ∃ st ad cp es, SiS w0 w' sb st ad cp es ∧ es.map En.sh = met ∧ st < 3 := by
  obtain ⟨st, ad, cp, es, h1, h2, h3⟩ := h.c.at'
  have hc := Chg.of_grown (S := fun b => vm.ownBlock = some b) hg (fun k q => q)
  refine ⟨st, ad, cp, es, ⟨?_, ?_, h1.ge, ?_⟩, h2, h3⟩
  · unfold BxS
    rw [hc.block sb h1.box.lt (fun q => own_ne h.mrow h1.box (by decide) sb q rfl)]
    exact h1.box
  · exact h1.row.kept hc (own_own h1.row h.mrow (by decide))
  · exact hc.below h1.bel h1.bel.size (fun k q => (h.mrow.lt k q).1)
end

theorem few_next {w0 w w' : World} {sb : Nat} {vm v5 : Value} {met : List Int} {n : Int} (h : FeS w0 w sb vm met) (hg : w.grownBy w' vm.ownBlock) (ho : OwnR iC 1 3 w0.heap.size w' v5 (met ++ [n])) :
    ∃ a5 c5, v5 = .slice a5 (met ++ [n]).length c5 ∧ Hid (FeC w0 w' sb met) ∧ Hid (OwnR iC 1 3 w0.heap.size w' v5 (met ++ [n])) := by
  obtain ⟨s, h1, h2, _⟩ := own_sliI ho
  refine ⟨s.at', s.cap, by rw [h1, ← h2]; rfl, ?_, ho⟩
  exact (show FeC w0 w' sb met from ⟨FeS.grown (vm' := v5) (met' := met) h hg, h.c.few⟩)
end Go.Proofs.Ytfhdmglfpkmjbaa.Hp
