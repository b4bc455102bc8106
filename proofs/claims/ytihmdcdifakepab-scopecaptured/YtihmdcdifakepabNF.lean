/- The resolver's walk: labels are as they were. -/
import Derived.Test.YtihmdcdifakepabNE
namespace Go.Proofs.Ytihmdcdifakepab.Rv
open Go.RowKit Go.Proofs.Ytihmdcdifakepab.Sc Go.Proofs.Ytihmdcdifakepab.Rz
set_option linter.unusedVariables false
set_option linter.unusedSimpArgs false

section
variable {β : Type} {enc : β → List Value} {t e : TypeId} {k bytes : Nat}

/-- some put behind a row: where the new row lies -/
theorem run_app2 (R : RT enc t e k bytes) {w : World} {B : Nat} {v : Value} {xs : List β} (hown : OwnR enc k e B w v xs) (ad : Addr) (m c : Nat) (ty : TypeId) (news : List Value) (hl : news.length = m * k) (hnews : ∀ j u, news[j]? = some u → w.cell? (ad.add j) = some u) (h1 : ∀ u ∈ news, u.oneCell' = true) (hm0 : 0 < m)
    (hm : xs.length + m ≤ maxLen) (hb : ((xs.length + m) + (xs.length + m) / 4 + 192) * bytes ≤ 281474976710656) (hB : B ≤ w.heap.size) :
    ∃ v' w', (Builtin.append_ #[t, t] ty #[v, .slice (some ad) m c]).run Try.prog w = .ok v' w' ∧ w'.ownsRow B e k v' (xs.length + m) (xs.flatMap enc ++ news) ∧ w.grownBy w' v.ownBlock ∧ ((∃ g cap, v = .slice (some ⟨g, 0, none⟩) xs.length cap ∧ v' = .slice (some ⟨g, 0, none⟩) (xs.length + m) cap) ∨ (v'.ownBlock = some w.heap.size ∧ Below w.heap.size w w')) := by
  obtain ⟨i, z, hi, hz, e1, e2, e3⟩ := R.inf
  have hsmall : xs.length + m ≤ 9223372036854775807 := by simp only [maxLen] at hm; omega
  obtain ⟨v', w', hr, h2, h3, h4⟩ := run_append_own_wide (P := Try.prog) w B t ty e i z k bytes R.und hi hz e1 e2 e3 R.pos v xs.length (xs.flatMap enc) hown ad m c news hl hnews h1 hm hb hB
  refine ⟨v', w', hr, h2, h3, ?_⟩
  subst e1
  subst e2
  rcases hown.2 with ⟨rfl, h0⟩ | ⟨g, cap, cur, rfl, hbg, hg, hnc, hcm, hcs, htake⟩
  · have hx : xs = [] := List.eq_nil_of_length_eq_zero h0
    subst hx
    have hb' : m * i.bytes ≤ 281474976710656 := Nat.le_trans (Nat.mul_le_mul_right _ (by simp only [List.length_nil]; omega)) hb
    have hr2 := run_append_nil (P := Try.prog) w t ty e i z R.und hi hz ad m c news hl hnews (by omega) (by simp only [List.length_nil] at hsmall; omega) hb'
    rw [hr2] at hr
    injection hr with hr hw
    exact Or.inr ⟨by rw [← hr]; rfl, by rw [← hw]; first | exact (Below.refl _ _).alloc (Nat.le_refl _) _ | exact (Below.refl _ _).drew.alloc (Nat.le_refl _) _ | exact ((Below.refl _ _).alloc (Nat.le_refl _) _).drew⟩
  · by_cases hroom : xs.length + m ≤ cap
    · have hfit : xs.length * i.size + news.length ≤ cur.size := by rw [hl, hcs, ← Nat.add_mul]; exact Nat.mul_le_mul_right _ hroom
      have hr2 := run_append_room (P := Try.prog) w t ty e i R.und hi g xs.length cap cur hg ad m c news hl hnews h1 hroom hfit
      rw [hr2] at hr
      injection hr with hr _
      exact Or.inl ⟨g, cap, rfl, hr.symm⟩
    · have hr2 := run_append_grow (P := Try.prog) w t ty e i z R.und hi hz ⟨g, 0, none⟩ xs.length cap (xs.flatMap enc) hown.1 (World.ownsRow.cells hown (g := g) rfl) ad m c news hl hnews (by omega) (by omega) (growslice_fits_wide (by omega) hb)
      rw [hr2] at hr
      injection hr with hr hw
      exact Or.inr ⟨by rw [← hr]; rfl, by rw [← hw]; first | exact (Below.refl _ _).alloc (Nat.le_refl _) _ | exact (Below.refl _ _).drew.alloc (Nat.le_refl _) _ | exact ((Below.refl _ _).alloc (Nat.le_refl _) _).drew⟩

/-- one put behind a row, in a drawn region -/
theorem step_row2 (R : RT enc t e k bytes) {W : World} {ops : Array Oper} {o : Oper} {a : Act} {K : Act → World → Prop} {Q : Exit → Act → World → Prop} {E : Prop} (hgd : o.guard = none) (s x : Operand)
    (ho : o.op = .call { callee := .builtin .append, args := #[s, x], argTypes := #[t, t] })
    (B : Nat) (v : Value) (xs : List β) (hs : a.eval s = v) (hown : OwnR enc k e B W v xs) (cb : Nat) (y : β) (cs : Array Value) (t' : TypeId) (hx : a.eval x = .slice (some ⟨cb, 0, none⟩) 1 1) (hcb : W.heap[cb]? = some (.cells cs t' (0, 0))) (hcs : cs.toList = enc y)
    (hm : xs.length + 1 ≤ maxLen) (hb : ((xs.length + 1) + (xs.length + 1) / 4 + 192) * bytes ≤ 281474976710656) (hB : B ≤ W.heap.size)
    (h : ∀ g cap w', OwnR enc k e B w' (.slice (some ⟨g, 0, none⟩) (xs.length + 1) cap) (xs ++ [y]) → W.grownBy w' v.ownBlock → (v = .slice (some ⟨g, 0, none⟩) xs.length cap ∨ (g = W.heap.size ∧ Below W.heap.size W w')) → K (a.put o.dst (.slice (some ⟨g, 0, none⟩) (xs.length + 1) cap)) w') :
    if Region.wanted o (yielded ops a.tmps) = true then Oper.wp Try.prog o a W K Q else E := by
  have hw : Region.wanted o (yielded ops a.tmps) = true := by simp [Region.wanted, hgd]
  rw [if_pos hw]
  have hn : ∀ j u, (enc y)[j]? = some u → W.cell? ((⟨cb, 0, none⟩ : Addr).add j) = some u := by
    rw [← hcs]
    exact World.news_of_block (cs := cs) (t := t') (fr := (0, 0)) hcb
  obtain ⟨v', w', hr, g1, g2, g3⟩ := run_app2 R hown ⟨cb, 0, none⟩ 1 1 o.type (enc y) (by rw [R.len, Nat.one_mul]) hn (R.one y) (by decide) hm hb hB
  obtain ⟨g, cap, rfl, _, _⟩ := g1.form (by omega)
  unfold Oper.wp execOp
  simp only [ho, resolve, invoke, builtin, Sem.run_bind, Sem.run_pure, Result.andThen_ok, List.map_toArray, List.map_cons, List.map_nil, hs, hx, hr]
  refine h g cap w' ?_ g2 ?_
  · unfold OwnR
    rw [List.length_append, List.flatMap_append]
    have : [y].flatMap enc = enc y := by simp
    rw [this]
    exact g1
  · rcases g3 with ⟨g', cap', q1, q2⟩ | q
    · cases q2
      exact Or.inl q1
    · exact Or.inr ⟨by simpa [Value.ownBlock] using q.1, q.2⟩

end

section
variable {w w' : World} {B rb : Nat} {tg : Nat → Nat} {s : Rz.RS} {v0 v1 v2 v3 v6 : Value} {ms : List (Option Nat)}

/-- its row of labels is one that lay aside -/
theorem MemAt.back6 (h : MemAt w B rb tg s v0 v1 v2 v3 v6 ms) {v6' : Value} {xs' : List (ByteArray × Bool)} (ho : OwnR lbC 2 116 B w v6' xs') (hno : ∀ b, v6'.ownBlock = some b → b ≠ rb ∧ ¬ v0.ownBlock = some b ∧ ¬ v1.ownBlock = some b ∧ ¬ v2.ownBlock = some b ∧ ¬ v3.ownBlock = some b ∧ ∀ i : Nat, ms[i]? ≠ some (some b)) :
    MemAt (w.setCell ⟨rb, 6, none⟩ v6') B rb (retag tg v6' 5) { s with labels := xs' } v0 v1 v2 v3 v6' ms ∧ Chg (fun b => b = rb) w (w.setCell ⟨rb, 6, none⟩ v6') := by
  have hrb : rb < w.heap.size := h.rlt
  have hnr : ¬ v6'.ownBlock = some rb := fun q => (hno rb q).1 rfl
  have hset := heap_setCell_same w rb 6 _ 54 v6' h.box
  have n0 : ∀ b, v0.ownBlock = some b → ¬ v6'.ownBlock = some b ∧ b ≠ rb := fun b q => ⟨fun e => (hno b e).2.1 q, fun e => by have h1 := h.t1 b q; have h2 := h.t0; rw [e] at h1; omega⟩
  have n1 : ∀ b, v1.ownBlock = some b → ¬ v6'.ownBlock = some b ∧ b ≠ rb := fun b q => ⟨fun e => (hno b e).2.2.1 q, fun e => by have h1 := h.t2 b q; have h2 := h.t0; rw [e] at h1; omega⟩
  have n2 : ∀ b, v2.ownBlock = some b → ¬ v6'.ownBlock = some b ∧ b ≠ rb := fun b q => ⟨fun e => (hno b e).2.2.2.1 q, fun e => by have h1 := h.t3 b q; have h2 := h.t0; rw [e] at h1; omega⟩
  have n3 : ∀ b, v3.ownBlock = some b → ¬ v6'.ownBlock = some b ∧ b ≠ rb := fun b q => ⟨fun e => (hno b e).2.2.2.2.1 q, fun e => by have h1 := h.t4 b q; have h2 := h.t0; rw [e] at h1; omega⟩
  have oo : OwnR lbC 2 116 B (w.setCell ⟨rb, 6, none⟩ v6') v6' xs' := ho.set (a := ⟨rb, 6, none⟩) (fun b q e => by have e2 : b = rb := e; rw [e2] at q; exact hnr q) v6'
  have nm : ∀ (i b : Nat), ms[i]? = some (some b) → ¬ v6'.ownBlock = some b ∧ b ≠ rb := fun i b q => by
    obtain ⟨a1, a2, a3⟩ := h.tm i b q
    exact ⟨fun e => (hno b e).2.2.2.2.2 i q, fun e => by have h2 := h.t0; rw [e] at a1; omega⟩
  have hmap : ∀ (i : Nat) (m : Option Nat) (b : Blk), ms[i]? = some m → MpAt w m b → MpAt (w.setCell ⟨rb, 6, none⟩ v6') m b := fun i m b q1 q2 => q2.kept (fun mb e => by
    subst e
    exact Below.heap_setCell w ⟨rb, 6, none⟩ v6' mb (nm i mb q1).2)
  refine ⟨⟨hset, h.r0.set (a := ⟨rb, 6, none⟩) (fun b q => (n0 b q).2) v6', h.r1.set (a := ⟨rb, 6, none⟩) (fun b q => (n1 b q).2) v6', h.r2.set (a := ⟨rb, 6, none⟩) (fun b q => (n2 b q).2) v6', h.r3.set (a := ⟨rb, 6, none⟩) (fun b q => (n3 b q).2) v6', oo, by rw [retag_no hnr]; exact h.t0, fun b q => by rw [retag_no (n0 b q).1]; exact h.t1 b q, fun b q => by rw [retag_no (n1 b q).1]; exact h.t2 b q, fun b q => by rw [retag_no (n2 b q).1]; exact h.t3 b q, fun b q => by rw [retag_no (n3 b q).1]; exact h.t4 b q, fun b q => retag_is q, fun i b q => by
    obtain ⟨a1, a2, a3⟩ := h.tm i b q
    rw [retag_no (nm i b q).1]
    exact ⟨a1, a2, by simpa using a3⟩, h.ml, fun i m b q1 q2 => hmap i m b q1 (h.mp i m b q1 q2), ⟨h.gd.fnl, h.gd.blk, h.gd.wf⟩, h.lo⟩, Chg.set w _ _ rfl⟩

end

/-- one label more; behind what is done with it, the labels are as they were -/
theorem Mem.label {w : World} {B rb : Nat} {O : Nat → Prop} {s : Rz.RS} {v6 : Value} (h : Mem w B rb O s v6) {w5 : World} {v6' : Value} {e : ByteArray × Bool} (hc : Chg (fun b => v6.ownBlock = some b) w w5) (ho : OwnR lbC 2 116 B w5 v6' (s.labels ++ [e])) (hat : (∃ g cap, v6 = .slice (some ⟨g, 0, none⟩) s.labels.length cap ∧ v6' = .slice (some ⟨g, 0, none⟩) (s.labels.length + 1) cap) ∨ ((∀ b, v6'.ownBlock = some b → w.heap.size ≤ b) ∧ Below w.heap.size w w5)) :
    ∃ O1, Mem (w5.setCell ⟨rb, 6, none⟩ v6') B rb O1 { s with labels := s.labels ++ [e] } v6' ∧ Chg O w (w5.setCell ⟨rb, 6, none⟩ v6') ∧ (∀ b, O1 b → O b ∨ w.heap.size ≤ b) ∧
      ∀ s2 w2, Went (w5.setCell ⟨rb, 6, none⟩ v6') B rb O1 s2 v6' w2 → s2.labels = s.labels ++ [e] → Went w B rb O { s2 with labels := s.labels } v6 (w2.setCell ⟨rb, 6, none⟩ v6) := by
  obtain ⟨tg, v0, v1, v2, v3, ms, hm, hO⟩ := h
  obtain ⟨a1, a2, a3⟩ := hm.row6 hc ho (fun b q => hat.imp (fun c => by obtain ⟨g, cap, c1, c2⟩ := c; rw [c2] at q; rw [c1]; exact q) (fun c => c.1 b q)) ⟨hm.gd.fnl, hm.gd.blk, hm.gd.wf⟩
  refine ⟨Ow rb v0 v1 v2 v3 v6' ms, ⟨_, v0, v1, v2, v3, ms, a1, fun b => Iff.rfl⟩, a2.mono (fun b q => (hO b).2 q), fun b q => (a3 b q).imp (fun c => (hO b).2 c) id, ?_⟩
  rintro s2 w2 ⟨O2, ⟨tg2, u0, u1, u2, u3, ms2, h2, hO2⟩, c2, p2⟩ hl
  have hsz5 : w.heap.size ≤ (w5.setCell ⟨rb, 6, none⟩ v6').heap.size := by simp; exact hc.size
  -- the old row
  have hrow : OwnR lbC 2 116 B w2 v6 s.labels ∧ ∀ b, v6.ownBlock = some b → v6'.ownBlock = some b ∨ (¬ Ow rb v0 v1 v2 v3 v6' ms b ∧ b < w.heap.size) := by
    rcases hat with ⟨g, cap, q1, q2⟩ | ⟨q1, q2⟩
    · have hr := h2.r6
      rw [hl, q2] at hr
      have hr2 := hr.cut (xs := s.labels) (ys := [e]) rtLb.len
      rw [q1]
      exact ⟨hr2, fun b q => Or.inl (by rw [q2]; exact q)⟩
    · have hnO : ∀ b, v6.ownBlock = some b → ¬ Ow rb v0 v1 v2 v3 v6' ms b ∧ b < w.heap.size := fun b q => by
        have ht := hm.t5 b q
        have hlt := (hm.r6.lt b q).2
        refine ⟨?_, hlt⟩
        rintro (c | c | c | c | c | c | ⟨i, c⟩)
        · rw [c] at ht; have := hm.t0; omega
        · have := hm.t1 b c; omega
        · have := hm.t2 b c; omega
        · have := hm.t3 b c; omega
        · have := hm.t4 b c; omega
        · have := q1 b c; omega
        · have := (hm.tm i b c).1; omega
      refine ⟨?_, fun b q => Or.inr (hnO b q)⟩
      have o5 := (hm.r6.below q2).set (a := ⟨rb, 6, none⟩) (fun b q e => (hnO b q).1 (Or.inl e)) v6'
      exact o5.kept c2 (fun b q => (hnO b q).1)
  have hno : ∀ b, v6.ownBlock = some b → b ≠ rb ∧ ¬ u0.ownBlock = some b ∧ ¬ u1.ownBlock = some b ∧ ¬ u2.ownBlock = some b ∧ ¬ u3.ownBlock = some b ∧ ∀ i : Nat, ms2[i]? ≠ some (some b) := by
    intro b q
    rcases hrow.2 b q with c | ⟨c, d⟩
    · have ht := h2.t5 b c
      refine ⟨fun e => ?_, fun e => ?_, fun e => ?_, fun e => ?_, fun e => ?_, fun i e => ?_⟩
      · rw [e] at ht; have := h2.t0; omega
      · have := h2.t1 b e; omega
      · have := h2.t2 b e; omega
      · have := h2.t3 b e; omega
      · have := h2.t4 b e; omega
      · have := (h2.tm i b e).1; omega
    · have hn2 : ¬ Ow rb u0 u1 u2 u3 v6' ms2 b := fun e => by
        rcases p2 b ((hO2 b).2 e) with k | k
        · exact c k
        · omega
      exact ⟨fun e => hn2 (Or.inl e), fun e => hn2 (Or.inr (Or.inl e)), fun e => hn2 (Or.inr (Or.inr (Or.inl e))), fun e => hn2 (Or.inr (Or.inr (Or.inr (Or.inl e)))), fun e => hn2 (Or.inr (Or.inr (Or.inr (Or.inr (Or.inl e))))), fun i e => hn2 (Or.inr (Or.inr (Or.inr (Or.inr (Or.inr (Or.inr ⟨i, e⟩))))))⟩
  obtain ⟨b1, b2⟩ := h2.back6 hrow.1 hno
  have hup : ∀ b, Ow rb u0 u1 u2 u3 v6' ms2 b → O b ∨ w.heap.size ≤ b := fun b q => by
    rcases p2 b ((hO2 b).2 q) with k | k
    · exact (a3 b k).imp (fun c => (hO b).2 c) id
    · exact Or.inr (Nat.le_trans hsz5 k)
  refine ⟨Ow rb u0 u1 u2 u3 v6 ms2, ⟨_, u0, u1, u2, u3, ms2, b1, fun b => Iff.rfl⟩, ?_, ?_⟩
  · have h1 : Chg O w w2 := (a2.mono (S' := O) (fun b q => (hO b).2 q)).trans c2 (fun a ha q => by
      rcases a3 a q with k | k
      · exact (hO a).2 k
      · omega)
    exact h1.trans b2 (fun a ha q => by rw [q]; exact (hO rb).2 (Or.inl rfl))
  · rintro b (q | q | q | q | q | q | ⟨i, q⟩)
    · exact hup b (Or.inl q)
    · exact hup b (Or.inr (Or.inl q))
    · exact hup b (Or.inr (Or.inr (Or.inl q)))
    · exact hup b (Or.inr (Or.inr (Or.inr (Or.inl q))))
    · exact hup b (Or.inr (Or.inr (Or.inr (Or.inr (Or.inl q)))))
    · exact Or.inl ((hO b).2 (Or.inr (Or.inr (Or.inr (Or.inr (Or.inr (Or.inl q)))))))
    · exact hup b (Or.inr (Or.inr (Or.inr (Or.inr (Or.inr (Or.inr ⟨i, q⟩))))))
end Go.Proofs.Ytihmdcdifakepab.Rv
