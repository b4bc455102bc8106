/- UK -/
import Derived.Test.YtkpdpdllbnihgaaGreatB31
import Derived.Test.YtkpdpdllbnihgaaGreatB37
import Derived.Test.YtkpdpdllbnihgaaGreatVZ
import Derived.Test.YtkpdpdllbnihgaaGreatB23
set_option linter.unusedVariables false
set_option linter.unusedSimpArgs false
set_option maxRecDepth 100000
set_option maxHeartbeats 40000000
/- What the document's calls do, as plain functions; the relation with the program's heap is kept by each: plain. -/
namespace Go.Proofs.YtkpdpdllbnihgaaGreat.Hp
open Go.RowKit
theorem obS_null (S : List So) : obS S 18445336698825998337 = none := by
  unfold obS
  rw [if_neg (by
    intro c
    have : isT 18445336698825998337 65530 = false := by decide
    rw [this] at c
    exact absurd c.1 (by decide))]
theorem soO_null (S : List So) : soO S 18445336698825998337 = none := by
  unfold soO
  rw [obS_null]
  rfl
/-- an object is another one -/
def onS (S : List So) (o : Int) (f : So → So) : List So := match obS S o with
  | none => S
  | some i => match S[i]? with
    | none => S
    | some x => S.set i (f x)
theorem onS_no {S : List So} {o : Int} {f : So → So} (h : obS S o = none) : onS S o f = S := by unfold onS; rw [h]
theorem onS_at {S : List So} {o : Int} {f : So → So} {i : Nat} {x : So} (h : obS S o = some i) (hi : S[i]? = some x) : onS S o f = S.set i (f x) := by unfold onS; rw [h]; simp only [hi]
theorem onS_len (S : List So) (o : Int) (f : So → So) : (onS S o f).length = S.length := by
  unfold onS
  split
  · rfl
  · split
    · rfl
    · rw [List.length_set]
def delS (x : So) (k : ByteArray) : So := match plS x.nm k with
  | none => x
  | some m => { x with nm := x.nm.eraseIdx m, ds := x.ds.eraseIdx m }
def noS (S : List So) (kind p : Int) : Bool := decide (kind < 0) || decide (6 < kind) || !((p == nulW) || (obS S p).isSome) || decide (65536 ≤ S.length)
def makeG (S : List So) (kind p : Int) : List So := if noS S kind p = true then S else S ++ [newS kind p]
def putG (S : List So) (o : Int) (k : ByteArray) (d : De) : List So := onS S o (fun x => putS x k d)
def dropG (S : List So) (o : Int) (k : ByteArray) : List So × Bool := (onS S o (fun x => delS x k), ((soO S o).bind (fun x => plS x.nm k)).isSome)
def lenG (S : List So) (o n : Int) : List So × Bool := if obS S o = none ∨ n < 0 ∨ 4096 < n then (S, false) else (onS S o (fun x => { x with el := resL x.el n.toNat }), true)
def elemG (S : List So) (o n v : Int) : List So × Bool := if obS S o = none ∨ n < 0 ∨ 4096 ≤ n then (S, false) else (onS S o (fun x => { x with el := (padE x.el n.toNat).set n.toNat v }), true)
def innG (S : List So) (o : Int) (l : List Int) : List So := onS S o (fun x => { x with inn := l })
def shutG (S : List So) (o : Int) : List So := onS S o (fun x => { x with shut := true })
def protoG (S : List So) (o p : Int) : List So := if ((p == nulW) || (obS S p).isSome) = false ∨ repB S o (S.length + 1) p = true then S else onS S o (fun x => { x with proto := p })
def textG (ts : List ByteArray) (s : ByteArray) : List ByteArray × Int × Bool := match txI ts s with
  | some n => (ts, txtW (n : Int), true)
  | none => if 4096 < s.size ∨ 16384 ≤ ts.length then (ts, undW, false) else (ts ++ [s], txtW (ts.length : Int), true)
theorem map_less {α β : Type} (f : α → β) : ∀ (l : List α) (m : Nat), (l.eraseIdx m).map f = (l.map f).eraseIdx m
  | [], _ => rfl
  | _ :: _, 0 => rfl
  | a :: l, m + 1 => by
    show f a :: (l.eraseIdx m).map f = f a :: (l.map f).eraseIdx m
    rw [map_less f l m]
section
variable {H H' : He} {S : List So} {ts : List ByteArray}
theorem RelG.obs (h : RelG H S ts) (h1 : H'.obs = H.obs) (h2 : H'.tx = H.tx) : RelG H' S ts :=
  ⟨by rw [h1]; exact h.len, fun i ob x q1 q2 => h.ob i ob x (by rw [← h1]; exact q1) q2, h2.trans h.tx⟩
theorem RelG.io (h : RelG H S ts) (o : Int) : (obI H o = none ∧ obS S o = none) ∨ ∃ i ob x, obI H o = some i ∧ obS S o = some i ∧ H.obs[i]? = some ob ∧ S[i]? = some x ∧ RelB ob x := by
  cases hq : obI H o with
  | none => exact Or.inl ⟨rfl, by rw [← h.at o]; exact hq⟩
  | some i =>
    have h1 := (obI_some hq).2.2.1
    have h2 : i < S.length := by rw [← h.len]; exact h1
    have e1 : H.obs[i]? = some H.obs[i] := List.getElem?_eq_getElem h1
    have e2 : S[i]? = some S[i] := List.getElem?_eq_getElem h2
    exact Or.inr ⟨i, _, _, rfl, by rw [← h.at o]; exact hq, e1, e2, h.ob i _ _ e1 e2⟩
theorem RelG.set' (h : RelG H S ts) {i : Nat} {ob : Ob} {x : So} (hb : RelB ob x) (h1 : H'.obs = H.obs.set i ob) (h2 : H'.tx = H.tx) : RelG H' (S.set i x) ts :=
  (h.set (i := i) hb).obs h1 h2
theorem RelB.f {ob : Ob} {x : So} (h : RelB ob x) (sh : Int) (sd : Bool) (c : Int) (ab : Bool) (hm : Bool) (mp : List (ByteArray × Int)) (nx : Int) : RelB { ob with shape := sh, shaped := sd, cell := c, above := ab, hm := hm, mp := mp, next := nx } x := ⟨h.kd, h.pr, h.sh, h.nm, h.ds, h.el, h.inn⟩
theorem RelG.raise (h : RelG H S ts) (p : Int) : RelG (raiseH H p) S ts := by
  unfold raiseH
  cases hq : obI H p with
  | none => exact h
  | some j =>
    simp only
    cases hj : H.obs[j]? with
    | none => exact h
    | some ob =>
      have hjl := (List.getElem?_eq_some_iff.1 hj).1
      have hsl : j < S.length := by rw [← h.len]; exact hjl
      have e2 : S[j]? = some S[j] := List.getElem?_eq_getElem hsl
      have hb := h.ob j _ _ hj e2
      have := h.set (i := j) (ob := { ob with above := true }) (x := S[j]) ⟨hb.kd, hb.pr, hb.sh, hb.nm, hb.ds, hb.el, hb.inn⟩
      rw [List.set_getElem_self] at this
      exact this
theorem RelG.no (h : RelG H S ts) (kind p : Int) : mkNo H kind p = noS S kind p := by
  unfold mkNo noS mayB
  rw [h.at p, h.len]
theorem RelG.make (h : RelG H S ts) (kind p : Int) : RelG (makeF H kind p) (makeG S kind p) ts := by
  unfold makeF makeG
  rw [h.no]
  split
  · exact h
  · have hr := h.raise p
    refine ⟨?_, fun i ob x q1 q2 => ?_, hr.tx⟩
    · show ((raiseH H p).obs ++ [_]).length = _
      rw [List.length_append, List.length_append, hr.len]
      rfl
    · have q1 : ((raiseH H p).obs ++ [_])[i]? = some ob := q1
      rcases Nat.lt_or_ge i S.length with c | c
      · rw [List.getElem?_append_left (by rw [hr.len]; exact c)] at q1
        rw [List.getElem?_append_left c] at q2
        exact hr.ob i ob x q1 q2
      · rw [List.getElem?_append_right (by rw [hr.len]; exact c), hr.len] at q1
        rw [List.getElem?_append_right c] at q2
        cases hk : i - S.length with
        | zero =>
          rw [hk] at q1 q2
          obtain rfl := Option.some.inj q1
          obtain rfl := Option.some.inj q2
          exact ⟨rfl, rfl, rfl, rfl, rfl, rfl, rfl⟩
        | succ n =>
          rw [hk] at q1
          simp at q1
theorem RelB.add {ob ob' : Ob} {x : So} {k : ByteArray} {d : De} (h : RelB ob x) (c : Int) (e1 : ob'.kind = ob.kind) (e2 : ob'.proto = ob.proto) (e3 : ob'.shut = ob.shut) (e4 : ob'.ps = ob.ps ++ [⟨k, c, d⟩]) (e5 : ob'.el = ob.el) (e6 : ob'.inn = ob.inn) :
    RelB ob' { x with nm := x.nm ++ [k], ds := x.ds ++ [d] } := by
  refine ⟨e1.trans h.kd, e2.trans h.pr, e3.trans h.sh, ?_, ?_, e5.trans h.el, e6.trans h.inn⟩
  · show x.nm ++ [k] = _
    rw [e4, List.map_append, h.nm]; rfl
  · show x.ds ++ [d] = _
    rw [e4, List.map_append, h.ds]; rfl
theorem RelB.put {ob ob' : Ob} {x : So} {d : De} (h : RelB ob x) {n : Nat} {p : Pr} (hp : ob.ps[n]? = some p) (e1 : ob'.kind = ob.kind) (e2 : ob'.proto = ob.proto) (e3 : ob'.shut = ob.shut) (e4 : ob'.ps = setD ob.ps n p d) (e5 : ob'.el = ob.el) (e6 : ob'.inn = ob.inn) :
    RelB ob' { x with ds := x.ds.set n d } := by
  refine ⟨e1.trans h.kd, e2.trans h.pr, e3.trans h.sh, ?_, ?_, e5.trans h.el, e6.trans h.inn⟩
  · show x.nm = _
    rw [e4, h.nm]
    unfold setD
    rw [List.map_set]
    apply List.ext_getElem?
    intro j
    by_cases c : n = j
    · subst c
      have hl : n < (ob.ps.map Pr.key).length := by rw [List.length_map]; exact (List.getElem?_eq_some_iff.1 hp).1
      rw [List.getElem?_set_self hl, List.getElem?_map, hp]
      rfl
    · rw [List.getElem?_set_ne c]
  · show x.ds.set n d = _
    rw [e4, h.ds]
    unfold setD
    rw [List.map_set]
theorem RelB.putH {ob : Ob} {x : So} {k : ByteArray} (h : RelB ob x) (i : Nat) (d : De) : ∃ ob', (Hp.putH H i ob k d).obs = H.obs.set i ob' ∧ RelB ob' (putS x k d) := by
  unfold Hp.putH putS
  rw [h.nm, plc_plS]
  cases hp : plc ob.ps k with
  | none =>
    simp only
    rw [← h.nm]
    split
    · exact ⟨layO (touchH H ob.cell) ob k (keptD d), rfl, h.add ob.next rfl rfl rfl rfl rfl rfl⟩
    · refine ⟨ob.bare k (keptD d), rfl, ?_⟩
      unfold Ob.bare Ob.plus
      split
      · split
        · exact h.add ob.next rfl rfl rfl rfl rfl rfl
        · exact h.add ob.next rfl rfl rfl rfl rfl rfl
      · split
        · exact h.add ob.next rfl rfl rfl rfl rfl rfl
        · exact h.add ob.next rfl rfl rfl rfl rfl rfl
  | some n =>
    simp only
    obtain ⟨⟨p, hn, hk⟩, _⟩ := plc_some hp
    have hpa : prAt ob.ps n = p := by unfold prAt; rw [hn]; rfl
    rw [hpa, ← h.nm]
    unfold replH
    split
    · refine ⟨_, rfl, ?_⟩
      exact h.put hn rfl rfl rfl rfl rfl rfl
    · refine ⟨_, rfl, ?_⟩
      exact h.put hn rfl rfl rfl rfl rfl rfl
theorem putH_tx (H : He) (i : Nat) (ob : Ob) (k : ByteArray) (d : De) : (Hp.putH H i ob k d).tx = H.tx := by
  unfold Hp.putH
  split
  · unfold replH; split <;> rfl
  · split <;> rfl
theorem RelG.put (h : RelG H S ts) (o : Int) (k : ByteArray) (d : De) : RelG (putF H o k d) (putG S o k d) ts := by
  rcases h.io o with ⟨e1, e2⟩ | ⟨i, ob, x, e1, e2, e3, e4, e5⟩
  · unfold putF putG
    rw [e1, onS_no e2]
    exact h
  · unfold putG
    rw [putF_at e1 e3, onS_at e2 e4]
    obtain ⟨ob', q1, q2⟩ := e5.putH (H := H) (k := k) i d
    exact h.set' q2 q1 (putH_tx _ _ _ _ _)
theorem RelG.close (h : RelG H S ts) (o : Int) : RelG (closeH H o) (shutG S o) ts := by
  rcases h.io o with ⟨e1, e2⟩ | ⟨i, ob, x, e1, e2, e3, e4, e5⟩
  · unfold closeH shutG
    rw [e1, onS_no e2]
    exact h
  · unfold shutG closeH
    rw [onS_at e2 e4, e1]
    simp only [e3]
    exact h.set' (H' := H.setO i { ob with shut := true }) (ob := { ob with shut := true }) ⟨e5.kd, e5.pr, rfl, e5.nm, e5.ds, e5.el, e5.inn⟩ rfl rfl
theorem RelG.inner (h : RelG H S ts) (o : Int) (l : List Int) : RelG (innF H o l) (innG S o l) ts := by
  rcases h.io o with ⟨e1, e2⟩ | ⟨i, ob, x, e1, e2, e3, e4, e5⟩
  · unfold innF innG
    rw [e1, onS_no e2]
    exact h
  · unfold innG
    rw [onS_at e2 e4, innF_at e1 e3]
    exact h.set' (H' := H.setO i { ob with inn := l }) (ob := { ob with inn := l }) ⟨e5.kd, e5.pr, e5.sh, e5.nm, e5.ds, e5.el, rfl⟩ rfl rfl
theorem RelG.lens (h : RelG H S ts) (o n : Int) : RelG (lenF H o n).1 (lenG S o n).1 ts ∧ (lenF H o n).2 = (lenG S o n).2 := by
  rcases h.io o with ⟨e1, e2⟩ | ⟨i, ob, x, e1, e2, e3, e4, e5⟩
  · unfold lenF lenG
    rw [e1, if_pos (Or.inl e2)]
    exact ⟨h, rfl⟩
  · rw [lenF_at e1 e3]
    unfold lenG
    by_cases c : n < 0 ∨ 4096 < n
    · rw [if_pos c, if_pos (Or.inr c)]
      exact ⟨h, rfl⟩
    · rw [if_neg c, if_neg (by rw [e2]; rintro (q | q); · cases q
                               · exact c q)]
      refine ⟨?_, rfl⟩
      simp only
      rw [onS_at e2 e4]
      refine h.set' (ob := { ob with el := resL ob.el n.toNat }) ⟨e5.kd, e5.pr, e5.sh, e5.nm, e5.ds, ?_, e5.inn⟩ rfl rfl
      show resL ob.el _ = resL x.el _
      rw [e5.el]
theorem RelG.elem (h : RelG H S ts) (o n v : Int) : RelG (elemF H o n v).1 (elemG S o n v).1 ts ∧ (elemF H o n v).2 = (elemG S o n v).2 := by
  rcases h.io o with ⟨e1, e2⟩ | ⟨i, ob, x, e1, e2, e3, e4, e5⟩
  · unfold elemF elemG
    rw [e1, if_pos (Or.inl e2)]
    exact ⟨h, rfl⟩
  · rw [elemF_at e1 e3]
    unfold elemG
    by_cases c : n < 0 ∨ 4096 ≤ n
    · rw [if_pos c, if_pos (Or.inr c)]
      exact ⟨h, rfl⟩
    · rw [if_neg c, if_neg (by rw [e2]; rintro (q | q); · cases q
                               · exact c q)]
      refine ⟨?_, rfl⟩
      simp only
      rw [onS_at e2 e4]
      refine h.set' (ob := { ob with el := setL ob.el n.toNat v }) ⟨e5.kd, e5.pr, e5.sh, e5.nm, e5.ds, ?_, e5.inn⟩ rfl rfl
      show setL ob.el _ _ = (padE x.el _).set _ _
      rw [e5.el]
      rfl
theorem RelG.drop (h : RelG H S ts) (o : Int) (k : ByteArray) : RelG (dropF H o k).1 (dropG S o k).1 ts ∧ (dropF H o k).2 = (dropG S o k).2 := by
  rcases h.io o with ⟨e1, e2⟩ | ⟨i, ob, x, e1, e2, e3, e4, e5⟩
  · unfold dropF dropG soO
    simp only
    rw [e1, e2, onS_no e2]
    exact ⟨h, rfl⟩
  · have es : soO S o = some x := by unfold soO; rw [e2]; exact e4
    rw [dropF_at e1 e3]
    unfold dropG delS
    simp only
    rw [onS_at e2 e4, es]
    simp only [Option.bind_some]
    rw [e5.nm, plc_plS, ← e5.nm]
    cases hp : plc ob.ps k with
    | none =>
      simp only
      have hil := (List.getElem?_eq_some_iff.1 e4).1
      have hx : S[i] = x := (List.getElem?_eq_some_iff.1 e4).2
      have hs : S.set i x = S := by rw [← hx]; exact List.set_getElem_self hil
      rw [hs]
      exact ⟨h, rfl⟩
    | some m =>
      simp only
      refine ⟨?_, rfl⟩
      refine h.set' (H' := dropH H i ob m) (ob := (ob.less m).lost) ⟨e5.kd, e5.pr, e5.sh, ?_, ?_, e5.el, e5.inn⟩ rfl rfl
      · show x.nm.eraseIdx m = (ob.ps.eraseIdx m).map Pr.key
        rw [e5.nm, map_less]
      · show x.ds.eraseIdx m = (ob.ps.eraseIdx m).map Pr.de
        rw [e5.ds, map_less]
theorem RelG.sa (h : RelG H S ts) {o : Int} (ho : ¬ (18445336698825998337 : Int) = o) (p : Int) : repB S o (S.length + 1) p = saB H o p := by
  unfold saB
  by_cases c : p = o
  · rw [repB_yes c, decide_eq_true c]; rfl
  · rw [decide_eq_false c, Bool.false_or, h.rep (soO_null S) ho S.length p c, h.len]
theorem RelG.pre (h : RelG H S ts) {i : Nat} {ob : Ob} {x : So} (e3 : H.obs[i]? = some ob) (e4 : S[i]? = some x) (e5 : RelB ob x) (p : Int) : RelG (preH H i ob p) (S.set i { x with proto := p }) ts := by
  have h1 : RelG (touchH H ob.cell) S ts := h.obs rfl rfl
  have h2 := h1.raise p
  exact h2.set' (H' := preH H i ob p) (ob := { ob with proto := p }) ⟨e5.kd, rfl, e5.sh, e5.nm, e5.ds, e5.el, e5.inn⟩ rfl rfl
theorem RelG.proto (h : RelG H S ts) (o p : Int) : RelG (setPF H o p) (protoG S o p) ts := by
  rcases h.io o with ⟨e1, e2⟩ | ⟨i, ob, x, e1, e2, e3, e4, e5⟩
  · have e : setPF H o p = H := by unfold setPF; rw [e1]
    rw [e]
    unfold protoG
    rw [onS_no e2, ite_self]
    exact h
  · have ho : ¬ (18445336698825998337 : Int) = o := fun e => by rw [← e, obS_null] at e2; cases e2
    have e : setPF H o p = if p = ob.proto ∨ mayB H p = false ∨ saB H o p = true then H else setPH H i ob p := by unfold setPF; rw [e1]; simp only [e3]
    have em : mayB H p = ((p == nulW) || (obS S p).isSome) := by unfold mayB; rw [h.at p]
    rw [e]
    unfold protoG
    rw [h.sa ho, ← em, onS_at e2 e4]
    have hil := (List.getElem?_eq_some_iff.1 e4).1
    have hx : S[i] = x := (List.getElem?_eq_some_iff.1 e4).2
    by_cases c : mayB H p = false ∨ saB H o p = true
    · rw [if_pos (Or.inr c), if_pos c]
      exact h
    · rw [if_neg c]
      by_cases d : p = ob.proto
      · rw [if_pos (Or.inl d)]
        have hs : S.set i { x with proto := p } = S := by
          have : ({ x with proto := p } : So) = S[i] := by rw [d, e5.pr, hx]
          rw [this]
          exact List.set_getElem_self hil
        rw [hs]
        exact h
      · rw [if_neg (by rintro (q | q); · exact d q
                       · exact c q)]
        unfold setPH
        split
        · have hp := h.pre e3 e4 e5 p
          have := hp.set (i := i) (ob := { ob with proto := p, shape := (mvD H ob p).2.1, shaped := (mvD H ob p).2.2 }) (x := { x with proto := p }) ⟨e5.kd, rfl, e5.sh, e5.nm, e5.ds, e5.el, e5.inn⟩
          rw [List.set_set] at this
          exact this.obs rfl rfl
        · exact h.pre e3 e4 e5 p
theorem RelG.text (h : RelG H S ts) (hts : ∀ t ∈ H.tx, t.size ≤ 4096) (s : ByteArray) : RelG (textF H s).1 S (textG ts s).1 ∧ (textF H s).2 = (textG ts s).2 := by
  unfold textF textG
  rw [h.tx]
  by_cases c : 4096 < s.size
  · rw [if_pos c]
    cases hn : txI ts s with
    | some n =>
      exfalso
      unfold txI at hn
      obtain ⟨a, b, _⟩ := List.findIdx?_eq_some_iff_getElem.1 hn
      have hm : ts[n] ∈ H.tx := by rw [h.tx]; exact List.getElem_mem a
      have := hts _ hm
      have e : ts[n] = s := by simpa using b
      rw [e] at this
      omega
    | none =>
      simp only
      rw [if_pos (Or.inl c)]
      exact ⟨h, rfl⟩
  · rw [if_neg c]
    cases hn : txI ts s with
    | some n => exact ⟨h, rfl⟩
    | none =>
      simp only
      by_cases d : 16384 ≤ ts.length
      · rw [if_pos d, if_pos (Or.inr d)]
        exact ⟨h, rfl⟩
      · rw [if_neg d, if_neg (by rintro (q | q); · exact c q
                                 · exact d q)]
        exact ⟨⟨h.len, h.ob, rfl⟩, rfl⟩
end
end Go.Proofs.YtkpdpdllbnihgaaGreat.Hp
