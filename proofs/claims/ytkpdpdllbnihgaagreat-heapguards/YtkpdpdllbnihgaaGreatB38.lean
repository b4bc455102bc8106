/- UL, UM -/
import Derived.Test.YtkpdpdllbnihgaaGreatUK
import Derived.Test.YtkpdpdllbnihgaaGreatB25
import Derived.Test.YtkpdpdllbnihgaaGreatLL
import Derived.Test.YtkpdpdllbnihgaaGreatB37
import Derived.Test.YtkpdpdllbnihgaaGreatVH
set_option linter.unusedVariables false
set_option linter.unusedSimpArgs false
set_option maxRecDepth 100000
set_option maxHeartbeats 40000000
/- The document's calls, done and refused, as one plain function each. -/
namespace Go.Proofs.YtkpdpdllbnihgaaGreat.Hp
open Go.RowKit
section
variable {w W W' w' w1 : World} {B b : Nat} {tg : Nat → Nat} {S S' : List So} {vo vt : SV} {qs : List QV} {i : Nat} {x x' : So} {q : QV}
theorem soO_of {o : Int} (h : obS S o = some i) (hi : S[i]? = some x) : soO S o = some x := by unfold soO; rw [h]; exact hi
theorem onS_self {o : Int} {f : So → So} (h : obS S o = some i) (hi : S[i]? = some x) (hf : f x = x) : onS S o f = S := by
  rw [onS_at h hi, hf]
  have hil := (List.getElem?_eq_some_iff.1 hi).1
  have hx : S[i] = x := (List.getElem?_eq_some_iff.1 hi).2
  rw [← hx]
  exact List.set_getElem_self hil
theorem obS_at {o : Int} (h : obS S o = some i) (o0 : 0 ≤ o) (o1 : o < 18446744073709551616) : ∃ x, S[i]? = some x ∧ o = objW (i : Int) := by
  obtain ⟨a, b⟩ := obS_some o0 o1 h
  exact ⟨_, List.getElem?_eq_getElem a, b⟩
theorem rput_full (h : StAt w B tg S vo qs) (vt : SV) (hnl : ∀ x ∈ S, x.nm.length ≤ 1000000) (o : Int) (o0 : 0 ≤ o) (o1 : o < 18446744073709551616) (k : ByteArray) (d : De) :
    Calls Tryz.prog 26 #[stV vo vt, .int .u64 o, .string k, deV d] w fun e w' => e = .returned (stV vo vt) ∧ SWent w B tg (putG S o k d) vo w' := by
  unfold putG
  cases hq : obS S o with
  | none => rw [onS_no hq]; exact rput_miss h vt k d o o0 o1 hq
  | some i =>
    obtain ⟨x, hi, rfl⟩ := obS_at hq o0 o1
    rw [onS_at hq hi]
    exact rput_any h vt hi k (hnl x (List.mem_of_getElem? hi)) d
theorem rshut_full (h : StAt w B tg S vo qs) (vt : SV) (o : Int) (o0 : 0 ≤ o) (o1 : o < 18446744073709551616) :
    Calls Tryz.prog 37 #[stV vo vt, .int .u64 o] w fun e w' => e = .returned (stV vo vt) ∧ SWent w B tg (shutG S o) vo w' := by
  unfold shutG
  cases hq : obS S o with
  | none => rw [onS_no hq]; exact rshut_miss h vt o o0 o1 hq
  | some i =>
    obtain ⟨x, hi, rfl⟩ := obS_at hq o0 o1
    rw [onS_at hq hi]
    exact rshut_hit h vt hi
theorem rinner_full (h : StAt w B tg S vo qs) (vt : SV) (o : Int) (o0 : 0 ≤ o) (o1 : o < 18446744073709551616) {la : Option Addr} {lc : Nat} {xs : List Int} (hl : Sli.ok wC 1 w ⟨la, lc, xs⟩) (hx : xs.length ≤ 2000000) :
    Calls Tryz.prog 39 #[stV vo vt, .int .u64 o, .slice la xs.length lc] w fun e w' => e = .returned (stV vo vt) ∧ SWent w B tg (innG S o xs) vo w' := by
  unfold innG
  cases hq : obS S o with
  | none => rw [onS_no hq]; exact rinner_miss h vt _ o o0 o1 hq
  | some i =>
    obtain ⟨x, hi, rfl⟩ := obS_at hq o0 o1
    rw [onS_at hq hi]
    exact rinner_hit h vt hi hl hx
theorem rsetLen_full (h : StAt w B tg S vo qs) (vt : SV) (o : Int) (o0 : 0 ≤ o) (o1 : o < 18446744073709551616) (n : Int) :
    Calls Tryz.prog 35 #[stV vo vt, .int .u64 o, .int .i64 n] w fun e w' => e = .returned (.tuple #[stV vo vt, .bool (lenG S o n).2]) ∧ SWent w B tg (lenG S o n).1 vo w' := by
  unfold lenG
  cases hq : obS S o with
  | none => rw [if_pos (Or.inl rfl)]; exact rsetLen_miss h vt n o o0 o1 hq
  | some i =>
    obtain ⟨x, hi, rfl⟩ := obS_at hq o0 o1
    by_cases c : n < 0
    · rw [if_pos (Or.inr (Or.inl c))]
      exact rsetLen_low h vt hi n c
    by_cases c' : 4096 < n
    · rw [if_pos (Or.inr (Or.inr c'))]
      exact rsetLen_high h vt hi n c'
    obtain ⟨m, rfl⟩ : ∃ m : Nat, n = (m : Int) := ⟨n.toNat, by omega⟩
    rw [if_neg (by rintro (r | r | r); · cases r
                   · exact c r
                   · exact c' r)]
    simp only
    rw [onS_at hq hi, Int.toNat_natCast]
    exact rsetLen_hit h vt hi m (by omega)
theorem rsetElem_full (h : StAt w B tg S vo qs) (vt : SV) (hel : ∀ x ∈ S, x.el.length ≤ 4096) (o : Int) (o0 : 0 ≤ o) (o1 : o < 18446744073709551616) (n v : Int) :
    Calls Tryz.prog 33 #[stV vo vt, .int .u64 o, .int .i64 n, .int .u64 v] w fun e w' => e = .returned (.tuple #[stV vo vt, .bool (elemG S o n v).2]) ∧ SWent w B tg (elemG S o n v).1 vo w' := by
  unfold elemG
  by_cases c : n < 0
  · rw [if_pos (Or.inr (Or.inl c))]
    exact rsetElem_low h vt n v o c
  by_cases c' : 4096 ≤ n
  · rw [if_pos (Or.inr (Or.inr c'))]
    exact rsetElem_high h vt n v o c'
  cases hq : obS S o with
  | none => rw [if_pos (Or.inl rfl)]; exact rsetElem_miss h vt n v (by omega) (by omega) o o0 o1 hq
  | some i =>
    obtain ⟨x, hi, rfl⟩ := obS_at hq o0 o1
    obtain ⟨m, rfl⟩ : ∃ m : Nat, n = (m : Int) := ⟨n.toNat, by omega⟩
    rw [if_neg (by rintro (r | r | r); · cases r
                   · exact c r
                   · exact c' r)]
    simp only
    rw [onS_at hq hi, Int.toNat_natCast]
    exact rsetElem_hit h vt hi m (by omega) (hel x (List.mem_of_getElem? hi)) v
theorem rdrop_full (h : StAt w B tg S vo qs) (vt : SV) (hnl : ∀ x ∈ S, x.nm.length ≤ 1000000) (o : Int) (o0 : 0 ≤ o) (o1 : o < 18446744073709551616) (k : ByteArray) :
    Calls Tryz.prog 28 #[stV vo vt, .int .u64 o, .string k] w fun e w' => e = .returned (.tuple #[stV vo vt, .bool (dropG S o k).2]) ∧ SWent w B tg (dropG S o k).1 vo w' := by
  unfold dropG
  cases hq : obS S o with
  | none =>
    have e : soO S o = none := by unfold soO; rw [hq]; rfl
    simp only
    rw [onS_no hq, e]
    exact rdrop_miss h vt k o o0 o1 hq
  | some i =>
    obtain ⟨x, hi, rfl⟩ := obS_at hq o0 o1
    simp only
    rw [soO_of hq hi, Option.bind_some]
    cases hp : plS x.nm k with
    | none =>
      rw [onS_self hq hi (by unfold delS; rw [hp])]
      exact rdrop_none h vt hi k hp
    | some m =>
      rw [onS_at hq hi]
      have e : delS x k = { x with nm := x.nm.eraseIdx m, ds := x.ds.eraseIdx m } := by unfold delS; rw [hp]
      rw [e]
      exact rdrop_hit h vt hi k m hp (hnl x (List.mem_of_getElem? hi))
theorem rproto_full (h : StAt w B tg S vo qs) (vt : SV) (hpr : ∀ x ∈ S, 0 ≤ x.proto ∧ x.proto < 18446744073709551616) (o : Int) (o0 : 0 ≤ o) (o1 : o < 18446744073709551616) (p : Int) (p0 : 0 ≤ p) (p1 : p < 18446744073709551616) :
    Calls Tryz.prog 30 #[stV vo vt, .int .u64 o, .int .u64 p] w fun e w' => e = .returned (stV vo vt) ∧ SWent w B tg (protoG S o p) vo w' := by
  unfold protoG
  cases hq : obS S o with
  | none =>
    rw [onS_no hq, ite_self]
    exact rrepro_miss h vt p o o0 o1 hq
  | some i =>
    obtain ⟨x, hi, rfl⟩ := obS_at hq o0 o1
    rw [onS_at hq hi]
    by_cases c : p = nulW
    · have e : (p == nulW) = true := by simpa using c
      have hnb : (p != 18445336698825998337) = false := by simpa [nulW] using c
      refine (rrepro_null h vt hpr hi p p0 p1 hnb).mono ?_
      rintro e' w' ⟨rfl, q⟩
      refine ⟨rfl, ?_⟩
      rw [e]
      simpa using q
    · have e : (p == nulW) = false := by simpa using c
      have hnb : (p != 18445336698825998337) = true := by simpa [nulW] using c
      cases hp : obS S p with
      | none =>
        rw [if_pos (Or.inl (by rw [e]; rfl))]
        exact rrepro_nop h vt hi p p0 p1 hp hnb
      | some m =>
        obtain ⟨hm, hpe⟩ := obS_some p0 p1 hp
        refine (rrepro_obj h vt hpr hi p p0 p1 hnb hm hpe).mono ?_
        rintro e' w' ⟨rfl, q⟩
        refine ⟨rfl, ?_⟩
        rw [e]
        simpa using q
theorem rmake_full (h : StAt w B tg S vo qs) (hB : B ≤ w.heap.size) (vt : SV) (kind p : Int) (p0 : 0 ≤ p) (p1 : p < 18446744073709551616) :
    Calls Tryz.prog 25 #[stV vo vt, .int .i64 kind, .int .u64 p] w fun e w' => ∃ vo', e = .returned (.tuple #[stV vo' vt, .int .u64 (if noS S kind p = true then undW else objW (S.length : Int)), .bool (!noS S kind p)]) ∧ SWent w B tg (makeG S kind p) vo' w' := by
  unfold makeG
  cases hn : noS S kind p with
  | true =>
    rw [if_pos rfl, if_pos rfl]
    have key : Calls Tryz.prog 25 #[stV vo vt, .int .i64 kind, .int .u64 p] w fun e w' => e = .returned (.tuple #[stV vo vt, .int .u64 18445336698825998336, .bool false]) ∧ SWent w B tg S vo w' := by
      by_cases a : kind < 0
      · exact rmake_low h vt kind p a
      by_cases a' : 6 < kind
      · exact rmake_high h vt kind p a'
      by_cases c : p = nulW
      · subst c
        unfold noS at hn
        rw [decide_eq_false a, decide_eq_false a'] at hn
        simp only [beq_self_eq_true, Bool.true_or, Bool.not_true, Bool.false_or, decide_eq_true_eq] at hn
        exact rmake_fullN h vt kind (by omega) (by omega) hn
      · have hnb : (p != 18445336698825998337) = true := by simpa [nulW] using c
        cases hp : obS S p with
        | none => exact rmake_miss h vt kind (by omega) (by omega) p p0 p1 hp hnb
        | some m =>
          obtain ⟨hm, rfl⟩ := obS_some p0 p1 hp
          unfold noS at hn
          rw [decide_eq_false a, decide_eq_false a', hp] at hn
          simp only [Option.isSome_some, Bool.or_true, Bool.not_true, Bool.false_or, decide_eq_true_eq] at hn
          exact rmake_fullO h vt kind (by omega) (by omega) hn hm
    refine key.mono ?_
    rintro e w' ⟨rfl, q⟩
    exact ⟨vo, rfl, q⟩
  | false =>
    rw [if_neg (by simp), if_neg (by simp)]
    unfold noS at hn
    simp only [Bool.or_eq_false_iff, decide_eq_false_iff_not, Bool.not_eq_false'] at hn
    obtain ⟨⟨⟨a, b⟩, c⟩, d⟩ := hn
    by_cases e : p = nulW
    · subst e
      exact rmake_null h hB vt kind (by omega) (by omega) (by omega)
    · have e' : (p == nulW) = false := by simpa using e
      rw [e', Bool.false_or] at c
      obtain ⟨m, hp⟩ := Option.isSome_iff_exists.1 c
      obtain ⟨hm, rfl⟩ := obS_some p0 p1 hp
      exact rmake_at h hB vt kind (by omega) (by omega) (by omega) hm
/-- a row of texts behind a call -/
def TWent (w : World) (B : Nat) (vt : SV) (ts : List ByteArray) (vt' : SV) (w' : World) : Prop := OwnR strC 1 9 B w' vt'.val ts ∧ Chg (fun b => vt.val.ownBlock = some b) w w' ∧ (vt'.val.ownBlock = vt.val.ownBlock ∨ ∃ b, w.heap.size ≤ b ∧ vt'.val.ownBlock = some b)
theorem rtext_fullT {O : Nat → Prop} {ts : List ByteArray} (hr : RowIn strC 1 9 B w O vt ts) (vo : SV) (k : ByteArray) (hl : ts.length ≤ 16384) (hB0 : B ≤ w.heap.size) :
    Calls Tryz.prog 41 #[stV vo vt, .string k] w fun e w' => ∃ vt', e = .returned (.tuple #[stV vo vt', .int .u64 (textG ts k).2.1, .bool (textG ts k).2.2]) ∧ TWent w B vt (textG ts k).1 vt' w' := by
  have same : ∀ w', Below w.heap.size w w' → TWent w B vt ts vt w' := fun w' hb => ⟨hr.1.kept (S := fun _ => False) (Chg.of_below hb) (fun _ _ q => q), Chg.of_below hb, Or.inl rfl⟩
  unfold textG
  cases hp : txI ts k with
  | some n =>
    refine (rtext_hit hr vo k n hp hl).mono ?_
    rintro e w' ⟨rfl, q⟩
    exact ⟨vt, rfl, same w' q⟩
  | none =>
    simp only
    by_cases c : 4096 < k.size
    · rw [if_pos (Or.inl c)]
      refine (rtext_long hr vo k hp hl c).mono ?_
      rintro e w' ⟨rfl, q⟩
      exact ⟨vt, rfl, same w' q⟩
    by_cases c' : 16384 ≤ ts.length
    · rw [if_pos (Or.inr c')]
      refine (rtext_full hr vo k hp hl (by omega) c').mono ?_
      rintro e w' ⟨rfl, q⟩
      exact ⟨vt, rfl, same w' q⟩
    rw [if_neg (by rintro (r | r); · exact c r
                   · exact c' r)]
    refine (rtext_new hr vo k hp (by omega) (by omega) hB0).mono ?_
    rintro e w' ⟨vt', rfl, q⟩
    exact ⟨vt', rfl, q⟩
end
end Go.Proofs.YtkpdpdllbnihgaaGreat.Hp
/- The program's heap and the document's store in one memory, apart; blocks X that neither may use. -/
namespace Go.Proofs.YtkpdpdllbnihgaaGreat.Hp
open Go.RowKit
structure Two (w0 w : World) (X : Nat → Prop) (hb : Nat) (tgH tgS : Nat → Nat) (H : He) (M : HV) (S : List So) (vo vt : SV) (qs : List QV) (ts : List ByteArray) : Prop where
  hp : HeapAt w w0.heap.size hb tgH H M
  st : StAt w w0.heap.size tgS S vo qs
  tx : OwnR strC 1 9 w0.heap.size w vt.val ts
  ap : ∀ b, tgH b ≠ 0 → tgS b = 0
  at' : ∀ b, vt.val.ownBlock = some b → tgH b = 0 ∧ tgS b = 0
  xs : ∀ b, X b → tgH b = 0 ∧ tgS b = 0 ∧ ¬ vt.val.ownBlock = some b ∧ b < w.heap.size
  bel : Below w0.heap.size w0 w
def TwoE (w0 w : World) (X : Nat → Prop) (hb : Nat) (H : He) (S : List So) (vo vt : SV) (ts : List ByteArray) : Prop := ∃ tgH tgS M qs, Two w0 w X hb tgH tgS H M S vo vt qs ts
/-- .. and the blocks X are what they were -/
structure TwoK (w0 w w' : World) (X : Nat → Prop) (hb : Nat) (H : He) (S : List So) (vo vt : SV) (ts : List ByteArray) : Prop where
  two : TwoE w0 w' X hb H S vo vt ts
  kp : ∀ b, X b → w'.heap[b]? = w.heap[b]?
section
variable {w0 w w' : World} {X Y : Nat → Prop} {hb : Nat} {tgH tgS : Nat → Nat} {H H' : He} {M : HV} {S S' : List So} {vo vo' vt vt' : SV} {qs : List QV} {ts ts' : List ByteArray}
theorem TwoE.bel (h : TwoE w0 w X hb H S vo vt ts) : Below w0.heap.size w0 w := by obtain ⟨_, _, _, _, h⟩ := h; exact h.bel
theorem TwoE.wf (h : TwoE w0 w X hb H S vo vt ts) : H.wf := by obtain ⟨_, _, _, _, h⟩ := h; exact h.hp.wf
theorem TwoE.lt (h : TwoE w0 w X hb H S vo vt ts) {b : Nat} (hx : X b) : b < w.heap.size := by obtain ⟨_, _, _, _, h⟩ := h; exact (h.xs b hx).2.2.2
theorem TwoE.mono (h : TwoE w0 w X hb H S vo vt ts) (hs : ∀ b, Y b → X b) : TwoE w0 w Y hb H S vo vt ts := by
  obtain ⟨tgH, tgS, M, qs, h⟩ := h
  exact ⟨tgH, tgS, M, qs, h.hp, h.st, h.tx, h.ap, h.at', fun b q => h.xs b (hs b q), h.bel⟩
/-- new blocks are nobody's -/
theorem TwoE.box (h : TwoE w0 w X hb H S vo vt ts) (hB : Below w.heap.size w w') : TwoE w0 w' (fun b => X b ∨ (w.heap.size ≤ b ∧ b < w'.heap.size)) hb H S vo vt ts := by
  obtain ⟨tgH, tgS, M, qs, h⟩ := h
  refine ⟨tgH, tgS, M, qs, h.hp.below hB, h.st.below hB, h.tx.kept (S := fun _ => False) (Chg.of_below hB) (fun _ _ q => q), h.ap, h.at', fun b q => ?_, h.bel.trans (hB.mono h.bel.size)⟩
  rcases q with q | q
  · obtain ⟨a, b, c, d⟩ := h.xs b q
    exact ⟨a, b, c, Nat.lt_of_lt_of_le d hB.size⟩
  · refine ⟨?_, ?_, fun e => ?_, q.2⟩
    · rcases Nat.eq_zero_or_pos (tgH b) with e | e
      · exact e
      · have := (h.hp.lt b (by omega)).2; omega
    · rcases Nat.eq_zero_or_pos (tgS b) with e | e
      · exact e
      · have := (h.st.lt b (by omega)).2; omega
    · have := (h.tx.lt b e).2; omega
theorem TwoE.below (h : TwoE w0 w X hb H S vo vt ts) (hB : Below w.heap.size w w') : TwoE w0 w' X hb H S vo vt ts := (h.box hB).mono (fun b q => Or.inl q)
/-- a block of X is written -/
theorem TwoE.set (h : TwoE w0 w X hb H S vo vt ts) {b : Nat} (hx : X b) (hb0 : w0.heap.size ≤ b) (j : Nat) (v : Value) : TwoE w0 (w.setCell ⟨b, j, none⟩ v) X hb H S vo vt ts := by
  obtain ⟨tgH, tgS, M, qs, h⟩ := h
  have hc : Chg (fun c => c = b) w (w.setCell ⟨b, j, none⟩ v) := Chg.set (S := fun c => c = b) w ⟨b, j, none⟩ v rfl
  obtain ⟨x1, x2, x3, x4⟩ := h.xs b hx
  refine ⟨tgH, tgS, M, qs, h.hp.kept hc (fun c q r => q (by rw [r]; exact x1)), h.st.kept hc (fun c q r => q (by rw [r]; exact x2)), h.tx.kept hc (fun c q r => x3 (by rw [← show c = b from r]; exact q)), h.ap, h.at', fun c q => ?_, h.bel.setCell hb0 _⟩
  obtain ⟨a, b, c, d⟩ := h.xs c q
  exact ⟨a, b, c, by simpa using d⟩
theorem Two.heap (h : Two w0 w X hb tgH tgS H M S vo vt qs ts) (hw : WentH w w0.heap.size hb tgH H' w') : TwoK w0 w w' X hb H' S vo vt ts := by
  obtain ⟨M', tg', k1, k2, k3⟩ := hw
  have key : ∀ b, b < w.heap.size → tgH b = 0 → tg' b = 0 := fun b hl e => by
    rcases Nat.eq_zero_or_pos (tg' b) with r | r
    · exact r
    · rcases k3 b (by omega) with c | c
      · exact absurd e c
      · omega
  refine ⟨⟨tg', tgS, M', qs, k1, h.st.kept k2 (fun b q r => q (h.ap b r)), h.tx.kept k2 (fun b q r => r (h.at' b q).1), fun b q => ?_, fun b q => ⟨key b (h.tx.lt b q).2 (h.at' b q).1, (h.at' b q).2⟩, fun b q => ?_, k2.below h.bel h.bel.size (fun b q => (h.hp.lt b q).1)⟩, fun b q => k2.block b (h.xs b q).2.2.2 (fun r => r (h.xs b q).1)⟩
  · rcases k3 b q with c | c
    · exact h.ap b c
    · rcases Nat.eq_zero_or_pos (tgS b) with e | e
      · exact e
      · have := (h.st.lt b (by omega)).2
        omega
  · obtain ⟨a, b', c, d⟩ := h.xs b q
    exact ⟨key b d a, b', c, Nat.lt_of_lt_of_le d k2.size⟩
theorem Two.store (h : Two w0 w X hb tgH tgS H M S vo vt qs ts) (hw : SWent w w0.heap.size tgS S' vo' w') : TwoK w0 w w' X hb H S' vo' vt ts := by
  obtain ⟨tg', qs', k1, k2, k3⟩ := hw
  have key : ∀ b, b < w.heap.size → tgS b = 0 → tg' b = 0 := fun b hl e => by
    rcases Nat.eq_zero_or_pos (tg' b) with r | r
    · exact r
    · rcases k3 b (by omega) with c | c
      · exact absurd e c
      · omega
  refine ⟨⟨tgH, tg', M, qs', h.hp.kept k2 (fun b q r => r (h.ap b q)), k1, h.tx.kept k2 (fun b q r => r (h.at' b q).2), fun b q => ?_, fun b q => ⟨(h.at' b q).1, key b (h.tx.lt b q).2 (h.at' b q).2⟩, fun b q => ?_, k2.below h.bel h.bel.size (fun b q => (h.st.lt b q).1)⟩, fun b q => k2.block b (h.xs b q).2.2.2 (fun r => r (h.xs b q).2.1)⟩
  · exact key b (h.hp.lt b q).2 (h.ap b q)
  · obtain ⟨a, b', c, d⟩ := h.xs b q
    exact ⟨a, key b d b', c, Nat.lt_of_lt_of_le d k2.size⟩
theorem Two.text (h : Two w0 w X hb tgH tgS H M S vo vt qs ts) (hw : TWent w w0.heap.size vt ts' vt' w') : TwoK w0 w w' X hb H S vo vt' ts' := by
  obtain ⟨k1, k2, k3⟩ := hw
  have key : ∀ b, b < w.heap.size → ¬ vt.val.ownBlock = some b → ¬ vt'.val.ownBlock = some b := fun b hl e r => by
    rcases k3 with c | ⟨b', c, d⟩
    · rw [c] at r; exact e r
    · rw [d] at r
      have : b' = b := Option.some.inj r
      omega
  have tags : ∀ b, vt'.val.ownBlock = some b → tgH b = 0 ∧ tgS b = 0 := fun b q => by
    by_cases hl : b < w.heap.size
    · by_cases e : vt.val.ownBlock = some b
      · exact h.at' b e
      · exact absurd q (key b hl e)
    · refine ⟨?_, ?_⟩
      · rcases Nat.eq_zero_or_pos (tgH b) with e | e
        · exact e
        · have := (h.hp.lt b (by omega)).2; omega
      · rcases Nat.eq_zero_or_pos (tgS b) with e | e
        · exact e
        · have := (h.st.lt b (by omega)).2; omega
  refine ⟨⟨tgH, tgS, M, qs, h.hp.kept k2 (fun b q r => q (h.at' b r).1), h.st.kept k2 (fun b q r => q (h.at' b r).2), k1, h.ap, tags, fun b q => ?_, k2.below h.bel h.bel.size (fun b q => (h.tx.lt b q).1)⟩, fun b q => k2.block b (h.xs b q).2.2.2 (h.xs b q).2.2.1⟩
  obtain ⟨a, b', c, d⟩ := h.xs b q
  exact ⟨a, b', key b d c, Nat.lt_of_lt_of_le d k2.size⟩
theorem TwoE.same (h : TwoE w0 w X hb H S vo vt ts) (hB : Below w.heap.size w w') : TwoK w0 w w' X hb H S vo vt ts := ⟨h.below hB, fun b q => hB.block b (h.lt q)⟩
/-! ## The program's calls -/
theorem make_e (h : TwoE w0 w X hb H S vo vt ts) (kind p : Int) (p0 : 0 ≤ p) (p1 : p < 18446744073709551616) :
    Calls Tryz.prog 20 #[.pointer (some ⟨hb, 0, none⟩), .int .i64 kind, .int .u64 p] w fun e w' => e = .returned (.tuple #[.int .u64 (if mkNo H kind p = true then undW else objW (H.obs.length : Int)), .bool (!mkNo H kind p)]) ∧ TwoK w0 w w' X hb (makeF H kind p) S vo vt ts := by
  obtain ⟨tgH, tgS, M, qs, h⟩ := h
  refine (make_full h.hp kind p p0 p1).mono ?_
  rintro e w' ⟨rfl, q⟩
  exact ⟨rfl, h.heap q⟩
theorem put_e (h : TwoE w0 w X hb H S vo vt ts) {n : Int} (hn : H.inv n) (hnx : n < 2000000000000) (o : Int) (o0 : 0 ≤ o) (o1 : o < 18446744073709551616) (k : ByteArray) (hk : k.size ≤ maxLen) (d : De) :
    Calls Tryz.prog 21 #[.pointer (some ⟨hb, 0, none⟩), .int .u64 o, .string k, deV d] w fun e w' => e = .returned (.tuple #[]) ∧ TwoK w0 w w' X hb (putF H o k d) S vo vt ts := by
  obtain ⟨tgH, tgS, M, qs, h⟩ := h
  refine (put_full h.hp hn hnx o o0 o1 k hk d).mono ?_
  rintro e w' ⟨rfl, q⟩
  exact ⟨rfl, h.heap q⟩
theorem drop_e (h : TwoE w0 w X hb H S vo vt ts) (hn : H.neat) (o : Int) (o0 : 0 ≤ o) (o1 : o < 18446744073709551616) (k : ByteArray) (hk : k.size ≤ maxLen) :
    Calls Tryz.prog 27 #[.pointer (some ⟨hb, 0, none⟩), .int .u64 o, .string k] w fun e w' => e = .returned (.bool (dropF H o k).2) ∧ TwoK w0 w w' X hb (dropF H o k).1 S vo vt ts := by
  obtain ⟨tgH, tgS, M, qs, h⟩ := h
  refine (drop_full h.hp hn o o0 o1 k hk).mono ?_
  rintro e w' ⟨rfl, q⟩
  exact ⟨rfl, h.heap q⟩
theorem setProto_e (h : TwoE w0 w X hb H S vo vt ts) (hac : Acy H) (hab : AbvOk H) (o p : Int) (o0 : 0 ≤ o) (o1 : o < 18446744073709551616) (p0 : 0 ≤ p) (p1 : p < 18446744073709551616) :
    Calls Tryz.prog 29 #[.pointer (some ⟨hb, 0, none⟩), .int .u64 o, .int .u64 p] w fun e w' => e = .returned (.tuple #[]) ∧ TwoK w0 w w' X hb (setPF H o p) S vo vt ts := by
  obtain ⟨tgH, tgS, M, qs, h⟩ := h
  refine (setProto_any h.hp hac hab o p o0 o1 p0 p1).mono ?_
  rintro e w' ⟨rfl, q⟩
  exact ⟨rfl, h.heap ⟨_, q⟩⟩
theorem setElem_e (h : TwoE w0 w X hb H S vo vt ts) (o : Int) (o0 : 0 ≤ o) (o1 : o < 18446744073709551616) (n v : Int) :
    Calls Tryz.prog 31 #[.pointer (some ⟨hb, 0, none⟩), .int .u64 o, .int .i64 n, .int .u64 v] w fun e w' => e = .returned (.bool (elemF H o n v).2) ∧ TwoK w0 w w' X hb (elemF H o n v).1 S vo vt ts := by
  obtain ⟨tgH, tgS, M, qs, h⟩ := h
  refine (setElem_full h.hp o o0 o1 n v).mono ?_
  rintro e w' ⟨rfl, q⟩
  exact ⟨rfl, h.heap q⟩
theorem setLen_e (h : TwoE w0 w X hb H S vo vt ts) (o : Int) (o0 : 0 ≤ o) (o1 : o < 18446744073709551616) (n : Int) :
    Calls Tryz.prog 34 #[.pointer (some ⟨hb, 0, none⟩), .int .u64 o, .int .i64 n] w fun e w' => e = .returned (.bool (lenF H o n).2) ∧ TwoK w0 w w' X hb (lenF H o n).1 S vo vt ts := by
  obtain ⟨tgH, tgS, M, qs, h⟩ := h
  refine (setLen_full h.hp o o0 o1 n).mono ?_
  rintro e w' ⟨rfl, q⟩
  exact ⟨rfl, h.heap q⟩
theorem close_e (h : TwoE w0 w X hb H S vo vt ts) (o : Int) (o0 : 0 ≤ o) (o1 : o < 18446744073709551616) :
    Calls Tryz.prog 36 #[.pointer (some ⟨hb, 0, none⟩), .int .u64 o] w fun e w' => e = .returned (.tuple #[]) ∧ TwoK w0 w w' X hb (closeH H o) S vo vt ts := by
  obtain ⟨tgH, tgS, M, qs, h⟩ := h
  refine (close_any h.hp o o0 o1).mono ?_
  rintro e w' ⟨rfl, q⟩
  exact ⟨rfl, h.heap ⟨_, q⟩⟩
theorem setInner_e (h : TwoE w0 w X hb H S vo vt ts) (o : Int) (o0 : 0 ≤ o) (o1 : o < 18446744073709551616) (m : Sli Int) (hm : m.ok wC 1 w) (hl : m.xs.length ≤ 17592186044416) :
    Calls Tryz.prog 38 #[.pointer (some ⟨hb, 0, none⟩), .int .u64 o, m.val] w fun e w' => e = .returned (.tuple #[]) ∧ TwoK w0 w w' X hb (innF H o m.xs) S vo vt ts := by
  obtain ⟨tgH, tgS, M, qs, h⟩ := h
  refine (setInner_full h.hp o o0 o1 m hm hl).mono ?_
  rintro e w' ⟨rfl, q⟩
  exact ⟨rfl, h.heap q⟩
theorem text_e (h : TwoE w0 w X hb H S vo vt ts) (s : ByteArray) :
    Calls Tryz.prog 40 #[.pointer (some ⟨hb, 0, none⟩), .string s] w fun e w' => e = .returned (.tuple #[.int .u64 (textF H s).2.1, .bool (textF H s).2.2]) ∧ TwoK w0 w w' X hb (textF H s).1 S vo vt ts := by
  obtain ⟨tgH, tgS, M, qs, h⟩ := h
  refine (text_all h.hp s).mono ?_
  rintro e w' ⟨rfl, q⟩
  exact ⟨rfl, h.heap q⟩
theorem guard_e (h : TwoE w0 w X hb H S vo vt ts) (hac : Acy H) (p : Int) (p0 : 0 ≤ p) (p1 : p < 18446744073709551616) (hroom : H.C.length + 65536 ≤ Ce.top) :
    Calls Tryz.prog 12 #[.pointer (some ⟨hb, 0, none⟩), .int .u64 p] w fun e w' => e = .returned (.int .i64 (guardH H p).2) ∧ TwoK w0 w w' X hb (guardH H p).1 S vo vt ts := by
  obtain ⟨tgH, tgS, M, qs, h⟩ := h
  refine (guard_any h.hp hac p p0 p1 hroom).mono ?_
  rintro e w' ⟨rfl, q⟩
  exact ⟨rfl, h.heap ⟨_, q⟩⟩
theorem write_e (h : TwoE w0 w X hb H S vo vt ts) (o : Int) (o0 : 0 ≤ o) (o1 : o < 18446744073709551616) (n v : Int) :
    Calls Tryz.prog 82 #[.pointer (some ⟨hb, 0, none⟩), .int .u64 o, .int .i64 n, .int .u64 v] w fun e w' => e = .returned (.bool (slotO H o n).isSome) ∧ TwoK w0 w w' X hb (writeH H o n v) S vo vt ts := by
  obtain ⟨tgH, tgS, M, qs, h⟩ := h
  refine (write_any h.hp o o0 o1 n v).mono ?_
  rintro e w' ⟨rfl, q⟩
  exact ⟨rfl, h.heap ⟨_, q⟩⟩
/-! ## The document's -/
theorem rmake_e (h : TwoE w0 w X hb H S vo vt ts) (kind p : Int) (p0 : 0 ≤ p) (p1 : p < 18446744073709551616) :
    Calls Tryz.prog 25 #[stV vo vt, .int .i64 kind, .int .u64 p] w fun e w' => ∃ vo', e = .returned (.tuple #[stV vo' vt, .int .u64 (if noS S kind p = true then undW else objW (S.length : Int)), .bool (!noS S kind p)]) ∧ TwoK w0 w w' X hb H (makeG S kind p) vo' vt ts := by
  obtain ⟨tgH, tgS, M, qs, h⟩ := h
  refine (rmake_full h.st h.bel.size vt kind p p0 p1).mono ?_
  rintro e w' ⟨vo', rfl, q⟩
  exact ⟨vo', rfl, h.store q⟩
theorem rput_e (h : TwoE w0 w X hb H S vo vt ts) (hnl : ∀ x ∈ S, x.nm.length ≤ 1000000) (o : Int) (o0 : 0 ≤ o) (o1 : o < 18446744073709551616) (k : ByteArray) (d : De) :
    Calls Tryz.prog 26 #[stV vo vt, .int .u64 o, .string k, deV d] w fun e w' => e = .returned (stV vo vt) ∧ TwoK w0 w w' X hb H (putG S o k d) vo vt ts := by
  obtain ⟨tgH, tgS, M, qs, h⟩ := h
  refine (rput_full h.st vt hnl o o0 o1 k d).mono ?_
  rintro e w' ⟨rfl, q⟩
  exact ⟨rfl, h.store q⟩
theorem rdrop_e (h : TwoE w0 w X hb H S vo vt ts) (hnl : ∀ x ∈ S, x.nm.length ≤ 1000000) (o : Int) (o0 : 0 ≤ o) (o1 : o < 18446744073709551616) (k : ByteArray) :
    Calls Tryz.prog 28 #[stV vo vt, .int .u64 o, .string k] w fun e w' => e = .returned (.tuple #[stV vo vt, .bool (dropG S o k).2]) ∧ TwoK w0 w w' X hb H (dropG S o k).1 vo vt ts := by
  obtain ⟨tgH, tgS, M, qs, h⟩ := h
  refine (rdrop_full h.st vt hnl o o0 o1 k).mono ?_
  rintro e w' ⟨rfl, q⟩
  exact ⟨rfl, h.store q⟩
theorem rproto_e (h : TwoE w0 w X hb H S vo vt ts) (hpr : ∀ x ∈ S, 0 ≤ x.proto ∧ x.proto < 18446744073709551616) (o : Int) (o0 : 0 ≤ o) (o1 : o < 18446744073709551616) (p : Int) (p0 : 0 ≤ p) (p1 : p < 18446744073709551616) :
    Calls Tryz.prog 30 #[stV vo vt, .int .u64 o, .int .u64 p] w fun e w' => e = .returned (stV vo vt) ∧ TwoK w0 w w' X hb H (protoG S o p) vo vt ts := by
  obtain ⟨tgH, tgS, M, qs, h⟩ := h
  refine (rproto_full h.st vt hpr o o0 o1 p p0 p1).mono ?_
  rintro e w' ⟨rfl, q⟩
  exact ⟨rfl, h.store q⟩
theorem rsetElem_e (h : TwoE w0 w X hb H S vo vt ts) (hel : ∀ x ∈ S, x.el.length ≤ 4096) (o : Int) (o0 : 0 ≤ o) (o1 : o < 18446744073709551616) (n v : Int) :
    Calls Tryz.prog 33 #[stV vo vt, .int .u64 o, .int .i64 n, .int .u64 v] w fun e w' => e = .returned (.tuple #[stV vo vt, .bool (elemG S o n v).2]) ∧ TwoK w0 w w' X hb H (elemG S o n v).1 vo vt ts := by
  obtain ⟨tgH, tgS, M, qs, h⟩ := h
  refine (rsetElem_full h.st vt hel o o0 o1 n v).mono ?_
  rintro e w' ⟨rfl, q⟩
  exact ⟨rfl, h.store q⟩
theorem rsetLen_e (h : TwoE w0 w X hb H S vo vt ts) (o : Int) (o0 : 0 ≤ o) (o1 : o < 18446744073709551616) (n : Int) :
    Calls Tryz.prog 35 #[stV vo vt, .int .u64 o, .int .i64 n] w fun e w' => e = .returned (.tuple #[stV vo vt, .bool (lenG S o n).2]) ∧ TwoK w0 w w' X hb H (lenG S o n).1 vo vt ts := by
  obtain ⟨tgH, tgS, M, qs, h⟩ := h
  refine (rsetLen_full h.st vt o o0 o1 n).mono ?_
  rintro e w' ⟨rfl, q⟩
  exact ⟨rfl, h.store q⟩
theorem rshut_e (h : TwoE w0 w X hb H S vo vt ts) (o : Int) (o0 : 0 ≤ o) (o1 : o < 18446744073709551616) :
    Calls Tryz.prog 37 #[stV vo vt, .int .u64 o] w fun e w' => e = .returned (stV vo vt) ∧ TwoK w0 w w' X hb H (shutG S o) vo vt ts := by
  obtain ⟨tgH, tgS, M, qs, h⟩ := h
  refine (rshut_full h.st vt o o0 o1).mono ?_
  rintro e w' ⟨rfl, q⟩
  exact ⟨rfl, h.store q⟩
theorem rinner_e (h : TwoE w0 w X hb H S vo vt ts) (o : Int) (o0 : 0 ≤ o) (o1 : o < 18446744073709551616) {la : Option Addr} {lc : Nat} {xs : List Int} (hl : Sli.ok wC 1 w ⟨la, lc, xs⟩) (hx : xs.length ≤ 2000000) :
    Calls Tryz.prog 39 #[stV vo vt, .int .u64 o, .slice la xs.length lc] w fun e w' => e = .returned (stV vo vt) ∧ TwoK w0 w w' X hb H (innG S o xs) vo vt ts := by
  obtain ⟨tgH, tgS, M, qs, h⟩ := h
  refine (rinner_full h.st vt o o0 o1 hl hx).mono ?_
  rintro e w' ⟨rfl, q⟩
  exact ⟨rfl, h.store q⟩
theorem rtext_e (h : TwoE w0 w X hb H S vo vt ts) (k : ByteArray) (hl : ts.length ≤ 16384) :
    Calls Tryz.prog 41 #[stV vo vt, .string k] w fun e w' => ∃ vt', e = .returned (.tuple #[stV vo vt', .int .u64 (textG ts k).2.1, .bool (textG ts k).2.2]) ∧ TwoK w0 w w' X hb H S vo vt' (textG ts k).1 := by
  obtain ⟨tgH, tgS, M, qs, h⟩ := h
  refine (rtext_fullT (O := fun b => vt.val.ownBlock = some b) ⟨h.tx, fun b q => q⟩ vo k hl h.bel.size).mono ?_
  rintro e w' ⟨vt', rfl, q⟩
  exact ⟨vt', rfl, h.text q⟩
theorem rat_e (h : TwoE w0 w X hb H S vo vt ts) (o : Int) (o0 : 0 ≤ o) (o1 : o < 18446744073709551616) :
    Calls Tryz.prog 13 #[stV vo vt, .int .u64 o] w fun e w' => e = .returned (.int .i64 (atI S o)) ∧ TwoK w0 w w' X hb H S vo vt ts := by
  have h' := h
  obtain ⟨tgH, tgS, M, qs, h⟩ := h
  refine (rat_o h.st vt o o0 o1).mono ?_
  rintro e w' ⟨rfl, q⟩
  exact ⟨rfl, h'.same q⟩
end
end Go.Proofs.YtkpdpdllbnihgaaGreat.Hp
