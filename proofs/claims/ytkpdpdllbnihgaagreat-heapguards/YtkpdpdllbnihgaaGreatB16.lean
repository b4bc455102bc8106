/- LT, LJ, MA -/
import Derived.Test.YtkpdpdllbnihgaaGreatB15
import Derived.Test.YtkpdpdllbnihgaaGreatB1
import Derived.Test.YtkpdpdllbnihgaaGreatB8
set_option linter.unusedVariables false
set_option linter.unusedSimpArgs false
set_option maxRecDepth 100000
set_option maxHeartbeats 40000000
/- The document's Make, under Null. -/
namespace Go.Proofs.YtkpdpdllbnihgaaGreat.Hp
open Go.RowKit
theorem res4 {P : Program} {fn : Func} {p a c : Tmp} {ty : TypeId} (h : fn.results = #[.cell p ty, .tmp a, .tmp c]) (tmps : Array Value) (w : World) (g : Nat) (t : TypeId) (cs : Array Value) (fr : Nat × Nat) (d : TypeDesc)
    (hp : tmps.getD p undef = .pointer (some ⟨g, 0, none⟩)) (hg : w.heap[g]? = some (.cells cs t fr))
    (hu : P.underlying ty = some d) (hd : (match d with | .struct _ | .array _ _ => true | _ => false) = true) (hi : (P.info? ty).map (·.size) = some cs.size) :
    (results fn tmps).run P w = .ok (.tuple #[.agg cs, tmps.getD a undef, tmps.getD c undef]) w := by
  have hp' : tmps[p]?.getD undef = .pointer (some ⟨g, 0, none⟩) := by simpa using hp
  simp [results, h, hp', asAddr, run_loadVar_row w g t ty cs fr d hg hu hd hi]
def newS (kind proto : Int) : So := ⟨kind, proto, false, [], [], [], []⟩
section
variable {w W W' w5 : World} {B : Nat} {tg : Nat → Nat} {S : List So} {vo vt : SV} {qs : List QV}
theorem StAt.push (h : StAt w B tg S vo qs) {kind proto : Int} {vo' : SV} (ho : OwnR soC 7 45 B w5 vo'.val (S.zip qs ++ [(newS kind proto, QV.none)])) (hc : Chg (fun b => vo.val.ownBlock = some b) w w5) (hn : vo'.val.ownBlock = vo.val.ownBlock ∨ ∃ b, w.heap.size ≤ b ∧ vo'.val.ownBlock = some b) (hl : S.length < 65536) :
    SWent w B tg (S ++ [newS kind proto]) vo' w5 := by
  have hvt : ∀ b, vo.val.ownBlock = some b → tg b = 1 ∧ b < w.heap.size := fun b r => ⟨h.row.2 b r, (h.row.1.lt b r).2⟩
  have hcc : Chg (fun b => tg b ≠ 0) w w5 := hc.mono (fun b r => by have := (hvt b r).1; omega)
  refine ⟨fun b => if b < w.heap.size then tg b else if vo'.val.ownBlock = some b then 1 else 0, qs ++ [QV.none], ⟨?_, ?_, ?_, by simp [h.len], by simp; omega, ?_⟩, hcc, ?_⟩
  · have hz : (S ++ [newS kind proto]).zip (qs ++ [QV.none]) = S.zip qs ++ [(newS kind proto, QV.none)] := by
      rw [List.zip_append h.len.symm]
      rfl
    rw [hz]
    refine ⟨ho, fun b r => ?_⟩
    show (if b < w.heap.size then tg b else if vo'.val.ownBlock = some b then 1 else 0) = 1
    by_cases cb : b < w.heap.size
    · rw [if_pos cb]
      rcases hn with e | ⟨b', e1, e2⟩
      · exact (hvt b (by rw [← e]; exact r)).1
      · rw [e2] at r
        have := Option.some.inj r
        omega
    · rw [if_neg cb, if_pos r]
  · intro k y p c h1 h2 h3
    by_cases ck : k < S.length
    · rw [List.getElem?_append_left ck] at h1
      rw [List.getElem?_append_left (by rw [h.len]; exact ck)] at h2
      have k1 : SoP w B (fun b => tg b = 2 + 4 * k + c ∧ b < w.heap.size) y p c := SoP.mono c (h.ob k y p c h1 h2 h3) (fun b hb r => ⟨r, hb⟩)
      refine SoP.mono c (SoP.kept c k1 hc (fun b r s => by have := (hvt b s).1; have := r.1; omega)) (fun b _ r => ?_)
      show (if b < w.heap.size then tg b else if vo'.val.ownBlock = some b then 1 else 0) = _
      rw [if_pos r.2]
      exact r.1
    · have hk : k = S.length := by
        have := (List.getElem?_eq_some_iff.1 h1).1
        simp at this
        omega
      subst hk
      rw [List.getElem?_append_right (Nat.le_refl _)] at h1
      rw [List.getElem?_append_right (by rw [h.len]; exact Nat.le_refl _)] at h2
      simp at h1
      simp [h.len] at h2
      subst h1
      subst h2
      have nl : ∀ {β : Type} (enc : β → List Value) (k : Nat) (e : TypeId) (O : Nat → Prop), RowIn enc k e B w5 O SV.nil ([] : List β) := fun enc k e O => ⟨OwnR.nil _ _, fun b r => by simp [SV.nil, SV.val, Value.ownBlock] at r⟩
      rcases (show c = 0 ∨ c = 1 ∨ c = 2 ∨ c = 3 by omega) with rfl | rfl | rfl | rfl
      · exact nl _ _ _ _
      · exact nl _ _ _ _
      · exact nl _ _ _ _
      · exact nl _ _ _ _
  · intro b r
    have r : (if b < w.heap.size then tg b else if vo'.val.ownBlock = some b then 1 else 0) ≠ 0 := r
    by_cases cb : b < w.heap.size
    · rw [if_pos cb] at r
      have := h.lt b r
      have := hc.size
      omega
    · rw [if_neg cb] at r
      by_cases c2 : vo'.val.ownBlock = some b
      · exact ho.lt b c2
      · rw [if_neg c2] at r; exact absurd rfl r
  · intro y hy
    rcases List.mem_append.1 hy with r | r
    · exact h.same y r
    · rw [List.mem_singleton.1 r]; rfl
  · intro b r
    have r : (if b < w.heap.size then tg b else if vo'.val.ownBlock = some b then 1 else 0) ≠ 0 := r
    by_cases cb : b < w.heap.size
    · rw [if_pos cb] at r
      exact Or.inl r
    · exact Or.inr (by omega)
theorem boxSS (w : World) (vo vt : SV) : BxS ((w.alloc (.cells #[vo.val, vt.val] 28)).alloc (.cells #[.slice none 0 0, .slice none 0 0] 28)) w.heap.size vo vt ∧ BxS ((w.alloc (.cells #[vo.val, vt.val] 28)).alloc (.cells #[.slice none 0 0, .slice none 0 0] 28)) (w.heap.size + 1) .nil .nil ∧ Below w.heap.size w ((w.alloc (.cells #[vo.val, vt.val] 28)).alloc (.cells #[.slice none 0 0, .slice none 0 0] 28)) :=
  ⟨at_old _ _ _ _ (at_new _ _), at_two w _ _, B2 w _ _⟩
set_option maxRecDepth 100000 in
set_option maxHeartbeats 2000000 in
theorem rmake_null (h : StAt w B tg S vo qs) (hB : B ≤ w.heap.size) (vt : SV) (kind : Int) (k0 : 0 ≤ kind) (k6 : kind ≤ 6) (hl : S.length < 65536) :
    Calls Tryz.prog 25 #[stV vo vt, .int .i64 kind, .int .u64 18445336698825998337] w fun e w' => ∃ vo', e = .returned (.tuple #[stV vo' vt, .int .u64 (objW (S.length : Int)), .bool true]) ∧ SWent w B tg (S ++ [newS kind 18445336698825998337]) vo' w' := by
  obtain ⟨wb, hwb⟩ : ∃ wb, wb = (w.alloc (.cells #[vo.val, vt.val] 28)).alloc (.cells #[.slice none 0 0, .slice none 0 0] 28) := ⟨_, rfl⟩
  obtain ⟨hbs, hbr, hBw⟩ := boxSS w vo vt
  rw [← hwb] at hbs hbr hBw
  obtain ⟨ad, cap, hv, h1, h2⟩ := h.vol
  have hlz : (S.zip qs).length = S.length := by rw [List.length_zip, h.len]; omega
  have HAL : Hid (Below wb.heap.size wb (wb.alloc (.cells #[.int .i64 kind, .int .u64 18445336698825998337, .bool false, .slice none 0 0, .slice none 0 0, .slice none 0 0, .slice none 0 0] 45))) := (Below.refl _ _).alloc (Nat.le_refl _) _
  have hvv : vo.val = .slice ad S.length cap := by rw [hv]; rfl
  have hwal := hBw.trans (HAL.out.mono hBw.size)
  have HOWN : Hid (OwnR soC 7 45 B (wb.alloc (.cells #[.int .i64 kind, .int .u64 18445336698825998337, .bool false, .slice none 0 0, .slice none 0 0, .slice none 0 0, .slice none 0 0] 45)) (.slice ad S.length cap) (S.zip qs)) := by
    have := (h.below hwal).row.1
    rw [hvv] at this
    exact this
  have HONE : Hid (Sli.ok soC 7 (wb.alloc (.cells #[.int .i64 kind, .int .u64 18445336698825998337, .bool false, .slice none 0 0, .slice none 0 0, .slice none 0 0, .slice none 0 0] 45)) ⟨some ⟨wb.heap.size, 0, none⟩, 1, [(newS kind 18445336698825998337, QV.none)]⟩) := one_sli rtSo (at_new _ _) rfl
  have HBX : Hid ((((S.zip qs).length + 1) + ((S.zip qs).length + 1) / 4 + 192) * 120 ≤ 281474976710656 ∧ (S.zip qs).length + 1 ≤ maxLen) := by rw [hlz]; exact ⟨by omega, by unfold maxLen; omega⟩
  have HSZ : Hid (B ≤ (wb.alloc (.cells #[.int .i64 kind, .int .u64 18445336698825998337, .bool false, .slice none 0 0, .slice none 0 0, .slice none 0 0, .slice none 0 0] 45)).heap.size) := Nat.le_trans hB hwal.size
  have HPU : Hid (∀ (w5 : World) (g5 c5 : Nat), OwnR soC 7 45 B w5 (.slice (some ⟨g5, 0, none⟩) (S.length + 1) c5) (S.zip qs ++ [(newS kind 18445336698825998337, QV.none)]) → Chg (fun b => (Value.slice ad S.length cap).ownBlock = some b) wb w5 → ((Value.slice ad S.length cap).ownBlock = some g5 ∨ wb.heap.size ≤ g5) → (BxS w5 w.heap.size vo vt ∧ BxS w5 (w.heap.size + 1) .nil .nil) ∧ ∀ W'', Chg (fun b => b = w.heap.size ∨ b = w.heap.size + 1) w5 W'' → SWent w B tg (S ++ [newS kind 18445336698825998337]) ⟨some ⟨g5, 0, none⟩, S.length + 1, c5⟩ W'') := fun w5 g5 c5 q1 q2 q3 => by
    have hvb : ∀ b, w.heap.size ≤ b → ¬ (Value.slice ad S.length cap).ownBlock = some b := fun b hb r => by
      have := (h.row.1.lt b (by rw [hvv]; exact r)).2
      omega
    refine ⟨⟨hbs.kept q2 (hvb _ (Nat.le_refl _)), hbr.kept q2 (hvb _ (by omega))⟩, fun W'' q4 => ?_⟩
    have hg5 : g5 ≠ w.heap.size ∧ g5 ≠ w.heap.size + 1 := by
      rcases q3 with q | q
      · have := (h.row.1.lt g5 (by rw [hvv]; exact q)).2
        omega
      · have := hbr.lt
        omega
    have o1 := q1.kept q4 (fun b r s => by have r : g5 = b := (by simpa [Value.ownBlock] using r); omega)
    refine h.push o1 ?_ ?_ hl
    · have c1 : Chg (fun b => (Value.slice ad S.length cap).ownBlock = some b ∨ w.heap.size ≤ b) w W'' := (((Chg.of_below hBw).trans q2 (fun b _ r => Or.inl r)).trans q4 (fun b _ r => Or.inr (by omega)))
      exact ⟨c1.os, c1.tape, c1.output, c1.size, fun b hb hn => c1.block b hb (fun r => by rcases r with r | r; exact hn (by rw [hvv]; exact r); omega)⟩
    · rcases q3 with q | q
      · exact Or.inl (by rw [hvv, q]; rfl)
      · exact Or.inr ⟨g5, Nat.le_trans hBw.size q, rfl⟩
  have hsl : (S.length : Int) < 65536 := by omega
  obtain ⟨b0, b1⟩ := hbs.ce
  rw [hvv] at b0
  have hob : 18445055223849287680 + (S.length : Int) = objW (S.length : Int) := rfl
  have hw64 : IntKind.u64.wrap (18445055223849287680 + (S.length : Int)) = objW (S.length : Int) := by rw [IntKind.wrap_u64]; unfold objW; omega
  unfold stV
  rw [hvv] at hwb ⊢
  obtain ⟨ta, tl, tc⟩ := vt
  rw [show (SV.mk ta tl tc).val = .slice ta tl tc from rfl] at *
  generalize hsn : S.length = n at *
  clear h hB hBw hwal hv h1 h2 hl
  go_enter Tryz.func25, Tryz.ntmps25
  go_upto_region 1 with fail
  rw [← hwb]
  clear hwb
  have kk0 : decide (kind < 0) = false := decide_eq_false (by omega)
  have kk6 : decide (6 < kind) = false := decide_eq_false (by omega)
  have kkl : decide (65536 ≤ (n : Int)) = false := decide_eq_false (by omega)
  go_wp2_with (at_builtin; refine app_row rtSo rfl _ _ rfl B (.slice ad n cap) (S.zip qs) (by rfl) HOWN.out ⟨some ⟨wb.heap.size, 0, none⟩, 1, [(newS kind 18445336698825998337, QV.none)]⟩ (by rfl) HONE.out HBX.out.2 HBX.out.1 HSZ.out ?_)
  intro v5 w5 ho5 hg5 hl5
  have hll : (S.zip qs ++ [(newS kind 18445336698825998337, QV.none)]).length = n + 1 := by rw [List.length_append, hlz]; rfl
  have ho6 : w5.ownsRow B 45 7 v5 (n + 1) ((S.zip qs ++ [(newS kind 18445336698825998337, QV.none)]).flatMap soC) := by rw [← hll]; exact ho5
  obtain ⟨g5, c5, rfl, _, _⟩ := ho6.form (by omega)
  have hch : Chg (fun b => (Value.slice ad n cap).ownBlock = some b) wb w5 := (Chg.of_below HAL.out).trans (Chg.of_grown (S := fun b => (Value.slice ad n cap).ownBlock = some b) hg5 (fun k q => q)) (fun _ _ q => q)
  obtain ⟨⟨hb1, hb2⟩, hfin⟩ := HPU.out w5 g5 c5 ho5 hch (hl5.imp (fun q => by rw [← q]; rfl) (fun q => by
    have q : g5 = wb.heap.size + 1 := by simpa [Value.ownBlock] using q
    omega))
  obtain ⟨p0, p1⟩ := hb1.ce
  rw [hvv] at p0
  rw [show (SV.mk ta tl tc).val = .slice ta tl tc from rfl] at p1
  obtain ⟨pf0, pf1⟩ := hb1.fz
  have hs1 := heap_setCell_same _ w.heap.size 0 _ _ (.slice (some ⟨g5, 0, none⟩) (n + 1) c5) hb1
  have hc6 : Chg (fun b => b = w.heap.size) w5 (w5.setCell ⟨w.heap.size, 0, none⟩ (.slice (some ⟨g5, 0, none⟩) (n + 1) c5)) := Chg.set (S := fun b => b = w.heap.size) w5 ⟨w.heap.size, 0, none⟩ _ rfl
  have hb3 := hb2.kept hc6 (by omega)
  have HFI := (show Hid _ from hfin)
  have HC6 := (show Hid _ from hc6)
  clear ho5 ho6 hg5 hl5 hch HPU HAL HOWN HONE HBX HSZ hb1 hb2 hfin hc6
  go_upto_region 4 with fail
  generalize (w5.setCell ⟨w.heap.size, 0, none⟩ (.slice (some ⟨g5, 0, none⟩) (n + 1) c5)) = w6 at *
  have m0 : w6.cell? ⟨w.heap.size, 0, none⟩ = some (.slice (some ⟨g5, 0, none⟩) (n + 1) c5) := cell_of_row w6 w.heap.size 0 _ _ (0, 0) hs1
  have m1 : w6.cell? ⟨w.heap.size, 1, none⟩ = some (.slice ta tl tc) := cell_of_row w6 w.heap.size 1 _ _ (0, 0) hs1
  obtain ⟨r0, r1⟩ := hb3.ce
  obtain ⟨rf0, rf1⟩ := hb3.fz
  have z0 := heap_setCell_same _ (w.heap.size + 1) 0 _ _ (.slice (some ⟨g5, 0, none⟩) (n + 1) c5) hb3
  have z1 := heap_setCell_same _ (w.heap.size + 1) 1 _ _ (.slice ta tl tc) z0
  have HZ := (show Hid _ from z1)
  have hsub : IntKind.i64.wrap (((n + 1 : Nat) : Int) - 1) = (n : Int) := by rw [IntKind.wrap_i64]; omega
  have hcv : IntKind.u64.wrap (n : Int) = (n : Int) := by rw [IntKind.wrap_u64]; omega
  clear p0 p1 pf0 pf1 hs1 hb3 z0 z1 b0 b1 hbs hbr
  go_region
  all_goals
    go_wp2_with fail
    refine bodyPost_ret (res4 rfl _ _ (w.heap.size + 1) 28 _ (0, 0) _ rfl HZ.out Tryz.underlying28 rfl (by kernel_rfl)) rfl ?_
    refine ⟨⟨some ⟨g5, 0, none⟩, n + 1, c5⟩, rfl, HFI.out _ ?_⟩
    exact (((HC6.out.mono (fun b r => Or.inl r)).trans (Chg.set (S := fun b => b = w.heap.size ∨ b = w.heap.size + 1) w6 ⟨w.heap.size + 1, 0, none⟩ _ (Or.inr rfl)) (fun _ _ q => q)).trans (Chg.set (S := fun b => b = w.heap.size ∨ b = w.heap.size + 1) _ ⟨w.heap.size + 1, 1, none⟩ _ (Or.inr rfl)) (fun _ _ q => q)).drew
end
end Go.Proofs.YtkpdpdllbnihgaaGreat.Hp
/- On the way of a Put of the document: an object's rows. -/
namespace Go.Proofs.YtkpdpdllbnihgaaGreat.Hp
open Go.RowKit
/-- an object's rows are being laid anew; N: the tags of new blocks -/
structure PuS (w W : World) (B : Nat) (tg : Nat → Nat) (i : Nat) (N : Nat → Nat) (y : So × QV) : Prop where
  chg : Chg (fun b => ∃ c, c < 4 ∧ tg b = 2 + 4 * i + c) w W
  rows : ∀ c, c < 4 → SoP W B (fun b => ntg tg N w.heap.size b = 2 + 4 * i + c) y.1 y.2 c
  new : ∀ b, N b ≠ 0 → w.heap.size ≤ b ∧ b < W.heap.size ∧ ∃ c, c < 4 ∧ N b = 2 + 4 * i + c
section
variable {w W W' : World} {B : Nat} {tg : Nat → Nat} {S : List So} {vo vt : SV} {qs : List QV} {i : Nat} {N : Nat → Nat} {y : So × QV} {x : So} {q : QV}
theorem StAt.pus (h : StAt w B tg S vo qs) (hi : S[i]? = some x) (hq : qs[i]? = some q) : PuS w w B tg i (fun _ => 0) (x, q) := by
  refine ⟨Chg.refl _ _, fun c hc => SoP.mono c (h.ob i x q c hi hq hc) (fun b hb r => ?_), fun b r => absurd rfl r⟩
  show ntg tg _ w.heap.size b = _
  unfold ntg
  rw [if_pos hb]
  exact r
/-- blocks that are none of its own are written, or laid -/
theorem PuS.own {T : Nat → Prop} (h : PuS w W B tg i N y) (hc : Chg T W W') (hT : ∀ b, b < W.heap.size → T b → w.heap.size ≤ b ∧ N b = 0) : PuS w W' B tg i N y := by
  refine ⟨h.chg.trans hc (fun b hb r => ?_), fun c hc4 => ?_, fun b r => ?_⟩
  · have := hT b (Nat.lt_of_lt_of_le hb h.chg.size) r
    omega
  · have k1 : SoP W B (fun b => ntg tg N w.heap.size b = 2 + 4 * i + c ∧ b < W.heap.size) y.1 y.2 c := SoP.mono c (h.rows c hc4) (fun b hb r => ⟨r, hb⟩)
    refine SoP.mono c (SoP.kept c k1 hc (fun b r s => ?_)) (fun b _ r => r.1)
    have h1 := hT b r.2 s
    have h2 := r.1
    unfold ntg at h2
    rw [if_neg (by omega)] at h2
    omega
  · have h1 := h.new b r
    have h2 := hc.size
    exact ⟨h1.1, by omega, h1.2.2⟩
theorem PuS.below (h : PuS w W B tg i N y) (hb : Below W.heap.size W W') : PuS w W' B tg i N y := h.own (T := fun _ => False) (Chg.of_below hb) (fun _ _ r => r.elim)
/-- the tags, where a row of the part c was laid anew -/
def nuN (w : World) (N : Nat → Nat) (v : Value) (t : Nat) (b : Nat) : Nat := if v.ownBlock = some b ∧ w.heap.size ≤ b then t else N b
/-- its c-th row is another one now -/
theorem PuS.row (h : PuS w W B tg i N y) {c0 : Nat} (hc0 : c0 < 4) {v v' : Value} (hv : ∀ b, v.ownBlock = some b → ntg tg N w.heap.size b = 2 + 4 * i + c0) (hc : Chg (fun b => v.ownBlock = some b) W W') (hn : v'.ownBlock = v.ownBlock ∨ ∃ b, W.heap.size ≤ b ∧ b < W'.heap.size ∧ v'.ownBlock = some b)
    (y' : So × QV) (hrow : ∀ O : Nat → Prop, (∀ b, v'.ownBlock = some b → O b) → SoP W' B O y'.1 y'.2 c0)
    (hsame : ∀ c (O : Nat → Prop), c < 4 → c ≠ c0 → SoP W' B O y.1 y.2 c → SoP W' B O y'.1 y'.2 c) : PuS w W' B tg i (nuN w N v' (2 + 4 * i + c0)) y' := by
  have hvl : ∀ b, v.ownBlock = some b → b < w.heap.size ∧ tg b = 2 + 4 * i + c0 ∨ w.heap.size ≤ b ∧ N b = 2 + 4 * i + c0 := fun b r => by
    have h1 := hv b r
    unfold ntg at h1
    by_cases cb : b < w.heap.size
    · rw [if_pos cb] at h1; exact Or.inl ⟨cb, h1⟩
    · rw [if_neg cb] at h1; exact Or.inr ⟨by omega, h1⟩
  refine ⟨h.chg.trans hc (fun b hb r => ?_), fun c hc4 => ?_, fun b r => ?_⟩
  · rcases hvl b r with q | q
    · exact ⟨c0, hc0, q.2⟩
    · omega
  · by_cases cc : c = c0
    · subst cc
      refine hrow _ (fun b r => ?_)
      show ntg tg _ w.heap.size b = _
      unfold ntg nuN
      by_cases cb : b < w.heap.size
      · rw [if_pos cb]
        rcases hn with e | ⟨b', e1, e2, e3⟩
        · rcases hvl b (by rw [← e]; exact r) with q | q
          · exact q.2
          · omega
        · rw [e3] at r
          have := Option.some.inj r
          have := h.chg.size
          omega
      · rw [if_neg cb, if_pos ⟨r, by omega⟩]
    · have k1 : SoP W B (fun b => ntg tg N w.heap.size b = 2 + 4 * i + c ∧ b < W.heap.size) y.1 y.2 c := SoP.mono c (h.rows c hc4) (fun b hb r => ⟨r, hb⟩)
      have k2 : SoP W' B (fun b => ntg tg N w.heap.size b = 2 + 4 * i + c ∧ b < W.heap.size) y.1 y.2 c := SoP.kept c k1 hc (fun b r s => by
        have h1 := hv b s
        have h2 := r.1
        omega)
      refine hsame c _ hc4 cc (SoP.mono c k2 (fun b _ r => ?_))
      obtain ⟨r, hb⟩ := r
      show ntg tg _ w.heap.size b = _
      unfold ntg at r ⊢
      by_cases cb : b < w.heap.size
      · rw [if_pos cb] at r ⊢; exact r
      · rw [if_neg cb] at r ⊢
        unfold nuN
        rw [if_neg]
        · exact r
        · rintro ⟨e, _⟩
          rcases hn with e' | ⟨b', e1, e2, e3⟩
          · have := hv b (by rw [← e']; exact e)
            unfold ntg at this
            rw [if_neg cb] at this
            omega
          · rw [e3] at e
            have := Option.some.inj e
            omega
  · unfold nuN at r
    by_cases cb : v'.ownBlock = some b ∧ w.heap.size ≤ b
    · refine ⟨cb.2, ?_, c0, hc0, by unfold nuN; rw [if_pos cb]⟩
      rcases hn with e | ⟨b', e1, e2, e3⟩
      · rcases hvl b (by rw [← e]; exact cb.1) with q | q
        · omega
        · have h1 := h.new b (by omega)
          have := hc.size
          omega
      · have h1 := cb.1
        rw [e3] at h1
        have := Option.some.inj h1
        omega
    · rw [if_neg cb] at r
      have h1 := h.new b r
      have h2 := hc.size
      refine ⟨h1.1, by omega, ?_⟩
      unfold nuN
      rw [if_neg cb]
      exact h1.2.2
end
end Go.Proofs.YtkpdpdllbnihgaaGreat.Hp
/- The document's words: its Tag of any word; Right answers something; IsTag. -/
namespace Go.Proofs.YtkpdpdllbnihgaaGreat.Hp
open Go.RowKit
theorem two_fun {α β : Type} {R : World → α → β → Prop} (h : ∀ w, ∃ a b, R w a b) : ∃ (F : World → α) (D : World → β), ∀ w, R w (F w) (D w) := ⟨fun w => (h w).choose, fun w => (h w).choose_spec.choose, fun w => (h w).choose_spec.choose_spec⟩
theorem arch_some (way : Ieee.Toward) (name : String) (x : Nat) (w : World) : ∃ n w', (Extern.MathFloor.toIntegral name way #[.float .f64 x]).run Tryz.prog w = .ok (.float .f64 n) w' ∧ Below w.heap.size w w' := by
  cases hd : FloatKind.f64.decode x with
  | nan s t =>
    by_cases q : FloatKind.f64.format.quiet t = t
    · have h : ∃ n, (Extern.MathFloor.toIntegral name way #[.float .f64 x]).run Tryz.prog w = .ok (.float .f64 n) w := by
        unfold Extern.MathFloor.toIntegral
        conv => enter [1, k]; lhs; arg 2; whnf
        simp only [hd]
        rw [if_pos q]
        exact ⟨_, rfl⟩
      exact ⟨h.choose, w, h.choose_spec, Below.refl _ _⟩
    · have h : ∃ n, (Extern.MathFloor.toIntegral name way #[.float .f64 x]).run Tryz.prog w = .ok (.float .f64 n) w.drew := by
        unfold Extern.MathFloor.toIntegral
        conv => enter [1, k]; lhs; arg 2; whnf
        simp only [hd]
        rw [if_neg q]
        exact ⟨_, rfl⟩
      exact ⟨h.choose, w.drew, h.choose_spec, (Below.refl _ _).drew⟩
  | _ =>
    have h : ∃ n, (Extern.MathFloor.toIntegral name way #[.float .f64 x]).run Tryz.prog w = .ok (.float .f64 n) w := by
      unfold Extern.MathFloor.toIntegral
      conv => enter [1, k]; lhs; arg 2; whnf
      simp only [hd]
      exact ⟨_, rfl⟩
    exact ⟨h.choose, w, h.choose_spec, Below.refl _ _⟩
set_option maxHeartbeats 400000 in
theorem floor_some (x : Nat) (w : World) : Calls Tryz.prog 112 #[.float .f64 x] w fun e w' => ∃ n, e = .returned (.float .f64 n) ∧ Below w.heap.size w w' := by
  obtain ⟨F, D, h⟩ := two_fun (R := fun w n w' => (Extern.MathFloor.toIntegral "math.archFloor" .down #[.float .f64 x]).run Tryz.prog w = .ok (.float .f64 n) w' ∧ Below w.heap.size w w') (arch_some .down "math.archFloor" x)
  have hx : ∀ w, (callFunc 115 #[.float .f64 x]).run Tryz.prog w = .ok (.value (.float .f64 (F w))) (D w) := fun w => by
    rw [run_callFunc_extern (e := Extern.MathFloor.toIntegral "math.archFloor" .down) Tryz.func115 (by kernel_rfl) (by kernel_rfl) (by kernel_rfl) (by kernel_rfl)]
    rw [(h w).1]
    rfl
  have HB : Hid (∀ w, Below w.heap.size w (D w)) := fun w => (h w).2
  clear h
  go_enter Tryz.func112, Tryz.ntmps112
  go_wp2
  go_ret
  exact ⟨_, rfl, HB.out _⟩
theorem conv_some (x : Nat) (w : World) : ∃ n w', (convert 164 21 (.float .f64 x)).run Tryz.prog w = .ok (.int .i32 n) w' ∧ Below w.heap.size w w' := by
  have e : (convert 164 21 (.float .f64 x)).run Tryz.prog w = (Conv.floatToInt .f64 x .i32).run Tryz.prog w := by
    unfold convert
    simp
  rw [e]
  unfold Conv.floatToInt
  simp only
  cases (FloatKind.f64.decode x).toInt .zero with
  | none => exact ⟨_, _, rfl, (Below.refl _ _).drew⟩
  | some n =>
    simp only
    split
    · exact ⟨_, _, rfl, Below.refl _ _⟩
    · exact ⟨_, _, rfl, (Below.refl _ _).drew⟩
theorem frombits_run (a : Int) (w : World) : (callFunc 110 #[.int .u64 a]).run Tryz.prog w = .ok (.value (.float .f64 a.toNat)) w := by
  rw [run_callFunc_extern (e := Extern.MathFloatBits.float64frombits) Tryz.func110 (by kernel_rfl) (by kernel_rfl) (by kernel_rfl) (by kernel_rfl)]
  rfl
theorem tobits_run (n : Nat) (w : World) : (callFunc 114 #[.float .f64 n]).run Tryz.prog w = .ok (.value (.int .u64 n)) w := by
  rw [run_callFunc_extern (e := Extern.MathFloatBits.float64bits) Tryz.func114 (by kernel_rfl) (by kernel_rfl) (by kernel_rfl) (by kernel_rfl)]
  rfl
set_option maxHeartbeats 400000 in
theorem signbit_some (n : Nat) (w : World) : Calls Tryz.prog 113 #[.float .f64 n] w fun e w' => ∃ b, e = .returned (.bool b) ∧ w' = w := by
  have hx := tobits_run
  go_enter Tryz.func113, Tryz.ntmps113
  go_wp2
  go_ret
  exact ⟨_, rfl, rfl⟩
end Go.Proofs.YtkpdpdllbnihgaaGreat.Hp
