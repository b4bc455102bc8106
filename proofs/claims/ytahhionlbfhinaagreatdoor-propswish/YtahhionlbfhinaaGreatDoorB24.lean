/- The document's Make, under Null. -/
import Derived.Test.YtahhionlbfhinaaGreatDoorB16
import Derived.Test.YtahhionlbfhinaaGreatDoorKI
namespace Go.Proofs.YtahhionlbfhinaaGreatDoor.Hp
open Go.RowKit
set_option linter.unusedVariables false

theorem res4 {P : Program} {fn : Func} {p a c : Tmp} {ty : TypeId} (h : fn.results = #[.cell p ty, .tmp a, .tmp c]) (tmps : Array Value) (w : World) (g : Nat) (t : TypeId) (cs : Array Value) (fr : Nat × Nat) (d : TypeDesc)
    (hp : tmps.getD p undef = .pointer (some ⟨g, 0, none⟩)) (hg : w.heap[g]? = some (.cells cs t fr))
    (hu : P.underlying ty = some d) (hd : (match d with | .struct _ | .array _ _ => true | _ => false) = true) (hi : (P.info? ty).map (·.size) = some cs.size) :
    (results fn tmps).run P w = .ok (.tuple #[.agg cs, tmps.getD a undef, tmps.getD c undef]) w := by
  have hp' : tmps[p]?.getD undef = .pointer (some ⟨g, 0, none⟩) := by simpa using hp
  simp [results, h, hp', asAddr, run_loadVar_row w g t ty cs fr d hg hu hd hi]

def newS (kind proto : Int) : So := ⟨kind, proto, false, [], [], [], []⟩

section
variable {w W W' w5 : World} {B : Nat} {tg : Nat → Nat} {S : List So} {vo vt : SV} {qs : List QV}

theorem StAt.push (h : StAt w B tg S vo qs) {kind proto : Int} {vo' : SV} (ho : OwnR soC 7 104 B w5 vo'.val (S.zip qs ++ [(newS kind proto, QV.none)])) (hc : Chg (fun b => vo.val.ownBlock = some b) w w5) (hn : vo'.val.ownBlock = vo.val.ownBlock ∨ ∃ b, w.heap.size ≤ b ∧ vo'.val.ownBlock = some b) (hl : S.length < 65536) :
    SWent w B tg (S ++ [newS kind proto]) vo' w5 := by
  have hvt : ∀ b, vo.val.ownBlock = some b → tg b = 1 ∧ b < w.heap.size := fun b r => ⟨h.row.2 b r, (h.row.1.lt b r).2⟩
  have hcc : Chg (fun b => tg b ≠ 0) w w5 := hc.mono (fun b r => by have := (hvt b r).1; omega)
  refine ⟨fun b => if b < w.heap.size then tg b else if vo'.val.ownBlock = some b then 1 else 0, qs ++ [QV.none], ⟨?_, ?_, ?_, by simp [h.len], by simp; omega, ?_⟩, hcc, ?_⟩
  · have hz : (S ++ [newS kind proto]).zip (qs ++ [QV.none]) = S.zip qs ++ [(newS kind proto, QV.none)] := by
      rw [List.zip_append h.len.symm]
      rfl
    rw [hz]
    refine ⟨ho, fun b r => ?_⟩
    show (if b < w.heap.size then tg b else if vo'.val.ownBlock = some b then 1 else 0) = 1
    by_cases cb : b < w.heap.size
    · rw [if_pos cb]
      rcases hn with e | ⟨b', e1, e2⟩
      · exact (hvt b (by rw [← e]; exact r)).1
      · rw [e2] at r
        have := Option.some.inj r
        omega
    · rw [if_neg cb, if_pos r]
  · intro k y p c h1 h2 h3
    by_cases ck : k < S.length
    · rw [List.getElem?_append_left ck] at h1
      rw [List.getElem?_append_left (by rw [h.len]; exact ck)] at h2
      have k1 : SoP w B (fun b => tg b = 2 + 4 * k + c ∧ b < w.heap.size) y p c := SoP.mono c (h.ob k y p c h1 h2 h3) (fun b hb r => ⟨r, hb⟩)
      refine SoP.mono c (SoP.kept c k1 hc (fun b r s => by have := (hvt b s).1; have := r.1; omega)) (fun b _ r => ?_)
      show (if b < w.heap.size then tg b else if vo'.val.ownBlock = some b then 1 else 0) = _
      rw [if_pos r.2]
      exact r.1
    · have hk : k = S.length := by
        have := (List.getElem?_eq_some_iff.1 h1).1
        simp at this
        omega
      subst hk
      rw [List.getElem?_append_right (Nat.le_refl _)] at h1
      rw [List.getElem?_append_right (by rw [h.len]; exact Nat.le_refl _)] at h2
      simp at h1
      simp [h.len] at h2
      subst h1
      subst h2
      have nl : ∀ {β : Type} (enc : β → List Value) (k : Nat) (e : TypeId) (O : Nat → Prop), RowIn enc k e B w5 O SV.nil ([] : List β) := fun enc k e O => ⟨OwnR.nil _ _, fun b r => by simp [SV.nil, SV.val, Value.ownBlock] at r⟩
      rcases (show c = 0 ∨ c = 1 ∨ c = 2 ∨ c = 3 by omega) with rfl | rfl | rfl | rfl
      · exact nl _ _ _ _
      · exact nl _ _ _ _
      · exact nl _ _ _ _
      · exact nl _ _ _ _
  · intro b r
    have r : (if b < w.heap.size then tg b else if vo'.val.ownBlock = some b then 1 else 0) ≠ 0 := r
    by_cases cb : b < w.heap.size
    · rw [if_pos cb] at r
      have := h.lt b r
      have := hc.size
      omega
    · rw [if_neg cb] at r
      by_cases c2 : vo'.val.ownBlock = some b
      · exact ho.lt b c2
      · rw [if_neg c2] at r; exact absurd rfl r
  · intro y hy
    rcases List.mem_append.1 hy with r | r
    · exact h.same y r
    · rw [List.mem_singleton.1 r]; rfl
  · intro b r
    have r : (if b < w.heap.size then tg b else if vo'.val.ownBlock = some b then 1 else 0) ≠ 0 := r
    by_cases cb : b < w.heap.size
    · rw [if_pos cb] at r
      exact Or.inl r
    · exact Or.inr (by omega)

theorem boxSS (w : World) (vo vt : SV) : BxS ((w.alloc (.cells #[vo.val, vt.val] 28)).alloc (.cells #[.slice none 0 0, .slice none 0 0] 28)) w.heap.size vo vt ∧ BxS ((w.alloc (.cells #[vo.val, vt.val] 28)).alloc (.cells #[.slice none 0 0, .slice none 0 0] 28)) (w.heap.size + 1) .nil .nil ∧ Below w.heap.size w ((w.alloc (.cells #[vo.val, vt.val] 28)).alloc (.cells #[.slice none 0 0, .slice none 0 0] 28)) :=
  ⟨at_old _ _ _ _ (at_new _ _), at_two w _ _, B2 w _ _⟩

set_option maxRecDepth 100000 in
set_option maxHeartbeats 2000000 in
theorem rmake_null (h : StAt w B tg S vo qs) (hB : B ≤ w.heap.size) (vt : SV) (kind : Int) (k0 : 0 ≤ kind) (k6 : kind ≤ 6) (hl : S.length < 65536) :
    Calls Tryz.prog 13 #[stV vo vt, .int .i64 kind, .int .u64 18445336698825998337] w fun e w' => ∃ vo', e = .returned (.tuple #[stV vo' vt, .int .u64 (objW (S.length : Int)), .bool true]) ∧ SWent w B tg (S ++ [newS kind 18445336698825998337]) vo' w' := by
  obtain ⟨wb, hwb⟩ : ∃ wb, wb = (w.alloc (.cells #[vo.val, vt.val] 28)).alloc (.cells #[.slice none 0 0, .slice none 0 0] 28) := ⟨_, rfl⟩
  obtain ⟨hbs, hbr, hBw⟩ := boxSS w vo vt
  rw [← hwb] at hbs hbr hBw
  obtain ⟨ad, cap, hv, h1, h2⟩ := h.vol
  have hlz : (S.zip qs).length = S.length := by rw [List.length_zip, h.len]; omega
  have HAL : Hid (Below wb.heap.size wb (wb.alloc (.cells #[.int .i64 kind, .int .u64 18445336698825998337, .bool false, .slice none 0 0, .slice none 0 0, .slice none 0 0, .slice none 0 0] 104))) := (Below.refl _ _).alloc (Nat.le_refl _) _
  have hvv : vo.val = .slice ad S.length cap := by rw [hv]; rfl
  have hwal := hBw.trans (HAL.out.mono hBw.size)
  have HOWN : Hid (OwnR soC 7 104 B (wb.alloc (.cells #[.int .i64 kind, .int .u64 18445336698825998337, .bool false, .slice none 0 0, .slice none 0 0, .slice none 0 0, .slice none 0 0] 104)) (.slice ad S.length cap) (S.zip qs)) := by
    have := (h.below hwal).row.1
    rw [hvv] at this
    exact this
  have HONE : Hid (Sli.ok soC 7 (wb.alloc (.cells #[.int .i64 kind, .int .u64 18445336698825998337, .bool false, .slice none 0 0, .slice none 0 0, .slice none 0 0, .slice none 0 0] 104)) ⟨some ⟨wb.heap.size, 0, none⟩, 1, [(newS kind 18445336698825998337, QV.none)]⟩) := one_sli rtSo (at_new _ _) rfl
  have HBX : Hid ((((S.zip qs).length + 1) + ((S.zip qs).length + 1) / 4 + 192) * 120 ≤ 281474976710656 ∧ (S.zip qs).length + 1 ≤ maxLen) := by rw [hlz]; exact ⟨by omega, by unfold maxLen; omega⟩
  have HSZ : Hid (B ≤ (wb.alloc (.cells #[.int .i64 kind, .int .u64 18445336698825998337, .bool false, .slice none 0 0, .slice none 0 0, .slice none 0 0, .slice none 0 0] 104)).heap.size) := Nat.le_trans hB hwal.size
  have HPU : Hid (∀ (w5 : World) (g5 c5 : Nat), OwnR soC 7 104 B w5 (.slice (some ⟨g5, 0, none⟩) (S.length + 1) c5) (S.zip qs ++ [(newS kind 18445336698825998337, QV.none)]) → Chg (fun b => (Value.slice ad S.length cap).ownBlock = some b) wb w5 → ((Value.slice ad S.length cap).ownBlock = some g5 ∨ wb.heap.size ≤ g5) → (BxS w5 w.heap.size vo vt ∧ BxS w5 (w.heap.size + 1) .nil .nil) ∧ ∀ W'', Chg (fun b => b = w.heap.size ∨ b = w.heap.size + 1) w5 W'' → SWent w B tg (S ++ [newS kind 18445336698825998337]) ⟨some ⟨g5, 0, none⟩, S.length + 1, c5⟩ W'') := fun w5 g5 c5 q1 q2 q3 => by
    have hvb : ∀ b, w.heap.size ≤ b → ¬ (Value.slice ad S.length cap).ownBlock = some b := fun b hb r => by
      have := (h.row.1.lt b (by rw [hvv]; exact r)).2
      omega
    refine ⟨⟨hbs.kept q2 (hvb _ (Nat.le_refl _)), hbr.kept q2 (hvb _ (by omega))⟩, fun W'' q4 => ?_⟩
    have hg5 : g5 ≠ w.heap.size ∧ g5 ≠ w.heap.size + 1 := by
      rcases q3 with q | q
      · have := (h.row.1.lt g5 (by rw [hvv]; exact q)).2
        omega
      · have := hbr.lt
        omega
    have o1 := q1.kept q4 (fun b r s => by have r : g5 = b := (by simpa [Value.ownBlock] using r); omega)
    refine h.push o1 ?_ ?_ hl
    · have c1 : Chg (fun b => (Value.slice ad S.length cap).ownBlock = some b ∨ w.heap.size ≤ b) w W'' := (((Chg.of_below hBw).trans q2 (fun b _ r => Or.inl r)).trans q4 (fun b _ r => Or.inr (by omega)))
      exact ⟨c1.os, c1.tape, c1.output, c1.size, fun b hb hn => c1.block b hb (fun r => by rcases r with r | r; exact hn (by rw [hvv]; exact r); omega)⟩
    · rcases q3 with q | q
      · exact Or.inl (by rw [hvv, q]; rfl)
      · exact Or.inr ⟨g5, Nat.le_trans hBw.size q, rfl⟩
  have hsl : (S.length : Int) < 65536 := by omega
  obtain ⟨b0, b1⟩ := hbs.ce
  rw [hvv] at b0
  have hob : 18445055223849287680 + (S.length : Int) = objW (S.length : Int) := rfl
  have hw64 : IntKind.u64.wrap (18445055223849287680 + (S.length : Int)) = objW (S.length : Int) := by rw [IntKind.wrap_u64]; unfold objW; omega
  unfold stV
  rw [hvv] at hwb ⊢
  obtain ⟨ta, tl, tc⟩ := vt
  rw [show (SV.mk ta tl tc).val = .slice ta tl tc from rfl] at *
  generalize hsn : S.length = n at *
  clear h hB hBw hwal hv h1 h2 hl
  go_enter Tryz.func13, Tryz.ntmps13
  go_upto_region 1 with fail
  rw [← hwb]
  clear hwb
  have kk0 : decide (kind < 0) = false := decide_eq_false (by omega)
  have kk6 : decide (6 < kind) = false := decide_eq_false (by omega)
  have kkl : decide (65536 ≤ (n : Int)) = false := decide_eq_false (by omega)
  go_wp2_with (at_builtin; refine app_row rtSo rfl _ _ rfl B (.slice ad n cap) (S.zip qs) (by rfl) HOWN.out ⟨some ⟨wb.heap.size, 0, none⟩, 1, [(newS kind 18445336698825998337, QV.none)]⟩ (by rfl) HONE.out HBX.out.2 HBX.out.1 HSZ.out ?_)
  intro v5 w5 ho5 hg5 hl5
  have hll : (S.zip qs ++ [(newS kind 18445336698825998337, QV.none)]).length = n + 1 := by rw [List.length_append, hlz]; rfl
  have ho6 : w5.ownsRow B 104 7 v5 (n + 1) ((S.zip qs ++ [(newS kind 18445336698825998337, QV.none)]).flatMap soC) := by rw [← hll]; exact ho5
  obtain ⟨g5, c5, rfl, _, _⟩ := ho6.form (by omega)
  have hch : Chg (fun b => (Value.slice ad n cap).ownBlock = some b) wb w5 := (Chg.of_below HAL.out).trans (Chg.of_grown (S := fun b => (Value.slice ad n cap).ownBlock = some b) hg5 (fun k q => q)) (fun _ _ q => q)
  obtain ⟨⟨hb1, hb2⟩, hfin⟩ := HPU.out w5 g5 c5 ho5 hch (hl5.imp (fun q => by rw [← q]; rfl) (fun q => by
    have q : g5 = wb.heap.size + 1 := by simpa [Value.ownBlock] using q
    omega))
  obtain ⟨p0, p1⟩ := hb1.ce
  rw [hvv] at p0
  rw [show (SV.mk ta tl tc).val = .slice ta tl tc from rfl] at p1
  obtain ⟨pf0, pf1⟩ := hb1.fz
  have hs1 := heap_setCell_same _ w.heap.size 0 _ _ (.slice (some ⟨g5, 0, none⟩) (n + 1) c5) hb1
  have hc6 : Chg (fun b => b = w.heap.size) w5 (w5.setCell ⟨w.heap.size, 0, none⟩ (.slice (some ⟨g5, 0, none⟩) (n + 1) c5)) := Chg.set (S := fun b => b = w.heap.size) w5 ⟨w.heap.size, 0, none⟩ _ rfl
  have hb3 := hb2.kept hc6 (by omega)
  have HFI := (show Hid _ from hfin)
  have HC6 := (show Hid _ from hc6)
  clear ho5 ho6 hg5 hl5 hch HPU HAL HOWN HONE HBX HSZ hb1 hb2 hfin hc6
  go_upto_region 4 with fail
  generalize (w5.setCell ⟨w.heap.size, 0, none⟩ (.slice (some ⟨g5, 0, none⟩) (n + 1) c5)) = w6 at *
  have m0 : w6.cell? ⟨w.heap.size, 0, none⟩ = some (.slice (some ⟨g5, 0, none⟩) (n + 1) c5) := cell_of_row w6 w.heap.size 0 _ _ (0, 0) hs1
  have m1 : w6.cell? ⟨w.heap.size, 1, none⟩ = some (.slice ta tl tc) := cell_of_row w6 w.heap.size 1 _ _ (0, 0) hs1
  obtain ⟨r0, r1⟩ := hb3.ce
  obtain ⟨rf0, rf1⟩ := hb3.fz
  have z0 := heap_setCell_same _ (w.heap.size + 1) 0 _ _ (.slice (some ⟨g5, 0, none⟩) (n + 1) c5) hb3
  have z1 := heap_setCell_same _ (w.heap.size + 1) 1 _ _ (.slice ta tl tc) z0
  have HZ := (show Hid _ from z1)
  have hsub : IntKind.i64.wrap (((n + 1 : Nat) : Int) - 1) = (n : Int) := by rw [IntKind.wrap_i64]; omega
  have hcv : IntKind.u64.wrap (n : Int) = (n : Int) := by rw [IntKind.wrap_u64]; omega
  clear p0 p1 pf0 pf1 hs1 hb3 z0 z1 b0 b1 hbs hbr
  go_region
  all_goals
    go_wp2_with fail
    refine bodyPost_ret (res4 rfl _ _ (w.heap.size + 1) 28 _ (0, 0) _ rfl HZ.out Tryz.underlying28 rfl (by kernel_rfl)) rfl ?_
    refine ⟨⟨some ⟨g5, 0, none⟩, n + 1, c5⟩, rfl, HFI.out _ ?_⟩
    exact (((HC6.out.mono (fun b r => Or.inl r)).trans (Chg.set (S := fun b => b = w.heap.size ∨ b = w.heap.size + 1) w6 ⟨w.heap.size + 1, 0, none⟩ _ (Or.inr rfl)) (fun _ _ q => q)).trans (Chg.set (S := fun b => b = w.heap.size ∨ b = w.heap.size + 1) _ ⟨w.heap.size + 1, 1, none⟩ _ (Or.inr rfl)) (fun _ _ q => q)).drew

end

end Go.Proofs.YtahhionlbfhinaaGreatDoor.Hp

/- Lookup. -/
namespace Go.Proofs.YtahhionlbfhinaaGreatDoor.Hp
open Go.RowKit
set_option linter.unusedVariables false

/-- from a word on prototypes come to an end within n -/
def EndsH (H : He) : Nat → Int → Prop
  | 0, o => obO H o = none
  | n + 1, o => obO H o = none ∨ ∃ ob, obO H o = some ob ∧ EndsH H n ob.proto
def lookF (H : He) (k : ByteArray) : Nat → Int → Option (Int × De)
  | 0, _ => none
  | n + 1, o => match obO H o with
    | none => none
    | some ob => match ownO ob k with
      | some d => some (o, d)
      | none => lookF H k n ob.proto

theorem look_none {H : He} {k : ByteArray} {o : Int} (h : obO H o = none) : ∀ n, lookF H k n o = none
  | 0 => rfl
  | n + 1 => by unfold lookF; rw [h]

theorem ends_step {H : He} {g : Nat} {o : Int} {ob : Ob} (he : EndsH H g o) (hq : obO H o = some ob) : ∃ g', g = g' + 1 ∧ EndsH H g' ob.proto := by
  cases g with
  | zero =>
    have he : obO H o = none := he
    rw [hq] at he
    cases he
  | succ g' =>
    have he : obO H o = none ∨ ∃ ob, obO H o = some ob ∧ EndsH H g' ob.proto := he
    rcases he with q | ⟨ob', q1, q2⟩
    · rw [hq] at q; cases q
    · rw [hq] at q1; cases q1; exact ⟨g', rfl, q2⟩
theorem look_step {H : He} {k : ByteArray} {n : Nat} {o : Int} {ob : Ob} (hq : obO H o = some ob) : lookF H k (n + 1) o = match ownO ob k with
    | some d => some (o, d)
    | none => lookF H k n ob.proto := by
  rw [lookF, hq]

section
variable {w w' w1 : World} {B hb : Nat} {O S : Nat → Prop} {H H' : He} {M M' : HV} {tg : Nat → Nat}

/-- on the way up -/
structure LkAt (w W : World) (H : He) (k : ByteArray) (R : Option (Int × De)) (o : Int) (g : Nat) : Prop where
  o0 : 0 ≤ o
  o1 : o < 18446744073709551616
  bel : Below w.heap.size w W
  bx : Bx3 W w.heap.size zDe
  en : EndsH H g o
  lk : R = lookF H k g o

set_option maxRecDepth 100000 in
set_option maxHeartbeats 1000000 in
theorem lookup_at (h : HeapAt w B hb tg H M) (hn : H.neat) (o : Int) (o0 : 0 ≤ o) (o1 : o < 18446744073709551616) (k : ByteArray) (hk : k.size ≤ maxLen) (N : Nat) (he : EndsH H N o) :
    Calls Tryz.prog 33 #[.pointer (some ⟨hb, 0, none⟩), .int .u64 o, .string k] w fun e w' => e = .returned (.tuple #[.int .u64 (((lookF H k N o).map Prod.fst).getD undW), deV (((lookF H k N o).map Prod.snd).getD zDe), .bool (lookF H k N o).isSome]) ∧ Below w.heap.size w w' := by
  generalize hR : lookF H k N o = R at *
  obtain ⟨wb, hwb⟩ : ∃ wb, wb = w.alloc (.cells #[.int .u64 0, .int .u64 0, .int .i64 0] 41) := ⟨_, rfl⟩
  have hB : Below w.heap.size w wb := by rw [hwb]; exact (Below.refl _ _).alloc (Nat.le_refl _) _
  have hbx : Bx3 wb w.heap.size zDe := by rw [hwb]; exact Bx3.new w
  have HS : Hid (LkAt w wb H k R o N) := ⟨o0, o1, hB, hbx, he, hR.symm⟩
  have HH : Hid (HeapAt w B hb tg H M) := h
  have HN : Hid H.neat := hn
  have HK : Hid (k.size ≤ maxLen) := hk
  clear h hn hk he hR hB hbx o0 o1
  go_enter Tryz.func33, Tryz.ntmps33
  go_wp2_with fail
  rw [← hwb]
  clear hwb
  go_loopg [1] N (fun g s1 W0 => ∃ o', s1 = .int .u64 o' ∧ Hid (LkAt w W0 H k R o' g))
  case atStart => exact ⟨o, rfl, HS⟩
  case round =>
    clear HS
    obtain ⟨o', rfl, HL⟩ := hrel
    have hw := HH.out.below HL.out.bel
    have ki := isObject_at hw o' HL.out.o0 HL.out.o1
    cases hq : obO H o' with
    | none =>
      have HR : Hid (R = none) := by show R = _; rw [HL.out.lk]; exact look_none hq _
      rw [hq] at ki
      simp only [Option.isSome_none] at ki
      obtain ⟨f0, f1, f2⟩ := HL.out.bx.fz
      obtain ⟨b0, b1, b2⟩ := HL.out.bx.ce
      unfold zDe at b0 b1 b2
      have HF : Hid (Bx3 (st3 wr w.heap.size zDe) w.heap.size zDe ∧ Below w.heap.size w (st3 wr w.heap.size zDe)) := ⟨HL.out.bx.put _, st3_below HL.out.bel (Nat.le_refl _) _⟩
      clear HL hw HH HN HK hq
      go_wp2_with fail
      refine ki.mono ?_
      rintro e w2 ⟨rfl, rfl⟩
      clear ki
      go_wp2_with fail
      refine bodyPost_ret (res3 rfl _ _ w.heap.size 41 _ (0, 0) _ rfl HF.out.1 Tryz.underlying41 rfl (by kernel_rfl)) rfl ?_
      rw [HR.out]
      exact ⟨rfl, HF.out.2⟩
    | some ob =>
      rw [hq] at ki
      simp only [Option.isSome_some] at ki
      have ko := own_at hw HN.out o' HL.out.o0 HL.out.o1 k HK.out
      have kp := fun W (q : Below wr.heap.size wr W) => proto_any (HH.out.below (HL.out.bel.trans (q.mono HL.out.bel.size))) o' HL.out.o0 HL.out.o1
      rw [hq] at kp
      simp only [Option.map_some, Option.getD_some] at kp
      have hoo : ownH H o' k = ownO ob k := by unfold ownH; rw [hq]; rfl
      rw [hoo] at ko
      obtain ⟨g', rfl, hen⟩ := ends_step HL.out.en hq
      have hlk := HL.out.lk
      rw [look_step hq] at hlk
      have hpr := (HH.out.wf.ob ob (obO_mem hq)).pr
      have HBX : Hid (∀ W, Below wr.heap.size wr W → ∀ d, Bx3 W w.heap.size zDe ∧ Bx3 (st3 W w.heap.size d) w.heap.size d ∧ Below w.heap.size w W ∧ Below w.heap.size w (st3 W w.heap.size d)) := fun W q d => by
        have q2 := HL.out.bel.trans (q.mono HL.out.bel.size)
        exact ⟨HL.out.bx.below q, (HL.out.bx.below q).put _, q2, st3_below q2 (Nat.le_refl _) _⟩
      cases hw2 : ownO ob k with
      | some d =>
        rw [hw2] at hlk ko
        simp only [Option.getD_some, Option.isSome_some] at ko
        have HR : Hid (R = some (o', d)) := hlk
        clear hlk
        unfold deV at *
        clear HL hw HH HN HK hq kp hoo hen hpr hw2
        go_wp2_with fail
        refine ki.mono ?_
        rintro e w2 ⟨rfl, rfl⟩
        clear ki
        go_wp2_with fail
        refine ko.mono ?_
        rintro e w3 ⟨rfl, hB3⟩
        have hB4 : Below w2.heap.size w2 (w3.alloc (.cells #[.int .u64 d.va, .int .u64 d.se, .int .i64 d.fl] 41)) := hB3.alloc hB3.size _
        have hb4 := Bx3.box w3 d
        obtain ⟨q1, q2, q3, q4⟩ := HBX.out _ hB4 d
        obtain ⟨f0, f1, f2⟩ := q1.fz
        obtain ⟨b0, b1, b2⟩ := q1.ce
        unfold zDe at b0 b1 b2
        obtain ⟨c0, c1, c2⟩ := hb4.ce
        have HF : Hid (Bx3 (st3 (w3.alloc (.cells #[.int .u64 d.va, .int .u64 d.se, .int .i64 d.fl] 41)) w.heap.size d) w.heap.size d ∧ Below w.heap.size w (st3 (w3.alloc (.cells #[.int .u64 d.va, .int .u64 d.se, .int .i64 d.fl] 41)) w.heap.size d)) := ⟨q2, q4⟩
        clear ko HBX hB3 hB4 hb4 q1 q2 q3 q4
        go_wp2_with fail
        generalize w3.alloc (.cells #[.int .u64 d.va, .int .u64 d.se, .int .i64 d.fl] 41) = w4 at *
        go_region
        all_goals
          go_wp2_with fail
          refine bodyPost_ret (res3 rfl _ _ w.heap.size 41 _ (0, 0) _ rfl HF.out.1 Tryz.underlying41 rfl (by kernel_rfl)) rfl ?_
          rw [HR.out]
          exact ⟨rfl, ⟨HF.out.2.os, HF.out.2.tape, HF.out.2.output, HF.out.2.size, HF.out.2.block⟩⟩
      | none =>
        rw [hw2] at hlk ko
        simp only [Option.getD_none, Option.isSome_none] at ko
        have HNX : Hid (∀ W, Below wr.heap.size wr W → LkAt w W H k R ob.proto g') := fun W q => ⟨hpr.1, hpr.2, (HBX.out W q zDe).2.2.1, (HBX.out W q zDe).1, hen, hlk⟩
        generalize ob.proto = o2 at *
        unfold deV zDe at ko
        clear HL hw HH HN HK hq hoo hen hpr hw2 hlk HBX
        go_wp2_with fail
        refine ki.mono ?_
        rintro e w2 ⟨rfl, rfl⟩
        clear ki
        go_wp2_with fail
        refine ko.mono ?_
        rintro e w3 ⟨rfl, hB3⟩
        have hB4 : Below w2.heap.size w2 (w3.alloc (.cells #[.int .u64 0, .int .u64 0, .int .i64 0] 41)) := hB3.alloc hB3.size _
        have kp2 := kp _ hB4
        have HN2 : Hid (LkAt w (w3.alloc (.cells #[.int .u64 0, .int .u64 0, .int .i64 0] 41)) H k R o2 g') := HNX.out _ hB4
        clear ko kp hB4 HNX hB3
        go_wp2_with fail
        refine kp2.mono ?_
        rintro e w5 ⟨rfl, rfl⟩
        clear kp2
        go_wp2_with fail
        go_roundg g'
        case measure => omega
        case rel => exact ⟨o2, rfl, HN2⟩

end

end Go.Proofs.YtahhionlbfhinaaGreatDoor.Hp
