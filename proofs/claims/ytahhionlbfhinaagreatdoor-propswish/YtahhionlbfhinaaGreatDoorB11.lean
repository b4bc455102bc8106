/- find, where there is no map. -/
import Derived.Test.YtahhionlbfhinaaGreatDoorHK
import Derived.Laws.Bits128
namespace Go.Proofs.YtahhionlbfhinaaGreatDoor.Hp
open Go.RowKit
set_option linter.unusedVariables false

/-- a key's place -/
def plc (ps : List Pr) (k : ByteArray) : Option Nat := ps.findIdx? (fun p => decide (p.key = k))

theorem plc_some {ps : List Pr} {k : ByteArray} {i : Nat} (h : plc ps k = some i) : (∃ p, ps[i]? = some p ∧ p.key = k) ∧ ∀ j p, j < i → ps[j]? = some p → p.key ≠ k := by
  unfold plc at h
  rw [List.findIdx?_eq_some_iff_getElem] at h
  obtain ⟨h1, h2, h3⟩ := h
  refine ⟨⟨_, List.getElem?_eq_getElem h1, by simpa using h2⟩, fun j p hj e => ?_⟩
  have h4 := h3 j hj
  obtain ⟨a, b⟩ := List.getElem?_eq_some_iff.1 e
  rw [b] at h4
  simpa using h4
theorem plc_none {ps : List Pr} {k : ByteArray} (h : plc ps k = none) : ∀ p ∈ ps, p.key ≠ k := by
  intro p hp e
  unfold plc at h
  rw [List.findIdx?_eq_none_iff] at h
  have := h p hp
  simp at this
  exact this e
theorem plc_at {ps : List Pr} {k : ByteArray} {i : Nat} {p : Pr} (h : ps[i]? = some p) (hk : p.key = k) (hb : ∀ j q, j < i → ps[j]? = some q → q.key ≠ k) : plc ps k = some i := by
  unfold plc
  rw [List.findIdx?_eq_some_iff_getElem]
  obtain ⟨a, b⟩ := List.getElem?_eq_some_iff.1 h
  refine ⟨a, by rw [b]; simpa using hk, fun j hj => ?_⟩
  have := hb j _ hj (List.getElem?_eq_getElem (by omega))
  simpa using this
theorem plc_not {ps : List Pr} {k : ByteArray} (h : ∀ (j : Nat) q, ps[j]? = some q → q.key ≠ k) : plc ps k = none := by
  unfold plc
  rw [List.findIdx?_eq_none_iff]
  intro p hp
  obtain ⟨j, hj⟩ := List.mem_iff_getElem?.1 hp
  simpa using h j p hj

def nOf (o : Option Nat) : Int := ((o.map (fun (n : Nat) => (n : Int))).getD 0)

/-- a row's value, read -/
theorem RowIn.open {β : Type} {enc : β → List Value} {k : Nat} {e : TypeId} {B : Nat} {w : World} {O : Nat → Prop} {s : SV} {xs : List β} (hk : ∀ y, (enc y).length = k) (h : RowIn enc k e B w O s xs) : s.len = xs.length ∧ xs.length ≤ s.cap ∧ s.cap ≤ maxLen ∧ (xs ≠ [] → ∃ g, s.ad = some ⟨g, 0, none⟩ ∧ B ≤ g ∧ g < w.heap.size ∧ O g ∧ (∀ (i : Nat) (y : β), xs[i]? = some y → ∀ (j : Nat) (u : Value), (enc y)[j]? = some u → w.cell? ⟨g, i * k + j, none⟩ = some u) ∧ ∀ n, w.frozen? ⟨g, n, none⟩ = false) := by
  obtain ⟨h1, h2⟩ := h
  rcases hs : s with ⟨ad, len, cap⟩
  rw [hs] at h1 h2
  unfold SV.val at h1 h2
  simp only at h1 h2 ⊢
  rcases h1.2 with ⟨e1, e0⟩ | ⟨g, cap', cur, e1, hb, hg, hn, hc, hcs, ht⟩
  · injection e1 with e1 e2 e3
    subst e1 e2 e3
    have := List.eq_nil_of_length_eq_zero e0
    subst this
    exact ⟨rfl, by simp, by simp, fun q => absurd rfl q⟩
  · injection e1 with e1 e2 e3
    subst e1 e2 e3
    exact ⟨rfl, hn, hc, fun _ => ⟨g, rfl, hb, (Array.getElem?_eq_some_iff.1 hg).1, h2 g rfl, fun i y hi j u hj => OwnR.at' hk h1 hi hj, fun n => h1.fz n⟩⟩

set_option maxRecDepth 100000 in
set_option maxHeartbeats 1000000 in
theorem find_nil (w : World) (g off : Nat) (s : SV) (ps : List Pr) (B : Nat) (O : Nat → Prop) (hr : RowIn prC 5 129 B w O s ps) (c0 : w.cell? ⟨g, off, none⟩ = some s.val) (c1 : w.cell? ⟨g, off + 1, none⟩ = some (.map none)) (k : ByteArray) :
    Calls Tryz.prog 53 #[.pointer (some ⟨g, off, none⟩), .string k] w fun e w' => e = .returned (.tuple #[.int .i64 (nOf (plc ps k)), .bool (plc ps k).isSome]) ∧ w' = w := by
  obtain ⟨hl, h1, h2, h3⟩ := hr.open rtPr.len
  obtain ⟨ad, len, cap⟩ := s
  simp only at hl h1 h2 h3
  subst hl
  unfold SV.val at c0
  simp only at c0
  have hlim : (ps.length : Int) ≤ 9223372036854775807 := by unfold maxLen at h2; omega
  have q69 : ∀ (w : World) (r : Option Nat), (binOp .neq 92 (.map r) (.map none)).run Tryz.prog w = .ok (.bool (!r.isNone)) w := fun w r => run_neq_map_nil w _ _ _ r Tryz.underlying92
  have H3 : Hid (ps ≠ [] → ∃ g, ad = some ⟨g, 0, none⟩ ∧ B ≤ g ∧ g < w.heap.size ∧ O g ∧ (∀ (i : Nat) (y : Pr), ps[i]? = some y → ∀ (j : Nat) (u : Value), (prC y)[j]? = some u → w.cell? ⟨g, i * 5 + j, none⟩ = some u) ∧ ∀ n, w.frozen? ⟨g, n, none⟩ = false) := h3
  have HA : Hid (∀ j q, j < 0 → ps[j]? = some q → q.key ≠ k) := fun j q hj => by omega
  generalize hR : plc ps k = R at *
  have HPL : Hid (plc ps k = R) := hR
  clear hr h1 h2 h3 hR
  go_enter Tryz.func53, Tryz.ntmps53
  go_wp2_with fail
  go_loopw [38] (fun p wr => ∃ i : Nat, i ≤ ps.length ∧ Hid (∀ j q, j < i → ps[j]? = some q → q.key ≠ k) ∧ p = .int .i64 (i : Int) ∧ wr = w) (fun p wr => ((ps.length : Int) - intOf p).toNat)
  case atStart => exact ⟨0, Nat.zero_le _, HA, rfl, rfl⟩
  case round =>
    clear HA
    obtain ⟨i, hi, hh, rfl, rfl⟩ := hrel
    by_cases c : i < ps.length
    · have hex : ∃ p, ps[i]? = some p := ⟨_, List.getElem?_eq_getElem c⟩
      obtain ⟨p, hp⟩ := hex
      obtain ⟨gl, rfl, _, _, _, hcells, _⟩ := H3.out (by intro e; rw [e] at c; simp at c)
      have d0 := hcells i p hp 0 _ rfl
      simp only [Nat.add_zero] at d0
      have hii : (i : Int) < (ps.length : Int) := by omega
      have hii2 : decide ((i : Int) < (ps.length : Int)) = true := decide_eq_true hii
      have hw1 : IntKind.i64.wrap ((i : Int) + 1) = ((i + 1 : Nat) : Int) := by rw [IntKind.wrap_i64]; omega
      have HP : Hid (ps[i]? = some p) := hp
      have HI : Hid (i < ps.length) := c
      clear hcells hp H3 c hi
      by_cases ck : p.key = k
      · have hpl : plc ps k = some i := plc_at HP.out ck hh.out
        have hRi : R = some i := by rw [← HPL.out]; exact hpl
        subst hRi
        rw [ck] at d0
        have hee := Sp.bytes_yes k
        clear ck hpl HP HPL
        go_wp2_with fail
        go_ret2
        exact ⟨rfl, rfl⟩
      · have hee := Sp.bytes_no ck
        have hnx : Hid (∀ j q, j < i + 1 → ps[j]? = some q → q.key ≠ k) := fun j q hj e => by
          rcases Nat.lt_succ_iff_lt_or_eq.1 hj with c | c
          · exact hh.out j q c e
          · rw [c, HP.out] at e
            rw [← Option.some.inj e]
            exact ck
        clear hh HP ck
        go_wp2_with fail
        refine ⟨⟨i + 1, by have := HI.out; omega, hnx, rfl, by first | rfl | trivial⟩, ?_⟩
        have := HI.out
        simp [intOf]
        omega
    · have hpl : plc ps k = none := plc_not (fun j q e => hh.out j q (by have := (List.getElem?_eq_some_iff.1 e).1; omega) e)
      have hRi : R = none := by rw [← HPL.out]; exact hpl
      subst hRi
      have hii : ¬ (i : Int) < (ps.length : Int) := by omega
      clear hpl H3 hh hi c HPL
      go_wp2_with fail
      go_ret2
      exact ⟨rfl, rfl⟩

end Go.Proofs.YtahhionlbfhinaaGreatDoor.Hp

/- kept, size, loseShape, Get, Shape, Find. -/
namespace Go.Proofs.YtahhionlbfhinaaGreatDoor.Hp
open Go.RowKit
set_option linter.unusedVariables false

def keptI (f : Int) : Int := if f % 16 < 8 then f % 16 else f % 16 / 2 * 2

theorem and15 (n : Int) : bits .and .i64 n 15 = n % 16 := by
  have h15 : (BitVec.ofInt 64 15).toNat = 2 ^ 4 - 1 := by decide
  have key : (BitVec.ofInt 64 n &&& BitVec.ofInt 64 15).toNat = (n % ((2 ^ 64 : Nat) : Int)).toNat % 2 ^ 4 := by
    rw [BitVec.toNat_and, BitVec.toNat_ofInt, h15, Nat.and_two_pow_sub_one_eq_mod]
  show IntKind.i64.wrap ((BitVec.ofInt 64 n &&& BitVec.ofInt 64 15).toNat : Nat) = n % 16
  rw [key, IntKind.wrap_i64]
  omega

theorem sixteen {m : Int} (h0 : 0 ≤ m) (h1 : m < 16) : m = 0 ∨ m = 1 ∨ m = 2 ∨ m = 3 ∨ m = 4 ∨ m = 5 ∨ m = 6 ∨ m = 7 ∨ m = 8 ∨ m = 9 ∨ m = 10 ∨ m = 11 ∨ m = 12 ∨ m = 13 ∨ m = 14 ∨ m = 15 := by omega
theorem and8 {m : Int} (h0 : 0 ≤ m) (h1 : m < 16) : bits .and .i64 m 8 = if m < 8 then 0 else 8 := by
  rcases sixteen h0 h1 with rfl | rfl | rfl | rfl | rfl | rfl | rfl | rfl | rfl | rfl | rfl | rfl | rfl | rfl | rfl | rfl <;> decide
theorem not1 {m : Int} (h0 : 0 ≤ m) (h1 : m < 16) : bits .andNot .i64 m 1 = m / 2 * 2 := by
  rcases sixteen h0 h1 with rfl | rfl | rfl | rfl | rfl | rfl | rfl | rfl | rfl | rfl | rfl | rfl | rfl | rfl | rfl | rfl <;> decide

theorem kept_any (w : World) (f : Int) : Calls Tryz.prog 52 #[.int .i64 f] w fun e w' => e = .returned (.int .i64 (keptI f)) ∧ w' = w := by
  have h1 := and15 f
  have h2 := and8 (m := f % 16) (by omega) (by omega)
  have h3 := not1 (m := f % 16) (by omega) (by omega)
  unfold keptI
  by_cases c : f % 16 < 8
  · rw [if_pos c] at h2 ⊢
    generalize f % 16 = m at *
    clear h3 c
    go_enter Tryz.func52, Tryz.ntmps52
    go_wp2
    go_ret
    exact ⟨rfl, rfl⟩
  · rw [if_neg c] at h2 ⊢
    generalize hm : f % 16 = m at *
    generalize m / 2 * 2 = k at *
    clear c hm
    go_enter Tryz.func52, Tryz.ntmps52
    go_wp2
    go_ret
    exact ⟨rfl, rfl⟩

theorem kept_bd (f : Int) : 0 ≤ keptI f ∧ keptI f ≤ 15 := by unfold keptI; split <;> omega

theorem res2 {P : Program} {fn : Func} {p a : Tmp} {ty : TypeId} (h : fn.results = #[.cell p ty, .tmp a]) (tmps : Array Value) (w : World) (g : Nat) (t : TypeId) (cs : Array Value) (fr : Nat × Nat) (d : TypeDesc)
    (hp : tmps.getD p undef = .pointer (some ⟨g, 0, none⟩)) (hg : w.heap[g]? = some (.cells cs t fr))
    (hu : P.underlying ty = some d) (hd : (match d with | .struct _ | .array _ _ => true | _ => false) = true) (hi : (P.info? ty).map (·.size) = some cs.size) :
    (results fn tmps).run P w = .ok (.tuple #[.agg cs, tmps.getD a undef]) w := by
  have hp' : tmps[p]?.getD undef = .pointer (some ⟨g, 0, none⟩) := by simpa using hp
  simp [results, h, hp', asAddr, run_loadVar_row w g t ty cs fr d hg hu hd hi]

/-- what find tells of an object's key -/
def FindSays (W : World) (g i : Nat) (k : ByteArray) (r : Option Nat) : Prop := Calls Tryz.prog 53 #[.pointer (some ⟨g, i * 12 + 4, none⟩), .string k] W fun e w' => e = .returned (.tuple #[.int .i64 (nOf r), .bool r.isSome]) ∧ w' = W

section
variable {w w' w1 : World} {B hb : Nat} {O S : Nat → Prop} {H H' : He} {M M' : HV} {tg : Nat → Nat}

/-- an object's part -/
theorem HeapAt.part (h : HeapAt w B hb tg H M) {i : Nat} {ob : Ob} {ov : OV} (hi : H.obs[i]? = some ob) (hv : M.ovs[i]? = some ov) (c : Nat) (hc : c < 4) : ObP w B (fun b => tg b = 7 + 4 * i + c) ob ov c := by
  have hp := h.prt (4 * i + c + 7) ob ov (by rw [show (4 * i + c) / 4 = i by omega]; exact hi) (by rw [show (4 * i + c) / 4 = i by omega]; exact hv)
  rw [show (4 * i + c) % 4 = c by omega, show 4 * i + c + 7 = 7 + 4 * i + c by omega] at hp
  exact hp

theorem vm_none {ob : Ob} {ov : OV} (h : ObP w B O ob ov 1) (hm : ob.hm = false) : ov.vm = none := by
  have h1 := h.1
  rw [hm] at h1
  cases hv : ov.vm with
  | none => rfl
  | some b => rw [hv] at h1; cases h1

theorem find_at (h : HeapAt w B hb tg H M) {i g cap : Nat} {ob : Ob} {ov : OV} (hi : H.obs[i]? = some ob) (hv : M.ovs[i]? = some ov) (hvo : M.vo = ⟨some ⟨g, 0, none⟩, H.obs.length, cap⟩) (hm : ob.hm = false) (k : ByteArray) : FindSays w g i k (plc ob.ps k) := by
  obtain ⟨g', cap', ov', hvo', hov, t4, hne, hgl, hcell, hfz, hl1, hl2, hrow⟩ := h.obj hi
  rw [hvo] at hvo'
  injection hvo' with e1 e2 e3
  injection e1 with e1
  injection e1 with e1
  subst e1
  rw [hv] at hov
  cases hov
  have d4 := hcell 4 _ rfl
  have d5 := hcell 5 _ rfl
  simp only at d4 d5
  have hvm : ov.vm = none := vm_none (h.part hi hv 1 (by omega)) hm
  rw [hvm] at d5
  exact find_nil w g (i * 12 + 4) ov.vl ob.ps B _ (h.part hi hv 0 (by omega)) d4 d5 k

set_option maxRecDepth 100000 in
theorem size_at (h : HeapAt w B hb tg H M) {i g cap : Nat} {ob : Ob} (hi : H.obs[i]? = some ob) (hvo : M.vo = ⟨some ⟨g, 0, none⟩, H.obs.length, cap⟩) :
    Calls Tryz.prog 99 #[.pointer (some ⟨g, i * 12 + 4, none⟩)] w fun e w' => e = .returned (.int .i64 (ob.ps.length : Int)) ∧ w' = w := by
  obtain ⟨g', cap', ov, hvo', hov, t4, hne, hgl, hcell, hfz, hl1, hl2, hrow⟩ := h.obj hi
  rw [hvo] at hvo'
  injection hvo' with e1 e2 e3
  injection e1 with e1
  injection e1 with e1
  subst e1
  have d4 := hcell 4 _ rfl
  have hr : RowIn prC 5 _ B w _ ov.vl ob.ps := h.part hi hov 0 (by omega)
  obtain ⟨q1, q2, q3, q4⟩ := hr.open rtPr.len
  unfold SV.val at d4
  simp only at d4
  rw [q1] at d4
  generalize ob.ps.length = n at *
  generalize ov.vl.ad = ad at *
  generalize ov.vl.cap = cp at *
  clear h hi hvo hov t4 hne hgl hcell hfz hl1 hl2 hrow e2 e3 hr q1 q2 q3 q4
  go_enter Tryz.func99, Tryz.ntmps99
  go_wp2_with fail
  go_ret
  exact ⟨rfl, rfl⟩

set_option maxRecDepth 100000 in
set_option maxHeartbeats 1000000 in
theorem shape_at (h : HeapAt w B hb tg H M) (o : Int) (o0 : 0 ≤ o) (o1 : o < 18446744073709551616) {i : Nat} {ob : Ob} (ho : obI H o = some i) (hi : H.obs[i]? = some ob) :
    Calls Tryz.prog 25 #[.pointer (some ⟨hb, 0, none⟩), .int .u64 o] w fun e w' => e = .returned (.tuple #[.int .i64 ob.shape, .bool ob.shaped]) ∧ Below w.heap.size w w' := by
  obtain ⟨g, cap, ov, hvo, hov, t4, hne, hgl, hcell, hfz, hl1, hl2, hrow⟩ := h.obj hi
  have ka := at_hit h o o0 o1 i g cap ho hvo
  have d9 := hcell 9 _ rfl
  have d10 := hcell 10 _ rfl
  simp only at d9 d10
  generalize ob.shape = sh at *
  generalize ob.shaped = ok at *
  clear h hi ho hvo hov t4 hne hgl hcell hfz hl1 hl2 hrow
  go_enter Tryz.func25, Tryz.ntmps25
  go_wp2_with fail
  refine ka.mono ?_
  rintro e w2 ⟨rfl, rfl⟩
  clear ka
  go_wp2_with fail
  go_region
  all_goals
    go_wp2_with fail
    go_ret2
    exact ⟨rfl, (Below.refl _ _).drew⟩

set_option maxRecDepth 100000 in
theorem findS_at (h : HeapAt w B hb tg H M) (n : Int) (k : ByteArray) :
    Calls Tryz.prog 26 #[.pointer (some ⟨hb, 0, none⟩), .int .i64 n, .string k] w fun e w' => e = .returned (.tuple #[.int .i64 (Sp.slotI (Sp.findR H.L n k)), .int .i64 (Sp.flagI (Sp.findR H.L n k)), .bool (Sp.findR H.L n k).isSome]) ∧ Below w.heap.size w w' := by
  have km := made_at h
  obtain ⟨c0, c1, c2, c3, c4, c5, fz⟩ := h.box
  obtain ⟨Ot, ht, hO⟩ := h.prt 5
  have kf := Sp.find_any w B M.tb Ot H.most H.L ht n k
  generalize Sp.slotI (Sp.findR H.L n k) = a at *
  generalize Sp.flagI (Sp.findR H.L n k) = b at *
  generalize (Sp.findR H.L n k).isSome = c at *
  clear h c0 c1 c2 c4 c5 fz hO ht
  go_enter Tryz.func26, Tryz.ntmps26
  go_wp2_with fail
  refine km.mono ?_
  rintro e w2 ⟨rfl, rfl⟩
  clear km
  go_wp2_with fail
  refine kf.mono ?_
  rintro e w3 ⟨rfl, h3⟩
  clear kf
  go_wp2_with fail
  refine bodyPost_ret (v := .tuple #[.int .i64 a, .int .i64 b, .bool c]) (by simp [results, Tryz.results26, go_sem]) rfl ?_
  exact ⟨rfl, h3⟩

def deV (d : De) : Value := .agg #[.int .u64 d.va, .int .u64 d.se, .int .i64 d.fl]

set_option maxRecDepth 100000 in
set_option maxHeartbeats 1000000 in
theorem get_at (h : HeapAt w B hb tg H M) (o : Int) (o0 : 0 ≤ o) (o1 : o < 18446744073709551616) {i n : Nat} {ob : Ob} {k : ByteArray} {p : Pr} (ho : obI H o = some i) (hi : H.obs[i]? = some ob) (hn : plc ob.ps k = some n) (hp : ob.ps[n]? = some p)
    (kf : ∀ W g cap, HeapAt W B hb tg H M → M.vo = ⟨some ⟨g, 0, none⟩, H.obs.length, cap⟩ → FindSays W g i k (plc ob.ps k)) :
    Calls Tryz.prog 73 #[.pointer (some ⟨hb, 0, none⟩), .int .u64 o, .string k] w fun e w' => e = .returned (.tuple #[deV p.de, .bool true]) ∧ Below w.heap.size w w' := by
  obtain ⟨wb, hwb⟩ : ∃ wb, wb = w.alloc (.cells #[.int .u64 0, .int .u64 0, .int .i64 0] 41) := ⟨_, rfl⟩
  have hB : Below w.heap.size w wb := by rw [hwb]; exact (Below.refl _ _).alloc (Nat.le_refl _) _
  have hbx : wb.heap[w.heap.size]? = some (.cells #[.int .u64 0, .int .u64 0, .int .i64 0] 41 (0, 0)) := by rw [hwb]; exact at_new _ _
  have h2 := h.below hB
  obtain ⟨g, cap, ov, hvo, hov, t4, hne, hgl, hcell, hfz, hl1, hl2, hrow⟩ := h2.obj hi
  have ka := at_hit h2 o o0 o1 i g cap ho hvo
  have kf2 := kf wb g cap h2 hvo
  unfold FindSays at kf2
  rw [hn] at kf2
  have d4 := hcell 4 _ rfl
  have hr : RowIn prC 5 _ B wb _ ov.vl ob.ps := h2.part hi hov 0 (by omega)
  obtain ⟨q1, q2, q3, q4⟩ := hr.open rtPr.len
  have hnl : n < ob.ps.length := (List.getElem?_eq_some_iff.1 hp).1
  obtain ⟨gl, e1, _, _, _, hc, _⟩ := q4 (by intro e; rw [e] at hnl; simp at hnl)
  have m2 := hc n p hp 2 _ rfl
  have m3 := hc n p hp 3 _ rfl
  have m4 := hc n p hp 4 _ rfl
  unfold SV.val at d4
  simp only at d4
  rw [q1, e1] at d4
  have hnl2 : (n : Int) < (ob.ps.length : Int) := by omega
  have hlim : (ob.ps.length : Int) ≤ 9223372036854775807 := by unfold maxLen at q3; omega
  unfold nOf at kf2
  simp only [Option.map_some, Option.getD_some, Option.isSome_some] at kf2
  have f0 := frozen_of_row wb w.heap.size 0 _ _ hbx
  have f1 := frozen_of_row wb w.heap.size 1 _ _ hbx
  have f2 := frozen_of_row wb w.heap.size 2 _ _ hbx
  have b0 : wb.cell? ⟨w.heap.size, 0, none⟩ = some (.int .u64 0) := cell_of_row wb w.heap.size 0 _ _ (0, 0) hbx
  have b1 : wb.cell? ⟨w.heap.size, 1, none⟩ = some (.int .u64 0) := cell_of_row wb w.heap.size 1 _ _ (0, 0) hbx
  have b2 : wb.cell? ⟨w.heap.size, 2, none⟩ = some (.int .i64 0) := cell_of_row wb w.heap.size 2 _ _ (0, 0) hbx
  have HBX : Hid (((wb.setCell ⟨w.heap.size, 0, none⟩ (.int .u64 p.de.va)).setCell ⟨w.heap.size, 1, none⟩ (.int .u64 p.de.se)).setCell ⟨w.heap.size, 2, none⟩ (.int .i64 p.de.fl) |>.heap[w.heap.size]? = some (.cells #[.int .u64 p.de.va, .int .u64 p.de.se, .int .i64 p.de.fl] 41 (0, 0))) := by
    have s0 := heap_setCell_same wb w.heap.size 0 _ _ (.int .u64 p.de.va) hbx
    have s1 := heap_setCell_same _ w.heap.size 1 _ _ (.int .u64 p.de.se) s0
    exact heap_setCell_same _ w.heap.size 2 _ _ (.int .i64 p.de.fl) s1
  have HBL : Hid (Below w.heap.size w (((wb.setCell ⟨w.heap.size, 0, none⟩ (.int .u64 p.de.va)).setCell ⟨w.heap.size, 1, none⟩ (.int .u64 p.de.se)).setCell ⟨w.heap.size, 2, none⟩ (.int .i64 p.de.fl))) := ((hB.setCell (by simp) _).setCell (by simp) _).setCell (by simp) _
  unfold deV
  obtain ⟨pk, pc, pv, ps', pf⟩ := p
  simp only at *
  generalize ob.ps.length = len at *
  generalize ov.vl.cap = cp at *
  clear h h2 hB hbx hi ho hvo hov t4 hne hgl hcell hfz hl1 hl2 hrow kf hn hp hr q1 q2 q3 q4 hc hnl e1
  go_enter Tryz.func73, Tryz.ntmps73
  go_upto_region 1 with fail
  rw [← hwb]
  clear hwb
  go_wp2_with fail
  refine ka.mono ?_
  rintro e w2 ⟨rfl, rfl⟩
  clear ka
  go_wp2_with fail
  refine kf2.mono ?_
  rintro e w2 ⟨rfl, rfl⟩
  clear kf2
  go_wp2_with fail
  refine bodyPost_ret (res2 rfl _ _ w.heap.size 41 _ (0, 0) _ rfl HBX.out Tryz.underlying41 rfl (by kernel_rfl)) rfl ?_
  exact ⟨rfl, HBL.out⟩

end

end Go.Proofs.YtahhionlbfhinaaGreatDoor.Hp
