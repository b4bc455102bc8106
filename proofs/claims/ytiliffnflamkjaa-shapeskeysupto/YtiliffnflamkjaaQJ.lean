/- alive; the law's step. -/
import Derived.Test.YtiliffnflamkjaaQI
import Derived.Test.YtiliffnflamkjaaQF
namespace Go.Proofs.Ytiliffnflamkjaa.Sp
open Go.RowKit
set_option linter.unusedVariables false

theorem lay_max (most : Int) (L : List Sh) (s : Sh) : layD (max most 0) L s = layD most L s := by
  unfold layD
  cases hit L s with
  | some i => rfl
  | none =>
    simp only
    by_cases c : most ≤ (L.length : Int)
    · rw [if_pos c, if_pos (by omega)]
    · rw [if_neg c, if_neg (by omega)]
theorem root_max (most : Int) (L : List Sh) (p : Int) : rootD (max most 0) L p = rootD most L p := lay_max _ _ _
theorem add_max (most : Int) (L : List Sh) (n : Int) (k : ByteArray) (f : Int) : addD (max most 0) L n k f = addD most L n k f := by
  unfold addD
  cases shOf L n with
  | none => rfl
  | some s =>
    simp only
    cases idx s.ks k with
    | some i => rfl
    | none => exact lay_max _ _ _
theorem change_max (most : Int) (L : List Sh) (n : Int) (k : ByteArray) (f : Int) : changeD (max most 0) L n k f = changeD most L n k f := by
  unfold changeD
  cases shOf L n with
  | none => rfl
  | some s =>
    simp only
    cases idx s.ks k with
    | none => rfl
    | some i =>
      simp only
      split
      · rfl
      · exact lay_max _ _ _
theorem mov_max (most : Int) : ∀ (l : List (ByteArray × Int)) (r : List Sh × Int × Bool), movD (max most 0) l r = movD most l r
  | [], r => rfl
  | x :: l, r => by
    unfold movD
    rw [add_max, mov_max most l]
theorem move_max (most : Int) (L : List Sh) (n : Int) (p : Int) : moveD (max most 0) L n p = moveD most L n p := by
  unfold moveD
  cases shOf L n with
  | none => rfl
  | some s => simp only; rw [root_max, mov_max]

/-- what a call of the script comes to -/
def opD (most : Int) (L : List Sh) (o : Cl) : List Sh × Int × Bool :=
  if o.kd = 0 then rootD most L o.pr else if o.kd = 1 then addD most L o.sh o.ke o.fl else if o.kd = 2 then changeD most L o.sh o.ke o.fl else if o.kd = 3 then moveD most L o.sh o.pr else (L, 0, true)

def Room (most : Int) (L : List Sh) : Prop := most ≤ top ∨ (L.length + 1 ≤ top ∧ ∀ s ∈ L, L.length + s.ks.length + 1 ≤ top)
theorem Room.one {most : Int} {L : List Sh} (h : Room most L) : most ≤ top ∨ L.length + 1 ≤ top := h.imp id (fun q => q.1)
theorem Room.all {most : Int} {L : List Sh} (h : Room most L) : most ≤ top ∨ ∀ s ∈ L, L.length + s.ks.length + 1 ≤ top := h.imp id (fun q => q.2)
theorem top_max {most : Int} (h : most ≤ top) : max most 0 ≤ (top : Int) := by unfold top at *; omega

/-- both trees, the program's and the document's -/
def Both (X : Nat → Prop) (w : World) (B tb : Nat) (most : Int) (L : List Sh) (s : Sli RS) : Prop := ∃ O, Tree w B tb O most L ∧ RTree (fun b => ¬ O b ∧ ¬ X b) w s L ∧ ∀ b, O b → ¬ X b

theorem Both.below {X : Nat → Prop} {w w' : World} {B tb : Nat} {most : Int} {L : List Sh} {s : Sli RS} (h : Both X w B tb most L s) (hb : Below w.heap.size w w') : Both X w' B tb most L s := by
  obtain ⟨O, h1, h2, h3⟩ := h
  exact ⟨O, h1.below hb, h2.below hb, h3⟩

theorem res2 {P : Program} {fn : Func} {p a : Tmp} {ty : TypeId} (h : fn.results = #[.cell p ty, .tmp a]) (tmps : Array Value) (w : World) (g : Nat) (t : TypeId) (cs : Array Value) (fr : Nat × Nat) (d : TypeDesc)
    (hp : tmps.getD p undef = .pointer (some ⟨g, 0, none⟩)) (hg : w.heap[g]? = some (.cells cs t fr))
    (hu : P.underlying ty = some d) (hd : (match d with | .struct _ | .array _ _ => true | _ => false) = true) (hi : (P.info? ty).map (·.size) = some cs.size) :
    (results fn tmps).run P w = .ok (.tuple #[.agg cs, tmps.getD a undef]) w := by
  have hp' : tmps[p]?.getD undef = .pointer (some ⟨g, 0, none⟩) := by simpa using hp
  simp [results, h, hp', asAddr, run_loadVar_row w g t ty cs fr d hg hu hd hi]

theorem at_four (w : World) (o1 o2 o3 o4 : Obj) : ((((w.alloc o1).alloc o2).alloc o3).alloc o4).heap[w.heap.size + 1 + 1 + 1]? = some o4 := by
  have := at_new (((w.alloc o1).alloc o2).alloc o3) o4
  rw [size_new, size_new, size_new] at this
  exact this

/-- where the document's tree may lie while a call is made: neither in the program's tree, nor in the law's two variables -/
def NS (X O : Nat → Prop) (A : Nat) : Nat → Prop := fun b => ((¬ O b ∧ ¬ X b) ∧ b ≠ A + 1 + 1) ∧ b ≠ A + 1 + 1 + 1

/-- the world behind the calls of a step: both trees, and the law's variables -/
structure Mid (X : Nat → Prop) (w wb wq : World) (B tb : Nat) (most : Int) (o : Cl) (L : List Sh) (s : Sli RS) : Prop where
  at' : ∃ O', Tree wq B tb O' most L ∧ RTree (NS X O' w.heap.size) wq s L ∧ (∀ b, O' b → b < w.heap.size ∨ w.heap.size + 4 ≤ b) ∧ ∀ b, O' b → ¬ X b
  op : wq.heap[w.heap.size + 1]? = some (.cells #[.int .i64 o.kd, .int .i64 o.sh, .int .i64 o.fl, .int .u64 o.pr, .string o.ke] 33 (0, 0))
  res : wq.heap[w.heap.size + 1 + 1]? = some (.cells #[.int .i64 0, .slice none 0 0] 27 (0, 0))
  x : wq.heap[w.heap.size + 1 + 1 + 1]? = some (.cells #[.int .i64 (max most 0), .slice s.at' s.xs.length s.cap] 27 (0, 0))
  sz : w.heap.size + 4 ≤ wq.heap.size
  bel : Below B w wq
  keep : ∀ b, X b → wq.heap[b]? = w.heap[b]?

set_option maxRecDepth 100000 in
theorem alive_any (w : World) : Calls Try.prog 9 #[] w fun e w' => e = .returned (.bool true) ∧ Below w.heap.size w w' := by
  have kn := new_any w 5
  have HR : Hid (∀ w1 tb O, Tree w1 w.heap.size tb O 5 [] → Calls Try.prog 16 #[.pointer (some ⟨tb, 0, none⟩), .int .u64 7] w1 fun e w' => e = .returned (.tuple #[.int .i64 0, .bool true]) ∧ Went w1 w.heap.size tb O 5 [⟨7, [], [], []⟩] w') := fun w1 tb O h => root_any w1 w.heap.size tb O 5 [] h 7 (by decide) (by decide) (Or.inl (by decide))
  have e1 : addD 5 [⟨7, [], [], []⟩] 0 ⟨#[97]⟩ 3 = ([⟨7, [], [], []⟩, ⟨7, [⟨#[97]⟩], [3], [(false, ⟨#[97]⟩, 3)]⟩], 1, true) := rfl
  have HA : Hid (∀ w1 tb O, Tree w1 w.heap.size tb O 5 [⟨7, [], [], []⟩] → Calls Try.prog 11 #[.pointer (some ⟨tb, 0, none⟩), .int .i64 0, .string ⟨#[97]⟩, .int .i64 3] w1 fun e w' => e = .returned (.tuple #[.int .i64 1, .bool true]) ∧ Went w1 w.heap.size tb O 5 [⟨7, [], [], []⟩, ⟨7, [⟨#[97]⟩], [3], [(false, ⟨#[97]⟩, 3)]⟩] w') := fun w1 tb O h => by
    have := add_any w1 w.heap.size tb O 5 _ h 0 ⟨#[97]⟩ 3 ⟨by show (1 : Nat) ≤ 2 ^ 63 - 1; decide, by decide, by decide⟩ (Or.inl (by decide))
    rw [e1] at this
    exact this
  have HF : Hid (∀ w1 tb O, Tree w1 w.heap.size tb O 5 [⟨7, [], [], []⟩, ⟨7, [⟨#[97]⟩], [3], [(false, ⟨#[97]⟩, 3)]⟩] → Calls Try.prog 14 #[.pointer (some ⟨tb, 0, none⟩), .int .i64 1, .string ⟨#[97]⟩] w1 fun e w' => e = .returned (.tuple #[.int .i64 0, .int .i64 3, .bool true]) ∧ Below w1.heap.size w1 w') := fun w1 tb O h => by
    have := find_any w1 w.heap.size tb O 5 _ h 1 ⟨#[97]⟩
    exact this
  have HC : Hid (∀ w1 tb O, Tree w1 w.heap.size tb O 5 [⟨7, [], [], []⟩, ⟨7, [⟨#[97]⟩], [3], [(false, ⟨#[97]⟩, 3)]⟩] → Calls Try.prog 12 #[.pointer (some ⟨tb, 0, none⟩)] w1 fun e w' => e = .returned (.int .i64 2) ∧ w' = w1) := fun w1 tb O h => count_any w1 w.heap.size tb O 5 _ h
  clear e1
  go_enter Try.func9, Try.ntmps9
  go_wp2_with fail
  refine kn.mono ?_
  rintro e w1 ⟨tb, O, rfl, h1, hb1⟩
  have kr := HR.out w1 tb O h1
  have HB1 : Hid (Below w.heap.size w w1 ∧ Tree w1 w.heap.size tb O 5 []) := ⟨hb1, h1⟩
  clear kn h1 hb1 HR
  go_wp2_with fail
  refine kr.mono ?_
  rintro e w2 ⟨rfl, O2, h2, c2, z2⟩
  have ka := HA.out w2 tb O2 h2
  have HB2 : Hid (Below w.heap.size w w2 ∧ Tree w2 w.heap.size tb O2 5 [⟨7, [], [], []⟩]) := ⟨c2.below HB1.out.1 HB1.out.1.size (fun k q => (HB1.out.2.lt k q).1), h2⟩
  clear kr h2 c2 z2 HA
  go_wp2_with fail
  refine ka.mono ?_
  rintro e w3 ⟨rfl, O3, h3, c3, z3⟩
  have kf := HF.out w3 tb O3 h3
  have HB3 : Hid (Below w.heap.size w w3 ∧ Tree w3 w.heap.size tb O3 5 [⟨7, [], [], []⟩, ⟨7, [⟨#[97]⟩], [3], [(false, ⟨#[97]⟩, 3)]⟩]) := ⟨c3.below HB2.out.1 HB2.out.1.size (fun k q => (HB2.out.2.lt k q).1), h3⟩
  clear ka h3 c3 z3 HF
  go_wp2_with fail
  refine kf.mono ?_
  rintro e w4 ⟨rfl, hb4⟩
  have kc := HC.out w4 tb O3 (HB3.out.2.below hb4)
  have HB4 : Hid (Below w.heap.size w w4) := HB3.out.1.trans (hb4.mono HB3.out.1.size)
  clear kf hb4 HC
  go_wp2_with fail
  refine kc.mono ?_
  rintro e w5 ⟨rfl, rfl⟩
  clear kc
  go_wp2_with fail
  go_ret
  exact ⟨rfl, HB4.out⟩

end Go.Proofs.Ytiliffnflamkjaa.Sp
