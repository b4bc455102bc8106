/- Package code: functions as they lie in memory; catcher. -/
import Derived.Test.YtkoamenfbnpdbaaDoorC1
namespace Go.Proofs.YtkoamenfbnpdbaaDoor.Cd
open Go.RowKit
set_option linter.unusedVariables false

/-- a slice: where it lies, its room, what is in it -/
structure Sli (β : Type) where
  at' : Option Addr
  cap : Nat
  xs : List β

def Sli.val {β : Type} (s : Sli β) : Value := .slice s.at' s.xs.length s.cap

/-- it lies in memory, k cells an element -/
structure Sli.ok {β : Type} (enc : β → List Value) (k : Nat) (w : World) (s : Sli β) : Prop where
  len : s.xs.length ≤ s.cap
  cap : s.cap ≤ maxLen
  cells : s.xs ≠ [] → ∃ b off, s.at' = some ⟨b, off, none⟩ ∧ ∀ i y, s.xs[i]? = some y → ∀ j u, (enc y)[j]? = some u → w.cell? ⟨b, off + i * k + j, none⟩ = some u

theorem Sli.ok.kept {β : Type} {enc : β → List Value} {k : Nat} {w w' : World} {s : Sli β} (h : s.ok enc k w) (hc : ∀ a u, w.cell? a = some u → w'.cell? a = some u) : s.ok enc k w' := by
  refine ⟨h.len, h.cap, fun h0 => ?_⟩
  obtain ⟨b, off, h1, h2⟩ := h.cells h0
  exact ⟨b, off, h1, fun i y hi j u hj => hc _ _ (h2 i y hi j u hj)⟩

theorem cells_below {w w' : World} (h : Below w.heap.size w w') : ∀ a u, w.cell? a = some u → w'.cell? a = some u := by
  intro a u hu
  rw [h.cell (World.block_lt_of_cell? w _ hu)]
  exact hu

structure Cst where
  isText : Bool
  bits : Int
  text : ByteArray
structure Cap where
  free : Bool
  idx : Int
structure Hnd where
  fr : Int
  to : Int
  target : Int

def cstC (c : Cst) : List Value := [.bool c.isText, .int .u64 c.bits, .string c.text]
def capC (c : Cap) : List Value := [.bool c.free, .int .i64 c.idx]
def hndC (h : Hnd) : List Value := [.int .i64 h.fr, .int .i64 h.to, .int .i64 h.target]
def hndV (h : Hnd) : Value := .agg #[.int .i64 h.fr, .int .i64 h.to, .int .i64 h.target]

structure Fn where
  name : ByteArray
  params : Int
  regs : Int
  gen : Bool
  code : Sli Ins
  consts : Sli Cst
  caps : Sli Cap
  hnds : Sli Hnd

def fnC (f : Fn) : List Value := [.string f.name, .int .i64 f.params, .int .i64 f.regs, .bool f.gen, f.code.val, f.consts.val, f.caps.val, f.hnds.val]
def fnV (f : Fn) : Value := .agg #[.string f.name, .int .i64 f.params, .int .i64 f.regs, .bool f.gen, f.code.val, f.consts.val, f.caps.val, f.hnds.val]

structure Fn.ok (w : World) (f : Fn) : Prop where
  code : f.code.ok insC 4 w
  consts : f.consts.ok cstC 3 w
  caps : f.caps.ok capC 2 w
  hnds : f.hnds.ok hndC 3 w

theorem Fn.ok.kept {w w' : World} {f : Fn} (h : f.ok w) (hc : ∀ a u, w.cell? a = some u → w'.cell? a = some u) : f.ok w' :=
  ⟨h.code.kept hc, h.consts.kept hc, h.caps.kept hc, h.hnds.kept hc⟩

/-- the handler of a place -/
def catchI (at' : Int) : List Hnd → Int × Bool
  | [] => (0, false)
  | h :: r => if h.fr ≤ at' ∧ at' < h.to then (h.target, true) else catchI at' r

structure CatAt (s : Sli Hnd) (x : Int) (w0 wr : World) (k : Nat) : Prop where
  le : k ≤ s.xs.length
  val : catchI x s.xs = catchI x (s.xs.drop k)
  bel : Below w0.heap.size w0 wr

set_option maxRecDepth 100000 in
theorem catcher_any (s : Sli Hnd) (x : Int) (w : World) (hs : s.ok hndC 3 w) :
    Calls Tryd.prog 29 #[s.val, .int .i64 x] w fun e w' => e = .returned (.tuple #[.int .i64 (catchI x s.xs).1, .bool (catchI x s.xs).2]) ∧ Below w.heap.size w w' := by
  obtain ⟨ad, cap, xs⟩ := s
  have h1 := hs.len
  have h2 := hs.cap
  simp only at h1 h2
  have hlen : xs.length ≤ maxLen := by omega
  clear h1 h2
  have HS : Hid (Sli.ok hndC 3 w ⟨ad, cap, xs⟩) := hs
  have HI : Hid (CatAt ⟨ad, cap, xs⟩ x w w 0) := ⟨Nat.zero_le _, by simp, Below.refl _ _⟩
  clear hs
  unfold Sli.val
  simp only
  unfold maxLen at hlen
  go_enter Tryd.func29, Tryd.ntmps29
  go_wp2_with fail
  go_loopw [10] (fun i wr => ∃ k : Nat, CatAt ⟨ad, cap, xs⟩ x w wr k ∧ i = .int .i64 k) (fun i wr => xs.length - (intOf i).toNat)
  case atStart => exact ⟨0, HI.out, rfl⟩
  case round =>
    obtain ⟨k, hr, rfl⟩ := hrel
    have ple := hr.le
    have HV : Hid (catchI x xs = catchI x (xs.drop k)) := hr.val
    have HB : Hid (Below w.heap.size w wr) := hr.bel
    simp only at ple
    clear hr
    rcases Nat.lt_or_ge k xs.length with c | c
    · obtain ⟨y, hy⟩ : ∃ y, xs[k]? = some y := ⟨_, List.getElem?_eq_getElem c⟩
      have hd : xs.drop k = y :: xs.drop (k + 1) := by
        rw [List.drop_eq_getElem_cons c]
        rw [List.getElem?_eq_getElem c] at hy
        rw [Option.some.inj hy]
      obtain ⟨b, off, rfl, hc⟩ := (HS.out.kept (cells_below HB.out)).cells (by intro e; simp at e; subst e; simp at c)
      have c0 := hc k y hy 0 _ rfl
      have c1 := hc k y hy 1 _ rfl
      have c2 := hc k y hy 2 _ rfl
      clear hc
      obtain ⟨fr, to, tg⟩ := y
      simp only at c0 c1 c2
      rw [Nat.add_zero] at c0
      have HN : Hid (Below w.heap.size w (wr.alloc (.cells #[.int .i64 fr, .int .i64 to, .int .i64 tg] 49))) := HB.out.alloc HB.out.size _
      by_cases t1 : fr ≤ x
      · by_cases t2 : x < to
        · have HV2 : Hid (catchI x xs = (tg, true)) := by
            show _ = _
            rw [HV.out, hd, catchI, if_pos ⟨t1, t2⟩]
          go_wp2_with fail
          go_ret2
          rw [HV2.out]
          exact ⟨rfl, HN.out⟩
        · have HV2 : Hid (CatAt ⟨some ⟨b, off, none⟩, cap, xs⟩ x w (wr.alloc (.cells #[.int .i64 fr, .int .i64 to, .int .i64 tg] 49)) (k + 1)) :=
            ⟨c, by rw [HV.out]; simp only; rw [hd, catchI, if_neg (fun h => t2 h.2)], HN.out⟩
          go_wp2_with fail
          refine ⟨⟨k + 1, HV2.out, by go_num⟩, ?_⟩
          simp [intOf]
          omega
      · have HV2 : Hid (CatAt ⟨some ⟨b, off, none⟩, cap, xs⟩ x w (wr.alloc (.cells #[.int .i64 fr, .int .i64 to, .int .i64 tg] 49)) (k + 1)) :=
          ⟨c, by rw [HV.out]; simp only; rw [hd, catchI, if_neg (fun h => t1 h.1)], HN.out⟩
        go_wp2_with fail
        refine ⟨⟨k + 1, HV2.out, by go_num⟩, ?_⟩
        simp [intOf]
        omega
    · have HV2 : Hid (catchI x xs = (0, false)) := by
        show _ = _
        rw [HV.out, List.drop_of_length_le c]
        rfl
      go_wp2_with fail
      go_ret2
      rw [HV2.out]
      exact ⟨rfl, HB.out⟩

end Go.Proofs.YtkoamenfbnpdbaaDoor.Cd
