/- Package fuse: behind, end. -/
import Derived.Test.YtjkemkggcnholaaFE
namespace Go.Proofs.Ytjkemkggcnholaa.Fu
open Go.RowKit
set_option linter.unusedVariables false

/-- numbers in a slice -/
def IntSl (w : World) (v : Value) (zs : List Int) : Prop := ∃ ad cap, v = .slice ad zs.length cap ∧ zs.length ≤ cap ∧ cap ≤ maxLen ∧ IntsAt w ad zs

theorem IntSl.kept {w w' : World} {v : Value} {zs : List Int} (h : IntSl w v zs) (hc : ∀ a u, w.cell? a = some u → w'.cell? a = some u) : IntSl w' v zs := by
  obtain ⟨ad, cap, h1, h2, h3, h4⟩ := h
  exact ⟨ad, cap, h1, h2, h3, h4.kept hc⟩

theorem OwnI.sl {B : Nat} {w : World} {v : Value} {zs : List Int} (h : OwnI B w v zs) : IntSl w v zs := h.ints

/-- the starts behind a place -/
def behindI (x : Int) (zs : List Int) : List Int := zs.dropWhile fun z => decide (z ≤ x)

theorem IntsAt.tail {w : World} {b off : Nat} {z : Int} {r : List Int} (h : IntsAt w (some ⟨b, off, none⟩) (z :: r)) : IntsAt w (some ⟨b, off + 1, none⟩) r := by
  intro h0
  obtain ⟨b', o', e, h2⟩ := h (by simp)
  cases e
  refine ⟨_, _, rfl, fun i y hi => ?_⟩
  have := h2 (i + 1) y (by simpa using hi)
  rw [show off + 1 + i = off + (i + 1) by omega]
  exact this

theorem IntSl.tail {w : World} {b off cap : Nat} {z : Int} {r : List Int} (h : IntSl w (.slice (some ⟨b, off, none⟩) (r.length + 1) cap) (z :: r)) :
    IntSl w (.slice (if cap = 1 then some ⟨b, off, none⟩ else some ⟨b, off + 1, none⟩) r.length (cap - 1)) r := by
  obtain ⟨ad, c, e, h1, h2, h3⟩ := h
  cases e
  refine ⟨_, _, rfl, by simp at h1; omega, by omega, ?_⟩
  by_cases hc1 : cap = 1
  · intro h0
    simp at h1
    exact absurd (List.length_eq_zero_iff.1 (by omega)) h0
  · rw [if_neg hc1]
    exact IntsAt.tail h3

structure BhAt (w : World) (x : Int) (v0 : Value) (zs : List Int) (v : Value) (ys : List Int) : Prop where
  sl : IntSl w v ys
  val : behindI x zs = behindI x ys
  tr : ∀ w', IntSl w' v0 zs → IntSl w' v ys

def slLen : Value → Nat
  | .slice _ n _ => n
  | _ => 0

set_option maxRecDepth 100000 in
theorem behind_any (v : Value) (zs : List Int) (x : Int) (w : World) (hz : IntSl w v zs) :
    Calls Try.prog 15 #[v, .int .i64 x] w fun e w' => ∃ v', e = .returned v' ∧ (∀ w1, IntSl w1 v zs → IntSl w1 v' (behindI x zs)) ∧ w' = w := by
  have HI : Hid (BhAt w x v zs v zs) := ⟨hz, rfl, fun _ h => h⟩
  clear hz
  go_enter Try.func15, Try.ntmps15
  go_wp2_with fail
  go_loopw [0] (fun u wr => ∃ ys, BhAt w x v zs u ys ∧ wr = w) (fun u wr => slLen u)
  case atStart => exact ⟨zs, HI.out, rfl⟩
  case round =>
    clear HI
    obtain ⟨ys, hr, rfl⟩ := hrel
    have HR : Hid (BhAt wr x v zs u0 ys) := hr
    obtain ⟨ad, cap, rfl, hlc, hcm, hia⟩ := hr.sl
    clear hr
    rcases ys with _ | ⟨y, r⟩
    · simp only [List.length_nil]
      have HV : Hid (behindI x zs = []) := HR.out.val
      have HS : Hid (∀ w1, IntSl w1 v zs → IntSl w1 (.slice ad 0 cap) []) := HR.out.tr
      clear hlc hcm hia HR
      go_wp2_with fail
      go_ret
      exact ⟨_, rfl, by rw [HV.out]; exact HS.out, rfl⟩
    · obtain ⟨b, off, rfl, hc⟩ := hia (by simp)
      have c0 := hc 0 y rfl
      rw [Nat.add_zero] at c0
      have hl1 : (y :: r).length = r.length + 1 := rfl
      have HS : Hid (∀ w1, IntSl w1 v zs → IntSl w1 (.slice (some ⟨b, off, none⟩) (r.length + 1) cap) (y :: r)) := HR.out.tr
      have HT : Hid (IntSl wr (.slice (if cap = 1 then some ⟨b, off, none⟩ else some ⟨b, off + 1, none⟩) r.length (cap - 1)) r) := IntSl.tail HR.out.sl
      have hcap : (cap : Int) ≤ 9223372036854775807 := by unfold maxLen at hcm; omega
      have hL : (r.length : Int) + 1 ≤ cap := by omega
      have HY : Hid (y ≤ x → behindI x zs = behindI x r) := fun h => by rw [HR.out.val]; unfold behindI; rw [List.dropWhile_cons_of_pos (by simpa using h)]
      have HN : Hid (¬ y ≤ x → behindI x zs = y :: r) := fun h => by rw [HR.out.val]; unfold behindI; rw [List.dropWhile_cons_of_neg (by simpa using h)]
      rw [hl1] at *
      clear hc hia hlc hcm HR
      by_cases t : y ≤ x
      · have HP := HY.out t
        clear HY HN
        go_wp2_with fail
        exact ⟨⟨r, ⟨HT.out, HP, fun w1 h => IntSl.tail (HS.out w1 h)⟩, trivial⟩, by simp [slLen]⟩
      · have HP : Hid (behindI x zs = y :: r) := HN.out t
        clear HY HN
        go_wp2_with fail
        go_ret
        exact ⟨_, rfl, by rw [HP.out]; exact HS.out, rfl⟩

/-- the place at which a group must end -/
def endI (n : Int) : List Int → Int
  | [] => n
  | z :: _ => if z < n then z else n

set_option maxRecDepth 100000 in
theorem end_any (la : Option Addr) (n lc : Nat) (v : Value) (zs : List Int) (w : World) (hz : IntSl w v zs) (hn : (n : Int) ≤ 9223372036854775807) :
    Calls Try.prog 17 #[.slice la n lc, v] w fun e w' => e = .returned (.int .i64 (endI n zs)) ∧ w' = w := by
  obtain ⟨ad, cap, rfl, hlc, hcm, hia⟩ := hz
  rcases zs with _ | ⟨y, r⟩
  · simp only [List.length_nil, endI]
    clear hlc hcm hia
    go_enter Try.func17, Try.ntmps17
    go_wp2_with fail
    go_ret
    exact ⟨rfl, rfl⟩
  · obtain ⟨b, off, rfl, hc⟩ := hia (by simp)
    have c0 := hc 0 y rfl
    rw [Nat.add_zero] at c0
    have hl1 : (y :: r).length = r.length + 1 := rfl
    have hcap : (cap : Int) ≤ 9223372036854775807 := by unfold maxLen at hcm; omega
    have hL : (r.length : Int) + 1 ≤ cap := by omega
    rw [hl1] at *
    clear hc hia hlc hcm
    by_cases t : y < n
    · rw [endI, if_pos t]
      go_enter Try.func17, Try.ntmps17
      go_wp2_with fail
      go_ret
      exact ⟨rfl, rfl⟩
    · rw [endI, if_neg t]
      go_enter Try.func17, Try.ntmps17
      go_wp2_with fail
      go_ret
      exact ⟨rfl, rfl⟩

end Go.Proofs.Ytjkemkggcnholaa.Fu
