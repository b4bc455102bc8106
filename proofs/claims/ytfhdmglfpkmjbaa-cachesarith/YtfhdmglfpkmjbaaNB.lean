/- Caches: entries; whether one holds; those who say the same of each cell. -/
import Derived.Test.YtfhdmglfpkmjbaaNA
namespace Go.Proofs.Ytfhdmglfpkmjbaa.Hp
open Go.RowKit
set_option linter.unusedVariables false
set_option linter.unusedSimpArgs false

structure En where
  sh : Int
  ho : Int
  sl : Int
  ce : Int
deriving DecidableEq

def encE (e : En) : List Value := [.int .i64 e.sh, .int .i64 e.ho, .int .i64 e.sl, .int .i64 e.ce]
def En.val (e : En) : Value := .agg #[.int .i64 e.sh, .int .i64 e.ho, .int .i64 e.sl, .int .i64 e.ce]

theorem rtE : RT encE 22 26 4 32 := ⟨fun _ => rfl, Try.underlying22, rt_inf (z := .agg #[.int .i64 0, .int .i64 0, .int .i64 0, .int .i64 0]) (by kernel_rfl) (by decide), by decide, fun y u hu => by
  simp only [encE, List.mem_cons, List.not_mem_nil, or_false] at hu
  rcases hu with rfl | rfl | rfl | rfl <;> rfl⟩

def iC (n : Int) : List Value := [.int .i64 n]

theorem rtI : RT iC 27 3 1 8 := ⟨fun _ => rfl, Try.underlying27, rt_inf (z := .int .i64 0) (by kernel_rfl) (by decide), by decide, fun y u hu => by
  simp only [iC, List.mem_cons, List.not_mem_nil, or_false] at hu
  subst hu; rfl⟩

/-- does an entry hold? -/
def hldB (vf : Int → Bool) (e : En) : Bool := e.ce == -1 || vf e.ce

set_option maxRecDepth 100000 in
theorem holds_any {X : World → Prop} {f : Nat} {cap : Array Value} {vf : Int → Bool} (A : Ask X f cap vf) (e : En) (w : World) (hX : X w) :
    Calls Try.prog 25 #[e.val, fnV f cap] w fun r w' => r = .returned (.bool (hldB vf e)) ∧ Below w.heap.size w w' := by
  obtain ⟨sh, ho, sl, ce⟩ := e
  obtain ⟨w1, hw1⟩ : ∃ w1, w1 = w.alloc (.cells #[.int .i64 sh, .int .i64 ho, .int .i64 sl, .int .i64 ce] 26) := ⟨_, rfl⟩
  have hB : Below w.heap.size w w1 := by rw [hw1]; exact (Below.refl _ _).alloc (Nat.le_refl _) _
  have ks := says_any A ce w1 (A.kept hX hB)
  unfold hldB En.val
  simp only
  generalize hg : fnV f cap = F at *
  generalize vf ce = r at *
  clear A hX
  have HB : Hid (Below w.heap.size w w1) := hB
  by_cases c : ce = -1
  · subst c
    clear ks hB
    go_enter Try.func25, Try.ntmps25
    go_wp2_with fail
    go_ret
    rw [← hw1]
    exact ⟨rfl, HB.out⟩
  · have hc : (ce == (-1 : Int)) = false := by simpa using c
    rw [hc, Bool.false_or]
    clear hB
    go_enter Try.func25, Try.ntmps25
    go_wp2_with fail
    rw [← hw1]
    refine ks.mono ?_
    rintro e w2 ⟨rfl, hb2⟩
    have HB2 : Hid (Below w.heap.size w w2) := HB.out.trans (hb2.mono HB.out.size)
    clear ks hb2 hw1 HB
    go_wp2_with fail
    go_ret
    exact ⟨rfl, HB2.out⟩

theorem ask_const {f : Nat} {b : Bool} (he : ∀ (args : Array Value) (w : World), (callFunc f args).run Try.prog w = .ok (.enter f args) w) (hc : ∀ (c : Int) (w : World), Calls Try.prog f #[.int .i64 c] w fun e w' => e = .returned (.bool b) ∧ w' = w) : Ask (fun _ => True) f #[] (fun _ => b) :=
  ⟨he, fun _ _ => trivial, fun c w _ => (hc c w).mono fun e w' h => ⟨h.1, by rw [h.2]; exact Below.refl _ _⟩⟩

theorem ask_alive1 : Ask (fun _ => True) 26 #[] (fun _ => false) := ask_const (fun _ _ => by kernel_rfl) fun c w => by
  go_enter Try.func26, Try.ntmps26
  go_wp2_with fail
  go_ret
  exact ⟨rfl, rfl⟩
theorem ask_alive2 : Ask (fun _ => True) 27 #[] (fun _ => false) := ask_const (fun _ _ => by kernel_rfl) fun c w => by
  go_enter Try.func27, Try.ntmps27
  go_wp2_with fail
  go_ret
  exact ⟨rfl, rfl⟩
theorem ask_few : Ask (fun _ => True) 18 #[] (fun _ => true) := ask_const (fun _ _ => by kernel_rfl) fun c w => by
  go_enter Try.func18, Try.ntmps18
  go_wp2_with fail
  go_ret
  exact ⟨rfl, rfl⟩
theorem ask_yes : Ask (fun _ => True) 22 #[] (fun _ => true) := ask_const (fun _ _ => by kernel_rfl) fun c w => by
  go_enter Try.func22, Try.ntmps22
  go_wp2_with fail
  go_ret
  exact ⟨rfl, rfl⟩
theorem ask_no : Ask (fun _ => True) 23 #[] (fun _ => false) := ask_const (fun _ _ => by kernel_rfl) fun c w => by
  go_enter Try.func23, Try.ntmps23
  go_wp2_with fail
  go_ret
  exact ⟨rfl, rfl⟩
theorem ask_last : Ask (fun _ => True) 24 #[] (fun _ => true) := ask_const (fun _ _ => by kernel_rfl) fun c w => by
  go_enter Try.func24, Try.ntmps24
  go_wp2_with fail
  go_ret
  exact ⟨rfl, rfl⟩
end Go.Proofs.Ytfhdmglfpkmjbaa.Hp
