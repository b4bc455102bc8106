/- CodeChecks: the law's walk. -/
import Derived.Test.YtkoamenfbnpdbaaDoorCW
namespace Go.Proofs.YtkoamenfbnpdbaaDoor.Cd
open Go.RowKit Go.Deep
set_option linter.unusedVariables false

structure PrAt (v : Value) (w w' : World) : Prop where
  bel : Below (w.alloc (.cells #[v] 24)).heap.size (w.alloc (.cells #[v] 24)) w'

set_option maxRecDepth 100000 in
set_option maxHeartbeats 16000000 in
theorem checks_walk (s : Sli Fn) (w : World) (hS : ShAt w) (hs : FnsOk w s) :
    Calls Tryd.prog 3 #[.agg #[s.val]] w fun e w' => e = .returned (.bool true) ∧ Below w.heap.size w w' := by
  obtain ⟨ad, cap, fs⟩ := s
  have B0 : Below w.heap.size w (w.alloc (.cells #[.slice ad fs.length cap] 24)) := below_new (Below.refl _ _) (Nat.le_refl _) _
  have hs1 := hs.kept (cells_below B0)
  have hS1 := hS.below B0
  have HF : Hid (∀ w', PrAt (.slice ad fs.length cap) w w' → FnsOk w' ⟨ad, cap, fs⟩ ∧ ShAt w' ∧ w'.cell? ⟨w.heap.size, 0, none⟩ = some (.slice ad fs.length cap)) := fun w' h =>
    ⟨hs1.kept (cells_below h.bel), hS1.below h.bel, cells_below h.bel _ _ (progB_cell _ w)⟩
  have HT : Hid (∀ w1 w2, PrAt (.slice ad fs.length cap) w w1 → Below w1.heap.size w1 w2 → PrAt (.slice ad fs.length cap) w w2) := fun w1 w2 h1 h2 => ⟨h1.bel.trans (h2.mono h1.bel.size)⟩
  have HD : Hid (∀ w', PrAt (.slice ad fs.length cap) w w' → Below w.heap.size w w') := fun w' h => B0.trans (h.bel.mono B0.size)
  have hcap : ∀ f ∈ fs, (f.caps.xs.length : Int) ≤ 9223372036854775807 := fun f hf => by
    have h := (hs.each f hf).caps
    have h2 := Nat.le_trans h.len h.cap
    unfold maxLen at h2
    omega
  have e1 : rcheckI fs = checkI fs := by unfold rcheckI checkI; rw [rcheck_same fs hcap]
  have c9 : Calls Tryd.prog 9 #[] (w.alloc (.cells #[.slice ad fs.length cap] 24)).drew fun e w'' => e = .returned (.bool true) ∧ PrAt (.slice ad fs.length cap) w w'' := by
    have h0 : PrAt (.slice ad fs.length cap) w (w.alloc (.cells #[.slice ad fs.length cap] 24)).drew := ⟨(Below.refl _ _).drew⟩
    exact (alive_any _ (HF.out _ h0).2.1).mono fun e w'' k => ⟨k.1, HT.out _ w'' h0 k.2⟩
  have h10 : Hid (∀ w', PrAt (.slice ad fs.length cap) w w' → Calls Tryd.prog 10 #[.agg #[.slice ad fs.length cap]] w' fun e w'' => e = .returned (.int .i64 (checkI fs)) ∧ PrAt (.slice ad fs.length cap) w w'') := fun w' h =>
    (check_any ⟨ad, cap, fs⟩ w' (HF.out w' h).1 (HF.out w' h).2.1).mono fun e w'' k => ⟨k.1, HT.out w' w'' h k.2⟩
  have h11 : Hid (∀ w', PrAt (.slice ad fs.length cap) w w' → Calls Tryd.prog 11 #[.agg #[.slice ad fs.length cap]] w' fun e w'' => e = .returned (.int .i64 (checkI fs)) ∧ PrAt (.slice ad fs.length cap) w w'') := fun w' h =>
    (rcheck_any ⟨ad, cap, fs⟩ w' (HF.out w' h).1).mono fun e w'' k => ⟨by rw [← e1]; exact k.1, HT.out w' w'' h k.2⟩
  have HK : Hid (∀ w', PrAt (.slice ad fs.length cap) w w' → w'.cell? ⟨w.heap.size, 0, none⟩ = some (.slice ad fs.length cap)) := fun w' h => (HF.out w' h).2.2
  clear hs hs1 hS hS1 B0 hcap e1 HF HT
  unfold Sli.val
  simp only
  generalize checkI fs = D at *
  go_enter Tryd.func3, Tryd.ntmps3
  go_wp2_with fail
  go_region_held_law (fun w' => w'.cell? ⟨w.heap.size, 0, none⟩ = some (.slice ad fs.length cap)) (first | go_keep | exact HK.out _ la1 | exact HK.out _ la2 | exact HK.out _ la3) (first
    | (go_at_call 9; refine c9.mono ?_; rintro e w1 ⟨rfl, la1⟩)
    | (go_at_call 10; refine (h10.out _ la1).mono ?_; rintro e w2 ⟨rfl, la2⟩)
    | (go_at_call 11; refine (h11.out _ la2).mono ?_; rintro e w3 ⟨rfl, la3⟩))
  have HE : Hid (Below w.heap.size w w3) := HD.out w3 la3
  clear la1 la2 la3
  go_wp2_with fail
  go_ret
  exact ⟨rfl, HE.out⟩

end Go.Proofs.YtkoamenfbnpdbaaDoor.Cd
