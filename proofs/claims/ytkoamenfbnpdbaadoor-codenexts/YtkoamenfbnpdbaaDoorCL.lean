/- CodeNexts: the law's walk. -/
import Derived.Test.YtkoamenfbnpdbaaDoorCJ
namespace Go.Proofs.YtkoamenfbnpdbaaDoor.Cd
open Go.RowKit Go.Deep
set_option linter.unusedVariables false

/-- two rows of the call's own are the same -/
theorem ints_own (B1 B2 : Nat) (w : World) (u v : Value) (zs : List Int) (h1 : OwnI B1 w u zs) (h2 : OwnI B2 w v zs) :
    Calls Tryd.prog 14 #[u, v] w fun e w' => e = .returned (.bool true) ∧ Below w.heap.size w w' := by
  obtain ⟨a1, c1, rfl, l1, m1, i1⟩ := h1.ints
  obtain ⟨a2, c2, rfl, l2, m2, i2⟩ := h2.ints
  have hm : zs.length ≤ maxLen := by omega
  unfold maxLen at hm
  refine (ints_any a1 a2 c1 c2 zs zs w i1 i2 (by omega) (by omega)).mono ?_
  rintro e w' ⟨rfl, h⟩
  exact ⟨by rw [decide_eq_true rfl], h⟩

/-- a world behind another, in which a function lies -/
structure LawAt (f : Fn) (w w' : World) : Prop where
  bel : Below (w.alloc (fnB f)).heap.size (w.alloc (fnB f)) w'

set_option maxRecDepth 100000 in
set_option maxHeartbeats 16000000 in
theorem nexts_walk (f : Fn) (x : Int) (w : World) (hS : ShAt w) (hf : f.ok w) (hlen : (f.code.xs.length + f.hnds.xs.length + 1) * 8 ≤ 140737488355328) :
    Calls Tryd.prog 5 #[fnV f, .int .i64 x] w fun e w' => e = .returned (.bool true) ∧ Below w.heap.size w w' := by
  have B0 : Below w.heap.size w (w.alloc (fnB f)) := below_new (Below.refl _ _) (Nat.le_refl _) _
  have hf1 := hf.kept (cells_below B0)
  have hS1 := hS.below B0
  have HF : Hid (∀ w', LawAt f w w' → f.ok w' ∧ ShAt w' ∧ ∀ j u, (fnC f)[j]? = some u → w'.cell? ⟨w.heap.size, j, none⟩ = some u) := by
    intro w' h
    have h' := cells_below h.bel
    exact ⟨hf1.kept h', hS1.below h.bel, fun j u hj => h' _ _ (fnB_cell f w j u hj)⟩
  have HI : Hid (LawAt f w (w.alloc (fnB f))) := ⟨Below.refl _ _⟩
  have HT : Hid (∀ w1 w2, LawAt f w w1 → Below w1.heap.size w1 w2 → LawAt f w w2) := fun w1 w2 h1 h2 => ⟨h1.bel.trans (h2.mono h1.bel.size)⟩
  have HD : Hid (∀ w', LawAt f w w' → Below w.heap.size w w') := fun w' h => B0.trans (h.bel.mono B0.size)
  have c9 : Hid (∀ w', LawAt f w w' → Calls Tryd.prog 9 #[] w' fun e w'' => e = .returned (.bool true) ∧ LawAt f w w'') := fun w' h => (alive_any w' (HF.out w' h).2.1).mono fun e w'' k => ⟨k.1, HT.out w' w'' h k.2⟩
  have c15 : ∀ w', LawAt f w w' → Calls Tryd.prog 15 #[fnV f, .int .i64 x] w' fun e w'' => ∃ v, e = .returned v ∧ OwnI 0 w'' v (nextI f x) ∧ Below w'.heap.size w' w'' ∧ LawAt f w w'' := fun w' h => (next_any f x w' (HF.out w' h).1).mono fun e w'' ⟨v, k1, k2, k3⟩ => ⟨v, k1, k2.low (Nat.zero_le _), k3, HT.out w' w'' h k3⟩
  have c16 : ∀ w', LawAt f w w' → Calls Tryd.prog 16 #[fnV f, .int .i64 x] w' fun e w'' => ∃ v, e = .returned v ∧ OwnI 0 w'' v (nextI f x) ∧ Below w'.heap.size w' w'' ∧ LawAt f w w'' := fun w' h => (rnext_any f x w' (HF.out w' h).1).mono fun e w'' ⟨v, k1, k2, k3⟩ => ⟨v, k1, k2.low (Nat.zero_le _), k3, HT.out w' w'' h k3⟩
  have c17 : ∀ w', LawAt f w w' → Calls Tryd.prog 17 #[fnV f] w' fun e w'' => ∃ v, e = .returned v ∧ OwnI 0 w'' v (risen (startL f)) ∧ Below w'.heap.size w' w'' ∧ LawAt f w w'' := fun w' h => (starts_any f w' (HF.out w' h).1 hlen).mono fun e w'' ⟨v, k1, k2, k3⟩ => ⟨v, k1, k2.low (Nat.zero_le _), k3, HT.out w' w'' h k3⟩
  have c18 : ∀ w', LawAt f w w' → Calls Tryd.prog 18 #[fnV f] w' fun e w'' => ∃ v, e = .returned v ∧ OwnI 0 w'' v (risen (startL f)) ∧ Below w'.heap.size w' w'' ∧ LawAt f w w'' := fun w' h => (rstarts_any f w' (HF.out w' h).1 hlen).mono fun e w'' ⟨v, k1, k2, k3⟩ => ⟨v, k1, k2.low (Nat.zero_le _), k3, HT.out w' w'' h k3⟩
  have c14 : ∀ w' u v zs, LawAt f w w' → OwnI 0 w' u zs → OwnI 0 w' v zs → Calls Tryd.prog 14 #[u, v] w' fun e w'' => e = .returned (.bool true) ∧ LawAt f w w'' := fun w' u v zs h h1 h2 => (ints_own 0 0 w' u v zs h1 h2).mono fun e w'' k => ⟨k.1, HT.out w' w'' h k.2⟩
  have HK : Hid (∀ w', LawAt f w w' → (∀ j u, (fnC f)[j]? = some u → w'.cell? ⟨w.heap.size, j, none⟩ = some u)) := fun w' h => (HF.out w' h).2.2
  have c9' : Calls Tryd.prog 9 #[] (w.alloc (fnB f)).drew fun e w'' => e = .returned (.bool true) ∧ LawAt f w w'' := c9.out _ (HT.out _ _ HI.out (Below.refl _ _).drew)
  clear hf hf1 hS hS1 B0 hlen c9
  generalize nextI f x = NL at *
  generalize risen (startL f) = SL at *
  obtain ⟨nm, pa, re, ge, ⟨ca, c1, cx⟩, ⟨ka, kc, kx⟩, ⟨pa', pc, px⟩, ⟨ha, hc, hx⟩⟩ := f
  unfold fnB at HI c9'
  unfold fnV at *
  unfold fnC at HK
  unfold Sli.val at *
  simp only at *
  generalize hFF : (⟨nm, pa, re, ge, ⟨ca, c1, cx⟩, ⟨ka, kc, kx⟩, ⟨pa', pc, px⟩, ⟨ha, hc, hx⟩⟩ : Fn) = F at *
  clear hFF
  have HKS : ∀ w', LawAt F w w' → (w'.cell? ⟨w.heap.size, 0, none⟩ = some (.string nm) ∧ w'.cell? ⟨w.heap.size, 1, none⟩ = some (.int .i64 pa) ∧ w'.cell? ⟨w.heap.size, 2, none⟩ = some (.int .i64 re) ∧ w'.cell? ⟨w.heap.size, 3, none⟩ = some (.bool ge) ∧ w'.cell? ⟨w.heap.size, 4, none⟩ = some (.slice ca cx.length c1) ∧ w'.cell? ⟨w.heap.size, 5, none⟩ = some (.slice ka kx.length kc) ∧ w'.cell? ⟨w.heap.size, 6, none⟩ = some (.slice pa' px.length pc) ∧ w'.cell? ⟨w.heap.size, 7, none⟩ = some (.slice ha hx.length hc)) := fun w' h => ⟨HK.out w' h 0 _ rfl, HK.out w' h 1 _ rfl, HK.out w' h 2 _ rfl, HK.out w' h 3 _ rfl, HK.out w' h 4 _ rfl, HK.out w' h 5 _ rfl, HK.out w' h 6 _ rfl, HK.out w' h 7 _ rfl⟩
  have HKH : Hid (∀ w', LawAt F w w' → (w'.cell? ⟨w.heap.size, 0, none⟩ = some (.string nm) ∧ w'.cell? ⟨w.heap.size, 1, none⟩ = some (.int .i64 pa) ∧ w'.cell? ⟨w.heap.size, 2, none⟩ = some (.int .i64 re) ∧ w'.cell? ⟨w.heap.size, 3, none⟩ = some (.bool ge) ∧ w'.cell? ⟨w.heap.size, 4, none⟩ = some (.slice ca cx.length c1) ∧ w'.cell? ⟨w.heap.size, 5, none⟩ = some (.slice ka kx.length kc) ∧ w'.cell? ⟨w.heap.size, 6, none⟩ = some (.slice pa' px.length pc) ∧ w'.cell? ⟨w.heap.size, 7, none⟩ = some (.slice ha hx.length hc))) := HKS
  clear HKS HK HF
  have h15 : Hid (∀ w', LawAt F w w' → Calls Tryd.prog 15 #[.agg #[.string nm, .int .i64 pa, .int .i64 re, .bool ge, .slice ca cx.length c1, .slice ka kx.length kc, .slice pa' px.length pc, .slice ha hx.length hc], .int .i64 x] w' fun e w'' => ∃ v, e = .returned v ∧ OwnI 0 w'' v NL ∧ Below w'.heap.size w' w'' ∧ LawAt F w w'') := c15
  have h16 : Hid (∀ w', LawAt F w w' → Calls Tryd.prog 16 #[.agg #[.string nm, .int .i64 pa, .int .i64 re, .bool ge, .slice ca cx.length c1, .slice ka kx.length kc, .slice pa' px.length pc, .slice ha hx.length hc], .int .i64 x] w' fun e w'' => ∃ v, e = .returned v ∧ OwnI 0 w'' v NL ∧ Below w'.heap.size w' w'' ∧ LawAt F w w'') := c16
  have h17 : Hid (∀ w', LawAt F w w' → Calls Tryd.prog 17 #[.agg #[.string nm, .int .i64 pa, .int .i64 re, .bool ge, .slice ca cx.length c1, .slice ka kx.length kc, .slice pa' px.length pc, .slice ha hx.length hc]] w' fun e w'' => ∃ v, e = .returned v ∧ OwnI 0 w'' v SL ∧ Below w'.heap.size w' w'' ∧ LawAt F w w'') := c17
  have h18 : Hid (∀ w', LawAt F w w' → Calls Tryd.prog 18 #[.agg #[.string nm, .int .i64 pa, .int .i64 re, .bool ge, .slice ca cx.length c1, .slice ka kx.length kc, .slice pa' px.length pc, .slice ha hx.length hc]] w' fun e w'' => ∃ v, e = .returned v ∧ OwnI 0 w'' v SL ∧ Below w'.heap.size w' w'' ∧ LawAt F w w'') := c18
  have h14 : Hid (∀ w' u v zs, LawAt F w w' → OwnI 0 w' u zs → OwnI 0 w' v zs → Calls Tryd.prog 14 #[u, v] w' fun e w'' => e = .returned (.bool true) ∧ LawAt F w w'') := c14
  clear c14 c15 c16 c17 c18
  go_enter Tryd.func5, Tryd.ntmps5
  go_wp2_with fail
  go_region_held_law (fun w' => w'.cell? ⟨w.heap.size, 0, none⟩ = some (.string nm) ∧ w'.cell? ⟨w.heap.size, 1, none⟩ = some (.int .i64 pa) ∧ w'.cell? ⟨w.heap.size, 2, none⟩ = some (.int .i64 re) ∧ w'.cell? ⟨w.heap.size, 3, none⟩ = some (.bool ge) ∧ w'.cell? ⟨w.heap.size, 4, none⟩ = some (.slice ca cx.length c1) ∧ w'.cell? ⟨w.heap.size, 5, none⟩ = some (.slice ka kx.length kc) ∧ w'.cell? ⟨w.heap.size, 6, none⟩ = some (.slice pa' px.length pc) ∧ w'.cell? ⟨w.heap.size, 7, none⟩ = some (.slice ha hx.length hc)) (first | go_keep | exact HKH.out _ la1 | exact HKH.out _ la2 | exact HKH.out _ la3 | exact HKH.out _ la4 | exact HKH.out _ la5 | exact HKH.out _ la6 | exact HKH.out _ la7) (first
    | (go_at_call 9; refine c9'.mono ?_; rintro e w1 ⟨rfl, la1⟩)
    | (go_at_call 15; refine (h15.out _ la1).mono ?_; rintro e w2 ⟨v2, rfl, o2, b2, la2⟩)
    | (go_at_call 16; refine (h16.out _ la2).mono ?_; rintro e w3 ⟨v3, rfl, o3, b3, la3⟩)
    | (go_at_call_of 14 v2; refine (h14.out _ v2 v3 NL la3 (o2.kept b3) o3).mono ?_; rintro e w4 ⟨rfl, la4⟩)
    | (go_at_call 17; refine (h17.out _ la4).mono ?_; rintro e w5 ⟨v5, rfl, o5, b5, la5⟩)
    | (go_at_call 18; refine (h18.out _ la5).mono ?_; rintro e w6 ⟨v6, rfl, o6, b6, la6⟩)
    | (go_at_call_of 14 v5; refine (h14.out _ v5 v6 SL la6 (o5.kept b6) o6).mono ?_; rintro e w7 ⟨rfl, la7⟩))
  have HE : Hid (Below w.heap.size w w7) := HD.out w7 la7
  clear la1 la2 la3 la4 la5 la6 la7 o2 o3 o5 o6 b2 b3 b5 b6
  go_wp2_with fail
  go_ret
  exact ⟨rfl, HE.out⟩

end Go.Proofs.YtkoamenfbnpdbaaDoor.Cd
