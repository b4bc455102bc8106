/- The walks of size, minus, plus, shifted. -/
import Derived.Test.YtaikkmehmiiffaaGreatDoorA3
namespace Go.Proofs.YtaikkmehmiiffaaGreatDoor
open Go.RowKit
set_option linter.unusedVariables false

theorem nsize_any (w : World) (v : Value) (g N : Nat) (hv : Num w v g N) (hlen : (wds N).length ≤ 1000000) :
    Calls Tryz.prog 112 #[v] w fun e w' => e = .returned (.int .i64 (bitl N : Int)) ∧ w' = w := by
  obtain ⟨cap, rfl, hown⟩ := hv
  by_cases hz : N = 0
  · subst hz
    rw [wds_zero] at hown ⊢
    go_enter Tryz.func112, Tryz.ntmps112
    go_wp2
    go_ret
    exact ⟨rfl, rfl⟩
  · have hne : wds N ≠ [] := fun e => hz ((wds_eq_nil N).1 e)
    have hl : 0 < (wds N).length := List.length_pos_iff.2 hne
    obtain ⟨x, hx⟩ : ∃ x, (wds N)[(wds N).length - 1]? = some x := ⟨_, List.getElem?_eq_getElem (by omega)⟩
    have hc := owns_cell hown hx
    have hx0 : x ≠ 0 := lean_wds N x (by rw [List.getLast?_eq_getElem?]; exact hx)
    have hx1 := fit_get (fit_wds N) hx
    have hb : (bitl N : Int) = 64 * (wds N).length - clzI x := by
      have e : wds N = (wds N).take ((wds N).length - 1) ++ [x] := by
        rw [← take_next _ _ _ hx, show (wds N).length - 1 + 1 = (wds N).length from by omega, List.take_length]
      have := bitl_top ((wds N).take ((wds N).length - 1)) x hx0 (fit_take (fit_wds N) _)
      rw [← e, wval_wds, List.length_take, Nat.min_eq_left (by omega)] at this
      rw [this]
      unfold clzI bitl
      rw [if_neg hx0]
      simp only [Int.toNat_natCast]
      omega
    have cl := fun w => clz_any (x : Int) w (by omega) (by omega)
    have hz2 : 0 ≤ clzI x ∧ clzI x ≤ 64 := by
      unfold clzI
      have := log2_64 x hx1 hx0
      simp only [Int.toNat_natCast]
      omega
    rw [hb]
    generalize clzI x = z at *
    obtain ⟨hz3, hz4⟩ := hz2
    generalize (wds N).length = n at *
    have HB : Hid ((bitl N : Int) = 64 * n - z) := hb
    clear hb hx
    go_enter Tryz.func112, Tryz.ntmps112
    go_wp2_with (go_at_call 127; refine (cl _).mono ?_; rintro e w1 ⟨rfl, rfl⟩)
    go_ret
    exact ⟨rfl, rfl⟩

/-- the words of minus: those that are done and those that are not -/
def MinusAt (w wr : World) (g cap : Nat) (xs ys : List Nat) (k c : Nat) : Prop :=
  ∃ A : List Nat, A.length = k ∧ Fit A ∧ wval A + wval (ys.take k) = wval (xs.take k) + 18446744073709551616 ^ k * c ∧
    wr.ownsRow g 29 1 (.slice (some ⟨g, 0, none⟩) xs.length cap) xs.length ((A ++ xs.drop k).map wordV) ∧ w.grownBy wr (some g)

theorem own_mid {wr : World} {g cap : Nat} {xs A : List Nat} {k : Nat} (hA : A.length = k) (hown : wr.ownsRow g 29 1 (.slice (some ⟨g, 0, none⟩) xs.length cap) xs.length ((A ++ xs.drop k).map wordV)) {x : Nat} (hx : xs[k]? = some x) :
    wr.cell? ⟨g, k, none⟩ = some (.int .u64 (x : Int)) := by
  refine owns_cell hown ?_
  rw [List.getElem?_append_right (by omega), hA, Nat.sub_self, List.getElem?_drop]
  simpa using hx

theorem own_step {wr : World} {g cap : Nat} {xs A : List Nat} {k : Nat} (hA : A.length = k) (hown : wr.ownsRow g 29 1 (.slice (some ⟨g, 0, none⟩) xs.length cap) xs.length ((A ++ xs.drop k).map wordV)) (hk : k < xs.length) (d : Nat) :
    (wr.setCell ⟨g, k, none⟩ (.int .u64 (d : Int))).ownsRow g 29 1 (.slice (some ⟨g, 0, none⟩) xs.length cap) xs.length ((A ++ [d] ++ xs.drop (k + 1)).map wordV) ∧ wr.grownBy (wr.setCell ⟨g, k, none⟩ (.int .u64 (d : Int))) (some g) := by
  obtain ⟨s1, s2⟩ := hown.stored k (.int .u64 (d : Int))
  have e : ((A ++ xs.drop k).map wordV).set k (.int .u64 (d : Int)) = (A ++ [d] ++ xs.drop (k + 1)).map wordV := by
    rw [show (Value.int .u64 (d : Int)) = wordV d from rfl, ← List.map_set]
    congr 1
    rw [List.set_append_right (s := A) (t := xs.drop k) k _ (by omega), hA, Nat.sub_self, List.drop_eq_getElem_cons hk, List.set_cons_zero, List.append_assoc]
    rfl
  rw [e] at s1
  exact ⟨s1, s2⟩

theorem MinusAt.next {w wr : World} {g cap : Nat} {xs ys : List Nat} {k c : Nat} (h : MinusAt w wr g cap xs ys k c) {x y d b : Nat} (hx : xs[k]? = some x) (hy : wval (ys.take (k + 1)) = wval (ys.take k) + 18446744073709551616 ^ k * y) (hd : d + y + c = x + 18446744073709551616 * b) (hdw : d < 18446744073709551616) :
    MinusAt w (wr.setCell ⟨g, k, none⟩ (.int .u64 (d : Int))) g cap xs ys (k + 1) b := by
  obtain ⟨A, hA, fA, hv, hown, hg⟩ := h
  have hk : k < xs.length := (List.getElem?_eq_some_iff.1 hx).1
  obtain ⟨s1, s2⟩ := own_step hA hown hk d
  exact ⟨A ++ [d], by simp [hA], fit_append fA (fit_one hdw), minus_step xs ys A k x y c d b hA hx hy hd hv, s1, grown_trans hg s2⟩

theorem minus_parts (x y c : Nat) (hx : x < 18446744073709551616) (hy : y < 18446744073709551616) (hc : c ≤ 1) :
    ∃ d b : Nat, d < 18446744073709551616 ∧ b ≤ 1 ∧ d + y + c = x + 18446744073709551616 * b ∧
      (∀ w : World, (callFunc 128 #[.int .u64 (x : Int), .int .u64 (y : Int), .int .u64 (c : Int)]).run Tryz.prog w = .ok (.value (.tuple #[.int .u64 (d : Int), .int .u64 (b : Int)])) w) := by
  refine ⟨(x + 18446744073709551616 - y - c) % 18446744073709551616, if x < y + c then 1 else 0, by omega, by split <;> omega, by split <;> omega, fun w => sub64_run x y c hc w⟩

theorem minus_walk (w : World) (g cap k cup : Nat) (xs ys : List Nat) (fx : Fit xs) (fy : Fit ys) (hlen : xs.length ≤ 1000000) (hle : wval ys ≤ wval xs) (hl2 : ys.length ≤ xs.length) (hgk : g ≠ k)
    (hown : w.ownsRow g 29 1 (.slice (some ⟨g, 0, none⟩) xs.length cap) xs.length (xs.map wordV))
    (hwn : w.ownsRow k 29 1 (.slice (some ⟨k, 0, none⟩) ys.length cup) ys.length (ys.map wordV)) :
    Calls Tryz.prog 115 #[.slice (some ⟨g, 0, none⟩) xs.length cap, .slice (some ⟨k, 0, none⟩) ys.length cup] w fun e w' => ∃ v', e = .returned v' ∧ Holds w' v' g (wds (wval xs - wval ys)) ∧ w.grownBy w' (some g) := by
  go_enter Tryz.func115, Tryz.ntmps115
  go_wp2_with fail
  go_loopw [5, 10] (fun b i wr => ∃ j c : Nat, j ≤ xs.length ∧ i = .int .i64 j ∧ b = .int .u64 c ∧ c ≤ 1 ∧ MinusAt w wr g cap xs ys j c) (fun _ i _ => xs.length - (intOf i).toNat)
  case atStart => exact ⟨0, 0, Nat.zero_le _, rfl, rfl, by omega, [], rfl, (by intro x hx; simp at hx), by simp [wval], by simpa using hown, grown_refl w _⟩
  case round =>
    obtain ⟨j, c, hj, rfl, rfl, hc, hs⟩ := hrel
    rcases Nat.lt_or_ge j xs.length with hlt | hge
    · obtain ⟨x, hx⟩ : ∃ x, xs[j]? = some x := ⟨_, List.getElem?_eq_getElem hlt⟩
      have hx1 := fit_get fx hx
      have cl : wr.cell? ⟨g, j, none⟩ = some (.int .u64 (x : Int)) := by
        obtain ⟨A, hA, _, _, ho, _⟩ := hs
        exact own_mid hA ho hx
      have fr : wr.frozen? ⟨g, j, none⟩ = false := by
        obtain ⟨A, hA, _, _, ho, _⟩ := hs
        exact ho.frozenAt j
      by_cases hy2 : j < ys.length
      · obtain ⟨y, hy⟩ : ∃ y, ys[j]? = some y := ⟨_, List.getElem?_eq_getElem hy2⟩
        have cy : wr.cell? ⟨k, j, none⟩ = some (.int .u64 (y : Int)) := by
          obtain ⟨A, hA, _, _, ho, hg⟩ := hs
          exact hg.cell (owns_cell hwn hy) (by simp; omega)
        obtain ⟨d, b, d1, d2, d3, d4⟩ := minus_parts x y c hx1 (fit_get fy hy) hc
        have nx := hs.next hx (other_in ys j y hy) d3 d1
        have HN : Hid (MinusAt w (wr.setCell ⟨g, j, none⟩ (.int .u64 (d : Int))) g cap xs ys (j + 1) b) := nx
        clear nx d3
        go_wp2_with fail
        go_roundw
        case rel => exact ⟨j + 1, b, by omega, by go_num, rfl, d2, HN.out⟩
        case measure => simp [intOf]; omega
      · obtain ⟨d, b, d1, d2, d3, d4⟩ := minus_parts x 0 c hx1 (by omega) hc
        have nx := hs.next hx (other_out ys j (by omega)) d3 d1
        have HN : Hid (MinusAt w (wr.setCell ⟨g, j, none⟩ (.int .u64 (d : Int))) g cap xs ys (j + 1) b) := nx
        have d5 : ∀ w : World, (callFunc 128 #[.int .u64 (x : Int), .int .u64 0, .int .u64 (c : Int)]).run Tryz.prog w = .ok (.value (.tuple #[.int .u64 (d : Int), .int .u64 (b : Int)])) w := d4
        clear nx d3 d4
        go_wp2_with fail
        go_roundw
        case rel => exact ⟨j + 1, b, by omega, by go_num, rfl, d2, HN.out⟩
        case measure => simp [intOf]; omega
    · have : j = xs.length := by omega
      subst this
      obtain ⟨A, hA, fA, hv, hown', hg'⟩ := hs
      rw [List.drop_length, List.append_nil] at hown'
      have hH : Holds wr (.slice (some ⟨g, 0, none⟩) xs.length cap) g A := ⟨cap, by rw [hA], by rw [hA]; exact hown'⟩
      have tr := trimmed_any wr _ g A hH fA
      rw [minus_done xs ys A c hA fA hl2 hle hc hv] at tr
      go_wp2_with (go_at_call 111; refine tr.mono ?_; rintro e w2 ⟨rfl, v', rfl, hh⟩)
      go_ret
      exact ⟨_, rfl, hh, hg'⟩

theorem minus_any (w : World) (v u : Value) (g k N M : Nat) (hv : Num w v g N) (hu : Num w u k M) (hlen : (wds N).length ≤ 1000000) (hle : M ≤ N) (hgk : g ≠ k) :
    Calls Tryz.prog 115 #[v, u] w fun e w' => ∃ v', e = .returned v' ∧ Num w' v' g (N - M) ∧ w.grownBy w' (some g) := by
  obtain ⟨cap, rfl, hown⟩ := hv
  obtain ⟨cup, rfl, hwn⟩ := hu
  have hl : (wds M).length ≤ (wds N).length := by
    rcases Nat.lt_or_ge (wds N).length (wds M).length with c | c
    · have := lt_of_length c; omega
    · exact c
  have := minus_walk w g cap k cup (wds N) (wds M) (fit_wds N) (fit_wds M) hlen (by rw [wval_wds, wval_wds]; exact hle) hl hgk hown hwn
  rw [wval_wds, wval_wds] at this
  exact this

end Go.Proofs.YtaikkmehmiiffaaGreatDoor
