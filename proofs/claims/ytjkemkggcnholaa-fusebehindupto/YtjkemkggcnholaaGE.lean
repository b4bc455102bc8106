/- Package fuse: Where. The document's In. -/
import Derived.Test.YtjkemkggcnholaaGC
namespace Go.Proofs.Ytjkemkggcnholaa.Fu
open Go.RowKit
set_option linter.unusedVariables false

/-- the group in which a place stands, and how far in it -/
def whereF (x : Int) : Nat → List Grp → Int × Int × Bool
  | _, [] => (0, 0, false)
  | i, g :: r => if (g.p : Int) ≤ x ∧ x < (g.p : Int) + g.n then (i, x - g.p, true) else whereF x (i + 1) r

structure WhAt (s : Sli Grp) (x : Int) (w0 wr : World) (k : Nat) : Prop where
  le : k ≤ s.xs.length
  val : whereF x 0 s.xs = whereF x k (s.xs.drop k)
  bel : Below w0.heap.size w0 wr

/-- places and lengths that are no greater than slices are -/
def GrpSm (gs : List Grp) : Prop := ∀ g ∈ gs, g.p ≤ 17592186044416 ∧ g.n ≤ 3

set_option maxRecDepth 100000 in
theorem where_any (s : Sli Grp) (x : Int) (w : World) (hs : s.ok grpC 3 w) (hsm : GrpSm s.xs) (hx1 : -9223372036854775808 ≤ x) (hx2 : x ≤ 9223372036854775807) :
    Calls Try.prog 13 #[s.val, .int .i64 x] w fun e w' => e = .returned (.tuple #[.int .i64 (whereF x 0 s.xs).1, .int .i64 (whereF x 0 s.xs).2.1, .bool (whereF x 0 s.xs).2.2]) ∧ Below w.heap.size w w' := by
  obtain ⟨ad, cap, xs⟩ := s
  have h1 := hs.len
  have h2 := hs.cap
  simp only at h1 h2
  have hlen : xs.length ≤ maxLen := by omega
  clear h1 h2
  have HS : Hid (Sli.ok grpC 3 w ⟨ad, cap, xs⟩) := hs
  have HM : Hid (GrpSm xs) := hsm
  have HI : Hid (WhAt ⟨ad, cap, xs⟩ x w w 0) := ⟨Nat.zero_le _, by simp, Below.refl _ _⟩
  clear hs hsm
  unfold Sli.val
  simp only
  unfold maxLen at hlen
  go_enter Try.func13, Try.ntmps13
  go_wp2_with fail
  go_loopw [11] (fun i wr => ∃ k : Nat, WhAt ⟨ad, cap, xs⟩ x w wr k ∧ i = .int .i64 k) (fun i wr => xs.length - (intOf i).toNat)
  case atStart => exact ⟨0, HI.out, rfl⟩
  case round =>
    obtain ⟨k, hr, rfl⟩ := hrel
    have ple := hr.le
    have HV : Hid (whereF x 0 xs = whereF x k (xs.drop k)) := hr.val
    have HB : Hid (Below w.heap.size w wr) := hr.bel
    simp only at ple
    clear hr
    rcases Nat.lt_or_ge k xs.length with c | c
    · have hex : ∃ y, xs[k]? = some y := ⟨_, List.getElem?_eq_getElem c⟩
      obtain ⟨y, hy⟩ := hex
      have hd : xs.drop k = y :: xs.drop (k + 1) := by
        rw [List.drop_eq_getElem_cons c]
        rw [List.getElem?_eq_getElem c] at hy
        rw [Option.some.inj hy]
      obtain ⟨b, off, rfl, hc⟩ := (HS.out.kept (cells_below HB.out)).cells (by intro e; simp at e; subst e; simp at c)
      have c0 := hc k y hy 0 _ rfl
      have c1 := hc k y hy 1 _ rfl
      have c2 := hc k y hy 2 _ rfl
      have hm := HM.out y (List.mem_of_getElem? hy)
      clear hc
      obtain ⟨gp, gn, gk⟩ := y
      simp only at c0 c1 c2 hm
      rw [Nat.add_zero] at c0
      have HN : Hid (Below w.heap.size w (wr.alloc (.cells #[.int .i64 (gp : Nat), .int .i64 (gn : Nat), .int .i64 gk] 32))) := HB.out.alloc HB.out.size _
      have hp1 : (gp : Int) ≤ 17592186044416 := by omega
      have hp2 : (gn : Int) ≤ 3 := by omega
      clear hm hy
      by_cases t1 : (gp : Int) ≤ x
      · by_cases t2 : x < (gp : Int) + gn
        · have HV2 : Hid (whereF x 0 xs = ((k : Int), x - gp, true)) := by
            show _ = _
            rw [HV.out, hd, whereF, if_pos ⟨t1, t2⟩]
          have t3 : (0 : Int) < gn := by omega
          have t4 : x - gp < gn := by omega
          clear HV HM HS HI hd
          go_wp2_with fail
          go_region
          all_goals
            go_wp2_with fail
            refine bodyPost_ret (v := .tuple #[.int .i64 (k : Int), .int .i64 (x - gp), .bool true]) (by simp [results, Try.results13, go_sem]) rfl ?_
            rw [HV2.out]
            exact ⟨rfl, HN.out.drew⟩
        · have HV2 : Hid (WhAt ⟨some ⟨b, off, none⟩, cap, xs⟩ x w (wr.alloc (.cells #[.int .i64 (gp : Nat), .int .i64 (gn : Nat), .int .i64 gk] 32)) (k + 1)) :=
            ⟨c, by rw [HV.out]; simp only; rw [hd, whereF, if_neg (fun h => t2 h.2)], HN.out⟩
          clear HV HM HS HI hd
          by_cases t3 : gn = 0
          · subst t3
            go_wp2_with fail
            refine ⟨⟨k + 1, HV2.out, by go_num⟩, ?_⟩
            simp [intOf]
            omega
          · have t4 : (0 : Int) < gn := by omega
            have t5 : ¬ x - gp < gn := by omega
            go_wp2_with fail
            refine ⟨⟨k + 1, HV2.out, by go_num⟩, ?_⟩
            simp [intOf]
            omega
      · have HV2 : Hid (WhAt ⟨some ⟨b, off, none⟩, cap, xs⟩ x w (wr.alloc (.cells #[.int .i64 (gp : Nat), .int .i64 (gn : Nat), .int .i64 gk] 32)) (k + 1)) :=
          ⟨c, by rw [HV.out]; simp only; rw [hd, whereF, if_neg (fun h => t1 h.1)], HN.out⟩
        clear HV HM HS HI hd
        go_wp2_with fail
        refine ⟨⟨k + 1, HV2.out, by go_num⟩, ?_⟩
        simp [intOf]
        omega
    · have HV2 : Hid (whereF x 0 xs = (0, 0, false)) := by
        show _ = _
        rw [HV.out, List.drop_of_length_le c]
        rfl
      go_wp2_with fail
      refine bodyPost_ret (v := .tuple #[.int .i64 0, .int .i64 0, .bool false]) (by simp [results, Try.results13, go_sem]) rfl ?_
      rw [HV2.out]
      exact ⟨rfl, HB.out⟩

structure InAt (zs : List Int) (x : Int) (k : Nat) : Prop where
  le : k ≤ zs.length
  no : x ∉ zs.take k

set_option maxRecDepth 100000 in
theorem in_any (v : Value) (zs : List Int) (x : Int) (w : World) (hz : IntSl w v zs) :
    Calls Try.prog 11 #[v, .int .i64 x] w fun e w' => e = .returned (.bool (decide (x ∈ zs))) ∧ w' = w := by
  obtain ⟨ad, cap, rfl, hlc, hcm, hia⟩ := hz
  have HA : Hid (IntsAt w ad zs) := hia
  have hlen : (zs.length : Int) ≤ 9223372036854775807 := by unfold maxLen at hcm; omega
  clear hlc hcm hia
  have HI : Hid (InAt zs x 0) := ⟨Nat.zero_le _, by simp⟩
  have HD : Hid ((∀ b : Bool, (x ∈ zs ↔ b = true) → decide (x ∈ zs) = b)) := fun b h => by
    cases b with
    | true => exact decide_eq_true (h.2 rfl)
    | false => exact decide_eq_false (fun e => by cases h.1 e)
  generalize decide (x ∈ zs) = D at *
  go_enter Try.func11, Try.ntmps11
  go_wp2_with fail
  go_loopw [5] (fun i wr => ∃ k : Nat, (InAt zs x k ∧ wr = w) ∧ i = .int .i64 k) (fun i wr => zs.length - (intOf i).toNat)
  case atStart => exact ⟨0, ⟨HI.out, rfl⟩, rfl⟩
  case round =>
    clear HI
    obtain ⟨k, ⟨hr, rfl⟩, rfl⟩ := hrel
    have HR : Hid (InAt zs x k) := hr
    have ple := hr.le
    clear hr
    rcases Nat.lt_or_ge k zs.length with c | c
    · have hex : ∃ y, zs[k]? = some y := ⟨_, List.getElem?_eq_getElem c⟩
      obtain ⟨y, hy⟩ := hex
      obtain ⟨b, off, rfl, hc⟩ := HA.out (by intro e; subst e; simp at c)
      have c0 := hc k y hy
      have HY : Hid (zs[k]? = some y) := hy
      clear hc hy
      by_cases t : y = x
      · have tt : (y == x) = true := by simpa using t
        have HF : Hid (D = true) := HD.out true ⟨fun _ => rfl, fun _ => t ▸ List.mem_of_getElem? HY.out⟩
        go_wp2_with fail
        go_ret
        rw [HF.out]
        exact ⟨rfl, rfl⟩
      · have tt : (y == x) = false := by simpa using t
        have HP : Hid (InAt zs x (k + 1)) := ⟨c, by
          rw [take_at zs k y HY.out, List.mem_append]
          rintro (h | h)
          · exact HR.out.no h
          · exact t (List.mem_singleton.1 h).symm⟩
        go_wp2_with fail
        refine ⟨⟨k + 1, ⟨HP.out, trivial⟩, by go_num⟩, ?_⟩
        simp [intOf]
        omega
    · have HF : Hid (D = false) := HD.out false ⟨fun e => by
        have := HR.out.no
        rw [List.take_of_length_le c] at this
        exact absurd e this, fun e => by cases e⟩
      go_wp2_with fail
      go_ret
      rw [HF.out]
      exact ⟨rfl, rfl⟩

end Go.Proofs.Ytjkemkggcnholaa.Fu
