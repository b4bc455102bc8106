/- Package lex: strings.HasPrefix; blank, blanks. -/
import Derived.Test.YtaikkmehmiiffaaGreatDoorZ5
namespace Go.Proofs.YtaikkmehmiiffaaGreatDoor.Lx
open Go.RowKit
set_option linter.unusedVariables false

theorem bs_size (l : List UInt8) : (bs l).size = l.length := rfl
theorem bs_data (l : List UInt8) : (bs l).data.toList = l := rfl
theorem bs_of (s : ByteArray) : s = bs s.data.toList := by unfold bs; simp
theorem bs_toList (l : List UInt8) : (bs l).toList = l := by rw [ByteArray.toList_eq, bs_data]
theorem bs_extract (l : List UInt8) (a b : Nat) : (bs l).extract a b = bs ((l.take b).drop a) := by
  rw [bs_of ((bs l).extract a b)]
  congr 1
  rw [ByteArray.data_extract, Array.toList_extract, bs_data, List.extract_eq_take_drop, List.drop_take]
theorem bs_drop (l : List UInt8) (n : Nat) : (bs l).extract n (bs l).size = bs (l.drop n) := by rw [bs_extract, bs_size, List.take_length]
theorem bs_take (l : List UInt8) (n : Nat) : (bs l).extract 0 n = bs (l.take n) := by rw [bs_extract, List.drop_zero]

theorem pre64 (s t : ByteArray) (b : Bool) (w : World) (hs : s.size ≤ 1000000) (h : t.size ≤ s.size) (hb : ((s.extract 0 t.size).toList == t.toList) = b):
    Calls Tryz.prog 64 #[.string s, .string t] w fun e w' => e = .returned (.bool b) ∧ w' = w := by
  go_enter Tryz.func64, Tryz.ntmps64
  go_wp2_with fail
  go_ret
  exact ⟨by rw [← hb]; rfl, rfl⟩

theorem pre64n (s t : ByteArray) (w : World) (hs : s.size ≤ 1000000) (h : s.size < t.size) :
    Calls Tryz.prog 64 #[.string s, .string t] w fun e w' => e = .returned (.bool false) ∧ w' = w := by
  go_enter Tryz.func64, Tryz.ntmps64
  go_wp2_with fail
  go_ret
  exact ⟨rfl, rfl⟩

theorem pre_any (l t : List UInt8) (w : World) (hl : l.length ≤ 1000000) :
    Calls Tryz.prog 43 #[.string (bs l), .string (bs t)] w fun e w' => e = .returned (.bool (Go.Lib.hasPrefix l t)) ∧ w' = w := by
  have c : ∀ w : World, Calls Tryz.prog 64 #[.string (bs l), .string (bs t)] w fun e w' => e = .returned (.bool (Go.Lib.hasPrefix l t)) ∧ w' = w := by
    intro w
    by_cases h : t.length ≤ l.length
    · refine pre64 (bs l) (bs t) _ w hl h ?_
      rw [bs_size, bs_take, bs_toList, bs_toList, Bool.eq_iff_iff, Go.Lib.hasPrefix, List.isPrefixOf_iff_prefix, List.prefix_iff_eq_take, beq_iff_eq]
      exact eq_comm
    · have : Go.Lib.hasPrefix l t = false := by
        rcases hq : Go.Lib.hasPrefix l t with _ | _
        · rfl
        · exact absurd (hasPrefix_len _ _ hq) h
      rw [this]
      exact pre64n (bs l) (bs t) w hl (by show l.length < t.length; omega)
  generalize Go.Lib.hasPrefix l t = B at *
  go_enter Tryz.func43, Tryz.ntmps43
  go_wp2_with (go_at_call 64; refine (c _).mono ?_; rintro e w1 ⟨rfl, rfl⟩)
  go_ret
  exact ⟨rfl, rfl⟩

theorem blank_line (s : ByteArray) (n : Nat) (w : World)
    (c1 : ∀ w : World, Calls Tryz.prog 43 #[.string s, .string ⟨#[47, 47]⟩] w fun e w' => e = .returned (.bool true) ∧ w' = w)
    (c2 : ∀ w : World, Calls Tryz.prog 15 #[.string s, .func (Fn.func 44) #[] #[]] w fun e w' => e = .returned (.int .i64 (n : Int)) ∧ Below w.heap.size w w') :
    Calls Tryz.prog 24 #[.string s] w fun e w' => e = .returned (.tuple #[.int .i64 (n : Int), .bool true]) ∧ Below w.heap.size w w' := by
  have hmf : ∀ (fn : Fn) (first cap : Array Value) (w : World), (Instr.makeFunc fn first cap).run Tryz.prog w = .ok (.func fn first cap) w := fun _ _ _ _ => rfl
  go_enter Tryz.func24, Tryz.ntmps24
  go_wp2_with (first | (go_at_call 43; refine (c1 _).mono ?_; rintro e w1 ⟨rfl, rfl⟩) | (go_at_call 15; refine (c2 _).mono ?_; rintro e w2 ⟨rfl, hb⟩))
  go_ret2
  exact ⟨rfl, hb⟩

theorem blank_star (s t : ByteArray) (n : Nat) (b : Bool) (w : World) (hs : s.size ≤ 1000000) (h2 : 2 ≤ s.size) (ht : s.extract 2 s.size = t) (hn : n ≤ 1000000)
    (c1 : ∀ w : World, Calls Tryz.prog 43 #[.string s, .string ⟨#[47, 47]⟩] w fun e w' => e = .returned (.bool false) ∧ w' = w)
    (c2 : ∀ w : World, Calls Tryz.prog 43 #[.string s, .string ⟨#[47, 42]⟩] w fun e w' => e = .returned (.bool true) ∧ w' = w)
    (c3 : ∀ w : World, Calls Tryz.prog 45 #[.string t] w fun e w' => e = .returned (.tuple #[.int .i64 (n : Int), .bool b]) ∧ Below w.heap.size w w') :
    Calls Tryz.prog 24 #[.string s] w fun e w' => e = .returned (.tuple #[.int .i64 (2 + n : Int), .bool b]) ∧ Below w.heap.size w w' := by
  go_enter Tryz.func24, Tryz.ntmps24
  go_wp2_with fail
  refine (c1 _).mono ?_
  rintro e w1 ⟨rfl, rfl⟩
  go_wp2_with fail
  refine (c2 _).mono ?_
  rintro e w1 ⟨rfl, rfl⟩
  go_wp2_with fail

  refine (c3 _).mono ?_
  rintro e w2 ⟨rfl, hb⟩
  go_wp2_with fail
  go_ret2
  exact ⟨rfl, hb⟩

theorem blank_bytes (s : ByteArray) (n : Nat) (w : World)
    (c1 : ∀ w : World, Calls Tryz.prog 43 #[.string s, .string ⟨#[47, 47]⟩] w fun e w' => e = .returned (.bool false) ∧ w' = w)
    (c2 : ∀ w : World, Calls Tryz.prog 43 #[.string s, .string ⟨#[47, 42]⟩] w fun e w' => e = .returned (.bool false) ∧ w' = w)
    (c3 : ∀ w : World, Calls Tryz.prog 15 #[.string s, .func (Fn.func 46) #[] #[]] w fun e w' => e = .returned (.int .i64 (n : Int)) ∧ Below w.heap.size w w') :
    Calls Tryz.prog 24 #[.string s] w fun e w' => e = .returned (.tuple #[.int .i64 (n : Int), .bool true]) ∧ Below w.heap.size w w' := by
  go_enter Tryz.func24, Tryz.ntmps24
  go_wp2_with fail
  refine (c1 _).mono ?_
  rintro e w1 ⟨rfl, rfl⟩
  go_wp2_with fail
  refine (c2 _).mono ?_
  rintro e w1 ⟨rfl, rfl⟩
  go_wp2_with fail
  refine (c3 _).mono ?_
  rintro e w2 ⟨rfl, hb⟩
  go_wp2_with fail
  go_ret2
  exact ⟨rfl, hb⟩

theorem blank_any (l : List UInt8) (w : World) (hl : l.length ≤ 900000) (ha : asc l) :
    Calls Tryz.prog 24 #[.string (bs l)] w fun e w' => e = .returned (.tuple #[.int .i64 (((blankI l).1 : Nat) : Int), .bool (blankI l).2]) ∧ Below w.heap.size w w' := by
  have c1 := fun w => pre_any l [47, 47] w (by omega)
  have c2 := fun w => pre_any l [47, 42] w (by omega)
  unfold blankI
  by_cases h1 : Go.Lib.hasPrefix l [47, 47] = true
  · rw [if_pos h1]
    rw [h1] at c1
    exact blank_line (bs l) _ w c1 (fun w => run_pure pLine 44 pure_line l w (by omega) (Or.inl ha))
  · rw [if_neg h1]
    have h1' : Go.Lib.hasPrefix l [47, 47] = false := by simpa using h1
    rw [h1'] at c1
    by_cases h2 : Go.Lib.hasPrefix l [47, 42] = true
    · rw [if_pos h2]
      rw [h2] at c2
      have le := hasPrefix_len _ _ h2
      have sl := goOn_le starG (false, false) (l.drop 2)
      rw [List.length_drop] at sl
      have := blank_star (bs l) (bs (l.drop 2)) (starI (l.drop 2)).1 (starI (l.drop 2)).2 w (by rw [bs_size]; omega) (by rw [bs_size]; simpa using le) (bs_drop l 2) (by show (goOn starG (false, false) (l.drop 2)).1 ≤ _; omega) c1 c2 (fun w => star_any (l.drop 2) w (by rw [List.length_drop]; omega) (fun c hc => ha c (List.mem_of_mem_drop hc)))
      refine this.mono ?_
      rintro e w' ⟨rfl, hb⟩
      exact ⟨by simp, hb⟩
    · rw [if_neg h2]
      have h2' : Go.Lib.hasPrefix l [47, 42] = false := by simpa using h2
      rw [h2'] at c2
      exact blank_bytes (bs l) _ w c1 c2 (fun w => run_pure pBlank 46 pure_blank l w (by omega) (Or.inl ha))

def remE (b : Bool) : Int := if b = true then 0 else 52

/-- blanks, from a place on -/
structure BlAt (l : List UInt8) (w0 wr : World) (k : Nat) : Prop where
  le : k ≤ l.length
  val : blanksI l = (k + (blanksI (l.drop k)).1, (blanksI (l.drop k)).2)
  bel : Below w0.heap.size w0 wr

theorem blanks_any (l : List UInt8) (w : World) (hl : l.length ≤ 900000) (ha : asc l) :
    Calls Tryz.prog 17 #[.string (bs l)] w fun e w' => e = .returned (.tuple #[.int .i64 (((blanksI l).1 : Nat) : Int), .int .i64 (remE (blanksI l).2)]) ∧ Below w.heap.size w w' := by
  have HS : Hid (BlAt l w w 0) := ⟨Nat.zero_le _, by simp, Below.refl _ _⟩
  have HA : Hid (asc l) := ha
  have HX : Hid (∀ k, (bs l).extract k (bs l).size = bs (l.drop k)) := bs_drop l
  have hsz : (bs l).size = l.length := rfl
  clear ha
  generalize bs l = s at HX hsz ⊢
  go_enter Tryz.func17, Tryz.ntmps17
  go_wp2_with fail
  go_loopw [4] (fun i wr => ∃ k : Nat, BlAt l w wr k ∧ i = .int .i64 k) (fun i wr => l.length + 1 - (intOf i).toNat)
  case atStart => exact ⟨0, HS.out, rfl⟩
  case round =>
    obtain ⟨k, hr, rfl⟩ := hrel
    have kl := hr.le
    have ks : (k : Int) ≤ s.size := by omega
    have sb : s.size ≤ 900000 := by omega
    clear hsz
    have hx := HX.out k
    have bc := blank_any (l.drop k) wr (by rw [List.length_drop]; omega) (fun c hc => HA.out c (List.mem_of_mem_drop hc))
    have ble := blankI_le (l.drop k)
    rw [List.length_drop] at ble
    have E := blanksI_eq (l.drop k)
    have V := hr.val
    have HB : Hid (Below w.heap.size w wr) := hr.bel
    rw [← hx] at bc
    obtain ⟨n, hn⟩ : ∃ n, n = (blankI (l.drop k)).1 := ⟨_, rfl⟩
    obtain ⟨b, hb⟩ : ∃ b, b = (blankI (l.drop k)).2 := ⟨_, rfl⟩
    rw [← hn, ← hb] at bc E
    rw [← hn] at ble
    cases b with
    | false =>
      have HV : Hid (blanksI l = (k, false)) := by
        show _ = _
        rw [V, E]
        simp
      clear E V hr hx hn hb
      go_wp2_with fail
      refine bc.mono ?_
      rintro e w1 ⟨rfl, b1⟩
      go_wp2_with fail
      go_ret2
      rw [HV.out]
      exact ⟨rfl, HB.out.trans (b1.mono HB.out.size)⟩
    | true =>
      by_cases z : n = 0
      · have HV : Hid (blanksI l = (k, true)) := by
          show _ = _
          rw [V, E]
          simp [z]
        subst z
        clear E V hr hx hn hb
        go_wp2_with fail
        refine bc.mono ?_
        rintro e w1 ⟨rfl, b1⟩
        go_wp2_with fail
        go_ret2
        rw [HV.out]
        exact ⟨rfl, HB.out.trans (b1.mono HB.out.size)⟩
      · have HN : Hid (∀ w1, Below w.heap.size w w1 → BlAt l w w1 (k + n)) := by
          intro w1 h1
          refine ⟨by omega, ?_, h1⟩
          rw [V, E, if_neg (by simp), if_neg z, List.drop_drop]
          refine Prod.ext ?_ rfl
          show k + (n + _) = _
          simp only
          omega
        have nz : ((n : Int) == 0) = false := by simp; omega
        clear E V hr hx hn hb
        go_wp2_with fail
        refine bc.mono ?_
        rintro e w1 ⟨rfl, b1⟩
        go_wp2_with fail
        refine ⟨⟨k + n, HN.out _ (HB.out.trans (b1.mono HB.out.size)), by go_num⟩, ?_⟩
        simp [intOf]
        omega

end Go.Proofs.YtaikkmehmiiffaaGreatDoor.Lx
