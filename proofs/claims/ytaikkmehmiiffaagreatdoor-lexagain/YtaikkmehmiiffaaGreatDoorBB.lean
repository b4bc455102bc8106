/- The walks of Read and Literal. -/
import Derived.Test.YtaikkmehmiiffaaGreatDoorA4
import Derived.Test.YtaikkmehmiiffaaGreatDoorShelfA
import Derived.Test.YtaikkmehmiiffaaGreatDoorA6
/- The walks of cutDigits, scanExponent, scan. -/
namespace Go.Proofs.YtaikkmehmiiffaaGreatDoor
open Go.RowKit
set_option linter.unusedVariables false

/-- a string of bytes -/
def bs (l : List UInt8) : ByteArray := ⟨l.toArray⟩

def isDig (c : UInt8) : Bool := 48 ≤ c.toNat && c.toNat ≤ 57

/-- how many digits stand at the front -/
def cnt (l : List UInt8) : Nat := (l.takeWhile isDig).length

theorem cnt_le (l : List UInt8) : cnt l ≤ l.length := List.takeWhile_sublist _ |>.length_le

theorem cnt_cons (c : UInt8) (l : List UInt8) : cnt (c :: l) = if isDig c = true then cnt l + 1 else 0 := by
  unfold cnt
  rw [List.takeWhile_cons]
  split <;> simp

theorem cnt_yes (l : List UInt8) (k : Nat) (c : UInt8) (hk : k ≤ cnt l) (hc : l[k]? = some c) (hd : isDig c = true) : k + 1 ≤ cnt l := by
  induction l generalizing k with
  | nil => simp at hc
  | cons a l ih =>
    rw [cnt_cons] at hk ⊢
    cases k with
    | zero => simp at hc; subst hc; rw [if_pos hd]; omega
    | succ k =>
      split at hk
      · rename_i h
        rw [if_pos h]
        have := ih k (by omega) (by simpa using hc)
        omega
      · omega

theorem cnt_no (l : List UInt8) (k : Nat) (c : UInt8) (hk : k ≤ cnt l) (hc : l[k]? = some c) (hd : isDig c = false) : k = cnt l := by
  induction l generalizing k with
  | nil => simp at hc
  | cons a l ih =>
    rw [cnt_cons] at hk ⊢
    cases k with
    | zero => simp at hc; subst hc; rw [if_neg (by simp [hd])]
    | succ k =>
      split at hk
      · rename_i h
        rw [if_pos h]
        have := ih k (by omega) (by simpa using hc)
        omega
      · omega

theorem at_k (s : ByteArray) (k : Nat) (h : k < s.size) : s.data.toList[k]? = some s[k] := by
  have h' : k < s.data.toList.length := by simpa using h
  rw [List.getElem?_eq_getElem h']
  rfl

theorem size_len (s : ByteArray) : s.size = s.data.toList.length := by rw [Array.length_toList]; rfl

theorem cutDigits_any (s : ByteArray) (w : World) (hs : s.size ≤ 1000000) :
    Calls Tryz.prog 91 #[.string s] w fun e w' => ∃ n, e = .returned (.tuple #[.string (s.extract 0 (cnt s.data.toList)), .string (s.extract (cnt s.data.toList) s.size)]) ∧ w' = w.drewN n := by
  go_enter Tryz.func91, Tryz.ntmps91
  go_wp2_with fail
  go_loop [4] (fun i => ∃ k : Nat, k ≤ cnt s.data.toList ∧ i = .int .i64 k) (fun i => cnt s.data.toList - (intOf i).toNat)
  case atStart => exact ⟨0, Nat.zero_le _, rfl⟩
  case round =>
    obtain ⟨k, hk, rfl⟩ := hrel
    have cl := cnt_le s.data.toList
    rw [← size_len] at cl
    by_cases c : k < s.size
    · have ak := at_k s k c
      by_cases d : 48 ≤ (s[k]).toNat
      · by_cases d2 : (s[k]).toNat ≤ 57
        · have nx := cnt_yes _ k _ hk ak (by simp [isDig, d, d2])
          go_wp2
          refine ⟨⟨k + 1, nx, by go_num⟩, ?_⟩
          simp [intOf]; omega
        · have HX : Hid (k = cnt s.data.toList) := cnt_no _ k _ hk ak (by simp [isDig, d2])
          have ki : (k : Int) ≤ s.size := by omega
          clear hk cl ak
          go_wp2_with fail
          go_quiet (fail)
          go_wp2
          go_ret2
          exact ⟨_, by rw [← HX.out]; rfl, rfl⟩
      · have HX : Hid (k = cnt s.data.toList) := cnt_no _ k _ hk ak (by simp [isDig, d])
        have ki : (k : Int) ≤ s.size := by omega
        clear hk cl ak
        go_wp2_with fail
        go_quiet (fail)
        go_wp2
        go_ret2
        exact ⟨_, by rw [← HX.out]; rfl, rfl⟩
    · have HX : Hid (k = cnt s.data.toList) := by show _ = _; omega
      have ki : (k : Int) ≤ s.size := by omega
      clear hk cl
      go_wp2_with fail
      go_quiet (fail)
      go_wp2
      go_ret2
      exact ⟨_, by rw [← HX.out]; rfl, rfl⟩

end Go.Proofs.YtaikkmehmiiffaaGreatDoor
/- Texts as lists of bytes; the walk of scanExponent. -/
namespace Go.Proofs.YtaikkmehmiiffaaGreatDoor
open Go.RowKit
set_option linter.unusedVariables false

def digs (l : List UInt8) : List UInt8 := l.takeWhile isDig
def rst (l : List UInt8) : List UInt8 := l.dropWhile isDig

theorem bs_size (l : List UInt8) : (bs l).size = l.length := by unfold bs; rfl
theorem bs_data (l : List UInt8) : (bs l).data.toList = l := by unfold bs; rfl
theorem bs_of (s : ByteArray) : s = bs s.data.toList := by unfold bs; simp

theorem bs_extract (l : List UInt8) (a b : Nat) : (bs l).extract a b = bs ((l.take b).drop a) := by
  rw [bs_of ((bs l).extract a b)]
  congr 1
  rw [ByteArray.data_extract, Array.toList_extract, bs_data, List.extract_eq_take_drop, List.drop_take]

theorem digs_eq (l : List UInt8) : l.take (cnt l) = digs l := by
  unfold cnt digs
  induction l with
  | nil => rfl
  | cons a l ih =>
    rw [List.takeWhile_cons]
    split
    · simp only [List.length_cons, List.take_succ_cons, ih]
    · rfl

theorem rst_eq (l : List UInt8) : l.drop (cnt l) = rst l := by
  unfold cnt rst
  induction l with
  | nil => rfl
  | cons a l ih =>
    rw [List.takeWhile_cons, List.dropWhile_cons]
    split
    · simp only [List.length_cons, List.drop_succ_cons, ih]
    · rfl

theorem cutDigits_bs (l : List UInt8) (w : World) (hl : l.length ≤ 1000000) :
    Calls Tryz.prog 91 #[.string (bs l)] w fun e w' => ∃ n, e = .returned (.tuple #[.string (bs (digs l)), .string (bs (rst l))]) ∧ w' = w.drewN n := by
  have := cutDigits_any (bs l) w (by rw [bs_size]; exact hl)
  rw [bs_data, bs_extract, bs_extract, bs_size, List.drop_zero, List.take_length, digs_eq, rst_eq] at this
  exact this

/-- digits as a number, no greater than 2^40 -/
def clampF (n : Nat) (d : List UInt8) : Nat := d.foldl (fun n c => min (10 * n + (c.toNat - 48)) 1099511627776) n

theorem scanExp_no (s : ByteArray) (w : World) (h : 0 < s.size) (h1 : (((s[0]).toNat : Int) != 101) = true) (h2 : (((s[0]).toNat : Int) != 69) = true) :
    Calls Tryz.prog 92 #[.string s] w fun e w' => e = .returned (.tuple #[.int .i64 0, .bool false]) ∧ w' = w := by
  go_enter Tryz.func92, Tryz.ntmps92
  go_wp2
  go_ret2
  exact ⟨rfl, rfl⟩

theorem ret_neg (m : Int) : Ending.returned (.tuple #[.int .i64 (-m), .bool true]) = Ending.returned (.tuple #[.int .i64 (-1 * m), .bool true]) := by rw [Int.neg_one_mul]
theorem ret_pos (m : Int) : Ending.returned (.tuple #[.int .i64 m, .bool true]) = Ending.returned (.tuple #[.int .i64 (1 * m), .bool true]) := by rw [Int.one_mul]

/-- what scanExponent tells of digits and what stands behind them -/
def expRes (sg : Int) (d r : List UInt8) : Value :=
  if d = [] ∨ r ≠ [] then .tuple #[.int .i64 0, .bool false] else .tuple #[.int .i64 (sg * (clampF 0 d : Nat)), .bool true]

theorem expRes_nil {sg : Int} {d r : List UInt8} (h : d = []) : expRes sg d r = .tuple #[.int .i64 0, .bool false] := by unfold expRes; rw [if_pos (.inl h)]
theorem expRes_rest {sg : Int} {d r : List UInt8} (_h : ¬ d = []) (h : ¬ r = []) : expRes sg d r = .tuple #[.int .i64 0, .bool false] := by unfold expRes; rw [if_pos (.inr h)]
theorem expRes_ok {sg : Int} {d r : List UInt8} (h : ¬ d = []) (h2 : r = []) : expRes sg d r = .tuple #[.int .i64 (sg * (clampF 0 d : Nat)), .bool true] := by
  unfold expRes; rw [if_neg]; intro k; rcases k with k | k
  · exact h k
  · exact k h2

theorem clampF_le (d : List UInt8) : clampF 0 d ≤ 1099511627776 := by
  unfold clampF
  rcases List.eq_nil_or_concat d with h | ⟨l, c, h⟩
  · subst h; simp
  · rw [h, List.concat_eq_append, List.foldl_append]; simp only [List.foldl_cons, List.foldl_nil]; omega

theorem clampF_at (d : ByteArray) (k : Nat) (hk : k < d.size) (hdig : ∀ c ∈ d.toList, isDig c = true) :
    48 ≤ (d[k]).toNat ∧ (d[k]).toNat ≤ 57 ∧ clampF 0 (d.toList.take (k + 1)) = min (10 * clampF 0 (d.toList.take k) + ((d[k]).toNat - 48)) 1099511627776 := by
  have e := at_k d k hk
  rw [← ByteArray.toList_eq] at e
  have hd := hdig _ (List.mem_of_getElem? e)
  unfold isDig at hd
  simp only [Bool.and_eq_true, decide_eq_true_eq] at hd
  refine ⟨hd.1, hd.2, ?_⟩
  rw [take_next _ _ _ e]
  unfold clampF
  rw [List.foldl_append]
  rfl

set_option maxHeartbeats 1000000 in
theorem scanExp_minus (s t d r : ByteArray) (w : World) (h : 0 < s.size) (h1 : (((s[0]).toNat : Int) != 101) = false ∨ ((((s[0]).toNat : Int) != 101) = true ∧ (((s[0]).toNat : Int) != 69) = false)) (ht : s.extract 1 s.size = t)
    (t0 : 0 < t.size) (hp : ∀ w : World, Calls Tryz.prog 43 #[.string t, .string ⟨#[45]⟩] w fun e w' => e = .returned (.bool true) ∧ w' = w)
    (hc : ∀ w : World, Calls Tryz.prog 91 #[.string (t.extract 1 t.size)] w fun e w' => ∃ n, e = .returned (.tuple #[.string d, .string r]) ∧ w' = w.drewN n)
    (hdig : ∀ c ∈ d.toList, isDig c = true) (hds : d.size ≤ 1000000) :
    Calls Tryz.prog 92 #[.string s] w fun e w' => ∃ n, e = .returned (expRes (-1) d.toList r.toList) ∧ w' = w.drewN n := by
  have t1 : (1 : Int) ≤ t.size := by omega
  rcases h1 with h1 | ⟨h1, h2⟩
  · skip
    by_cases hd : d.toList = []
    · have hx := expRes_nil (sg := (-1)) (r := r.toList) hd
      rw [hx]
      clear hx
      go_enter Tryz.func92, Tryz.ntmps92
      go_wp2_with (first | (go_at_call 43; refine (hp _).mono ?_; rintro e w1 ⟨rfl, rfl⟩))
      go_quiet (fail)
      go_wp2_with (go_at_call 91; refine (hc _).mono ?_; rintro e w1 ⟨n1, rfl, rfl⟩)
      go_ret2
      exact ⟨_, rfl, by first | rfl | rw [World.drewN_drewN]⟩
    · have hd1 : d.toList.isEmpty = false := by cases h : d.toList <;> simp_all
      by_cases hr : r.toList = []
      · have hr1 : r.toList.isEmpty = true := by rw [hr]; rfl
        have hx := expRes_ok (sg := (-1)) hd hr
        rw [hx]
        clear hx
        go_enter Tryz.func92, Tryz.ntmps92
        go_wp2_with (first | (go_at_call 43; refine (hp _).mono ?_; rintro e w1 ⟨rfl, rfl⟩))
        go_quiet (fail)
        go_wp2_with (go_at_call 91; refine (hc _).mono ?_; rintro e w1 ⟨n1, rfl, rfl⟩)
        go_loop [7, 42] (fun m i => ∃ k : Nat, k ≤ d.size ∧ i = .int .i64 k ∧ m = .int .i64 (clampF 0 (d.toList.take k) : Nat)) (fun _ i => d.size - (intOf i).toNat)
        case atStart => exact ⟨0, Nat.zero_le _, rfl, rfl⟩
        case round =>
          obtain ⟨k, hk, rfl, rfl⟩ := hrel
          have cb := clampF_le (d.toList.take k)
          rcases Nat.lt_or_ge k d.size with hlt | hge
          · obtain ⟨c48, c57, nx⟩ := clampF_at d k hlt hdig
            have HN : Hid (clampF 0 (d.toList.take (k + 1)) = min (10 * clampF 0 (d.toList.take k) + ((d[k]).toNat - 48)) 1099511627776) := nx
            clear nx
            generalize clampF 0 (d.toList.take k) = m at *
            generalize hcv : (d[k]).toNat = cv at *
            have HV : Hid ((d[k]).toNat = cv) := hcv
            by_cases hm : 10 * m + (cv - 48) ≤ 1099511627776
            · go_wp2_with fail
              all_goals (refine ⟨⟨k + 1, by omega, by go_num, by rw [HN.out]; first | (congr 1; omega) | (apply congrArg (Value.int .i64); omega)⟩, ?_⟩; simp [intOf]; omega)
            · go_wp2_with fail
              all_goals (refine ⟨⟨k + 1, by omega, by go_num, by rw [HN.out]; first | (congr 1; omega) | (apply congrArg (Value.int .i64); omega)⟩, ?_⟩; simp [intOf]; omega)
          · have hkd : k = d.size := by omega
            have ht : d.toList.take k = d.toList := by rw [List.take_of_length_le]; rw [ByteArray.toList_eq, ← size_len]; omega
            rw [ht] at cb ⊢
            have hkk : (k : Int) = d.size := by omega
            go_wp2_with fail
            go_ret2
            first | exact ⟨rfl, _, rfl⟩ | exact ⟨ret_neg _, _, rfl⟩ | exact ⟨ret_pos _, _, rfl⟩
      · have hr1 : r.toList.isEmpty = false := by cases h : r.toList <;> simp_all
        have hx := expRes_rest (sg := (-1)) hd hr
        rw [hx]
        clear hx
        go_enter Tryz.func92, Tryz.ntmps92
        go_wp2_with (first | (go_at_call 43; refine (hp _).mono ?_; rintro e w1 ⟨rfl, rfl⟩))
        go_quiet (fail)
        go_wp2_with (go_at_call 91; refine (hc _).mono ?_; rintro e w1 ⟨n1, rfl, rfl⟩)
        go_ret2
        exact ⟨_, rfl, by first | rfl | rw [World.drewN_drewN]⟩
  · skip
    by_cases hd : d.toList = []
    · have hx := expRes_nil (sg := (-1)) (r := r.toList) hd
      rw [hx]
      clear hx
      go_enter Tryz.func92, Tryz.ntmps92
      go_wp2_with (first | (go_at_call 43; refine (hp _).mono ?_; rintro e w1 ⟨rfl, rfl⟩))
      go_quiet (fail)
      go_wp2_with (go_at_call 91; refine (hc _).mono ?_; rintro e w1 ⟨n1, rfl, rfl⟩)
      go_ret2
      exact ⟨_, rfl, by first | rfl | rw [World.drewN_drewN]⟩
    · have hd1 : d.toList.isEmpty = false := by cases h : d.toList <;> simp_all
      by_cases hr : r.toList = []
      · have hr1 : r.toList.isEmpty = true := by rw [hr]; rfl
        have hx := expRes_ok (sg := (-1)) hd hr
        rw [hx]
        clear hx
        go_enter Tryz.func92, Tryz.ntmps92
        go_wp2_with (first | (go_at_call 43; refine (hp _).mono ?_; rintro e w1 ⟨rfl, rfl⟩))
        go_quiet (fail)
        go_wp2_with (go_at_call 91; refine (hc _).mono ?_; rintro e w1 ⟨n1, rfl, rfl⟩)
        go_loop [7, 42] (fun m i => ∃ k : Nat, k ≤ d.size ∧ i = .int .i64 k ∧ m = .int .i64 (clampF 0 (d.toList.take k) : Nat)) (fun _ i => d.size - (intOf i).toNat)
        case atStart => exact ⟨0, Nat.zero_le _, rfl, rfl⟩
        case round =>
          obtain ⟨k, hk, rfl, rfl⟩ := hrel
          have cb := clampF_le (d.toList.take k)
          rcases Nat.lt_or_ge k d.size with hlt | hge
          · obtain ⟨c48, c57, nx⟩ := clampF_at d k hlt hdig
            have HN : Hid (clampF 0 (d.toList.take (k + 1)) = min (10 * clampF 0 (d.toList.take k) + ((d[k]).toNat - 48)) 1099511627776) := nx
            clear nx
            generalize clampF 0 (d.toList.take k) = m at *
            generalize hcv : (d[k]).toNat = cv at *
            have HV : Hid ((d[k]).toNat = cv) := hcv
            by_cases hm : 10 * m + (cv - 48) ≤ 1099511627776
            · go_wp2_with fail
              all_goals (refine ⟨⟨k + 1, by omega, by go_num, by rw [HN.out]; first | (congr 1; omega) | (apply congrArg (Value.int .i64); omega)⟩, ?_⟩; simp [intOf]; omega)
            · go_wp2_with fail
              all_goals (refine ⟨⟨k + 1, by omega, by go_num, by rw [HN.out]; first | (congr 1; omega) | (apply congrArg (Value.int .i64); omega)⟩, ?_⟩; simp [intOf]; omega)
          · have hkd : k = d.size := by omega
            have ht : d.toList.take k = d.toList := by rw [List.take_of_length_le]; rw [ByteArray.toList_eq, ← size_len]; omega
            rw [ht] at cb ⊢
            have hkk : (k : Int) = d.size := by omega
            go_wp2_with fail
            go_ret2
            first | exact ⟨rfl, _, rfl⟩ | exact ⟨ret_neg _, _, rfl⟩ | exact ⟨ret_pos _, _, rfl⟩
      · have hr1 : r.toList.isEmpty = false := by cases h : r.toList <;> simp_all
        have hx := expRes_rest (sg := (-1)) hd hr
        rw [hx]
        clear hx
        go_enter Tryz.func92, Tryz.ntmps92
        go_wp2_with (first | (go_at_call 43; refine (hp _).mono ?_; rintro e w1 ⟨rfl, rfl⟩))
        go_quiet (fail)
        go_wp2_with (go_at_call 91; refine (hc _).mono ?_; rintro e w1 ⟨n1, rfl, rfl⟩)
        go_ret2
        exact ⟨_, rfl, by first | rfl | rw [World.drewN_drewN]⟩

set_option maxHeartbeats 1000000 in
theorem scanExp_plus (s t d r : ByteArray) (w : World) (h : 0 < s.size) (h1 : (((s[0]).toNat : Int) != 101) = false ∨ ((((s[0]).toNat : Int) != 101) = true ∧ (((s[0]).toNat : Int) != 69) = false)) (ht : s.extract 1 s.size = t)
    (t0 : 0 < t.size) (hp : ∀ w : World, Calls Tryz.prog 43 #[.string t, .string ⟨#[45]⟩] w fun e w' => e = .returned (.bool false) ∧ w' = w)
    (hq : ∀ w : World, Calls Tryz.prog 43 #[.string t, .string ⟨#[43]⟩] w fun e w' => e = .returned (.bool true) ∧ w' = w)
    (hc : ∀ w : World, Calls Tryz.prog 91 #[.string (t.extract 1 t.size)] w fun e w' => ∃ n, e = .returned (.tuple #[.string d, .string r]) ∧ w' = w.drewN n)
    (hdig : ∀ c ∈ d.toList, isDig c = true) (hds : d.size ≤ 1000000) :
    Calls Tryz.prog 92 #[.string s] w fun e w' => ∃ n, e = .returned (expRes 1 d.toList r.toList) ∧ w' = w.drewN n := by
  have t1 : (1 : Int) ≤ t.size := by omega
  rcases h1 with h1 | ⟨h1, h2⟩
  · skip
    by_cases hd : d.toList = []
    · have hx := expRes_nil (sg := 1) (r := r.toList) hd
      rw [hx]
      clear hx
      go_enter Tryz.func92, Tryz.ntmps92
      go_wp2_with (first | (go_at_call_of 43 (Value.string ⟨#[45]⟩); refine (hp _).mono ?_; rintro e w1 ⟨rfl, rfl⟩) | (go_at_call_of 43 (Value.string ⟨#[43]⟩); refine (hq _).mono ?_; rintro e w1 ⟨rfl, rfl⟩) | (go_at_call 91; refine (hc _).mono ?_; rintro e w1 ⟨n1, rfl, rfl⟩))
      go_ret2
      exact ⟨_, rfl, by first | rfl | rw [World.drewN_drewN]⟩
    · have hd1 : d.toList.isEmpty = false := by cases h : d.toList <;> simp_all
      by_cases hr : r.toList = []
      · have hr1 : r.toList.isEmpty = true := by rw [hr]; rfl
        have hx := expRes_ok (sg := 1) hd hr
        rw [hx]
        clear hx
        go_enter Tryz.func92, Tryz.ntmps92
        go_wp2_with (first | (go_at_call_of 43 (Value.string ⟨#[45]⟩); refine (hp _).mono ?_; rintro e w1 ⟨rfl, rfl⟩) | (go_at_call_of 43 (Value.string ⟨#[43]⟩); refine (hq _).mono ?_; rintro e w1 ⟨rfl, rfl⟩) | (go_at_call 91; refine (hc _).mono ?_; rintro e w1 ⟨n1, rfl, rfl⟩))
        go_loop [7, 42] (fun m i => ∃ k : Nat, k ≤ d.size ∧ i = .int .i64 k ∧ m = .int .i64 (clampF 0 (d.toList.take k) : Nat)) (fun _ i => d.size - (intOf i).toNat)
        case atStart => exact ⟨0, Nat.zero_le _, rfl, rfl⟩
        case round =>
          obtain ⟨k, hk, rfl, rfl⟩ := hrel
          have cb := clampF_le (d.toList.take k)
          rcases Nat.lt_or_ge k d.size with hlt | hge
          · obtain ⟨c48, c57, nx⟩ := clampF_at d k hlt hdig
            have HN : Hid (clampF 0 (d.toList.take (k + 1)) = min (10 * clampF 0 (d.toList.take k) + ((d[k]).toNat - 48)) 1099511627776) := nx
            clear nx
            generalize clampF 0 (d.toList.take k) = m at *
            generalize hcv : (d[k]).toNat = cv at *
            have HV : Hid ((d[k]).toNat = cv) := hcv
            by_cases hm : 10 * m + (cv - 48) ≤ 1099511627776
            · go_wp2_with fail
              all_goals (refine ⟨⟨k + 1, by omega, by go_num, by rw [HN.out]; first | (congr 1; omega) | (apply congrArg (Value.int .i64); omega)⟩, ?_⟩; simp [intOf]; omega)
            · go_wp2_with fail
              all_goals (refine ⟨⟨k + 1, by omega, by go_num, by rw [HN.out]; first | (congr 1; omega) | (apply congrArg (Value.int .i64); omega)⟩, ?_⟩; simp [intOf]; omega)
          · have hkd : k = d.size := by omega
            have ht : d.toList.take k = d.toList := by rw [List.take_of_length_le]; rw [ByteArray.toList_eq, ← size_len]; omega
            rw [ht] at cb ⊢
            have hkk : (k : Int) = d.size := by omega
            go_wp2_with fail
            go_ret2
            first | exact ⟨rfl, _, rfl⟩ | exact ⟨ret_neg _, _, rfl⟩ | exact ⟨ret_pos _, _, rfl⟩
      · have hr1 : r.toList.isEmpty = false := by cases h : r.toList <;> simp_all
        have hx := expRes_rest (sg := 1) hd hr
        rw [hx]
        clear hx
        go_enter Tryz.func92, Tryz.ntmps92
        go_wp2_with (first | (go_at_call_of 43 (Value.string ⟨#[45]⟩); refine (hp _).mono ?_; rintro e w1 ⟨rfl, rfl⟩) | (go_at_call_of 43 (Value.string ⟨#[43]⟩); refine (hq _).mono ?_; rintro e w1 ⟨rfl, rfl⟩) | (go_at_call 91; refine (hc _).mono ?_; rintro e w1 ⟨n1, rfl, rfl⟩))
        go_ret2
        exact ⟨_, rfl, by first | rfl | rw [World.drewN_drewN]⟩
  · skip
    by_cases hd : d.toList = []
    · have hx := expRes_nil (sg := 1) (r := r.toList) hd
      rw [hx]
      clear hx
      go_enter Tryz.func92, Tryz.ntmps92
      go_wp2_with (first | (go_at_call_of 43 (Value.string ⟨#[45]⟩); refine (hp _).mono ?_; rintro e w1 ⟨rfl, rfl⟩) | (go_at_call_of 43 (Value.string ⟨#[43]⟩); refine (hq _).mono ?_; rintro e w1 ⟨rfl, rfl⟩) | (go_at_call 91; refine (hc _).mono ?_; rintro e w1 ⟨n1, rfl, rfl⟩))
      go_ret2
      exact ⟨_, rfl, by first | rfl | rw [World.drewN_drewN]⟩
    · have hd1 : d.toList.isEmpty = false := by cases h : d.toList <;> simp_all
      by_cases hr : r.toList = []
      · have hr1 : r.toList.isEmpty = true := by rw [hr]; rfl
        have hx := expRes_ok (sg := 1) hd hr
        rw [hx]
        clear hx
        go_enter Tryz.func92, Tryz.ntmps92
        go_wp2_with (first | (go_at_call_of 43 (Value.string ⟨#[45]⟩); refine (hp _).mono ?_; rintro e w1 ⟨rfl, rfl⟩) | (go_at_call_of 43 (Value.string ⟨#[43]⟩); refine (hq _).mono ?_; rintro e w1 ⟨rfl, rfl⟩) | (go_at_call 91; refine (hc _).mono ?_; rintro e w1 ⟨n1, rfl, rfl⟩))
        go_loop [7, 42] (fun m i => ∃ k : Nat, k ≤ d.size ∧ i = .int .i64 k ∧ m = .int .i64 (clampF 0 (d.toList.take k) : Nat)) (fun _ i => d.size - (intOf i).toNat)
        case atStart => exact ⟨0, Nat.zero_le _, rfl, rfl⟩
        case round =>
          obtain ⟨k, hk, rfl, rfl⟩ := hrel
          have cb := clampF_le (d.toList.take k)
          rcases Nat.lt_or_ge k d.size with hlt | hge
          · obtain ⟨c48, c57, nx⟩ := clampF_at d k hlt hdig
            have HN : Hid (clampF 0 (d.toList.take (k + 1)) = min (10 * clampF 0 (d.toList.take k) + ((d[k]).toNat - 48)) 1099511627776) := nx
            clear nx
            generalize clampF 0 (d.toList.take k) = m at *
            generalize hcv : (d[k]).toNat = cv at *
            have HV : Hid ((d[k]).toNat = cv) := hcv
            by_cases hm : 10 * m + (cv - 48) ≤ 1099511627776
            · go_wp2_with fail
              all_goals (refine ⟨⟨k + 1, by omega, by go_num, by rw [HN.out]; first | (congr 1; omega) | (apply congrArg (Value.int .i64); omega)⟩, ?_⟩; simp [intOf]; omega)
            · go_wp2_with fail
              all_goals (refine ⟨⟨k + 1, by omega, by go_num, by rw [HN.out]; first | (congr 1; omega) | (apply congrArg (Value.int .i64); omega)⟩, ?_⟩; simp [intOf]; omega)
          · have hkd : k = d.size := by omega
            have ht : d.toList.take k = d.toList := by rw [List.take_of_length_le]; rw [ByteArray.toList_eq, ← size_len]; omega
            rw [ht] at cb ⊢
            have hkk : (k : Int) = d.size := by omega
            go_wp2_with fail
            go_ret2
            first | exact ⟨rfl, _, rfl⟩ | exact ⟨ret_neg _, _, rfl⟩ | exact ⟨ret_pos _, _, rfl⟩
      · have hr1 : r.toList.isEmpty = false := by cases h : r.toList <;> simp_all
        have hx := expRes_rest (sg := 1) hd hr
        rw [hx]
        clear hx
        go_enter Tryz.func92, Tryz.ntmps92
        go_wp2_with (first | (go_at_call_of 43 (Value.string ⟨#[45]⟩); refine (hp _).mono ?_; rintro e w1 ⟨rfl, rfl⟩) | (go_at_call_of 43 (Value.string ⟨#[43]⟩); refine (hq _).mono ?_; rintro e w1 ⟨rfl, rfl⟩) | (go_at_call 91; refine (hc _).mono ?_; rintro e w1 ⟨n1, rfl, rfl⟩))
        go_ret2
        exact ⟨_, rfl, by first | rfl | rw [World.drewN_drewN]⟩

set_option maxHeartbeats 1000000 in
theorem scanExp_none (s t d r : ByteArray) (w : World) (h : 0 < s.size) (h1 : (((s[0]).toNat : Int) != 101) = false ∨ ((((s[0]).toNat : Int) != 101) = true ∧ (((s[0]).toNat : Int) != 69) = false)) (ht : s.extract 1 s.size = t)
    (hp : ∀ w : World, Calls Tryz.prog 43 #[.string t, .string ⟨#[45]⟩] w fun e w' => e = .returned (.bool false) ∧ w' = w)
    (hq : ∀ w : World, Calls Tryz.prog 43 #[.string t, .string ⟨#[43]⟩] w fun e w' => e = .returned (.bool false) ∧ w' = w)
    (hc : ∀ w : World, Calls Tryz.prog 91 #[.string t] w fun e w' => ∃ n, e = .returned (.tuple #[.string d, .string r]) ∧ w' = w.drewN n)
    (hdig : ∀ c ∈ d.toList, isDig c = true) (hds : d.size ≤ 1000000) :
    Calls Tryz.prog 92 #[.string s] w fun e w' => ∃ n, e = .returned (expRes 1 d.toList r.toList) ∧ w' = w.drewN n := by
  rcases h1 with h1 | ⟨h1, h2⟩
  · skip
    by_cases hd : d.toList = []
    · have hx := expRes_nil (sg := 1) (r := r.toList) hd
      rw [hx]
      clear hx
      go_enter Tryz.func92, Tryz.ntmps92
      go_wp2_with (first | (go_at_call_of 43 (Value.string ⟨#[45]⟩); refine (hp _).mono ?_; rintro e w1 ⟨rfl, rfl⟩) | (go_at_call_of 43 (Value.string ⟨#[43]⟩); refine (hq _).mono ?_; rintro e w1 ⟨rfl, rfl⟩) | (go_at_call 91; refine (hc _).mono ?_; rintro e w1 ⟨n1, rfl, rfl⟩))
      go_ret2
      exact ⟨_, rfl, by first | rfl | rw [World.drewN_drewN]⟩
    · have hd1 : d.toList.isEmpty = false := by cases h : d.toList <;> simp_all
      by_cases hr : r.toList = []
      · have hr1 : r.toList.isEmpty = true := by rw [hr]; rfl
        have hx := expRes_ok (sg := 1) hd hr
        rw [hx]
        clear hx
        go_enter Tryz.func92, Tryz.ntmps92
        go_wp2_with (first | (go_at_call_of 43 (Value.string ⟨#[45]⟩); refine (hp _).mono ?_; rintro e w1 ⟨rfl, rfl⟩) | (go_at_call_of 43 (Value.string ⟨#[43]⟩); refine (hq _).mono ?_; rintro e w1 ⟨rfl, rfl⟩) | (go_at_call 91; refine (hc _).mono ?_; rintro e w1 ⟨n1, rfl, rfl⟩))
        go_loop [7, 42] (fun m i => ∃ k : Nat, k ≤ d.size ∧ i = .int .i64 k ∧ m = .int .i64 (clampF 0 (d.toList.take k) : Nat)) (fun _ i => d.size - (intOf i).toNat)
        case atStart => exact ⟨0, Nat.zero_le _, rfl, rfl⟩
        case round =>
          obtain ⟨k, hk, rfl, rfl⟩ := hrel
          have cb := clampF_le (d.toList.take k)
          rcases Nat.lt_or_ge k d.size with hlt | hge
          · obtain ⟨c48, c57, nx⟩ := clampF_at d k hlt hdig
            have HN : Hid (clampF 0 (d.toList.take (k + 1)) = min (10 * clampF 0 (d.toList.take k) + ((d[k]).toNat - 48)) 1099511627776) := nx
            clear nx
            generalize clampF 0 (d.toList.take k) = m at *
            generalize hcv : (d[k]).toNat = cv at *
            have HV : Hid ((d[k]).toNat = cv) := hcv
            by_cases hm : 10 * m + (cv - 48) ≤ 1099511627776
            · go_wp2_with fail
              all_goals (refine ⟨⟨k + 1, by omega, by go_num, by rw [HN.out]; first | (congr 1; omega) | (apply congrArg (Value.int .i64); omega)⟩, ?_⟩; simp [intOf]; omega)
            · go_wp2_with fail
              all_goals (refine ⟨⟨k + 1, by omega, by go_num, by rw [HN.out]; first | (congr 1; omega) | (apply congrArg (Value.int .i64); omega)⟩, ?_⟩; simp [intOf]; omega)
          · have hkd : k = d.size := by omega
            have ht : d.toList.take k = d.toList := by rw [List.take_of_length_le]; rw [ByteArray.toList_eq, ← size_len]; omega
            rw [ht] at cb ⊢
            have hkk : (k : Int) = d.size := by omega
            go_wp2_with fail
            go_ret2
            first | exact ⟨rfl, _, rfl⟩ | exact ⟨ret_neg _, _, rfl⟩ | exact ⟨ret_pos _, _, rfl⟩
      · have hr1 : r.toList.isEmpty = false := by cases h : r.toList <;> simp_all
        have hx := expRes_rest (sg := 1) hd hr
        rw [hx]
        clear hx
        go_enter Tryz.func92, Tryz.ntmps92
        go_wp2_with (first | (go_at_call_of 43 (Value.string ⟨#[45]⟩); refine (hp _).mono ?_; rintro e w1 ⟨rfl, rfl⟩) | (go_at_call_of 43 (Value.string ⟨#[43]⟩); refine (hq _).mono ?_; rintro e w1 ⟨rfl, rfl⟩) | (go_at_call 91; refine (hc _).mono ?_; rintro e w1 ⟨n1, rfl, rfl⟩))
        go_ret2
        exact ⟨_, rfl, by first | rfl | rw [World.drewN_drewN]⟩
  · skip
    by_cases hd : d.toList = []
    · have hx := expRes_nil (sg := 1) (r := r.toList) hd
      rw [hx]
      clear hx
      go_enter Tryz.func92, Tryz.ntmps92
      go_wp2_with (first | (go_at_call_of 43 (Value.string ⟨#[45]⟩); refine (hp _).mono ?_; rintro e w1 ⟨rfl, rfl⟩) | (go_at_call_of 43 (Value.string ⟨#[43]⟩); refine (hq _).mono ?_; rintro e w1 ⟨rfl, rfl⟩) | (go_at_call 91; refine (hc _).mono ?_; rintro e w1 ⟨n1, rfl, rfl⟩))
      go_ret2
      exact ⟨_, rfl, by first | rfl | rw [World.drewN_drewN]⟩
    · have hd1 : d.toList.isEmpty = false := by cases h : d.toList <;> simp_all
      by_cases hr : r.toList = []
      · have hr1 : r.toList.isEmpty = true := by rw [hr]; rfl
        have hx := expRes_ok (sg := 1) hd hr
        rw [hx]
        clear hx
        go_enter Tryz.func92, Tryz.ntmps92
        go_wp2_with (first | (go_at_call_of 43 (Value.string ⟨#[45]⟩); refine (hp _).mono ?_; rintro e w1 ⟨rfl, rfl⟩) | (go_at_call_of 43 (Value.string ⟨#[43]⟩); refine (hq _).mono ?_; rintro e w1 ⟨rfl, rfl⟩) | (go_at_call 91; refine (hc _).mono ?_; rintro e w1 ⟨n1, rfl, rfl⟩))
        go_loop [7, 42] (fun m i => ∃ k : Nat, k ≤ d.size ∧ i = .int .i64 k ∧ m = .int .i64 (clampF 0 (d.toList.take k) : Nat)) (fun _ i => d.size - (intOf i).toNat)
        case atStart => exact ⟨0, Nat.zero_le _, rfl, rfl⟩
        case round =>
          obtain ⟨k, hk, rfl, rfl⟩ := hrel
          have cb := clampF_le (d.toList.take k)
          rcases Nat.lt_or_ge k d.size with hlt | hge
          · obtain ⟨c48, c57, nx⟩ := clampF_at d k hlt hdig
            have HN : Hid (clampF 0 (d.toList.take (k + 1)) = min (10 * clampF 0 (d.toList.take k) + ((d[k]).toNat - 48)) 1099511627776) := nx
            clear nx
            generalize clampF 0 (d.toList.take k) = m at *
            generalize hcv : (d[k]).toNat = cv at *
            have HV : Hid ((d[k]).toNat = cv) := hcv
            by_cases hm : 10 * m + (cv - 48) ≤ 1099511627776
            · go_wp2_with fail
              all_goals (refine ⟨⟨k + 1, by omega, by go_num, by rw [HN.out]; first | (congr 1; omega) | (apply congrArg (Value.int .i64); omega)⟩, ?_⟩; simp [intOf]; omega)
            · go_wp2_with fail
              all_goals (refine ⟨⟨k + 1, by omega, by go_num, by rw [HN.out]; first | (congr 1; omega) | (apply congrArg (Value.int .i64); omega)⟩, ?_⟩; simp [intOf]; omega)
          · have hkd : k = d.size := by omega
            have ht : d.toList.take k = d.toList := by rw [List.take_of_length_le]; rw [ByteArray.toList_eq, ← size_len]; omega
            rw [ht] at cb ⊢
            have hkk : (k : Int) = d.size := by omega
            go_wp2_with fail
            go_ret2
            first | exact ⟨rfl, _, rfl⟩ | exact ⟨ret_neg _, _, rfl⟩ | exact ⟨ret_pos _, _, rfl⟩
      · have hr1 : r.toList.isEmpty = false := by cases h : r.toList <;> simp_all
        have hx := expRes_rest (sg := 1) hd hr
        rw [hx]
        clear hx
        go_enter Tryz.func92, Tryz.ntmps92
        go_wp2_with (first | (go_at_call_of 43 (Value.string ⟨#[45]⟩); refine (hp _).mono ?_; rintro e w1 ⟨rfl, rfl⟩) | (go_at_call_of 43 (Value.string ⟨#[43]⟩); refine (hq _).mono ?_; rintro e w1 ⟨rfl, rfl⟩) | (go_at_call 91; refine (hc _).mono ?_; rintro e w1 ⟨n1, rfl, rfl⟩))
        go_ret2
        exact ⟨_, rfl, by first | rfl | rw [World.drewN_drewN]⟩

end Go.Proofs.YtaikkmehmiiffaaGreatDoor
/- scanExponent of every text; the walks of scan and literal. -/
namespace Go.Proofs.YtaikkmehmiiffaaGreatDoor
open Go.RowKit
set_option linter.unusedVariables false

def signOf (r : List UInt8) : Int := if r.head? = some 45 then -1 else 1
def unsign (r : List UInt8) : List UInt8 := if r.head? = some 45 ∨ r.head? = some 43 then r.tail else r

/-- what stands behind a decimal: its exponent, and whether it is one -/
def expP (l : List UInt8) : Int × Bool :=
  if l.head? = some 101 ∨ l.head? = some 69 then
    (if digs (unsign l.tail) = [] ∨ rst (unsign l.tail) ≠ [] then (0, false) else (signOf l.tail * (clampF 0 (digs (unsign l.tail)) : Nat), true))
  else (0, false)

theorem expRes_eq (sg : Int) (d r : List UInt8) : expRes sg d r = (fun p : Int × Bool => Value.tuple #[.int .i64 p.1, .bool p.2]) (if d = [] ∨ r ≠ [] then (0, false) else (sg * (clampF 0 d : Nat), true)) := by
  unfold expRes; split <;> rfl

theorem digs_dig (l : List UInt8) : ∀ c ∈ digs l, isDig c = true := fun _ hc => List.all_eq_true.1 List.all_takeWhile _ hc

theorem digs_len (l : List UInt8) : (digs l).length ≤ l.length := (List.takeWhile_sublist _).length_le
theorem rst_len (l : List UInt8) : (rst l).length ≤ l.length := (List.dropWhile_sublist _).length_le

theorem hasPrefix_one (l : List UInt8) (c : UInt8) : Lib.hasPrefix l [c] = decide (l.head? = some c) := by
  unfold Lib.hasPrefix
  cases l with
  | nil => rfl
  | cons a l =>
    simp only [List.isPrefixOf_cons_cons, List.isPrefixOf_nil_left, Bool.and_true, List.head?_cons, Option.some.injEq]
    by_cases h : c = a
    · subst h; simp
    · have h2 : ¬ a = c := fun e => h e.symm
      simp [h, h2]

theorem hasPrefix_bs (l : List UInt8) (c : UInt8) (w : World) :
    Calls Tryz.prog 43 #[.string (bs l), .string ⟨#[c]⟩] w fun e w' => e = .returned (.bool (decide (l.head? = some c))) ∧ w' = w := by
  have := Tryz.strings_HasPrefix (bs l) ⟨#[c]⟩ w
  rw [bs_data, show (⟨#[c]⟩ : ByteArray).data.toList = [c] from rfl, hasPrefix_one] at this
  exact this

theorem bs_tail (l : List UInt8) : (bs l).extract 1 (bs l).size = bs l.tail := by
  rw [bs_extract, bs_size, List.take_length, List.drop_one]

theorem bs_at0 (c : UInt8) (l : List UInt8) (h : 0 < (bs (c :: l)).size) : (bs (c :: l))[0] = c := rfl

theorem bs_toList (l : List UInt8) : (bs l).toList = l := by rw [ByteArray.toList_eq, bs_data]

theorem scanExp_any (l : List UInt8) (w : World) (hne : l ≠ []) (hl : l.length ≤ 1000000) :
    Calls Tryz.prog 92 #[.string (bs l)] w fun e w' => ∃ n, e = .returned (.tuple #[.int .i64 (expP l).1, .bool (expP l).2]) ∧ w' = w.drewN n := by
  obtain ⟨c, r, rfl⟩ : ∃ c r, l = c :: r := by
    cases l with
    | nil => exact absurd rfl hne
    | cons c r => exact ⟨c, r, rfl⟩
  have h0 : 0 < (bs (c :: r)).size := by rw [bs_size]; simp
  have hr : r.length ≤ 1000000 := by simp at hl; omega
  have ht : (bs (c :: r)).extract 1 (bs (c :: r)).size = bs r := by rw [bs_tail]; rfl
  have key : ∀ n : Nat, (((bs (c :: r))[0].toNat : Int) != n) = decide (c.toNat ≠ n) := by
    intro n
    rw [bs_at0]
    by_cases e : c.toNat = n
    · simp [e]
    · have : ¬ ((c.toNat : Int) = n) := by omega
      simp [e, bne, this]
  by_cases he : (c :: r).head? = some 101 ∨ (c :: r).head? = some 69
  · have h1 : ((((bs (c :: r))[0]).toNat : Int) != 101) = false ∨ (((((bs (c :: r))[0]).toNat : Int) != 101) = true ∧ ((((bs (c :: r))[0]).toNat : Int) != 69) = false) := by
      have k1 := key 101
      have k2 := key 69
      simp only [List.head?_cons, Option.some.injEq] at he
      rcases he with rfl | rfl
      · left; exact k1
      · right; exact ⟨k1, k2⟩
    unfold expP
    rw [if_pos he, List.tail_cons]
    by_cases hm : r.head? = some 45
    · have hrl : 0 < (bs r).size := by
        rw [bs_size]
        cases r with
        | nil => simp at hm
        | cons a r => simp
      have hp := fun w => hasPrefix_bs r 45 w
      rw [decide_eq_true hm] at hp
      have hc := fun w => cutDigits_bs r.tail w (by rw [List.length_tail]; omega)
      have e := scanExp_minus (bs (c :: r)) (bs r) (bs (digs r.tail)) (bs (rst r.tail)) w h0 h1 ht hrl hp (by rw [bs_tail]; exact hc)
        (by rw [bs_toList]; exact digs_dig _) (by rw [bs_size]; have := digs_len r.tail; rw [List.length_tail] at this; omega)
      rw [bs_toList, bs_toList, expRes_eq] at e
      have u : unsign r = r.tail := by unfold unsign; rw [if_pos (.inl hm)]
      have s : signOf r = -1 := by unfold signOf; rw [if_pos hm]
      rw [u, s]
      exact e
    · have hp := fun w => hasPrefix_bs r 45 w
      rw [decide_eq_false hm] at hp
      by_cases hq' : r.head? = some 43
      · have hrl : 0 < (bs r).size := by
          rw [bs_size]
          cases r with
          | nil => simp at hq'
          | cons a r => simp
        have hq := fun w => hasPrefix_bs r 43 w
        rw [decide_eq_true hq'] at hq
        have hc := fun w => cutDigits_bs r.tail w (by rw [List.length_tail]; omega)
        have e := scanExp_plus (bs (c :: r)) (bs r) (bs (digs r.tail)) (bs (rst r.tail)) w h0 h1 ht hrl hp hq (by rw [bs_tail]; exact hc)
          (by rw [bs_toList]; exact digs_dig _) (by rw [bs_size]; have := digs_len r.tail; rw [List.length_tail] at this; omega)
        rw [bs_toList, bs_toList, expRes_eq] at e
        have u : unsign r = r.tail := by unfold unsign; rw [if_pos (.inr hq')]
        have s : signOf r = 1 := by unfold signOf; rw [if_neg hm]
        rw [u, s]
        exact e
      · have hq := fun w => hasPrefix_bs r 43 w
        rw [decide_eq_false hq'] at hq
        have hc := fun w => cutDigits_bs r w hr
        have e := scanExp_none (bs (c :: r)) (bs r) (bs (digs r)) (bs (rst r)) w h0 h1 ht hp hq hc
          (by rw [bs_toList]; exact digs_dig _) (by rw [bs_size]; have := digs_len r; omega)
        rw [bs_toList, bs_toList, expRes_eq] at e
        have u : unsign r = r := by unfold unsign; rw [if_neg (by rintro (h | h); exact hm h; exact hq' h)]
        have s : signOf r = 1 := by unfold signOf; rw [if_neg hm]
        rw [u, s]
        exact e
  · have k1 := key 101
    have k2 := key 69
    simp only [List.head?_cons, Option.some.injEq, not_or] at he
    have n1 : c.toNat ≠ 101 := fun h => he.1 (UInt8.toNat_inj.1 h)
    have n2 : c.toNat ≠ 69 := fun h => he.2 (UInt8.toNat_inj.1 h)
    have e := scanExp_no (bs (c :: r)) w h0 (by rw [show (101 : Int) = ((101 : Nat) : Int) from rfl, k1]; simp [n1]) (by rw [show (69 : Int) = ((69 : Nat) : Int) from rfl, k2]; simp [n2])
    refine e.mono ?_
    rintro e w' ⟨rfl, rfl⟩
    refine ⟨0, ?_, rfl⟩
    unfold expP
    rw [if_neg (by simp only [List.head?_cons, Option.some.injEq, not_or]; exact he)]

end Go.Proofs.YtaikkmehmiiffaaGreatDoor
/- The walks of literal and significant. -/
namespace Go.Proofs.YtaikkmehmiiffaaGreatDoor
open Go.RowKit
set_option linter.unusedVariables false

theorem lit_a (W F : ByteArray) (dot : Bool) (x : Int) (w : World) (hW : W.toList = []) :
    Calls Tryz.prog 73 #[.agg #[.string W, .string F, .bool dot, .int .i64 x]] w fun e w' => e = .returned (.bool false) ∧ Below w.heap.size w w' := by
  go_enter Tryz.func73, Tryz.ntmps73
  go_wp2
  go_ret
  exact ⟨rfl, (Below.refl _ _).alloc (Nat.le_refl _) _⟩

theorem lit_b (W F : ByteArray) (x : Int) (w : World) (hW : W.toList.isEmpty = false) (hF : F.toList = []) :
    Calls Tryz.prog 73 #[.agg #[.string W, .string F, .bool true, .int .i64 x]] w fun e w' => e = .returned (.bool false) ∧ Below w.heap.size w w' := by
  go_enter Tryz.func73, Tryz.ntmps73
  go_wp2
  go_ret
  exact ⟨rfl, (Below.refl _ _).alloc (Nat.le_refl _) _⟩

theorem lit_c (W F : ByteArray) (dot : Bool) (x : Int) (w : World) (hW : W.toList.isEmpty = false) (hF : dot = false ∨ F.toList.isEmpty = false) (h1 : W.size = 1) :
    Calls Tryz.prog 73 #[.agg #[.string W, .string F, .bool dot, .int .i64 x]] w fun e w' => e = .returned (.bool true) ∧ Below w.heap.size w w' := by
  cases dot
  · go_enter Tryz.func73, Tryz.ntmps73
    go_wp2
    go_ret
    exact ⟨rfl, (Below.refl _ _).alloc (Nat.le_refl _) _⟩
  · have hF2 : F.toList.isEmpty = false := by rcases hF with h | h; exact absurd h (by simp); exact h
    clear hF
    go_enter Tryz.func73, Tryz.ntmps73
    go_wp2
    go_ret
    exact ⟨rfl, (Below.refl _ _).alloc (Nat.le_refl _) _⟩

theorem lit_d (W F : ByteArray) (dot : Bool) (x : Int) (b : Bool) (w : World) (hW : W.toList.isEmpty = false) (hF : dot = false ∨ F.toList.isEmpty = false) (h1 : 1 < W.size) (hb : (((W[0]).toNat : Int) != 48) = b) :
    Calls Tryz.prog 73 #[.agg #[.string W, .string F, .bool dot, .int .i64 x]] w fun e w' => e = .returned (.bool b) ∧ Below w.heap.size w w' := by
  have h0 : 0 < W.size := by omega
  cases dot
  · go_enter Tryz.func73, Tryz.ntmps73
    go_wp2
    go_ret
    exact ⟨rfl, (Below.refl _ _).alloc (Nat.le_refl _) _⟩
  · have hF2 : F.toList.isEmpty = false := by rcases hF with h | h; exact absurd h (by simp); exact h
    clear hF
    go_enter Tryz.func73, Tryz.ntmps73
    go_wp2
    go_ret
    exact ⟨rfl, (Below.refl _ _).alloc (Nat.le_refl _) _⟩

theorem sig_short (W F A D : ByteArray) (dot : Bool) (x : Int) (w : World) (hA : W ++ F = A) (hsz : W.size + F.size = A.size) (hs : A.size ≤ 1000000)
    (c1 : ∀ w : World, Calls Tryz.prog 107 #[.string A, .string ⟨#[48]⟩] w fun e w' => e = .returned (.string D) ∧ w' = w) (hD : D.size ≤ 800) (hDA : D.size ≤ A.size) (x0 : -2000000000000 ≤ x) (x1 : x ≤ 2000000000000) :
    Calls Tryz.prog 93 #[.agg #[.string W, .string F, .bool dot, .int .i64 x]] w fun e w' => e = .returned (.tuple #[.string D, .int .i64 (W.size - (A.size - D.size) + x)]) ∧ Below w.heap.size w w' := by
  go_enter Tryz.func93, Tryz.ntmps93
  go_wp2_with (go_at_call 107; refine (c1 _).mono ?_; rintro e w1 ⟨rfl, rfl⟩)
  go_ret2
  exact ⟨rfl, (Below.refl _ _).alloc (Nat.le_refl _) _⟩

theorem sig_long (W F A D T : ByteArray) (dot : Bool) (x : Int) (w : World) (hA : W ++ F = A) (hsz : W.size + F.size = A.size) (hs : A.size ≤ 1000000)
    (c1 : ∀ w : World, Calls Tryz.prog 107 #[.string A, .string ⟨#[48]⟩] w fun e w' => e = .returned (.string D) ∧ w' = w) (hD : 800 < D.size) (hDA : D.size ≤ A.size) (x0 : -2000000000000 ≤ x) (x1 : x ≤ 2000000000000)
    (c2 : ∀ w : World, Calls Tryz.prog 108 #[.string (D.extract 800 D.size), .string ⟨#[48]⟩] w fun e w' => e = .returned (.string T) ∧ ∃ n, w' = w.drewN n) (hT : T.toList = []) :
    Calls Tryz.prog 93 #[.agg #[.string W, .string F, .bool dot, .int .i64 x]] w fun e w' => e = .returned (.tuple #[.string (D.extract 0 800), .int .i64 (W.size - (A.size - D.size) + x)]) ∧ Below w.heap.size w w' := by
  go_enter Tryz.func93, Tryz.ntmps93
  go_wp2_with (first | (go_at_call 107; refine (c1 _).mono ?_; rintro e w1 ⟨rfl, rfl⟩) | (go_at_call 108; refine (c2 _).mono ?_; rintro e w1 ⟨rfl, n, rfl⟩))
  go_ret2
  exact ⟨rfl, below_drewN ((Below.refl _ _).alloc (Nat.le_refl _) _) _⟩

theorem sig_more (W F A D T P : ByteArray) (dot : Bool) (x : Int) (w : World) (hA : W ++ F = A) (hsz : W.size + F.size = A.size) (hs : A.size ≤ 1000000)
    (c1 : ∀ w : World, Calls Tryz.prog 107 #[.string A, .string ⟨#[48]⟩] w fun e w' => e = .returned (.string D) ∧ w' = w) (hD : 800 < D.size) (hDA : D.size ≤ A.size) (x0 : -2000000000000 ≤ x) (x1 : x ≤ 2000000000000)
    (c2 : ∀ w : World, Calls Tryz.prog 108 #[.string (D.extract 800 D.size), .string ⟨#[48]⟩] w fun e w' => e = .returned (.string T) ∧ ∃ n, w' = w.drewN n) (hT : T.toList.isEmpty = false)
    (hP : D.extract 0 800 ++ ⟨#[49]⟩ = P) (hps : (D.extract 0 800).size = 800) :
    Calls Tryz.prog 93 #[.agg #[.string W, .string F, .bool dot, .int .i64 x]] w fun e w' => e = .returned (.tuple #[.string P, .int .i64 (W.size - (A.size - D.size) + x)]) ∧ Below w.heap.size w w' := by
  go_enter Tryz.func93, Tryz.ntmps93
  go_wp2_with (first | (go_at_call 107; refine (c1 _).mono ?_; rintro e w1 ⟨rfl, rfl⟩) | (go_at_call 108; refine (c2 _).mono ?_; rintro e w1 ⟨rfl, n, rfl⟩))
  go_ret2
  exact ⟨rfl, below_drewN ((Below.refl _ _).alloc (Nat.le_refl _) _) _⟩

end Go.Proofs.YtaikkmehmiiffaaGreatDoor
/- The walk of value. -/
namespace Go.Proofs.YtaikkmehmiiffaaGreatDoor
open Go.RowKit
set_option linter.unusedVariables false

/-- digits as a number -/
def decN (l : List UInt8) : Nat := l.foldl (fun n c => 10 * n + (c.toNat - 48)) 0

theorem decN_snoc (l : List UInt8) (c : UInt8) : decN (l ++ [c]) = decN l * 10 + (c.toNat - 48) := by
  unfold decN; rw [List.foldl_append]; simp only [List.foldl_cons, List.foldl_nil]; omega

theorem decN_fold (l : List UInt8) : ∀ n, l.foldl (fun n c => 10 * n + (c.toNat - 48)) n = n * 10 ^ l.length + decN l := by
  induction l with
  | nil => intro n; simp [decN]
  | cons c l ih =>
    intro n
    have e : decN (c :: l) = (c.toNat - 48) * 10 ^ l.length + decN l := by
      unfold decN
      rw [List.foldl_cons, ih]
      simp [decN]
    rw [List.foldl_cons, ih, e, List.length_cons, Nat.pow_succ, Nat.add_mul, Nat.mul_comm 10 n, Nat.mul_assoc, Nat.mul_comm 10]
    omega

theorem decN_cons (c : UInt8) (l : List UInt8) : decN (c :: l) = (c.toNat - 48) * 10 ^ l.length + decN l := by
  have := decN_fold l (c.toNat - 48)
  rw [← this]
  unfold decN
  rw [List.foldl_cons]
  simp

theorem decN_lt (l : List UInt8) (h : ∀ c ∈ l, isDig c = true) : decN l < 10 ^ l.length := by
  induction l with
  | nil => simp [decN]
  | cons c l ih =>
    have h1 := ih (fun x hx => h x (by simp [hx]))
    have h2 := h c (by simp)
    unfold isDig at h2
    simp only [Bool.and_eq_true, decide_eq_true_eq] at h2
    rw [decN_cons, List.length_cons, Nat.pow_succ]
    have : (c.toNat - 48) * 10 ^ l.length ≤ 9 * 10 ^ l.length := Nat.mul_le_mul_right _ (by omega)
    omega

theorem decN_ge (l : List UInt8) (c : UInt8) (r : List UInt8) (hl : l = c :: r) (hc : isDig c = true) (h0 : c ≠ 48) : 10 ^ (l.length - 1) ≤ decN l := by
  subst hl
  unfold isDig at hc
  simp only [Bool.and_eq_true, decide_eq_true_eq] at hc
  have : c.toNat ≠ 48 := fun h => h0 (UInt8.toNat_inj.1 h)
  rw [decN_cons, List.length_cons, Nat.add_sub_cancel]
  have : 1 * 10 ^ r.length ≤ (c.toNat - 48) * 10 ^ r.length := Nat.mul_le_mul_right _ (by omega)
  omega

theorem bitl_mul {X Y k : Nat} (h : X ≤ Y * 2 ^ k) : bitl X ≤ bitl Y + k := by
  rw [bitl_le]
  have h1 : Y < 2 ^ bitl Y := (bitl_le (n := Y) (k := bitl Y)).1 (Nat.le_refl _)
  have h2 : Y * 2 ^ k < 2 ^ bitl Y * 2 ^ k := Nat.mul_lt_mul_of_pos_right h1 (Nat.two_pow_pos k)
  rw [Nat.pow_add]
  omega

/-- what a decimal's digits and point are as a number -/
def valD (D : List UInt8) (p : Int) : Nat :=
  if D = [] ∨ p < -330 then 0 else if 310 < p then 9218868437227405312 else nearQ (decN D * 10 ^ (p - D.length).toNat) (10 ^ (D.length - p).toNat)

theorem value_nil (W F D : ByteArray) (dot : Bool) (x p : Int) (w : World)
    (cs : ∀ w : World, Calls Tryz.prog 93 #[.agg #[.string W, .string F, .bool dot, .int .i64 x]] w fun e w' => e = .returned (.tuple #[.string D, .int .i64 p]) ∧ Below w.heap.size w w') (h : D.toList = []) :
    Calls Tryz.prog 74 #[.agg #[.string W, .string F, .bool dot, .int .i64 x]] w fun e w' => e = .returned (.int .u64 0) ∧ Below w.heap.size w w' := by
  go_enter Tryz.func74, Tryz.ntmps74
  go_wp2_with (go_at_call 93; refine (cs _).mono ?_; rintro e w1 ⟨rfl, hb⟩)
  go_ret
  exact ⟨rfl, ((Below.refl _ _).alloc (Nat.le_refl _) _).trans (hb.mono (by simp))⟩

theorem value_low (W F D : ByteArray) (dot : Bool) (x p : Int) (w : World)
    (cs : ∀ w : World, Calls Tryz.prog 93 #[.agg #[.string W, .string F, .bool dot, .int .i64 x]] w fun e w' => e = .returned (.tuple #[.string D, .int .i64 p]) ∧ Below w.heap.size w w') (h : D.toList.isEmpty = false) (hp : p < -330) :
    Calls Tryz.prog 74 #[.agg #[.string W, .string F, .bool dot, .int .i64 x]] w fun e w' => e = .returned (.int .u64 0) ∧ Below w.heap.size w w' := by
  go_enter Tryz.func74, Tryz.ntmps74
  go_wp2_with (go_at_call 93; refine (cs _).mono ?_; rintro e w1 ⟨rfl, hb⟩)
  go_ret
  exact ⟨rfl, ((Below.refl _ _).alloc (Nat.le_refl _) _).trans (hb.mono (by simp))⟩

theorem value_high (W F D : ByteArray) (dot : Bool) (x p : Int) (w : World)
    (cs : ∀ w : World, Calls Tryz.prog 93 #[.agg #[.string W, .string F, .bool dot, .int .i64 x]] w fun e w' => e = .returned (.tuple #[.string D, .int .i64 p]) ∧ Below w.heap.size w w') (h : D.toList.isEmpty = false) (hp : 310 < p) :
    Calls Tryz.prog 74 #[.agg #[.string W, .string F, .bool dot, .int .i64 x]] w fun e w' => e = .returned (.int .u64 9218868437227405312) ∧ Below w.heap.size w w' := by
  go_enter Tryz.func74, Tryz.ntmps74
  go_wp2_with (go_at_call 93; refine (cs _).mono ?_; rintro e w1 ⟨rfl, hb⟩)
  go_ret
  exact ⟨rfl, ((Below.refl _ _).alloc (Nat.le_refl _) _).trans (hb.mono (by simp))⟩

theorem dig_at (D : ByteArray) (k : Nat) (hk : k < D.size) (hdig : ∀ c ∈ D.toList, isDig c = true) :
    48 ≤ (D[k]).toNat ∧ (D[k]).toNat ≤ 57 ∧ decN (D.toList.take (k + 1)) = decN (D.toList.take k) * 10 + ((D[k]).toNat - 48) := by
  have e := at_k D k hk
  rw [← ByteArray.toList_eq] at e
  have hd := hdig _ (List.mem_of_getElem? e)
  unfold isDig at hd
  simp only [Bool.and_eq_true, decide_eq_true_eq] at hd
  refine ⟨hd.1, hd.2, ?_⟩
  rw [take_next _ _ _ e, decN_snoc]

theorem decN_small (D : ByteArray) (k : Nat) (hs : D.size ≤ 801) (hdig : ∀ c ∈ D.toList, isDig c = true) (K : Nat) (hK : 3204 ≤ K) : decN (D.toList.take k) < 2 ^ K := by
  have h1 := decN_lt (D.toList.take k) (fun c hc => hdig c (List.mem_of_mem_take hc))
  have hl : (D.toList.take k).length ≤ 801 := by rw [List.length_take, ByteArray.toList_eq, ← size_len]; omega
  have h2 := tens_le (D.toList.take k).length
  have h3 : 2 ^ (4 * (D.toList.take k).length) ≤ 2 ^ K := Nat.pow_le_pow_right (by decide) (by omega)
  omega

theorem num_nil (w : World) : Num (w.alloc (.cells #[] 29)) (.slice (some ⟨w.heap.size, 0, none⟩) 0 0) w.heap.size 0 := by
  refine ⟨0, by rw [wds_zero]; rfl, ?_⟩
  rw [wds_zero]
  exact World.ownsRow_made w #[] 0 (Nat.le_refl _) (by unfold maxLen; omega) rfl

theorem num_one (w : World) : Num (w.alloc (.cells #[.int .u64 1] 29)) (.slice (some ⟨w.heap.size, 0, none⟩) 1 1) w.heap.size 1 := by
  have e : wds 1 = [1] := by rw [wds_pos 1 (by decide)]; simp [wds_zero]
  refine ⟨1, by rw [e]; rfl, ?_⟩
  rw [e]
  exact ⟨rfl, .inr ⟨w.heap.size, 1, #[.int .u64 1], rfl, Nat.le_refl _, heap_alloc_new w _, Nat.le_refl _, by unfold maxLen; omega, rfl, rfl⟩⟩

theorem quo_bits (N m a b : Nat) (p : Int) (h1 : N < 10 ^ m) (h2 : 10 ^ (m - 1) ≤ N) (hm : 0 < m) (ha : a = (p - m).toNat) (hb : b = (m - p).toNat) (p0 : -330 ≤ p) (p1 : p ≤ 310) :
    -1800 ≤ (bitl (N * 10 ^ a) : Int) - bitl (1 * 10 ^ b) ∧ (bitl (N * 10 ^ a) : Int) - bitl (1 * 10 ^ b) ≤ 1800 := by
  obtain ⟨k1, hk1⟩ : ∃ k, k = 310 := ⟨_, rfl⟩
  obtain ⟨k2, hk2⟩ : ∃ k, k = 331 := ⟨_, rfl⟩
  have pa : 0 < 10 ^ a := Nat.pow_pos (by decide)
  have u : N * 10 ^ a ≤ (1 * 10 ^ b) * 2 ^ (4 * k1) := by
    have e1 : N * 10 ^ a ≤ 10 ^ (m + a) := by rw [Nat.pow_add]; exact Nat.mul_le_mul_right _ (by omega)
    have e2 : 10 ^ (m + a) ≤ 10 ^ (b + k1) := Nat.pow_le_pow_right (by decide) (by omega)
    have e3 := Nat.mul_le_mul_left (10 ^ b) (tens_le k1)
    rw [Nat.pow_add _ b k1] at e2
    rw [Nat.one_mul]
    omega
  have l : 1 * 10 ^ b ≤ (N * 10 ^ a) * 2 ^ (4 * k2) := by
    have e1 : 10 ^ (m - 1 + a) ≤ N * 10 ^ a := by rw [Nat.pow_add]; exact Nat.mul_le_mul_right _ h2
    have e2 : 10 ^ b ≤ 10 ^ (m - 1 + a + k2) := Nat.pow_le_pow_right (by decide) (by omega)
    have e3 : 10 ^ (m - 1 + a) * 10 ^ k2 ≤ N * 10 ^ a * 2 ^ (4 * k2) := Nat.mul_le_mul e1 (tens_le k2)
    rw [Nat.pow_add _ _ k2] at e2
    omega
  have u1 := bitl_mul u
  have l1 := bitl_mul l
  omega

def ValAt (w wr : World) (D : ByteArray) (v i : Value) : Prop :=
  ∃ k g : Nat, k ≤ D.size ∧ i = .int .i64 k ∧ Num wr v g (decN (D.toList.take k)) ∧ w.heap.size ≤ g ∧ Below w.heap.size w wr

set_option maxHeartbeats 1000000 in
theorem value_mid (W F D : ByteArray) (dot : Bool) (x p : Int) (w : World)
    (cs : ∀ w : World, Calls Tryz.prog 93 #[.agg #[.string W, .string F, .bool dot, .int .i64 x]] w fun e w' => e = .returned (.tuple #[.string D, .int .i64 p]) ∧ Below w.heap.size w w') (h : D.toList.isEmpty = false) (hp : p ≤ 310) (hp2 : -330 ≤ p) (hs : D.size ≤ 801) (hdig : ∀ c ∈ D.toList, isDig c = true) (hN : 0 < decN D.toList)
    (hge : 10 ^ (D.size - 1) ≤ decN D.toList) (hD0 : 0 < D.size) :
    Calls Tryz.prog 74 #[.agg #[.string W, .string F, .bool dot, .int .i64 x]] w fun e w' => e = .returned (.int .u64 (nearQ (decN D.toList * 10 ^ (p - D.size).toNat) (10 ^ (D.size - p).toNat) : Nat)) ∧ Below w.heap.size w w' := by
  go_enter Tryz.func74, Tryz.ntmps74
  go_wp2_with (go_at_call 93; refine (cs _).mono ?_; rintro e w1 ⟨rfl, hb⟩)
  have hb1 : Below w.heap.size w w1 := ((Below.refl _ _).alloc (Nat.le_refl _) _).trans (hb.mono (by simp))
  go_loopw [5, 26] (fun n i wr => ValAt w wr D n i) (fun _ i _ => D.size - (intOf i).toNat)
  case atStart => exact ⟨0, w1.heap.size, Nat.zero_le _, rfl, num_nil w1, hb1.size, hb1.alloc hb1.size _⟩
  case round =>
    obtain ⟨k, g, hk, rfl, hn, hg, hbl⟩ := hrel
    rcases Nat.lt_or_ge k D.size with hlt | hge2
    · obtain ⟨c48, c57, nx⟩ := dig_at D k hlt hdig
      obtain ⟨K, hK⟩ : ∃ K, K = 3204 := ⟨_, rfl⟩
      have sm := decN_small D k hs hdig K (by omega)
      have sc := scaled_moved wr _ g (decN (D.toList.take k)) 10 ((D[k]).toNat - 48) K hn (by decide) (by omega) sm (by omega)
      rw [← nx] at sc
      have cv : (((D[k]).toNat - 48 : Nat) : Int) = ((D[k]).toNat : Int) - 48 := by omega
      rw [cv] at sc
      clear nx sm hge hN hK
      have a0 := hn.lt
      go_wp2_with (go_at_call 94; refine sc.mono ?_; rintro e w2 ⟨v2, g2, rfl, n2, m2⟩)
      go_roundw
      case rel => exact ⟨k + 1, g2, by omega, by go_num, n2, by rcases m2.place with h | h <;> omega, hbl.trans (m2.below hg (by omega))⟩
      case measure => simp [intOf]; omega
    · have hkd : D.toList.take k = D.toList := by rw [List.take_of_length_le]; rw [ByteArray.toList_eq, ← size_len]; omega
      rw [hkd] at hn
      have hkk : (k : Int) = D.size := by omega
      obtain ⟨K, hK⟩ : ∃ K, K = 3204 := ⟨_, rfl⟩
      have sm := decN_small D D.size hs hdig K (by omega)
      have hDl : D.toList.take D.size = D.toList := by rw [List.take_of_length_le]; rw [ByteArray.toList_eq, ← size_len]; omega
      rw [hDl] at sm
      have lt10 := decN_lt D.toList hdig
      rw [show D.toList.length = D.size from by rw [ByteArray.toList_eq, ← size_len]] at lt10
      obtain ⟨a, ha⟩ : ∃ a, a = (p - D.size).toNat := ⟨_, rfl⟩
      obtain ⟨b, hb'⟩ : ∃ b, b = (D.size - p).toNat := ⟨_, rfl⟩
      obtain ⟨q0, q1⟩ := quo_bits (decN D.toList) D.size a b p lt10 hge hD0 ha hb' hp2 hp
      obtain ⟨res, hres⟩ : ∃ res : Int, res = ((nearQ (decN D.toList * 10 ^ (p - D.size).toNat) (10 ^ (D.size - p).toNat) : Nat) : Int) := ⟨_, rfl⟩
      have HR : Hid (res = ((nearQ (decN D.toList * 10 ^ (p - D.size).toNat) (10 ^ (D.size - p).toNat) : Nat) : Int)) := hres
      have fin : ∀ (v3 v4 : Value) (w3 w4 : World) (g3 g4 : Nat), Num w3 v3 g3 (decN D.toList * 10 ^ a) → Num w4 v4 g4 (1 * 10 ^ b) → Moved wr w3 g g3 → Moved (w3.alloc (.cells #[.int .u64 1] 29)) w4 w3.heap.size g4 →
          Calls Tryz.prog 95 #[v3, v4] w4 fun e w' => e = .returned (.int .u64 res) ∧ Below w.heap.size w w' := by
        intro v3 v4 w3 w4 g3 g4 n3 n4 m3 m4
        have s3 := n3.lt
        have sg := hn.lt
        have s4 := m3.grown.size
        have s5 : (w3.alloc (.cells #[.int .u64 1] 29)).heap.size = w3.heap.size + 1 := by simp
        have n3' : Num (w3.alloc (.cells #[.int .u64 1] 29)) v3 g3 (decN D.toList * 10 ^ a) := n3.kept (k := w3.heap.size) (World.grownBy_alloc w3 _ _) (by omega)
        have n3'' := n3'.kept m4.grown (by omega)
        have b3 : Below w.heap.size w w3 := hbl.trans (m3.below hg (by omega))
        have b4 : Below w.heap.size w (w3.alloc (.cells #[.int .u64 1] 29)) := b3.alloc b3.size _
        have b5 : Below w.heap.size w w4 := b4.trans (m4.below b3.size (by omega))
        have g3b : w.heap.size ≤ g3 := by rcases m3.place with h | h <;> omega
        have g4b : w.heap.size ≤ g4 := by have := b3.size; rcases m4.place with h | h <;> omega
        have hh := quotient_any w4 v3 v4 g3 g4 _ _ (K + 4 * 310 + 4 * 1131) w.heap.size q0 q1 (Nat.mul_pos hN (Nat.pow_pos (by decide))) (Nat.mul_pos (by decide) (Nat.pow_pos (by decide)))
          (Nat.lt_of_lt_of_le (tens_lt sm) (Nat.pow_le_pow_right (by decide) (by omega)))
          (Nat.lt_of_lt_of_le (tens_lt (K := 1) (by decide)) (Nat.pow_le_pow_right (by decide) (by omega)))
          (by omega) n3'' n4 (by rcases m4.place with h | h <;> omega) g3b g4b
        refine hh.mono ?_
        rintro e w' ⟨rfl, hb6⟩
        refine ⟨?_, b5.trans hb6⟩
        rw [hres, Nat.one_mul, ha, hb']
      clear hres
      have t1 := tens_any wr _ g (decN D.toList) a K hn sm (by omega)
      have t2 := fun w3 : World => tens_any (w3.alloc (.cells #[.int .u64 1] 29)) _ w3.heap.size 1 b 1 (num_one w3) (by decide) (by omega)
      clear hge lt10 sm q0 q1 hK hDl
      have p801 : -2000 ≤ p - D.size ∧ p - D.size ≤ 2000 := by omega
      obtain ⟨p8, p9⟩ := p801
      have ea : (a : Int) = max (p - D.size) 0 := by omega
      have eb : (b : Int) = max (-(p - D.size)) 0 := by omega
      rw [ea] at t1
      simp only [eb] at t2
      clear ha hb' ea eb
      go_wp2_with (first | (go_at_call_of 96 u5; refine t1.mono ?_; rintro e w3 ⟨v3, g3, rfl, n3, m3⟩) | (go_at_call 96; refine (t2 w3).mono ?_; rintro e w4 ⟨v4, g4, rfl, n4, m4⟩) | (go_at_call 95; refine (fin v3 v4 w3 w4 g3 g4 n3 n4 m3 m4).mono ?_; rintro e w5 ⟨rfl, hb5⟩))
      go_ret
      exact ⟨ret_int HR.out, hb5⟩

end Go.Proofs.YtaikkmehmiiffaaGreatDoor
/- The walks of scan. -/
namespace Go.Proofs.YtaikkmehmiiffaaGreatDoor
open Go.RowKit
set_option linter.unusedVariables false

theorem below2 (w : World) (a b : Obj) : Below w.heap.size w ((w.alloc a).alloc b) := ((Below.refl _ _).alloc (Nat.le_refl _) _).alloc (by simp) _

set_option maxHeartbeats 1000000 in
theorem scan_dot_no (s W R F R2 : ByteArray) (w : World)
    (c1 : ∀ w : World, Calls Tryz.prog 91 #[.string s] w fun e w' => ∃ n, e = .returned (.tuple #[.string W, .string R]) ∧ w' = w.drewN n)
    (hp : ∀ w : World, Calls Tryz.prog 43 #[.string R, .string ⟨#[46]⟩] w fun e w' => e = .returned (.bool true) ∧ w' = w)
    (r0 : (1 : Int) ≤ R.size)
    (c2 : ∀ w : World, Calls Tryz.prog 91 #[.string (R.extract 1 R.size)] w fun e w' => ∃ n, e = .returned (.tuple #[.string F, .string R2]) ∧ w' = w.drewN n)
    (hW : W.toList = []) (hF : F.toList = []) :
    Calls Tryz.prog 72 #[.string s] w fun e w' => e = .returned (.tuple #[.agg #[.string ⟨#[]⟩, .string ⟨#[]⟩, .bool false, .int .i64 0], .bool false]) ∧ Below w.heap.size w w' := by
  go_enter Tryz.func72, Tryz.ntmps72
  go_wp2_with (first | (go_at_call_of 91 (Value.string s); refine (c1 _).mono ?_; rintro e w1 ⟨n1, rfl, rfl⟩) | (go_at_call 43; refine (hp _).mono ?_; rintro e w1 ⟨rfl, rfl⟩) | (go_at_call 91; refine (c2 _).mono ?_; rintro e w1 ⟨n2, rfl, rfl⟩))
  exact bodyPost_ret (v := .tuple #[.agg #[.string ⟨#[]⟩, .string ⟨#[]⟩, .bool false, .int .i64 0], .bool false]) (by simp [results, Tryz.results72, go_sem]) rfl ⟨rfl, by repeat (first | with_reducible exact below2 w _ _ | with_reducible refine below_drewN ?_ _ | with_reducible refine Below.setCell ?_ (by simp) _)⟩

set_option maxHeartbeats 1000000 in
theorem scan_dot_end_a (s W R F R2 : ByteArray) (w : World)
    (c1 : ∀ w : World, Calls Tryz.prog 91 #[.string s] w fun e w' => ∃ n, e = .returned (.tuple #[.string W, .string R]) ∧ w' = w.drewN n)
    (hp : ∀ w : World, Calls Tryz.prog 43 #[.string R, .string ⟨#[46]⟩] w fun e w' => e = .returned (.bool true) ∧ w' = w)
    (r0 : (1 : Int) ≤ R.size)
    (c2 : ∀ w : World, Calls Tryz.prog 91 #[.string (R.extract 1 R.size)] w fun e w' => ∃ n, e = .returned (.tuple #[.string F, .string R2]) ∧ w' = w.drewN n)
    (_hW : ¬ W.toList = []) (hW1 : W.toList.isEmpty = false) (hR : R2.toList = []) :
    Calls Tryz.prog 72 #[.string s] w fun e w' => e = .returned (.tuple #[.agg #[.string W, .string F, .bool true, .int .i64 0], .bool true]) ∧ Below w.heap.size w w' := by
  go_enter Tryz.func72, Tryz.ntmps72
  go_wp2_with (first | (go_at_call_of 91 (Value.string s); refine (c1 _).mono ?_; rintro e w1 ⟨n1, rfl, rfl⟩) | (go_at_call 43; refine (hp _).mono ?_; rintro e w1 ⟨rfl, rfl⟩) | (go_at_call 91; refine (c2 _).mono ?_; rintro e w1 ⟨n2, rfl, rfl⟩))
  exact bodyPost_ret (v := .tuple #[.agg #[.string W, .string F, .bool true, .int .i64 0], .bool true]) (by simp [results, Tryz.results72, go_sem]) rfl ⟨rfl, by repeat (first | with_reducible exact below2 w _ _ | with_reducible refine below_drewN ?_ _ | with_reducible refine Below.setCell ?_ (by simp) _)⟩

set_option maxHeartbeats 1000000 in
theorem scan_dot_exp_a (s W R F R2 : ByteArray) (x : Int) (ok : Bool) (w : World)
    (c1 : ∀ w : World, Calls Tryz.prog 91 #[.string s] w fun e w' => ∃ n, e = .returned (.tuple #[.string W, .string R]) ∧ w' = w.drewN n)
    (hp : ∀ w : World, Calls Tryz.prog 43 #[.string R, .string ⟨#[46]⟩] w fun e w' => e = .returned (.bool true) ∧ w' = w)
    (r0 : (1 : Int) ≤ R.size)
    (c2 : ∀ w : World, Calls Tryz.prog 91 #[.string (R.extract 1 R.size)] w fun e w' => ∃ n, e = .returned (.tuple #[.string F, .string R2]) ∧ w' = w.drewN n)
    (c3 : ∀ w : World, Calls Tryz.prog 92 #[.string R2] w fun e w' => ∃ n, e = .returned (.tuple #[.int .i64 x, .bool ok]) ∧ w' = w.drewN n)
    (_hW : ¬ W.toList = []) (hW1 : W.toList.isEmpty = false) (_hR : ¬ R2.toList = []) (hR1 : R2.toList.isEmpty = false) :
    Calls Tryz.prog 72 #[.string s] w fun e w' => e = .returned (.tuple #[.agg #[.string W, .string F, .bool true, .int .i64 x], .bool ok]) ∧ Below w.heap.size w w' := by
  go_enter Tryz.func72, Tryz.ntmps72
  go_wp2_with (first | (go_at_call_of 91 (Value.string s); refine (c1 _).mono ?_; rintro e w1 ⟨n1, rfl, rfl⟩) | (go_at_call 43; refine (hp _).mono ?_; rintro e w1 ⟨rfl, rfl⟩) | (go_at_call 91; refine (c2 _).mono ?_; rintro e w1 ⟨n2, rfl, rfl⟩) | (go_at_call 92; refine (c3 _).mono ?_; rintro e w1 ⟨n3, rfl, rfl⟩))
  exact bodyPost_ret (v := .tuple #[.agg #[.string W, .string F, .bool true, .int .i64 x], .bool ok]) (by simp [results, Tryz.results72, go_sem]) rfl ⟨rfl, by repeat (first | with_reducible exact below2 w _ _ | with_reducible refine below_drewN ?_ _ | with_reducible refine Below.setCell ?_ (by simp) _)⟩

set_option maxHeartbeats 1000000 in
theorem scan_dot_end_b (s W R F R2 : ByteArray) (w : World)
    (c1 : ∀ w : World, Calls Tryz.prog 91 #[.string s] w fun e w' => ∃ n, e = .returned (.tuple #[.string W, .string R]) ∧ w' = w.drewN n)
    (hp : ∀ w : World, Calls Tryz.prog 43 #[.string R, .string ⟨#[46]⟩] w fun e w' => e = .returned (.bool true) ∧ w' = w)
    (r0 : (1 : Int) ≤ R.size)
    (c2 : ∀ w : World, Calls Tryz.prog 91 #[.string (R.extract 1 R.size)] w fun e w' => ∃ n, e = .returned (.tuple #[.string F, .string R2]) ∧ w' = w.drewN n)
    (hW : W.toList = []) (_hF : ¬ F.toList = []) (hF1 : F.toList.isEmpty = false) (hR : R2.toList = []) :
    Calls Tryz.prog 72 #[.string s] w fun e w' => e = .returned (.tuple #[.agg #[.string W, .string F, .bool true, .int .i64 0], .bool true]) ∧ Below w.heap.size w w' := by
  go_enter Tryz.func72, Tryz.ntmps72
  go_wp2_with (first | (go_at_call_of 91 (Value.string s); refine (c1 _).mono ?_; rintro e w1 ⟨n1, rfl, rfl⟩) | (go_at_call 43; refine (hp _).mono ?_; rintro e w1 ⟨rfl, rfl⟩) | (go_at_call 91; refine (c2 _).mono ?_; rintro e w1 ⟨n2, rfl, rfl⟩))
  exact bodyPost_ret (v := .tuple #[.agg #[.string W, .string F, .bool true, .int .i64 0], .bool true]) (by simp [results, Tryz.results72, go_sem]) rfl ⟨rfl, by repeat (first | with_reducible exact below2 w _ _ | with_reducible refine below_drewN ?_ _ | with_reducible refine Below.setCell ?_ (by simp) _)⟩

set_option maxHeartbeats 1000000 in
theorem scan_dot_exp_b (s W R F R2 : ByteArray) (x : Int) (ok : Bool) (w : World)
    (c1 : ∀ w : World, Calls Tryz.prog 91 #[.string s] w fun e w' => ∃ n, e = .returned (.tuple #[.string W, .string R]) ∧ w' = w.drewN n)
    (hp : ∀ w : World, Calls Tryz.prog 43 #[.string R, .string ⟨#[46]⟩] w fun e w' => e = .returned (.bool true) ∧ w' = w)
    (r0 : (1 : Int) ≤ R.size)
    (c2 : ∀ w : World, Calls Tryz.prog 91 #[.string (R.extract 1 R.size)] w fun e w' => ∃ n, e = .returned (.tuple #[.string F, .string R2]) ∧ w' = w.drewN n)
    (c3 : ∀ w : World, Calls Tryz.prog 92 #[.string R2] w fun e w' => ∃ n, e = .returned (.tuple #[.int .i64 x, .bool ok]) ∧ w' = w.drewN n)
    (hW : W.toList = []) (_hF : ¬ F.toList = []) (hF1 : F.toList.isEmpty = false) (_hR : ¬ R2.toList = []) (hR1 : R2.toList.isEmpty = false) :
    Calls Tryz.prog 72 #[.string s] w fun e w' => e = .returned (.tuple #[.agg #[.string W, .string F, .bool true, .int .i64 x], .bool ok]) ∧ Below w.heap.size w w' := by
  go_enter Tryz.func72, Tryz.ntmps72
  go_wp2_with (first | (go_at_call_of 91 (Value.string s); refine (c1 _).mono ?_; rintro e w1 ⟨n1, rfl, rfl⟩) | (go_at_call 43; refine (hp _).mono ?_; rintro e w1 ⟨rfl, rfl⟩) | (go_at_call 91; refine (c2 _).mono ?_; rintro e w1 ⟨n2, rfl, rfl⟩) | (go_at_call 92; refine (c3 _).mono ?_; rintro e w1 ⟨n3, rfl, rfl⟩))
  exact bodyPost_ret (v := .tuple #[.agg #[.string W, .string F, .bool true, .int .i64 x], .bool ok]) (by simp [results, Tryz.results72, go_sem]) rfl ⟨rfl, by repeat (first | with_reducible exact below2 w _ _ | with_reducible refine below_drewN ?_ _ | with_reducible refine Below.setCell ?_ (by simp) _)⟩

set_option maxHeartbeats 1000000 in
theorem scan_no (s W R : ByteArray) (w : World)
    (c1 : ∀ w : World, Calls Tryz.prog 91 #[.string s] w fun e w' => ∃ n, e = .returned (.tuple #[.string W, .string R]) ∧ w' = w.drewN n)
    (hp : ∀ w : World, Calls Tryz.prog 43 #[.string R, .string ⟨#[46]⟩] w fun e w' => e = .returned (.bool false) ∧ w' = w)
    (hW : W.toList = []) :
    Calls Tryz.prog 72 #[.string s] w fun e w' => e = .returned (.tuple #[.agg #[.string ⟨#[]⟩, .string ⟨#[]⟩, .bool false, .int .i64 0], .bool false]) ∧ Below w.heap.size w w' := by
  go_enter Tryz.func72, Tryz.ntmps72
  go_wp2_with (first | (go_at_call_of 91 (Value.string s); refine (c1 _).mono ?_; rintro e w1 ⟨n1, rfl, rfl⟩) | (go_at_call 43; refine (hp _).mono ?_; rintro e w1 ⟨rfl, rfl⟩))
  exact bodyPost_ret (v := .tuple #[.agg #[.string ⟨#[]⟩, .string ⟨#[]⟩, .bool false, .int .i64 0], .bool false]) (by simp [results, Tryz.results72, go_sem]) rfl ⟨rfl, by repeat (first | with_reducible exact below2 w _ _ | with_reducible refine below_drewN ?_ _ | with_reducible refine Below.setCell ?_ (by simp) _)⟩

set_option maxHeartbeats 1000000 in
theorem scan_end (s W R : ByteArray) (w : World)
    (c1 : ∀ w : World, Calls Tryz.prog 91 #[.string s] w fun e w' => ∃ n, e = .returned (.tuple #[.string W, .string R]) ∧ w' = w.drewN n)
    (hp : ∀ w : World, Calls Tryz.prog 43 #[.string R, .string ⟨#[46]⟩] w fun e w' => e = .returned (.bool false) ∧ w' = w)
    (_hW : ¬ W.toList = []) (hW1 : W.toList.isEmpty = false) (hR : R.toList = []) :
    Calls Tryz.prog 72 #[.string s] w fun e w' => e = .returned (.tuple #[.agg #[.string W, .string ⟨#[]⟩, .bool false, .int .i64 0], .bool true]) ∧ Below w.heap.size w w' := by
  go_enter Tryz.func72, Tryz.ntmps72
  go_wp2_with (first | (go_at_call_of 91 (Value.string s); refine (c1 _).mono ?_; rintro e w1 ⟨n1, rfl, rfl⟩) | (go_at_call 43; refine (hp _).mono ?_; rintro e w1 ⟨rfl, rfl⟩))
  exact bodyPost_ret (v := .tuple #[.agg #[.string W, .string ⟨#[]⟩, .bool false, .int .i64 0], .bool true]) (by simp [results, Tryz.results72, go_sem]) rfl ⟨rfl, by repeat (first | with_reducible exact below2 w _ _ | with_reducible refine below_drewN ?_ _ | with_reducible refine Below.setCell ?_ (by simp) _)⟩

set_option maxHeartbeats 1000000 in
theorem scan_exp (s W R : ByteArray) (x : Int) (ok : Bool) (w : World)
    (c1 : ∀ w : World, Calls Tryz.prog 91 #[.string s] w fun e w' => ∃ n, e = .returned (.tuple #[.string W, .string R]) ∧ w' = w.drewN n)
    (hp : ∀ w : World, Calls Tryz.prog 43 #[.string R, .string ⟨#[46]⟩] w fun e w' => e = .returned (.bool false) ∧ w' = w)
    (c3 : ∀ w : World, Calls Tryz.prog 92 #[.string R] w fun e w' => ∃ n, e = .returned (.tuple #[.int .i64 x, .bool ok]) ∧ w' = w.drewN n)
    (_hW : ¬ W.toList = []) (hW1 : W.toList.isEmpty = false) (_hR : ¬ R.toList = []) (hR1 : R.toList.isEmpty = false) :
    Calls Tryz.prog 72 #[.string s] w fun e w' => e = .returned (.tuple #[.agg #[.string W, .string ⟨#[]⟩, .bool false, .int .i64 x], .bool ok]) ∧ Below w.heap.size w w' := by
  go_enter Tryz.func72, Tryz.ntmps72
  go_wp2_with (first | (go_at_call_of 91 (Value.string s); refine (c1 _).mono ?_; rintro e w1 ⟨n1, rfl, rfl⟩) | (go_at_call 43; refine (hp _).mono ?_; rintro e w1 ⟨rfl, rfl⟩) | (go_at_call 92; refine (c3 _).mono ?_; rintro e w1 ⟨n3, rfl, rfl⟩))
  exact bodyPost_ret (v := .tuple #[.agg #[.string W, .string ⟨#[]⟩, .bool false, .int .i64 x], .bool ok]) (by simp [results, Tryz.results72, go_sem]) rfl ⟨rfl, by repeat (first | with_reducible exact below2 w _ _ | with_reducible refine below_drewN ?_ _ | with_reducible refine Below.setCell ?_ (by simp) _)⟩

end Go.Proofs.YtaikkmehmiiffaaGreatDoor
/- significant, value, scan and literal of every decimal. -/
namespace Go.Proofs.YtaikkmehmiiffaaGreatDoor
open Go.RowKit
set_option linter.unusedVariables false

/-- a scanned decimal -/
def decV (W F : List UInt8) (dot : Bool) (x : Int) : Value := .agg #[.string (bs W), .string (bs F), .bool dot, .int .i64 x]

def nodz (l : List UInt8) : List UInt8 := Lib.trimLeftB l 48

/-- the digits that count -/
def sigD (A : List UInt8) : List UInt8 :=
  if (nodz A).length ≤ 800 then nodz A else (nodz A).take 800 ++ (if Lib.trimB ((nodz A).drop 800) 48 = [] then [] else [49])

/-- the point -/
def sigP (W A : List UInt8) (x : Int) : Int := W.length - (A.length - (nodz A).length) + x

theorem bs_append (a b : List UInt8) : bs a ++ bs b = bs (a ++ b) := by
  rw [bs_of (bs a ++ bs b), ByteArray.data_append, Array.toList_append, bs_data, bs_data]

theorem nodz_len (A : List UInt8) : (nodz A).length ≤ A.length := (List.dropWhile_sublist _).length_le

theorem empty_of (l : List UInt8) (h : ¬ l = []) : l.isEmpty = false := by cases l <;> simp_all

theorem sig_any (W F : List UInt8) (dot : Bool) (x : Int) (w : World) (hs : (W ++ F).length ≤ 1000000) (x0 : -2000000000000 ≤ x) (x1 : x ≤ 2000000000000) :
    Calls Tryz.prog 93 #[decV W F dot x] w fun e w' => e = .returned (.tuple #[.string (bs (sigD (W ++ F))), .int .i64 (sigP W (W ++ F) x)]) ∧ Below w.heap.size w w' := by
  have hA := bs_append W F
  have hsz : (bs W).size + (bs F).size = (bs (W ++ F)).size := by rw [bs_size, bs_size, bs_size, List.length_append]
  have c1 : ∀ w : World, Calls Tryz.prog 107 #[.string (bs (W ++ F)), .string ⟨#[48]⟩] w fun e w' => e = .returned (.string (bs (nodz (W ++ F)))) ∧ w' = w := by
    intro w
    have := Tryz.strings_TrimLeft_one (bs (W ++ F)) 48 (by decide) w
    rw [bs_data] at this
    exact this
  have hDA : (bs (nodz (W ++ F))).size ≤ (bs (W ++ F)).size := by rw [bs_size, bs_size]; exact nodz_len _
  have hs' : (bs (W ++ F)).size ≤ 1000000 := by rw [bs_size]; exact hs
  have eP : ((bs W).size : Int) - ((bs (W ++ F)).size - (bs (nodz (W ++ F))).size) + x = sigP W (W ++ F) x := by rw [bs_size, bs_size, bs_size]; rfl
  unfold decV
  rw [← eP]
  by_cases h : (nodz (W ++ F)).length ≤ 800
  · have e : sigD (W ++ F) = nodz (W ++ F) := by unfold sigD; rw [if_pos h]
    rw [e]
    exact sig_short _ _ _ _ dot x w hA hsz hs' c1 (by rw [bs_size]; exact h) hDA x0 x1
  · have hx : (bs (nodz (W ++ F))).extract 800 (bs (nodz (W ++ F))).size = bs ((nodz (W ++ F)).drop 800) := by rw [bs_extract, bs_size, List.take_length]
    have hy : (bs (nodz (W ++ F))).extract 0 800 = bs ((nodz (W ++ F)).take 800) := by rw [bs_extract, List.drop_zero]
    have c2 : ∀ w : World, Calls Tryz.prog 108 #[.string ((bs (nodz (W ++ F))).extract 800 (bs (nodz (W ++ F))).size), .string ⟨#[48]⟩] w fun e w' => e = .returned (.string (bs (Lib.trimB ((nodz (W ++ F)).drop 800) 48))) ∧ ∃ n, w' = w.drewN n := by
      intro w
      rw [hx]
      have := Tryz.strings_Trim_one (bs ((nodz (W ++ F)).drop 800)) 48 (by decide) w (by rw [bs_size]; have := nodz_len (W ++ F); simp; omega)
      rw [bs_data] at this
      refine this.mono ?_
      rintro e w' ⟨rfl, hw⟩
      refine ⟨rfl, ?_⟩
      rcases hw with rfl | rfl
      · exact ⟨0, rfl⟩
      · exact ⟨1, rfl⟩
    have hD : 800 < (bs (nodz (W ++ F))).size := by rw [bs_size]; omega
    by_cases hT : Lib.trimB ((nodz (W ++ F)).drop 800) 48 = []
    · have e : sigD (W ++ F) = (nodz (W ++ F)).take 800 := by unfold sigD; rw [if_neg h, if_pos hT, List.append_nil]
      rw [e, ← hy]
      exact sig_long _ _ _ _ _ dot x w hA hsz hs' c1 hD hDA x0 x1 c2 (by rw [bs_toList]; exact hT)
    · have e : sigD (W ++ F) = (nodz (W ++ F)).take 800 ++ [49] := by unfold sigD; rw [if_neg h, if_neg hT]
      rw [e]
      exact sig_more _ _ _ _ _ _ dot x w hA hsz hs' c1 hD hDA x0 x1 c2 (by rw [bs_toList]; exact empty_of _ hT)
        (by rw [hy]; exact bs_append _ _) (by rw [hy, bs_size, List.length_take]; omega)

theorem sigD_len (A : List UInt8) : (sigD A).length ≤ 801 := by
  unfold sigD
  split
  · omega
  · rw [List.length_append, List.length_take]; split <;> simp <;> omega

theorem nodz_mem (A : List UInt8) : ∀ c ∈ nodz A, c ∈ A := fun _ hc => (List.dropWhile_sublist _).mem hc

theorem sigD_dig (A : List UInt8) (h : ∀ c ∈ A, isDig c = true) : ∀ c ∈ sigD A, isDig c = true := by
  intro c hc
  unfold sigD at hc
  split at hc
  · exact h c (nodz_mem A c hc)
  · rcases List.mem_append.1 hc with hc | hc
    · exact h c (nodz_mem A c (List.mem_of_mem_take hc))
    · split at hc
      · simp at hc
      · simp at hc; subst hc; decide

theorem nodz_head (A : List UInt8) (c : UInt8) (r : List UInt8) (h : nodz A = c :: r) : c ≠ 48 := by
  unfold nodz Lib.trimLeftB at h
  intro e
  have := List.head?_dropWhile_not (· == (48 : UInt8)) A
  rw [h] at this
  simp [e] at this

theorem sigD_head (A : List UInt8) (h : sigD A ≠ []) : ∃ c r, sigD A = c :: r ∧ c ≠ 48 := by
  cases hn : nodz A with
  | nil =>
    exfalso
    apply h
    unfold sigD
    rw [hn]; rfl
  | cons c r =>
    have hc := nodz_head A c r hn
    unfold sigD
    rw [hn]
    split
    · exact ⟨c, r, rfl, hc⟩
    · exact ⟨c, _, rfl, hc⟩

theorem value_any (W F : List UInt8) (dot : Bool) (x : Int) (w : World) (hs : (W ++ F).length ≤ 1000000) (x0 : -2000000000000 ≤ x) (x1 : x ≤ 2000000000000) (hd : ∀ c ∈ W ++ F, isDig c = true) :
    Calls Tryz.prog 74 #[decV W F dot x] w fun e w' => e = .returned (.int .u64 (valD (sigD (W ++ F)) (sigP W (W ++ F) x) : Nat)) ∧ Below w.heap.size w w' := by
  have cs := fun w => sig_any W F dot x w hs x0 x1
  have hl := sigD_len (W ++ F)
  have hg := sigD_dig (W ++ F) hd
  have hh := sigD_head (W ++ F)
  unfold decV at cs ⊢
  generalize sigD (W ++ F) = D at *
  generalize sigP W (W ++ F) x = p at *
  by_cases h : D = []
  · have e : valD D p = 0 := by unfold valD; rw [if_pos (.inl h)]
    rw [e]
    exact value_nil _ _ _ dot x p w cs (by rw [bs_toList]; exact h)
  · have he := empty_of D h
    by_cases h1 : p < -330
    · have e : valD D p = 0 := by unfold valD; rw [if_pos (.inr h1)]
      rw [e]
      exact value_low _ _ _ dot x p w cs (by rw [bs_toList]; exact he) h1
    · by_cases h2 : 310 < p
      · have e : valD D p = 9218868437227405312 := by unfold valD; rw [if_neg (by rintro (h' | h'); exact h h'; exact h1 h'), if_pos h2]
        rw [e]
        exact value_high _ _ _ dot x p w cs (by rw [bs_toList]; exact he) h2
      · have e : valD D p = nearQ (decN (bs D).toList * 10 ^ (p - (bs D).size).toNat) (10 ^ ((bs D).size - p).toNat) := by
          unfold valD
          rw [if_neg (by rintro (h' | h'); exact h h'; exact h1 h'), if_neg h2, bs_toList, bs_size]
        rw [e]
        obtain ⟨c, r, hc, hc0⟩ := hh h
        have ge := decN_ge D c r hc (hg c (by rw [hc]; simp)) hc0
        have hp : 0 < decN D := Nat.lt_of_lt_of_le (Nat.pow_pos (by decide)) ge
        exact value_mid _ _ _ dot x p w cs (by rw [bs_toList]; exact he) (by omega) (by omega) (by rw [bs_size]; exact hl) (by rw [bs_toList]; exact hg) (by rw [bs_toList]; exact hp)
          (by rw [bs_toList, bs_size]; exact ge) (by rw [bs_size, hc]; simp)

end Go.Proofs.YtaikkmehmiiffaaGreatDoor
/- scan and literal of every text. -/
namespace Go.Proofs.YtaikkmehmiiffaaGreatDoor
open Go.RowKit
set_option linter.unusedVariables false

def sW (l : List UInt8) : List UInt8 := digs l
def sDot (l : List UInt8) : Bool := decide ((rst l).head? = some 46)
def sF (l : List UInt8) : List UInt8 := if (rst l).head? = some 46 then digs (rst l).tail else []
def sR (l : List UInt8) : List UInt8 := if (rst l).head? = some 46 then rst (rst l).tail else rst l
/-- whether a text is a decimal -/
def scanOk (l : List UInt8) : Bool := if sW l = [] ∧ sF l = [] then false else if sR l = [] then true else (expP (sR l)).2
/-- its exponent -/
def scanX (l : List UInt8) : Int := if sR l = [] then 0 else (expP (sR l)).1

theorem scan_any (l : List UInt8) (w : World) (hl : l.length ≤ 1000000) :
    Calls Tryz.prog 72 #[.string (bs l)] w fun e w' => ∃ W F dot x, e = .returned (.tuple #[.agg #[.string W, .string F, .bool dot, .int .i64 x], .bool (scanOk l)]) ∧ (scanOk l = true → Value.agg #[.string W, .string F, .bool dot, .int .i64 x] = decV (sW l) (sF l) (sDot l) (scanX l)) ∧ Below w.heap.size w w' := by
  have c1 := fun w => cutDigits_bs l w hl
  have hp := fun w => hasPrefix_bs (rst l) 46 w
  have rl := rst_len l
  by_cases hd : (rst l).head? = some 46
  · rw [decide_eq_true hd] at hp
    have eF : sF l = digs (rst l).tail := by unfold sF; rw [if_pos hd]
    have eR : sR l = rst (rst l).tail := by unfold sR; rw [if_pos hd]
    have eD : sDot l = true := by unfold sDot; exact decide_eq_true hd
    have tl : (rst l).tail.length ≤ 1000000 := by rw [List.length_tail]; omega
    have r0 : (1 : Int) ≤ (bs (rst l)).size := by
      rw [bs_size]
      cases h : rst l with
      | nil => rw [h] at hd; simp at hd
      | cons a r => simp; omega
    have c2 : ∀ w : World, Calls Tryz.prog 91 #[.string ((bs (rst l)).extract 1 (bs (rst l)).size)] w fun e w' => ∃ n, e = .returned (.tuple #[.string (bs (digs (rst l).tail)), .string (bs (rst (rst l).tail))]) ∧ w' = w.drewN n := by
      intro w; rw [bs_tail]; exact cutDigits_bs (rst l).tail w tl
    by_cases hn : sW l = [] ∧ sF l = []
    · have e : scanOk l = false := by unfold scanOk; rw [if_pos hn]
      rw [e]
      obtain ⟨n1, n2⟩ := hn
      rw [eF] at n2
      refine (scan_dot_no (bs l) _ _ _ _ w c1 hp r0 c2 (by rw [bs_toList]; exact n1) (by rw [bs_toList]; exact n2)).mono ?_
      rintro e w' ⟨rfl, hb⟩
      exact ⟨_, _, _, _, rfl, by intro h; simp at h, hb⟩
    · by_cases hr : sR l = []
      · have e : scanOk l = true := by unfold scanOk; rw [if_neg hn, if_pos hr]
        have ex : scanX l = 0 := by unfold scanX; rw [if_pos hr]
        rw [e, ex, eF, eD]
        rw [eR] at hr
        by_cases hw : sW l = []
        · have hf : ¬ digs (rst l).tail = [] := fun h => hn ⟨hw, by rw [eF]; exact h⟩
          refine (scan_dot_end_b (bs l) _ _ _ _ w c1 hp r0 c2 (by rw [bs_toList]; exact hw) (by rw [bs_toList]; exact hf) (by rw [bs_toList]; exact empty_of _ hf) (by rw [bs_toList]; exact hr)).mono ?_
          rintro e w' ⟨rfl, hb⟩
          exact ⟨_, _, _, _, rfl, fun _ => rfl, hb⟩
        · refine (scan_dot_end_a (bs l) _ _ _ _ w c1 hp r0 c2 (by rw [bs_toList]; exact hw) (by rw [bs_toList]; exact empty_of _ hw) (by rw [bs_toList]; exact hr)).mono ?_
          rintro e w' ⟨rfl, hb⟩
          exact ⟨_, _, _, _, rfl, fun _ => rfl, hb⟩
      · have e : scanOk l = (expP (sR l)).2 := by unfold scanOk; rw [if_neg hn, if_neg hr]
        have ex : scanX l = (expP (sR l)).1 := by unfold scanX; rw [if_neg hr]
        rw [e, ex, eF, eD, eR]
        rw [eR] at hr
        have c3 := fun w => scanExp_any (rst (rst l).tail) w hr (by have := rst_len (rst l).tail; omega)
        by_cases hw : sW l = []
        · have hf : ¬ digs (rst l).tail = [] := fun h => hn ⟨hw, by rw [eF]; exact h⟩
          refine (scan_dot_exp_b (bs l) _ _ _ _ _ _ w c1 hp r0 c2 c3 (by rw [bs_toList]; exact hw) (by rw [bs_toList]; exact hf) (by rw [bs_toList]; exact empty_of _ hf) (by rw [bs_toList]; exact hr) (by rw [bs_toList]; exact empty_of _ hr)).mono ?_
          rintro e w' ⟨rfl, hb⟩
          exact ⟨_, _, _, _, rfl, fun _ => rfl, hb⟩
        · refine (scan_dot_exp_a (bs l) _ _ _ _ _ _ w c1 hp r0 c2 c3 (by rw [bs_toList]; exact hw) (by rw [bs_toList]; exact empty_of _ hw) (by rw [bs_toList]; exact hr) (by rw [bs_toList]; exact empty_of _ hr)).mono ?_
          rintro e w' ⟨rfl, hb⟩
          exact ⟨_, _, _, _, rfl, fun _ => rfl, hb⟩
  · rw [decide_eq_false hd] at hp
    have eF : sF l = [] := by unfold sF; rw [if_neg hd]
    have eR : sR l = rst l := by unfold sR; rw [if_neg hd]
    have eD : sDot l = false := by unfold sDot; exact decide_eq_false hd
    by_cases hw : sW l = []
    · have e : scanOk l = false := by unfold scanOk; rw [if_pos ⟨hw, eF⟩]
      rw [e]
      refine (scan_no (bs l) _ _ w c1 hp (by rw [bs_toList]; exact hw)).mono ?_
      rintro e w' ⟨rfl, hb⟩
      exact ⟨_, _, _, _, rfl, by intro h; simp at h, hb⟩
    · have hn : ¬ (sW l = [] ∧ sF l = []) := fun h => hw h.1
      by_cases hr : sR l = []
      · have e : scanOk l = true := by unfold scanOk; rw [if_neg hn, if_pos hr]
        have ex : scanX l = 0 := by unfold scanX; rw [if_pos hr]
        rw [e, ex, eF, eD]
        rw [eR] at hr
        refine (scan_end (bs l) _ _ w c1 hp (by rw [bs_toList]; exact hw) (by rw [bs_toList]; exact empty_of _ hw) (by rw [bs_toList]; exact hr)).mono ?_
        rintro e w' ⟨rfl, hb⟩
        exact ⟨_, _, _, _, rfl, fun _ => rfl, hb⟩
      · have e : scanOk l = (expP (sR l)).2 := by unfold scanOk; rw [if_neg hn, if_neg hr]
        have ex : scanX l = (expP (sR l)).1 := by unfold scanX; rw [if_neg hr]
        rw [e, ex, eF, eD, eR]
        rw [eR] at hr
        have c3 := fun w => scanExp_any (rst l) w hr (by omega)
        refine (scan_exp (bs l) _ _ _ _ w c1 hp c3 (by rw [bs_toList]; exact hw) (by rw [bs_toList]; exact empty_of _ hw) (by rw [bs_toList]; exact hr) (by rw [bs_toList]; exact empty_of _ hr)).mono ?_
        rintro e w' ⟨rfl, hb⟩
        exact ⟨_, _, _, _, rfl, fun _ => rfl, hb⟩

/-- whether a program may have it so -/
def litB (W F : List UInt8) (dot : Bool) : Bool := if W = [] then false else if dot = true ∧ F = [] then false else if 1 < W.length then decide (W.head? ≠ some 48) else true

theorem literal_any (W F : List UInt8) (dot : Bool) (x : Int) (w : World) :
    Calls Tryz.prog 73 #[decV W F dot x] w fun e w' => e = .returned (.bool (litB W F dot)) ∧ Below w.heap.size w w' := by
  unfold decV litB
  by_cases hw : W = []
  · rw [if_pos hw]
    exact lit_a _ _ dot x w (by rw [bs_toList]; exact hw)
  · rw [if_neg hw]
    have hwe := empty_of W hw
    by_cases hf : dot = true ∧ F = []
    · rw [if_pos hf]
      obtain ⟨rfl, h2⟩ := hf
      exact lit_b _ _ x w (by rw [bs_toList]; exact hwe) (by rw [bs_toList]; exact h2)
    · rw [if_neg hf]
      have hF : dot = false ∨ (bs F).toList.isEmpty = false := by
        rw [bs_toList]
        cases dot
        · exact .inl rfl
        · exact .inr (empty_of F (fun h => hf ⟨rfl, h⟩))
      cases W with
      | nil => exact absurd rfl hw
      | cons c r =>
        by_cases h1 : 1 < (c :: r).length
        · rw [if_pos h1]
          have hz : 1 < (bs (c :: r)).size := by rw [bs_size]; exact h1
          have h0 : 0 < (bs (c :: r)).size := by omega
          refine lit_d (bs (c :: r)) _ dot x _ w (by rw [bs_toList]; exact hwe) hF hz ?_
          have e : (bs (c :: r))[0]'h0 = c := rfl
          rw [e]
          simp only [List.head?_cons, ne_eq, Option.some.injEq]
          by_cases k : c = 48
          · subst k; rfl
          · have : ¬ ((c.toNat : Int) = 48) := fun h => k (UInt8.toNat_inj.1 (by simp; omega))
            simp [k, bne, this]
        · rw [if_neg h1]
          exact lit_c _ _ dot x w (by rw [bs_toList]; exact hwe) hF (by rw [bs_size]; simp at h1 ⊢; omega)

end Go.Proofs.YtaikkmehmiiffaaGreatDoor
/- The walks of hexDigit and hexadecimal. -/
namespace Go.Proofs.YtaikkmehmiiffaaGreatDoor
open Go.RowKit
set_option linter.unusedVariables false

/-- a digit, base sixteen -/
def hexV (c : Nat) : Nat := if 48 ≤ c ∧ c ≤ 57 then c - 48 else if 97 ≤ c ∧ c ≤ 102 then c - 87 else if 65 ≤ c ∧ c ≤ 70 then c - 55 else 0
def hexOk (c : Nat) : Bool := (48 ≤ c && c ≤ 57) || (97 ≤ c && c ≤ 102) || (65 ≤ c && c ≤ 70)

theorem hexV_lt (c : Nat) : hexV c < 16 := by
  unfold hexV
  split
  · omega
  · split
    · omega
    · split <;> omega

theorem hexDigit_any (c : Nat) (w : World) (hc : c ≤ 255) :
    Calls Tryz.prog 89 #[.int .u8 (c : Int)] w fun e w' => e = .returned (.tuple #[.int .u64 (hexV c : Nat), .bool (hexOk c)]) ∧ w' = w := by
  obtain ⟨ci, hci⟩ : ∃ ci : Int, (c : Int) = ci := ⟨_, rfl⟩
  have H : Hid ((c : Int) = ci) := hci
  rcases (show c < 48 ∨ (48 ≤ c ∧ c ≤ 57) ∨ (57 < c ∧ c < 65) ∨ (65 ≤ c ∧ c ≤ 70) ∨ (70 < c ∧ c < 97) ∨ (97 ≤ c ∧ c ≤ 102) ∨ 102 < c from by omega) with h | h | h | h | h | h | h
  · have e1 : hexV c = 0 := by unfold hexV; rw [if_neg (by omega), if_neg (by omega), if_neg (by omega)]
    have e2 : hexOk c = false := by unfold hexOk; simp; omega
    have f1 : ci < 48 := by omega
    rw [e1, e2, hci]
    clear e1 e2 hci h hc
    go_enter Tryz.func89, Tryz.ntmps89
    go_wp2
    go_ret2
    exact ⟨rfl, rfl⟩
  · have e1 : ((hexV c : Nat) : Int) = ci - 48 := by unfold hexV; rw [if_pos h]; omega
    have e2 : hexOk c = true := by unfold hexOk; simp; omega
    have f1 : 48 ≤ ci := by omega
    have f2 : ci ≤ 57 := by omega
    rw [e1, e2, hci]
    clear e1 e2 hci h hc
    go_enter Tryz.func89, Tryz.ntmps89
    go_wp2
    go_ret2
    exact ⟨rfl, rfl⟩
  · have e1 : hexV c = 0 := by unfold hexV; rw [if_neg (by omega), if_neg (by omega), if_neg (by omega)]
    have e2 : hexOk c = false := by unfold hexOk; simp; omega
    have f1 : 57 < ci := by omega
    have f2 : ci < 65 := by omega
    rw [e1, e2, hci]
    clear e1 e2 hci h hc
    go_enter Tryz.func89, Tryz.ntmps89
    go_wp2
    go_ret2
    exact ⟨rfl, rfl⟩
  · have e1 : ((hexV c : Nat) : Int) = ci - 65 + 10 := by unfold hexV; rw [if_neg (by omega), if_neg (by omega), if_pos h]; omega
    have e2 : hexOk c = true := by unfold hexOk; simp; omega
    have f1 : 65 ≤ ci := by omega
    have f2 : ci ≤ 70 := by omega
    rw [e1, e2, hci]
    clear e1 e2 hci h hc
    go_enter Tryz.func89, Tryz.ntmps89
    go_wp2
    go_ret2
    exact ⟨rfl, rfl⟩
  · have e1 : hexV c = 0 := by unfold hexV; rw [if_neg (by omega), if_neg (by omega), if_neg (by omega)]
    have e2 : hexOk c = false := by unfold hexOk; simp; omega
    have f1 : 70 < ci := by omega
    have f2 : ci < 97 := by omega
    rw [e1, e2, hci]
    clear e1 e2 hci h hc
    go_enter Tryz.func89, Tryz.ntmps89
    go_wp2
    go_ret2
    exact ⟨rfl, rfl⟩
  · have e1 : ((hexV c : Nat) : Int) = ci - 97 + 10 := by unfold hexV; rw [if_neg (by omega), if_pos h]; omega
    have e2 : hexOk c = true := by unfold hexOk; simp; omega
    have f1 : 97 ≤ ci := by omega
    have f2 : ci ≤ 102 := by omega
    rw [e1, e2, hci]
    clear e1 e2 hci h hc
    go_enter Tryz.func89, Tryz.ntmps89
    go_wp2
    go_ret2
    exact ⟨rfl, rfl⟩
  · have e1 : hexV c = 0 := by unfold hexV; rw [if_neg (by omega), if_neg (by omega), if_neg (by omega)]
    have e2 : hexOk c = false := by unfold hexOk; simp; omega
    have f1 : 102 < ci := by omega
    have f2 : ci ≤ 255 := by omega
    rw [e1, e2, hci]
    clear e1 e2 hci h hc
    go_enter Tryz.func89, Tryz.ntmps89
    go_wp2
    go_ret2
    exact ⟨rfl, rfl⟩

/-- what is read of digits base sixteen: how many, times 2 to which power, and whether something is lost -/
def hexStep (s : Nat × Nat × Bool) (c : UInt8) : Nat × Nat × Bool :=
  if s.1 < 1152921504606846976 then (16 * s.1 + hexV c.toNat, s.2.1, s.2.2) else (s.1, s.2.1 + 4, s.2.2 || decide (hexV c.toNat ≠ 0))
def hexS (l : List UInt8) : Nat × Nat × Bool := l.foldl hexStep (0, 0, false)

theorem hexS_snoc (l : List UInt8) (c : UInt8) : hexS (l ++ [c]) = hexStep (hexS l) c := by unfold hexS; rw [List.foldl_append]; rfl

theorem hexStep_lt (s : Nat × Nat × Bool) (c : UInt8) (h : s.1 < 18446744073709551616) : (hexStep s c).1 < 18446744073709551616 := by
  have := hexV_lt c.toNat
  unfold hexStep
  split <;> simp only <;> omega

theorem or_4 (m d : Nat) (h : m < 1152921504606846976) (hd : d < 16) : bits .or .u64 ((m : Int) * 16) (d : Int) = (m : Int) * 16 + d := by
  have h' := bits_or_u64_nat (m * 16) d (by omega) (by omega)
  have e : (m * 16) ||| d = m * 16 + d := nat_join 4 (m * 16) d (by omega) hd
  rw [e] at h'
  push_cast at h'
  exact h'

/-- what holds at the head of each round -/
def HexAt (l : List UInt8) (m x b i : Value) : Prop :=
  ∃ k : Nat, k ≤ l.length ∧ i = .int .i64 k ∧ (∀ c ∈ l.take k, hexOk c.toNat = true) ∧ m = .int .u64 ((hexS (l.take k)).1 : Nat) ∧ (hexS (l.take k)).1 < 18446744073709551616 ∧
    x = .int .i64 ((hexS (l.take k)).2.1 : Nat) ∧ (hexS (l.take k)).2.1 ≤ 4 * k ∧ b = .bool (hexS (l.take k)).2.2

theorem hexAt_next (l : List UInt8) (k : Nat) (c : UInt8) (hk : l[k]? = some c) (h : ∀ c ∈ l.take k, hexOk c.toNat = true) (hc : hexOk c.toNat = true) (hm : (hexS (l.take k)).1 < 18446744073709551616) (hx : (hexS (l.take k)).2.1 ≤ 4 * k) :
    HexAt l (.int .u64 ((hexStep (hexS (l.take k)) c).1 : Nat)) (.int .i64 ((hexStep (hexS (l.take k)) c).2.1 : Nat)) (.bool (hexStep (hexS (l.take k)) c).2.2) (.int .i64 ((k + 1 : Nat) : Int)) := by
  have e := take_next l k c hk
  have hkl := (List.getElem?_eq_some_iff.1 hk).1
  refine ⟨k + 1, by omega, rfl, ?_, ?_, ?_, ?_, ?_, ?_⟩
  · rw [e]; intro d hd; rcases List.mem_append.1 hd with hd | hd
    · exact h d hd
    · simp at hd; subst hd; exact hc
  · rw [e, hexS_snoc]
  · rw [e, hexS_snoc]; exact hexStep_lt _ _ hm
  · rw [e, hexS_snoc]
  · rw [e, hexS_snoc]; unfold hexStep; split <;> simp only <;> omega
  · rw [e, hexS_snoc]

theorem allTake (l : List UInt8) (k : Nat) (c : UInt8) (hk : l[k]? = some c) (hc : hexOk c.toNat = false) : (l.all fun c => hexOk c.toNat) = false := by
  rw [List.all_eq_false]
  exact ⟨c, List.mem_of_getElem? hk, by simp [hc]⟩

/-- a hexadecimal, rounded, and whether it is one -/
def hexI (l : List UInt8) : Int × Bool := if (l.all fun c => hexOk c.toNat) = true then (nearI 2000 ((hexS l).1 : Nat) ((hexS l).2.1 : Nat) (hexS l).2.2, decide (l ≠ [])) else (0, false)

theorem hexStep_a (s : Nat × Nat × Bool) (c : UInt8) (h : s.1 < 1152921504606846976) : hexStep s c = (16 * s.1 + hexV c.toNat, s.2.1, s.2.2) := by unfold hexStep; rw [if_pos h]
theorem hexStep_b (s : Nat × Nat × Bool) (c : UInt8) (h : ¬ s.1 < 1152921504606846976) : hexStep s c = (s.1, s.2.1 + 4, s.2.2 || decide (hexV c.toNat ≠ 0)) := by unfold hexStep; rw [if_neg h]

set_option maxHeartbeats 1000000 in
theorem hexadecimal_any (l : List UInt8) (w : World) (hl : l.length ≤ 1000000) :
    Calls Tryz.prog 71 #[.string (bs l)] w fun e w' => e = .returned (.tuple #[.int .u64 (hexI l).1, .bool (hexI l).2]) ∧ Below w.heap.size w w' := by
  obtain ⟨s, hs⟩ : ∃ s, s = bs l := ⟨_, rfl⟩
  have hsz : s.size = l.length := by rw [hs, bs_size]
  have hsd : s.toList = l := by rw [hs, bs_toList]
  have hat : ∀ k (h : k < s.size), l[k]? = some s[k] := by
    intro k h
    have := at_k s k h
    rw [← ByteArray.toList_eq, hsd] at this
    exact this
  obtain ⟨R1, R2, hR⟩ : ∃ R1 R2, hexI l = (R1, R2) := ⟨_, _, rfl⟩
  rw [← hs, hR]
  have HS : Hid (s.size = l.length ∧ s.toList = l ∧ hexI l = (R1, R2)) := ⟨hsz, hsd, hR⟩
  have hss : s.size ≤ 1000000 := by omega
  clear hs hsz hsd hl hR
  go_enter Tryz.func71, Tryz.ntmps71
  go_wp2_with fail
  go_loop [4, 5, 6, 12] (fun m x b i => HexAt l m x b i) (fun _ _ _ i => s.size - (intOf i).toNat)
  case atStart => exact ⟨0, Nat.zero_le _, rfl, by intro c hc; simp at hc, rfl, by simp [hexS], rfl, by simp [hexS], rfl⟩
  case round =>
    obtain ⟨k, hk, rfl, hok, rfl, hm, rfl, hx, rfl⟩ := hrel
    have hkl : k ≤ s.size := by rw [HS.out.1]; exact hk
    by_cases hlt : k < s.size
    · have ak := hat k hlt
      have hd := fun w => hexDigit_any (s[k]).toNat w (by have := (s[k]).toNat_lt; omega)
      have v16 := hexV_lt (s[k]).toNat
      by_cases hc : hexOk (s[k]).toNat = true
      · have nx := hexAt_next l k _ ak hok hc hm hx
        rw [hc] at hd
        by_cases h60 : (hexS (l.take k)).1 < 1152921504606846976
        · have hor := or_4 _ _ h60 v16
          rw [hexStep_a _ _ h60] at nx
          simp only at nx
          generalize (hexS (l.take k)).1 = M at *
          generalize (hexS (l.take k)).2.1 = X at *
          generalize (hexS (l.take k)).2.2 = b1 at *
          generalize hexV (s[k]).toNat = hv at *
          obtain ⟨mi, hmi⟩ : ∃ mi : Int, (M : Int) = mi := ⟨_, rfl⟩
          have m0 : 0 ≤ mi := by omega
          have m1 : mi < 1152921504606846976 := by omega
          have HN : Hid (HexAt l (.int .u64 (mi * 16 + hv)) (.int .i64 X) (.bool b1) (.int .i64 ((k : Int) + 1))) := by
            have e1 : ((16 * M + hv : Nat) : Int) = mi * 16 + hv := by omega
            have e2 : ((k + 1 : Nat) : Int) = (k : Int) + 1 := by omega
            rw [e1, e2] at nx
            exact nx
          rw [hmi] at hor ⊢
          clear nx ak hok hm hk hat hc h60 hmi
          go_wp2_with (go_at_call 89; refine (hd _).mono ?_; rintro e w1 ⟨rfl, rfl⟩)
          refine ⟨HN.out, ?_⟩
          simp [intOf]; omega
        · rw [hexStep_b _ _ h60] at nx
          simp only at nx
          generalize (hexS (l.take k)).1 = M at *
          generalize (hexS (l.take k)).2.1 = X at *
          generalize (hexS (l.take k)).2.2 = b1 at *
          generalize hexV (s[k]).toNat = hv at *
          obtain ⟨mi, hmi⟩ : ∃ mi : Int, (M : Int) = mi := ⟨_, rfl⟩
          have m1 : (1152921504606846976 : Int) ≤ mi := by omega
          have e1 : ((X + 4 : Nat) : Int) = (X : Int) + 4 := by omega
          have e2 : ((k + 1 : Nat) : Int) = (k : Int) + 1 := by omega
          rw [hmi, e1, e2] at nx
          rw [hmi]
          have x4 : X ≤ 4000000 := by omega
          cases b1 with
          | true =>
            have HN : Hid (HexAt l (.int .u64 mi) (.int .i64 ((X : Int) + 4)) (.bool true) (.int .i64 ((k : Int) + 1))) := nx
            clear nx ak hok hm hk hat hc h60 hmi e1 e2
            go_wp2_with (go_at_call 89; refine (hd _).mono ?_; rintro e w1 ⟨rfl, rfl⟩)
            refine ⟨HN.out, ?_⟩
            simp [intOf]; omega
          | false =>
            by_cases h0 : hv = 0
            · have HN0 : HexAt l (.int .u64 mi) (.int .i64 ((X : Int) + 4)) (.bool false) (.int .i64 ((k : Int) + 1)) := by simpa [h0] using nx
              have HN : Hid (HexAt l (.int .u64 mi) (.int .i64 ((X : Int) + 4)) (.bool false) (.int .i64 ((k : Int) + 1))) := HN0
              subst h0
              clear nx ak hok hm hk hat hc h60 hmi e1 e2 HN0
              go_wp2_with (go_at_call 89; refine (hd _).mono ?_; rintro e w1 ⟨rfl, rfl⟩)
              refine ⟨HN.out, ?_⟩
              simp [intOf]; omega
            · have HN0 : HexAt l (.int .u64 mi) (.int .i64 ((X : Int) + 4)) (.bool true) (.int .i64 ((k : Int) + 1)) := by simpa [h0] using nx
              have HN : Hid (HexAt l (.int .u64 mi) (.int .i64 ((X : Int) + 4)) (.bool true) (.int .i64 ((k : Int) + 1))) := HN0
              have hb : (((hv : Nat) : Int) != 0) = true := by simp [bne]; omega
              clear nx ak hok hm hk hat hc h60 hmi e1 e2 HN0
              go_wp2_with (go_at_call 89; refine (hd _).mono ?_; rintro e w1 ⟨rfl, rfl⟩)
              refine ⟨HN.out, ?_⟩
              simp [intOf]; omega
      · have hc' : hexOk (s[k]).toNat = false := by simpa using hc
        have hall := allTake l k _ ak hc'
        have e : hexI l = (0, false) := by unfold hexI; rw [if_neg (by rw [hall]; simp)]
        rw [hc'] at hd
        have e2 := HS.out.2.2.symm.trans e
        obtain ⟨rfl, rfl⟩ : R1 = 0 ∧ R2 = false := by simpa using e2
        clear e e2 hall ak hok hm hx hk hat hc hc' v16
        generalize ((hexS (l.take k)).1 : Int) = m1 at *
        generalize ((hexS (l.take k)).2.1 : Int) = x1 at *
        generalize (hexS (l.take k)).2.2 = b1 at *
        generalize hexV (s[k]).toNat = hv at *
        go_wp2_with (go_at_call 89; refine (hd _).mono ?_; rintro e w1 ⟨rfl, rfl⟩)
        go_ret2
        exact ⟨rfl, Below.refl _ _⟩
    · have hke : l.take k = l := by rw [List.take_of_length_le]; rw [← HS.out.1]; omega
      rw [hke] at hok hm hx ⊢
      have hall : (l.all fun c => hexOk c.toNat) = true := by rw [List.all_eq_true]; exact hok
      have e : hexI l = (nearI 2000 ((hexS l).1 : Nat) ((hexS l).2.1 : Nat) (hexS l).2.2, decide (l ≠ [])) := by unfold hexI; rw [if_pos hall]
      have e2 := HS.out.2.2.symm.trans e
      obtain ⟨h1, h2⟩ : R1 = nearI 2000 ((hexS l).1 : Nat) ((hexS l).2.1 : Nat) (hexS l).2.2 ∧ R2 = decide (l ≠ []) := by simpa using e2
      have h3 : (!s.toList.isEmpty) = R2 := by rw [h2, HS.out.2.1]; cases l <;> simp
      have nr := fun w => near_any ((hexS l).1 : Nat) ((hexS l).2.1 : Nat) (hexS l).2.2 (by omega) (by omega) w
      rw [← h1] at nr
      clear e e2 hall hok hm hx hk hat h1 h2 hke
      generalize ((hexS l).1 : Int) = m1 at *
      generalize ((hexS l).2.1 : Int) = x1 at *
      generalize (hexS l).2.2 = b1 at *
      go_wp2_with (go_at_call 90; refine (nr _).mono ?_; rintro e w1 ⟨rfl, hb⟩)
      go_ret2
      exact ⟨rfl, hb⟩

end Go.Proofs.YtaikkmehmiiffaaGreatDoor
/- cutHex, orNaN, unsigned, Read and Literal. -/
namespace Go.Proofs.YtaikkmehmiiffaaGreatDoor
open Go.RowKit
set_option linter.unusedVariables false

/-- what stands behind 0x or 0X, and whether it does -/
def cutX (l : List UInt8) : List UInt8 × Bool :=
  if Lib.hasPrefix l [48, 120] = true then (Lib.trimPrefix l [48, 120], true) else (Lib.trimPrefix l [48, 88], Lib.hasPrefix l [48, 88])

theorem cutPrefix_bs (l p : List UInt8) (w : World) :
    Calls Tryz.prog 70 #[.string (bs l), .string (bs p)] w fun e w' => e = .returned (.tuple #[.string (bs (Lib.trimPrefix l p)), .bool (Lib.hasPrefix l p)]) ∧ w' = w := by
  have := Tryz.strings_CutPrefix (bs l) (bs p) w
  rw [bs_data, bs_data] at this
  exact this

def infTxt : List UInt8 := [73, 110, 102, 105, 110, 105, 116, 121]

/-- what may stand behind a sign, as a number -/
def unsI (l : List UInt8) : Nat :=
  if l = infTxt then 9218868437227405312 else if scanOk l = true then valD (sigD (sW l ++ sF l)) (sigP (sW l) (sW l ++ sF l) (scanX l)) else 9221120237041090560

theorem scanX_bd (l : List UInt8) : -2000000000000 ≤ scanX l ∧ scanX l ≤ 2000000000000 := by
  unfold scanX
  split
  · omega
  · unfold expP
    split
    · split
      · simp
      · have := clampF_le (digs (unsign (sR l).tail))
        have s : signOf (sR l).tail = 1 ∨ signOf (sR l).tail = -1 := by unfold signOf; split <;> simp
        simp only
        rcases s with s | s <;> rw [s] <;> omega
    · simp

theorem sWF_dig (l : List UInt8) : ∀ c ∈ sW l ++ sF l, isDig c = true := by
  intro c hc
  rcases List.mem_append.1 hc with hc | hc
  · exact digs_dig l c hc
  · unfold sF at hc
    split at hc
    · exact digs_dig _ c hc
    · simp at hc

theorem sWF_len (l : List UInt8) : (sW l ++ sF l).length ≤ l.length := by
  have e : l = digs l ++ rst l := (List.takeWhile_append_dropWhile).symm
  have h : l.length = (digs l).length + (rst l).length := by conv => lhs; rw [e]; rw [List.length_append]
  rw [List.length_append]
  unfold sW sF
  split
  · have := digs_len (rst l).tail
    rw [List.length_tail] at this
    omega
  · simp; omega

end Go.Proofs.YtaikkmehmiiffaaGreatDoor
/- Read and Literal of every text. -/
namespace Go.Proofs.YtaikkmehmiiffaaGreatDoor
open Go.RowKit
set_option linter.unusedVariables false

def blankS : List UInt8 := [9, 10, 32]

theorem trim_bs (l : List UInt8) (w : World) (hl : l.length ≤ 1000000) :
    Calls Tryz.prog 108 #[.string (bs l), .string ⟨#[9, 10, 32]⟩] w fun e w' => e = .returned (.string (bs (Lib.trimS l blankS))) ∧ Below w.heap.size w w' := by
  have := Any.strings_Trim_laid Tryz.lays160 (by kernel_rfl) (bs l) ⟨#[9, 10, 32]⟩ w (by rw [bs_size]; omega) (by decide) (ascii_of_all (by decide))
  rw [bs_data] at this
  exact this

/-- the text without blanks at its ends, as a number -/
def coreI (t : List UInt8) : Int :=
  if t = [] then 0 else if (cutX t).2 = true then (if (hexI (cutX t).1).2 = true then (hexI (cutX t).1).1 else 9221120237041090560)
  else if t.head? = some 43 then (unsI t.tail : Nat) else if t.head? = some 45 then negI (unsI t.tail : Nat) else (unsI t : Nat)

/-- what a text is as a number -/
def readI (l : List UInt8) : Int := coreI (Lib.trimS l blankS)

theorem valD_le (D : List UInt8) (p : Int) : valD D p ≤ 9218868437227405312 := by
  unfold valD
  split
  · omega
  · split
    · omega
    · unfold nearQ rungQ; exact rung_le _ _

theorem unsI_lt (l : List UInt8) : unsI l ≤ 9221120237041090560 := by
  unfold unsI
  split
  · omega
  · split
    · have := valD_le (sigD (sW l ++ sF l)) (sigP (sW l) (sW l ++ sF l) (scanX l)); omega
    · omega

theorem trimS_len (l cs : List UInt8) : (Lib.trimS l cs).length ≤ l.length := by
  unfold Lib.trimS Lib.trimLeftS Lib.trimRightS
  have h1 := (List.dropWhile_sublist (p := fun x => cs.contains x) (l := (l.reverse.dropWhile fun x => cs.contains x).reverse)).length_le
  have h2 := (List.dropWhile_sublist (p := fun x => cs.contains x) (l := l.reverse)).length_le
  rw [List.length_reverse] at h1 h2
  omega

theorem trimPrefix_len (l p : List UInt8) : (Lib.trimPrefix l p).length ≤ l.length := by
  unfold Lib.trimPrefix
  split
  · rw [List.length_drop]; omega
  · omega

theorem cutX_len (l : List UInt8) : (cutX l).1.length ≤ l.length := by
  have h : ∀ p, (Lib.trimPrefix l p).length ≤ l.length := by
    intro p
    unfold Lib.trimPrefix
    split
    · rw [List.length_drop]; omega
    · omega
  unfold cutX
  split <;> exact h _

theorem head_eq (t : List UInt8) (n : UInt8) (h : 0 < (bs t).size) : ((((bs t)[0]).toNat : Int) == (n.toNat : Int)) = decide (t.head? = some n) := by
  cases t with
  | nil => simp [bs_size] at h
  | cons c r =>
    have e : (bs (c :: r))[0] = c := rfl
    rw [e]
    simp only [List.head?_cons, Option.some.injEq]
    by_cases k : c = n
    · subst k; simp
    · have : ¬ ((c.toNat : Int) = n.toNat) := fun h => k (UInt8.toNat_inj.1 (by omega))
      simp [k, this]

/-- a number as it stands in a program -/
def litI (l : List UInt8) : Int × Bool :=
  if Lib.hasPrefix l [48, 120] = true then hexI (Lib.trimPrefix l [48, 120])
  else if scanOk l = true ∧ litB (sW l) (sF l) (sDot l) = true then ((valD (sigD (sW l ++ sF l)) (sigP (sW l) (sW l ++ sF l) (scanX l)) : Nat), true) else (0, false)

theorem lit_hex (s x : ByteArray) (R : Int) (ok : Bool) (w : World)
    (c1 : ∀ w : World, Calls Tryz.prog 70 #[.string s, .string ⟨#[48, 120]⟩] w fun e w' => e = .returned (.tuple #[.string x, .bool true]) ∧ w' = w)
    (c2 : ∀ w : World, Calls Tryz.prog 71 #[.string x] w fun e w' => e = .returned (.tuple #[.int .u64 R, .bool ok]) ∧ Below w.heap.size w w') :
    Calls Tryz.prog 49 #[.string s] w fun e w' => e = .returned (.tuple #[.int .u64 R, .bool ok]) ∧ Below w.heap.size w w' := by
  go_enter Tryz.func49, Tryz.ntmps49
  go_wp2_with (first | (go_at_call 70; refine (c1 _).mono ?_; rintro e w1 ⟨rfl, rfl⟩) | (go_at_call 71; refine (c2 _).mono ?_; rintro e w2 ⟨rfl, hb⟩))
  go_ret2
  exact ⟨rfl, hb⟩

theorem lit_none (s x : ByteArray) (w : World)
    (c1 : ∀ w : World, Calls Tryz.prog 70 #[.string s, .string ⟨#[48, 120]⟩] w fun e w' => e = .returned (.tuple #[.string x, .bool false]) ∧ w' = w)
    (c2 : ∀ w : World, Calls Tryz.prog 72 #[.string s] w fun e w' => ∃ W F dot x, e = .returned (.tuple #[.agg #[.string W, .string F, .bool dot, .int .i64 x], .bool false]) ∧ Below w.heap.size w w') :
    Calls Tryz.prog 49 #[.string s] w fun e w' => e = .returned (.tuple #[.int .u64 0, .bool false]) ∧ Below w.heap.size w w' := by
  go_enter Tryz.func49, Tryz.ntmps49
  go_wp2_with (first | (go_at_call 70; refine (c1 _).mono ?_; rintro e w1 ⟨rfl, rfl⟩) | (go_at_call 72; refine (c2 _).mono ?_; rintro e w2 ⟨W, F, dot, y, rfl, hb⟩))
  go_ret2
  exact ⟨rfl, hb.alloc hb.size _⟩

theorem lit_not (s x W F : ByteArray) (dot : Bool) (y : Int) (w : World)
    (c1 : ∀ w : World, Calls Tryz.prog 70 #[.string s, .string ⟨#[48, 120]⟩] w fun e w' => e = .returned (.tuple #[.string x, .bool false]) ∧ w' = w)
    (c2 : ∀ w : World, Calls Tryz.prog 72 #[.string s] w fun e w' => e = .returned (.tuple #[.agg #[.string W, .string F, .bool dot, .int .i64 y], .bool true]) ∧ Below w.heap.size w w')
    (c3 : ∀ w : World, Calls Tryz.prog 73 #[.agg #[.string W, .string F, .bool dot, .int .i64 y]] w fun e w' => e = .returned (.bool false) ∧ Below w.heap.size w w') :
    Calls Tryz.prog 49 #[.string s] w fun e w' => e = .returned (.tuple #[.int .u64 0, .bool false]) ∧ Below w.heap.size w w' := by
  go_enter Tryz.func49, Tryz.ntmps49
  go_wp2_with (first | (go_at_call 70; refine (c1 _).mono ?_; rintro e w1 ⟨rfl, rfl⟩) | (go_at_call 72; refine (c2 _).mono ?_; rintro e w2 ⟨rfl, hb⟩) | (go_at_call 73; refine (c3 _).mono ?_; rintro e w3 ⟨rfl, hb3⟩))
  go_ret2
  have b1 := hb.alloc hb.size (.cells #[.string W, .string F, .bool dot, .int .i64 y] 82)
  exact ⟨rfl, b1.trans (hb3.mono b1.size)⟩

theorem lit_yes (s x W F : ByteArray) (dot : Bool) (y R : Int) (w : World)
    (c1 : ∀ w : World, Calls Tryz.prog 70 #[.string s, .string ⟨#[48, 120]⟩] w fun e w' => e = .returned (.tuple #[.string x, .bool false]) ∧ w' = w)
    (c2 : ∀ w : World, Calls Tryz.prog 72 #[.string s] w fun e w' => e = .returned (.tuple #[.agg #[.string W, .string F, .bool dot, .int .i64 y], .bool true]) ∧ Below w.heap.size w w')
    (c3 : ∀ w : World, Calls Tryz.prog 73 #[.agg #[.string W, .string F, .bool dot, .int .i64 y]] w fun e w' => e = .returned (.bool true) ∧ Below w.heap.size w w')
    (c4 : ∀ w : World, Calls Tryz.prog 74 #[.agg #[.string W, .string F, .bool dot, .int .i64 y]] w fun e w' => e = .returned (.int .u64 R) ∧ Below w.heap.size w w') :
    Calls Tryz.prog 49 #[.string s] w fun e w' => e = .returned (.tuple #[.int .u64 R, .bool true]) ∧ Below w.heap.size w w' := by
  go_enter Tryz.func49, Tryz.ntmps49
  go_wp2_with (first | (go_at_call 70; refine (c1 _).mono ?_; rintro e w1 ⟨rfl, rfl⟩) | (go_at_call 72; refine (c2 _).mono ?_; rintro e w2 ⟨rfl, hb⟩) | (go_at_call 73; refine (c3 _).mono ?_; rintro e w3 ⟨rfl, hb3⟩; have B := Box1.keep (box1_new w2 (.string W) (.string F) (.bool dot) (.int .i64 y) 82) hb3; unfold Box1 at B; obtain ⟨⟨X0, X1, X2, X3⟩, hZ⟩ := B) | (go_at_call 74; refine (c4 _).mono ?_; rintro e w4 ⟨rfl, hb4⟩))
  go_ret2
  have b1 := hb.alloc hb.size (.cells #[.string W, .string F, .bool dot, .int .i64 y] 82)
  have b2 := b1.trans (hb3.mono b1.size)
  exact ⟨rfl, b2.trans (hb4.mono b2.size)⟩

theorem literal_read (l : List UInt8) (w : World) (hl : l.length ≤ 1000000) :
    Calls Tryz.prog 49 #[.string (bs l)] w fun e w' => e = .returned (.tuple #[.int .u64 (litI l).1, .bool (litI l).2]) ∧ Below w.heap.size w w' := by
  have c1 := fun w => cutPrefix_bs l [48, 120] w
  unfold litI
  by_cases h : Lib.hasPrefix l [48, 120] = true
  · rw [if_pos h]
    rw [h] at c1
    exact lit_hex _ _ _ _ w c1 (fun w => hexadecimal_any _ w (by have := trimPrefix_len l [48, 120]; omega))
  · rw [if_neg h]
    have h' : Lib.hasPrefix l [48, 120] = false := by simpa using h
    rw [h'] at c1
    have sc := fun w => scan_any l w hl
    by_cases ho : scanOk l = true
    · rw [ho] at sc
      have c2 : ∀ w : World, Calls Tryz.prog 72 #[.string (bs l)] w fun e w' => e = .returned (.tuple #[.agg #[.string (bs (sW l)), .string (bs (sF l)), .bool (sDot l), .int .i64 (scanX l)], .bool true]) ∧ Below w.heap.size w w' := by
        intro w
        refine (sc w).mono ?_
        rintro e w' ⟨W, F, dot, x, rfl, hv, hb⟩
        refine ⟨?_, hb⟩
        rw [hv rfl]
        rfl
      have c3 := fun w => literal_any (sW l) (sF l) (sDot l) (scanX l) w
      have c4 := fun w => value_any (sW l) (sF l) (sDot l) (scanX l) w (by have := sWF_len l; omega) (scanX_bd l).1 (scanX_bd l).2 (sWF_dig l)
      unfold decV at c3 c4
      by_cases hb : litB (sW l) (sF l) (sDot l) = true
      · rw [if_pos ⟨ho, hb⟩]
        rw [hb] at c3
        exact lit_yes _ _ _ _ _ _ _ w c1 c2 c3 c4
      · have hb' : litB (sW l) (sF l) (sDot l) = false := by simpa using hb
        rw [if_neg (fun k => hb k.2)]
        rw [hb'] at c3
        exact lit_not _ _ _ _ _ _ w c1 c2 c3
    · have ho' : scanOk l = false := by simpa using ho
      rw [if_neg (fun k => ho k.1)]
      rw [ho'] at sc
      refine lit_none _ _ w c1 ?_
      intro w
      refine (sc w).mono ?_
      rintro e w' ⟨W, F, dot, x, rfl, _, hb⟩
      exact ⟨W, F, dot, x, rfl, hb⟩

end Go.Proofs.YtaikkmehmiiffaaGreatDoor
/- Blanks at both ends: plain mathematics. -/
namespace Go.Proofs.YtaikkmehmiiffaaGreatDoor
set_option linter.unusedVariables false

theorem dw_all {p : UInt8 → Bool} (a : List UInt8) (h : ∀ c ∈ a, p c = true) : a.dropWhile p = [] := by
  induction a with
  | nil => rfl
  | cons c a ih =>
    rw [List.dropWhile_cons, if_pos (h c (by simp))]
    exact ih (fun d hd => h d (by simp [hd]))

theorem dw_app {p : UInt8 → Bool} (a b : List UInt8) (h : ∀ c ∈ a, p c = true) : (a ++ b).dropWhile p = b.dropWhile p := by
  rw [List.dropWhile_append, dw_all a h]; rfl

theorem trimS_pad (sp s cs : List UInt8) (h : ∀ c ∈ sp, cs.contains c = true) : Lib.trimS (sp ++ s ++ sp) cs = Lib.trimS s cs := by
  unfold Lib.trimS Lib.trimLeftS Lib.trimRightS
  have hr : ∀ c ∈ sp.reverse, cs.contains c = true := fun c hc => h c (List.mem_reverse.1 hc)
  rw [List.reverse_append, List.reverse_append, dw_app sp.reverse _ hr, List.dropWhile_append]
  by_cases e : (s.reverse.dropWhile fun x => cs.contains x).isEmpty = true
  · rw [if_pos e, dw_all sp.reverse hr]
    have : (s.reverse.dropWhile fun x => cs.contains x) = [] := List.isEmpty_iff.1 e
    rw [this]
  · rw [if_neg e, List.reverse_append, List.reverse_reverse, dw_app sp _ h]

/-- blanks at both ends change nothing -/
theorem readI_pad (sp s : List UInt8) (h : ∀ c ∈ sp, blankS.contains c = true) : readI (sp ++ s ++ sp) = readI s := by
  unfold readI
  rw [trimS_pad sp s blankS h]

end Go.Proofs.YtaikkmehmiiffaaGreatDoor
/- Signs ahead of a text that begins with a digit: plain mathematics. -/
namespace Go.Proofs.YtaikkmehmiiffaaGreatDoor
set_option linter.unusedVariables false

theorem trimR_cons (x : UInt8) (l cs : List UInt8) (h : cs.contains x = false) : Lib.trimRightS (x :: l) cs = x :: Lib.trimRightS l cs := by
  unfold Lib.trimRightS
  rw [List.reverse_cons, List.dropWhile_append]
  by_cases e : (l.reverse.dropWhile fun y => cs.contains y).isEmpty = true
  · have e2 : (l.reverse.dropWhile fun y => cs.contains y) = [] := List.isEmpty_iff.1 e
    rw [if_pos e, e2, List.dropWhile_cons, if_neg (by rw [h]; simp)]
    rfl
  · rw [if_neg e, List.reverse_append]; rfl

theorem trimR_app (sp l cs : List UInt8) (x : UInt8) (h : cs.contains x = false) : Lib.trimRightS (sp ++ x :: l) cs = sp ++ x :: Lib.trimRightS l cs := by
  have k := trimR_cons x l cs h
  unfold Lib.trimRightS at k ⊢
  rw [List.reverse_append, List.dropWhile_append]
  have e : ¬ ((x :: l).reverse.dropWhile fun y => cs.contains y).isEmpty = true := by
    intro e
    rw [List.isEmpty_iff.1 e] at k
    simp at k
  rw [if_neg e, List.reverse_append, List.reverse_reverse, k]

theorem trimS_cons (x : UInt8) (l cs : List UInt8) (h : cs.contains x = false) : Lib.trimS (x :: l) cs = x :: Lib.trimRightS l cs := by
  unfold Lib.trimS
  rw [trimR_cons x l cs h]
  unfold Lib.trimLeftS
  rw [List.dropWhile_cons, if_neg (by rw [h]; simp)]

theorem trimS_app (sp l cs : List UInt8) (x : UInt8) (hs : ∀ c ∈ sp, cs.contains c = true) (h : cs.contains x = false) : Lib.trimS (sp ++ x :: l) cs = x :: Lib.trimRightS l cs := by
  unfold Lib.trimS
  rw [trimR_app sp l cs x h]
  unfold Lib.trimLeftS
  rw [dw_app sp _ hs, List.dropWhile_cons, if_neg (by rw [h]; simp)]

theorem cutX_no (c : UInt8) (r : List UInt8) (h : c ≠ 48) : (cutX (c :: r)).2 = false := by
  have k : ∀ d, Lib.hasPrefix (c :: r) [48, d] = false := by
    intro d
    unfold Lib.hasPrefix
    simp only [List.isPrefixOf_cons_cons]
    have : ((48 : UInt8) == c) = false := by simp; exact fun e => h e.symm
    rw [this]; rfl
  unfold cutX
  rw [if_neg (by rw [k]; simp)]
  exact k 88

theorem core_digit (c : UInt8) (r : List UInt8) (h0 : c ≠ 48) (h1 : c ≠ 43) (h2 : c ≠ 45) : coreI (c :: r) = (unsI (c :: r) : Nat) := by
  unfold coreI
  rw [if_neg (by simp), if_neg (by rw [cutX_no c r h0]; simp), if_neg (by simp [h1]), if_neg (by simp [h2])]

theorem core_plus (r : List UInt8) : coreI (43 :: r) = (unsI r : Nat) := by
  unfold coreI
  rw [if_neg (by simp), if_neg (by rw [cutX_no 43 r (by decide)]; simp), if_pos (by rfl)]
  rfl

theorem core_minus (r : List UInt8) : coreI (45 :: r) = negI (unsI r : Nat) := by
  unfold coreI
  rw [if_neg (by simp), if_neg (by rw [cutX_no 45 r (by decide)]; simp), if_neg (by simp), if_pos (by rfl)]
  rfl

/-- what begins with a blank is no number behind a sign -/
theorem uns_blank (c : UInt8) (r : List UInt8) (h : c = 9 ∨ c = 10 ∨ c = 32) : unsI (c :: r) = 9221120237041090560 := by
  have hd : isDig c = false := by rcases h with rfl | rfl | rfl <;> decide
  have w : sW (c :: r) = [] := by unfold sW digs; rw [List.takeWhile_cons, if_neg (by rw [hd]; simp)]
  have q : rst (c :: r) = c :: r := by unfold rst; rw [List.dropWhile_cons, if_neg (by rw [hd]; simp)]
  have f : sF (c :: r) = [] := by
    unfold sF
    rw [q, if_neg]
    simp
    rcases h with rfl | rfl | rfl <;> decide
  have o : scanOk (c :: r) = false := by unfold scanOk; rw [if_pos ⟨w, f⟩]
  unfold unsI
  rw [if_neg, if_neg (by rw [o]; simp)]
  unfold infTxt
  intro e
  simp at e
  rcases h with rfl | rfl | rfl <;> simp at e

end Go.Proofs.YtaikkmehmiiffaaGreatDoor
