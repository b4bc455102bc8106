/- Package lex: hexByte, escape. -/
import Derived.Test.YtaikkmehmiiffaaGreatDoorZ12
import Derived.Lib.AtoiErrMem
import Derived.Test.YtaikkmehmiiffaaGreatDoorLS
namespace Go.Proofs.YtaikkmehmiiffaaGreatDoor.Lx
open Go.RowKit
set_option linter.unusedVariables false

/-- the variable strconv.ErrSyntax holds an error, or nothing -/
def ErrAt (w : World) : Prop := ∃ ev, w.cell? ⟨2, 0, none⟩ = some ev ∧ (ev = .nilIface ∨ ∃ te pe, ev = .iface te pe)

theorem ErrAt.below {w w' : World} (h : ErrAt w) (hb : Below w.heap.size w w') : ErrAt w' := by
  obtain ⟨ev, h1, h2⟩ := h
  refine ⟨ev, ?_, h2⟩
  rw [hb.cell (p := ⟨2, 0, none⟩) (block_lt_of_cell h1)]
  exact h1

theorem parse_ok (t : ByteArray) (n : Nat) (w : World) (c1 : ∀ w : World, Calls Tryz.prog 129 #[.string t, .int .i64 16, .int .i64 8] w fun e w' => e = .returned (.tuple #[.int .u64 (n : Int), .nilIface]) ∧ w' = Lib.bytesWorld w 5 t) :
    Calls Tryz.prog 117 #[.string t, .int .i64 16, .int .i64 8] w fun e w' => e = .returned (.tuple #[.int .u64 (n : Int), .nilIface]) ∧ Below w.heap.size w w' := by
  go_enter Tryz.func117, Tryz.ntmps117
  go_wp2_with (go_at_call 129; refine (c1 _).mono ?_; rintro e w1 ⟨rfl, rfl⟩)
  go_ret2
  exact ⟨rfl, Lib.bytesWorld_below w 5 t⟩

theorem parse_bad (t : ByteArray) (w : World) (h2 : t.size = 2) (hE : ErrAt w) (c1 : ∀ w : World, Calls Tryz.prog 129 #[.string t, .int .i64 16, .int .i64 8] w fun e w' => e = .returned (.tuple #[.int .u64 0, .iface 148 (.int .i64 2)]) ∧ w' = Lib.bytesWorld w 5 t) :
    Calls Tryz.prog 117 #[.string t, .int .i64 16, .int .i64 8] w fun e w' => ∃ N, e = .returned (.tuple #[.int .u64 0, .iface 150 (.pointer (some ⟨N, 0, none⟩))]) ∧ Below w.heap.size w w' := by
  have hb := Lib.bytesWorld_below w 5 t
  obtain ⟨ev, e1, e2⟩ := hE.below hb
  have c2 := Tryz.strconv_toError_syntax ⟨#[80, 97, 114, 115, 101, 85, 105, 110, 116]⟩ t 16 8 ev (Lib.bytesWorld w 5 t) (by omega) e1 e2
  clear e1 e2 hE
  go_enter Tryz.func117, Tryz.ntmps117
  go_wp2_with fail
  refine (c1 _).mono ?_
  rintro e w1 ⟨rfl, hw⟩
  subst hw
  go_wp2_with fail
  refine c2.mono ?_
  rintro e w2 ⟨N, rfl, _, _, b2⟩
  go_wp2_with fail
  go_ret2
  exact ⟨N, rfl, hb.trans (b2.mono hb.size)⟩

theorem hexb_short (s : ByteArray) (w : World) (h : s.size < 4) : Calls Tryz.prog 98 #[.string s] w fun e w' => e = .returned (.tuple #[.int .u8 0, .int .i64 0]) ∧ Below w.heap.size w w' := by
  go_enter Tryz.func98, Tryz.ntmps98
  go_wp2_with fail
  go_ret2
  exact ⟨rfl, Below.refl _ _⟩

theorem hexb_ok (s t : ByteArray) (n : Nat) (w : World) (h : 4 ≤ s.size) (hs : s.size ≤ 1000000) (ht : s.extract 2 4 = t) (hn : n < 256)
    (c1 : ∀ w : World, Calls Tryz.prog 117 #[.string t, .int .i64 16, .int .i64 8] w fun e w' => e = .returned (.tuple #[.int .u64 (n : Int), .nilIface]) ∧ Below w.heap.size w w') :
    Calls Tryz.prog 98 #[.string s] w fun e w' => e = .returned (.tuple #[.int .u8 (n : Int), .int .i64 4]) ∧ Below w.heap.size w w' := by
  go_enter Tryz.func98, Tryz.ntmps98
  go_wp2_with (go_at_call 117; refine (c1 _).mono ?_; rintro e w1 ⟨rfl, hb⟩)
  go_ret2
  exact ⟨rfl, hb⟩

theorem hexb_bad (s t : ByteArray) (w : World) (h : 4 ≤ s.size) (hs : s.size ≤ 1000000) (ht : s.extract 2 4 = t)
    (c1 : Calls Tryz.prog 117 #[.string t, .int .i64 16, .int .i64 8] w fun e w' => ∃ N, e = .returned (.tuple #[.int .u64 0, .iface 150 (.pointer (some ⟨N, 0, none⟩))]) ∧ Below w.heap.size w w') :
    Calls Tryz.prog 98 #[.string s] w fun e w' => e = .returned (.tuple #[.int .u8 0, .int .i64 0]) ∧ Below w.heap.size w w' := by
  go_enter Tryz.func98, Tryz.ntmps98
  go_wp2_with (go_at_call 117; refine c1.mono ?_; rintro e w1 ⟨N, rfl, hb⟩)
  go_ret2
  exact ⟨rfl, hb⟩

theorem hexF_two (a b : UInt8) : hexF 0 [a, b] = if pHex a.toNat = true ∧ pHex b.toNat = true then some (nib a.toNat * 16 + nib b.toNat) else none := by
  simp only [hexF]
  by_cases x : pHex a.toNat = true
  · by_cases y : pHex b.toNat = true
    · simp [x, y]
    · simp [x, y]
  · simp [x]

theorem nib_lt (c : Nat) (h : pHex c = true) : nib c < 16 := by
  unfold pHex at h
  unfold nib pDig at *
  simp at h ⊢
  split
  · omega
  · split <;> omega

theorem hexb_any (a b c d : UInt8) (r : List UInt8) (w : World) (hl : r.length ≤ 900000) (hE : ErrAt w) :
    Calls Tryz.prog 98 #[.string (bs (a :: b :: c :: d :: r))] w fun e w' => e = .returned (.tuple #[.int .u8 (((if pHex c.toNat = true ∧ pHex d.toNat = true then (UInt8.ofNat (nib c.toNat * 16 + nib d.toNat), 4) else (0, 0)) : UInt8 × Nat).1.toNat : Int), .int .i64 ((((if pHex c.toNat = true ∧ pHex d.toNat = true then (UInt8.ofNat (nib c.toNat * 16 + nib d.toNat), 4) else (0, 0)) : UInt8 × Nat).2 : Nat) : Int)]) ∧ Below w.heap.size w w' := by
  have hx : (bs (a :: b :: c :: d :: r)).extract 2 4 = bs [c, d] := by rw [bs_extract]; rfl
  have z4 : 4 ≤ (bs (a :: b :: c :: d :: r)).size := by rw [bs_size]; simp
  have z5 : (bs (a :: b :: c :: d :: r)).size ≤ 1000000 := by rw [bs_size]; simp; omega
  have pu := fun w => pu_any (bs [c, d]) rfl w
  rw [bs_data, hexF_two] at pu
  by_cases h : pHex c.toNat = true ∧ pHex d.toNat = true
  · rw [if_pos h] at pu ⊢
    have n1 := nib_lt _ h.1
    have n2 := nib_lt _ h.2
    have := hexb_ok _ _ _ w z4 z5 hx (show nib c.toNat * 16 + nib d.toNat < 256 from by omega) (fun w => parse_ok _ _ w pu)
    have e : (UInt8.ofNat (nib c.toNat * 16 + nib d.toNat)).toNat = nib c.toNat * 16 + nib d.toNat := by
      simp
      omega
    simp only [e]
    exact this
  · rw [if_neg h] at pu ⊢
    exact hexb_bad _ _ w z4 z5 hx (parse_bad _ w rfl hE pu)

theorem esc_short (s : ByteArray) (w : World) (h : s.size < 2) : Calls Tryz.prog 79 #[.string s] w fun e w' => e = .returned (.tuple #[.int .u8 0, .int .i64 0]) ∧ Below w.heap.size w w' := by
  go_enter Tryz.func79, Tryz.ntmps79
  go_wp2_with fail
  go_ret2
  exact ⟨rfl, Below.refl _ _⟩

theorem esc_hex (s : ByteArray) (v n : Int) (w : World) (h : 1 < s.size) (hs : s.size ≤ 1000000) (hc : (s[1]'h).toNat = 120)
    (c1 : ∀ w' : World, w' = w → Calls Tryz.prog 98 #[.string s] w' fun e w' => e = .returned (.tuple #[.int .u8 v, .int .i64 n]) ∧ Below w.heap.size w w') :
    Calls Tryz.prog 79 #[.string s] w fun e w' => e = .returned (.tuple #[.int .u8 v, .int .i64 n]) ∧ Below w.heap.size w w' := by
  go_enter Tryz.func79, Tryz.ntmps79
  go_wp2_with (go_at_call 98; refine (c1 _ rfl).mono ?_; rintro e w1 ⟨rfl, hb⟩)
  go_ret2
  exact ⟨rfl, hb⟩

theorem esc_plain (s : ByteArray) (c : Nat) (v n : Int) (w : World) (h : 1 < s.size) (hs : s.size ≤ 1000000) (hc : (s[1]'h).toNat = c) (hx : c ≠ 120)
    (hv : (v, n) = if c = 110 then (10, 2) else if c = 116 then (9, 2) else if c = 92 ∨ c = 39 ∨ c = 34 then ((c : Int), 2) else (0, 0)) :
    Calls Tryz.prog 79 #[.string s] w fun e w' => e = .returned (.tuple #[.int .u8 v, .int .i64 n]) ∧ Below w.heap.size w w' := by
  have HV : Hid ((v, n) = if c = 110 then (10, 2) else if c = 116 then (9, 2) else if c = 92 ∨ c = 39 ∨ c = 34 then ((c : Int), 2) else (0, 0)) := hv
  have hx' : ((c : Int) == 120) = false := by simp; omega
  clear hv hx
  go_enter Tryz.func79, Tryz.ntmps79
  go_wp2_with fail
  all_goals
    go_ret2
    refine ⟨?_, Below.refl _ _⟩
    have hv := HV.out
    have e1 : ((c : Int) == 110) = decide (c = 110) := by rw [Bool.eq_iff_iff]; simp; omega
    have e2 : ((c : Int) == 116) = decide (c = 116) := by rw [Bool.eq_iff_iff]; simp; omega
    have e3 : ((c : Int) == 92) = decide (c = 92) := by rw [Bool.eq_iff_iff]; simp; omega
    have e4 : ((c : Int) == 39) = decide (c = 39) := by rw [Bool.eq_iff_iff]; simp; omega
    have e5 : ((c : Int) == 34) = decide (c = 34) := by rw [Bool.eq_iff_iff]; simp; omega
    simp only [e1, e2, e3, e4, e5, decide_eq_true_eq, decide_eq_false_iff_not] at *
    simp_all

theorem esc_any (l : List UInt8) (w : World) (hl : l.length ≤ 900000) (hE : ErrAt w) :
    Calls Tryz.prog 79 #[.string (bs l)] w fun e w' => e = .returned (.tuple #[.int .u8 ((escI l).1.toNat : Int), .int .i64 (((escI l).2 : Nat) : Int)]) ∧ Below w.heap.size w w' := by
  match l, hl with
  | [], _ => exact esc_short _ w (by rw [bs_size]; simp)
  | [a], _ => exact esc_short _ w (by rw [bs_size]; simp)
  | a :: c :: r, hl =>
    simp only [List.length_cons] at hl
    have h1 : 1 < (bs (a :: c :: r)).size := by rw [bs_size]; simp
    have hz : (bs (a :: c :: r)).size ≤ 1000000 := by rw [bs_size]; simp; omega
    have u8 : ∀ n : Nat, n < 256 → (c = UInt8.ofNat n ↔ c.toNat = n) := fun n hn => nat_u8 c n hn
    by_cases hx : c = 120
    · subst hx
      match r, hl with
      | [], _ => exact esc_hex _ _ _ w h1 hz rfl (fun w' e => by subst e; exact hexb_short _ w' (by rw [bs_size]; simp))
      | [x], _ => exact esc_hex _ _ _ w h1 hz rfl (fun w' e => by subst e; exact hexb_short _ w' (by rw [bs_size]; simp))
      | x :: y :: r, hl =>
        simp only [List.length_cons] at hl
        exact esc_hex _ _ _ w h1 hz rfl (fun w' e => by subst e; exact hexb_any a 120 x y r w' (by omega) hE)
    · have hc := fun (n : Nat) (hn : n < 256) => u8 n hn
      refine esc_plain _ c.toNat _ _ w h1 hz rfl (fun k => hx ((u8 120 (by omega)).2 k)) ?_
      have k1 : c = 110 ↔ c.toNat = 110 := u8 110 (by omega)
      have k2 : c = 116 ↔ c.toNat = 116 := u8 116 (by omega)
      have k3 : c = 92 ↔ c.toNat = 92 := u8 92 (by omega)
      have k4 : c = 39 ↔ c.toNat = 39 := u8 39 (by omega)
      have k5 : c = 34 ↔ c.toNat = 34 := u8 34 (by omega)
      unfold escI
      simp only [k1, k2, k3, k4, k5, if_neg hx]
      by_cases a1 : c.toNat = 110
      · simp [a1]
      · by_cases a2 : c.toNat = 116
        · simp [a2]
        · by_cases a3 : c.toNat = 92 ∨ c.toNat = 39 ∨ c.toNat = 34
          · simp [a1, a2, a3]
          · simp [a1, a2, a3]

end Go.Proofs.YtaikkmehmiiffaaGreatDoor.Lx
