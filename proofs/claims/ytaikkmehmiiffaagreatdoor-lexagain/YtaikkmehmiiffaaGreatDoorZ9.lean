/- Package lex: numberLen. -/
import Derived.Test.YtaikkmehmiiffaaGreatDoorZ8
namespace Go.Proofs.YtaikkmehmiiffaaGreatDoor.Lx
open Go.RowKit
set_option linter.unusedVariables false

/-- run, or one, of a text: so many bytes -/
def Says (f : Nat) (s : ByteArray) (g n : Nat) : Prop := ∀ w : World, Calls Tryz.prog f #[.string s, .func (Fn.func g) #[] #[]] w fun e w' => e = .returned (.int .i64 (n : Int)) ∧ Below w.heap.size w w'

theorem len_hex (s t : ByteArray) (n : Nat) (w : World) (hs : s.size ≤ 1000000) (h2 : 2 ≤ s.size) (ht : s.extract 2 s.size = t) (hn : n ≤ 1000000)
    (c1 : ∀ w : World, Calls Tryz.prog 43 #[.string s, .string ⟨#[48, 120]⟩] w fun e w' => e = .returned (.bool true) ∧ w' = w)
    (c2 : Says 15 t 66 n) :
    Calls Tryz.prog 48 #[.string s] w fun e w' => e = .returned (.int .i64 (2 + n : Int)) ∧ Below w.heap.size w w' := by
  unfold Says at c2
  go_enter Tryz.func48, Tryz.ntmps48
  go_wp2_with fail
  refine (c1 _).mono ?_
  rintro e w1 ⟨rfl, rfl⟩
  go_wp2_with fail
  refine (c2 _).mono ?_
  rintro e w2 ⟨rfl, hb⟩
  go_wp2_with fail
  go_ret
  exact ⟨rfl, hb⟩

theorem len_00 (s s1 : ByteArray) (n0 : Nat) (w : World)
    (hs : s.size ≤ 1000000)
    (hn0 : n0 ≤ 1000000)
    (l0 : (n0 : Int) ≤ s.size)
    (t1 : s.extract n0 s.size = s1)
    (cP : ∀ w : World, Calls Tryz.prog 43 #[.string s, .string ⟨#[48, 120]⟩] w fun e w' => e = .returned (.bool false) ∧ w' = w)
    (cD : Says 15 s 26 n0)
    (cDot : Says 25 s1 67 0)
    (cE : Says 25 s1 68 0) :
    Calls Tryz.prog 48 #[.string s] w fun e w' => e = .returned (.int .i64 (n0 : Int)) ∧ Below w.heap.size w w' := by
  unfold Says at *
  have hmf : ∀ (fn : Fn) (first cap : Array Value) (w : World), (Instr.makeFunc fn first cap).run Tryz.prog w = .ok (.func fn first cap) w := fun _ _ _ _ => rfl
  go_enter Tryz.func48, Tryz.ntmps48
  go_wp2_with fail
  refine (cP _).mono ?_
  rintro e w0 ⟨rfl, rfl⟩
  go_wp2_with fail
  refine (cD _).mono ?_
  rintro e w1 ⟨rfl, hb1⟩
  have B1 := hb1
  go_wp2_with fail
  refine (cDot _).mono ?_
  rintro e w2 ⟨rfl, hb2⟩
  have B2 := B1.trans (hb2.mono B1.size)
  clear hb2 B1
  go_wp2_with fail
  refine (cE _).mono ?_
  rintro e w3 ⟨rfl, hb3⟩
  have B3 := B2.trans (hb3.mono B2.size)
  clear hb3 B2
  go_wp2_with fail
  go_ret
  exact ⟨rfl, B3⟩

theorem len_01 (s s1 s4 s5 : ByteArray) (n0 b g c r z : Nat) (w : World)
    (hs : s.size ≤ 1000000)
    (hn0 : n0 ≤ 1000000)
    (l0 : (n0 : Int) ≤ s.size)
    (t1 : s.extract n0 s.size = s1)
    (cP : ∀ w : World, Calls Tryz.prog 43 #[.string s, .string ⟨#[48, 120]⟩] w fun e w' => e = .returned (.bool false) ∧ w' = w)
    (cD : Says 15 s 26 n0)
    (cDot : Says 25 s1 67 0)
    (cE : Says 25 s1 68 1)
    (eb : (n0 : Int) + 1 = (b : Int))
    (l3 : (b : Int) ≤ s.size)
    (t4 : s.extract b s.size = s4)
    (hg : g ≤ 1)
    (cS : Says 25 s4 69 g)
    (ec : (b : Int) + (g : Int) = (c : Int))
    (l4 : (c : Int) ≤ s.size)
    (t5 : s.extract c s.size = s5)
    (hr : r ≤ 1000000)
    (cR : Says 15 s5 26 r)
    (ez : (c : Int) + (r : Int) = (z : Int)) :
    Calls Tryz.prog 48 #[.string s] w fun e w' => e = .returned (.int .i64 (z : Int)) ∧ Below w.heap.size w w' := by
  unfold Says at *
  have hmf : ∀ (fn : Fn) (first cap : Array Value) (w : World), (Instr.makeFunc fn first cap).run Tryz.prog w = .ok (.func fn first cap) w := fun _ _ _ _ => rfl
  go_enter Tryz.func48, Tryz.ntmps48
  go_wp2_with fail
  refine (cP _).mono ?_
  rintro e w0 ⟨rfl, rfl⟩
  go_wp2_with fail
  refine (cD _).mono ?_
  rintro e w1 ⟨rfl, hb1⟩
  have B1 := hb1
  go_wp2_with fail
  refine (cDot _).mono ?_
  rintro e w2 ⟨rfl, hb2⟩
  have B2 := B1.trans (hb2.mono B1.size)
  clear hb2 B1
  go_wp2_with fail
  refine (cE _).mono ?_
  rintro e w3 ⟨rfl, hb3⟩
  have B3 := B2.trans (hb3.mono B2.size)
  clear hb3 B2
  go_wp2_with fail
  refine (cS _).mono ?_
  rintro e w4 ⟨rfl, hb4⟩
  have B4 := B3.trans (hb4.mono B3.size)
  clear hb4 B3
  go_wp2_with fail
  refine (cR _).mono ?_
  rintro e w5 ⟨rfl, hb5⟩
  have B5 := B4.trans (hb5.mono B4.size)
  clear hb5 B4
  go_wp2_with fail
  go_ret
  exact ⟨rfl, B5⟩

theorem len_10 (s s1 s2 : ByteArray) (n0 a : Nat) (w : World)
    (hs : s.size ≤ 1000000)
    (hn0 : n0 ≤ 1000000)
    (l0 : (n0 : Int) ≤ s.size)
    (t1 : s.extract n0 s.size = s1)
    (cP : ∀ w : World, Calls Tryz.prog 43 #[.string s, .string ⟨#[48, 120]⟩] w fun e w' => e = .returned (.bool false) ∧ w' = w)
    (cD : Says 15 s 26 n0)
    (cDot : Says 25 s1 67 1)
    (ea : (n0 : Int) + 1 = (a : Int))
    (l1 : (a : Int) ≤ s.size)
    (t2 : s.extract a s.size = s2)
    (cG : Says 25 s2 26 0)
    (cE : Says 25 s1 68 0) :
    Calls Tryz.prog 48 #[.string s] w fun e w' => e = .returned (.int .i64 (n0 : Int)) ∧ Below w.heap.size w w' := by
  unfold Says at *
  have hmf : ∀ (fn : Fn) (first cap : Array Value) (w : World), (Instr.makeFunc fn first cap).run Tryz.prog w = .ok (.func fn first cap) w := fun _ _ _ _ => rfl
  go_enter Tryz.func48, Tryz.ntmps48
  go_wp2_with fail
  refine (cP _).mono ?_
  rintro e w0 ⟨rfl, rfl⟩
  go_wp2_with fail
  refine (cD _).mono ?_
  rintro e w1 ⟨rfl, hb1⟩
  have B1 := hb1
  go_wp2_with fail
  refine (cDot _).mono ?_
  rintro e w2 ⟨rfl, hb2⟩
  have B2 := B1.trans (hb2.mono B1.size)
  clear hb2 B1
  go_wp2_with fail
  refine (cG _).mono ?_
  rintro e w3 ⟨rfl, hb3⟩
  have B3 := B2.trans (hb3.mono B2.size)
  clear hb3 B2
  go_wp2_with fail
  refine (cE _).mono ?_
  rintro e w4 ⟨rfl, hb4⟩
  have B4 := B3.trans (hb4.mono B3.size)
  clear hb4 B3
  go_wp2_with fail
  go_ret
  exact ⟨rfl, B4⟩

theorem len_20 (s s1 s2 s3 : ByteArray) (n0 a m n1 : Nat) (w : World)
    (hs : s.size ≤ 1000000)
    (hn0 : n0 ≤ 1000000)
    (l0 : (n0 : Int) ≤ s.size)
    (t1 : s.extract n0 s.size = s1)
    (cP : ∀ w : World, Calls Tryz.prog 43 #[.string s, .string ⟨#[48, 120]⟩] w fun e w' => e = .returned (.bool false) ∧ w' = w)
    (cD : Says 15 s 26 n0)
    (cDot : Says 25 s1 67 1)
    (ea : (n0 : Int) + 1 = (a : Int))
    (l1 : (a : Int) ≤ s.size)
    (t2 : s.extract a s.size = s2)
    (cG : Says 25 s2 26 1)
    (hm : m ≤ 1000000)
    (cM : Says 15 s2 26 m)
    (en : (n0 : Int) + (1 + (m : Int)) = (n1 : Int))
    (l2 : (n1 : Int) ≤ s.size)
    (t3 : s.extract n1 s.size = s3)
    (cE : Says 25 s3 68 0) :
    Calls Tryz.prog 48 #[.string s] w fun e w' => e = .returned (.int .i64 (n1 : Int)) ∧ Below w.heap.size w w' := by
  unfold Says at *
  have hmf : ∀ (fn : Fn) (first cap : Array Value) (w : World), (Instr.makeFunc fn first cap).run Tryz.prog w = .ok (.func fn first cap) w := fun _ _ _ _ => rfl
  go_enter Tryz.func48, Tryz.ntmps48
  go_wp2_with fail
  refine (cP _).mono ?_
  rintro e w0 ⟨rfl, rfl⟩
  go_wp2_with fail
  refine (cD _).mono ?_
  rintro e w1 ⟨rfl, hb1⟩
  have B1 := hb1
  go_wp2_with fail
  refine (cDot _).mono ?_
  rintro e w2 ⟨rfl, hb2⟩
  have B2 := B1.trans (hb2.mono B1.size)
  clear hb2 B1
  go_wp2_with fail
  refine (cG _).mono ?_
  rintro e w3 ⟨rfl, hb3⟩
  have B3 := B2.trans (hb3.mono B2.size)
  clear hb3 B2
  go_wp2_with fail
  refine (cM _).mono ?_
  rintro e w4 ⟨rfl, hb4⟩
  have B4 := B3.trans (hb4.mono B3.size)
  clear hb4 B3
  go_wp2_with fail
  refine (cE _).mono ?_
  rintro e w5 ⟨rfl, hb5⟩
  have B5 := B4.trans (hb5.mono B4.size)
  clear hb5 B4
  go_wp2_with fail
  go_ret
  exact ⟨rfl, B5⟩

theorem len_21 (s s1 s2 s3 s4 s5 : ByteArray) (n0 a m n1 b g c r z : Nat) (w : World)
    (hs : s.size ≤ 1000000)
    (hn0 : n0 ≤ 1000000)
    (l0 : (n0 : Int) ≤ s.size)
    (t1 : s.extract n0 s.size = s1)
    (cP : ∀ w : World, Calls Tryz.prog 43 #[.string s, .string ⟨#[48, 120]⟩] w fun e w' => e = .returned (.bool false) ∧ w' = w)
    (cD : Says 15 s 26 n0)
    (cDot : Says 25 s1 67 1)
    (ea : (n0 : Int) + 1 = (a : Int))
    (l1 : (a : Int) ≤ s.size)
    (t2 : s.extract a s.size = s2)
    (cG : Says 25 s2 26 1)
    (hm : m ≤ 1000000)
    (cM : Says 15 s2 26 m)
    (en : (n0 : Int) + (1 + (m : Int)) = (n1 : Int))
    (l2 : (n1 : Int) ≤ s.size)
    (t3 : s.extract n1 s.size = s3)
    (cE : Says 25 s3 68 1)
    (eb : (n1 : Int) + 1 = (b : Int))
    (l3 : (b : Int) ≤ s.size)
    (t4 : s.extract b s.size = s4)
    (hg : g ≤ 1)
    (cS : Says 25 s4 69 g)
    (ec : (b : Int) + (g : Int) = (c : Int))
    (l4 : (c : Int) ≤ s.size)
    (t5 : s.extract c s.size = s5)
    (hr : r ≤ 1000000)
    (cR : Says 15 s5 26 r)
    (ez : (c : Int) + (r : Int) = (z : Int)) :
    Calls Tryz.prog 48 #[.string s] w fun e w' => e = .returned (.int .i64 (z : Int)) ∧ Below w.heap.size w w' := by
  unfold Says at *
  have hmf : ∀ (fn : Fn) (first cap : Array Value) (w : World), (Instr.makeFunc fn first cap).run Tryz.prog w = .ok (.func fn first cap) w := fun _ _ _ _ => rfl
  go_enter Tryz.func48, Tryz.ntmps48
  go_wp2_with fail
  refine (cP _).mono ?_
  rintro e w0 ⟨rfl, rfl⟩
  go_wp2_with fail
  refine (cD _).mono ?_
  rintro e w1 ⟨rfl, hb1⟩
  have B1 := hb1
  go_wp2_with fail
  refine (cDot _).mono ?_
  rintro e w2 ⟨rfl, hb2⟩
  have B2 := B1.trans (hb2.mono B1.size)
  clear hb2 B1
  go_wp2_with fail
  refine (cG _).mono ?_
  rintro e w3 ⟨rfl, hb3⟩
  have B3 := B2.trans (hb3.mono B2.size)
  clear hb3 B2
  go_wp2_with fail
  refine (cM _).mono ?_
  rintro e w4 ⟨rfl, hb4⟩
  have B4 := B3.trans (hb4.mono B3.size)
  clear hb4 B3
  go_wp2_with fail
  refine (cE _).mono ?_
  rintro e w5 ⟨rfl, hb5⟩
  have B5 := B4.trans (hb5.mono B4.size)
  clear hb5 B4
  go_wp2_with fail
  refine (cS _).mono ?_
  rintro e w6 ⟨rfl, hb6⟩
  have B6 := B5.trans (hb6.mono B5.size)
  clear hb6 B5
  go_wp2_with fail
  refine (cR _).mono ?_
  rintro e w7 ⟨rfl, hb7⟩
  have B7 := B6.trans (hb7.mono B6.size)
  clear hb7 B6
  go_wp2_with fail
  go_ret
  exact ⟨rfl, B7⟩

theorem says_run (p : Nat → Bool) (f : Nat) (h : Pure p f) (l : List UInt8) (hl : l.length ≤ 900000) (ha : asc l) : Says 15 (bs l) f (cntP p l) := fun w => run_pure p f h l w (by omega) (Or.inl ha)
theorem says_one (p : Nat → Bool) (f : Nat) (h : Pure p f) (l : List UInt8) (hl : l.length ≤ 900000) (ha : asc l) : Says 25 (bs l) f (oneP p l) := fun w => one_any p f h l w (by omega) ha
theorem says_eq {f g n m : Nat} {s : ByteArray} (h : Says f s g n) (e : n = m) : Says f s g m := e ▸ h

theorem asc_drop {l : List UInt8} (h : asc l) (n : Nat) : asc (l.drop n) := fun c hc => h c (List.mem_of_mem_drop hc)
theorem asc_take {l : List UInt8} (h : asc l) (n : Nat) : asc (l.take n) := fun c hc => h c (List.mem_of_mem_take hc)

theorem dot_exp (l : List UInt8) (h : 0 < oneP pDot l) : oneP pExp l = 0 := by
  cases l with
  | nil => rfl
  | cons c r =>
    rw [oneP] at h ⊢
    by_cases k : pDot c.toNat = true
    · rw [if_neg]
      unfold pDot at k
      unfold pExp
      simp at k ⊢
      omega
    · rw [if_neg k] at h; omega

theorem len_any (l : List UInt8) (w : World) (hl : l.length ≤ 900000) (ha : asc l) :
    Calls Tryz.prog 48 #[.string (bs l)] w fun e w' => e = .returned (.int .i64 ((numLen l : Nat) : Int)) ∧ Below w.heap.size w w' := by
  have c1 := fun w => pre_any l [48, 120] w (by omega)
  have hs : (bs l).size ≤ 1000000 := by rw [bs_size]; omega
  have ld : ∀ n, (l.drop n).length ≤ 900000 := fun n => by rw [List.length_drop]; omega
  have R := fun n => says_run pDig 26 pure_dig (l.drop n) (ld n) (asc_drop ha n)
  have O := fun n => says_one pDig 26 pure_dig (l.drop n) (ld n) (asc_drop ha n)
  have OD := fun n => says_one pDot 67 pure_dot (l.drop n) (ld n) (asc_drop ha n)
  have OE := fun n => says_one pExp 68 pure_exp (l.drop n) (ld n) (asc_drop ha n)
  have OS := fun n => says_one pSig 69 pure_sig (l.drop n) (ld n) (asc_drop ha n)
  unfold numLen
  by_cases h : Go.Lib.hasPrefix l [48, 120] = true
  · rw [if_pos h]
    rw [h] at c1
    have le := hasPrefix_len _ _ h
    have cl := cntP_le pHex (l.drop 2)
    rw [List.length_drop] at cl
    have := len_hex (bs l) (bs (l.drop 2)) (cntP pHex (l.drop 2)) w hs (by rw [bs_size]; simpa using le) (bs_drop l 2) (by omega) c1 (says_run pHex 66 pure_hex (l.drop 2) (ld 2) (asc_drop ha 2))
    refine this.mono ?_
    rintro e w' ⟨rfl, hb⟩
    exact ⟨by simp, hb⟩
  · rw [if_neg h]
    have h' : Go.Lib.hasPrefix l [48, 120] = false := by simpa using h
    rw [h'] at c1
    have cD := says_run pDig 26 pure_dig l hl ha
    have n0l := cntP_le pDig l
    generalize cntP pDig l = n0 at *
    have b1 : ∀ n, n ≤ l.length → ((n : Nat) : Int) ≤ (bs l).size := fun n hn => by rw [bs_size]; omega
    by_cases d : 0 < oneP pDot (l.drop n0)
    · have d1 := oneP_le1 pDot (l.drop n0)
      have dl := oneP_le pDot (l.drop n0)
      rw [List.length_drop] at dl
      have dx := dot_exp _ d
      by_cases g : 0 < oneP pDig (l.drop (n0 + 1))
      · have g1 := oneP_le1 pDig (l.drop (n0 + 1))
        have nb : nlB l n0 = n0 + (1 + cntP pDig (l.drop (n0 + 1))) := by unfold nlB; rw [if_pos ⟨d, g⟩]
        have ml := cntP_le pDig (l.drop (n0 + 1))
        rw [List.length_drop] at ml
        rw [nb]
        unfold nlC
        by_cases x : 0 < oneP pExp (l.drop (n0 + (1 + cntP pDig (l.drop (n0 + 1)))))
        · rw [if_pos x]
          have x1 := oneP_le1 pExp (l.drop (n0 + (1 + cntP pDig (l.drop (n0 + 1)))))
          have xl := oneP_le pExp (l.drop (n0 + (1 + cntP pDig (l.drop (n0 + 1)))))
          rw [List.length_drop] at xl
          have sl := oneP_le pSig (l.drop (n0 + (1 + cntP pDig (l.drop (n0 + 1))) + 1))
          have s1 := oneP_le1 pSig (l.drop (n0 + (1 + cntP pDig (l.drop (n0 + 1))) + 1))
          rw [List.length_drop] at sl
          have rl := cntP_le pDig (l.drop (n0 + (1 + cntP pDig (l.drop (n0 + 1))) + 1 + oneP pSig (l.drop (n0 + (1 + cntP pDig (l.drop (n0 + 1))) + 1))))
          rw [List.length_drop] at rl
          exact len_21 (bs l) _ _ _ _ _ n0 (n0 + 1) _ (n0 + (1 + cntP pDig (l.drop (n0 + 1)))) (n0 + (1 + cntP pDig (l.drop (n0 + 1))) + 1) (oneP pSig (l.drop ((n0 + (1 + cntP pDig (l.drop (n0 + 1)))) + 1))) ((n0 + (1 + cntP pDig (l.drop (n0 + 1)))) + 1 + (oneP pSig (l.drop ((n0 + (1 + cntP pDig (l.drop (n0 + 1)))) + 1)))) (cntP pDig (l.drop ((n0 + (1 + cntP pDig (l.drop (n0 + 1)))) + 1 + (oneP pSig (l.drop ((n0 + (1 + cntP pDig (l.drop (n0 + 1)))) + 1)))))) (((n0 + (1 + cntP pDig (l.drop (n0 + 1)))) + 1 + (oneP pSig (l.drop ((n0 + (1 + cntP pDig (l.drop (n0 + 1)))) + 1)))) + (cntP pDig (l.drop ((n0 + (1 + cntP pDig (l.drop (n0 + 1)))) + 1 + (oneP pSig (l.drop ((n0 + (1 + cntP pDig (l.drop (n0 + 1)))) + 1))))))) w hs (by omega) (b1 _ n0l) (bs_drop l n0) c1 cD (says_eq (OD n0) (by omega)) (by omega) (b1 _ (by omega)) (bs_drop l _) (says_eq (O (n0 + 1)) (by omega)) (by omega) (R (n0 + 1)) (by omega) (b1 _ (by omega)) (bs_drop l _) (says_eq (OE _) (by omega)) (by omega) (b1 _ (by omega)) (bs_drop l _) s1 (OS _) (by omega) (b1 _ (by omega)) (bs_drop l _) (by omega) (R _) (by omega)
        · rw [if_neg x]
          exact len_20 (bs l) _ _ _ n0 (n0 + 1) _ (n0 + (1 + cntP pDig (l.drop (n0 + 1)))) w hs (by omega) (b1 _ n0l) (bs_drop l n0) c1 cD (says_eq (OD n0) (by omega)) (by omega) (b1 _ (by omega)) (bs_drop l _) (says_eq (O (n0 + 1)) (by omega)) (by omega) (R (n0 + 1)) (by omega) (b1 _ (by omega)) (bs_drop l _) (says_eq (OE _) (by omega))
      · have nb : nlB l n0 = n0 := by unfold nlB; rw [if_neg (fun k => g k.2)]
        rw [nb]
        unfold nlC
        rw [dx, if_neg (by omega)]
        exact len_10 (bs l) _ _ n0 (n0 + 1) w hs (by omega) (b1 _ n0l) (bs_drop l n0) c1 cD (says_eq (OD n0) (by omega)) (by omega) (b1 _ (by omega)) (bs_drop l _) (says_eq (O (n0 + 1)) (by omega)) (says_eq (OE _) (by omega))
    · have nb : nlB l n0 = n0 := by unfold nlB; rw [if_neg (fun k => d k.1)]
      rw [nb]
      unfold nlC
      by_cases x : 0 < oneP pExp (l.drop n0)
      · rw [if_pos x]
        have x1 := oneP_le1 pExp (l.drop n0)
        have xl := oneP_le pExp (l.drop n0)
        rw [List.length_drop] at xl
        have sl := oneP_le pSig (l.drop (n0 + 1))
        have s1 := oneP_le1 pSig (l.drop (n0 + 1))
        rw [List.length_drop] at sl
        have rl := cntP_le pDig (l.drop (n0 + 1 + oneP pSig (l.drop (n0 + 1))))
        rw [List.length_drop] at rl
        exact len_01 (bs l) _ _ _ n0 (n0 + 1) (oneP pSig (l.drop (n0 + 1))) (n0 + 1 + (oneP pSig (l.drop (n0 + 1)))) (cntP pDig (l.drop (n0 + 1 + (oneP pSig (l.drop (n0 + 1)))))) ((n0 + 1 + (oneP pSig (l.drop (n0 + 1)))) + (cntP pDig (l.drop (n0 + 1 + (oneP pSig (l.drop (n0 + 1))))))) w hs (by omega) (b1 _ n0l) (bs_drop l n0) c1 cD (says_eq (OD n0) (by omega)) (says_eq (OE _) (by omega)) (by omega) (b1 _ (by omega)) (bs_drop l _) s1 (OS _) (by omega) (b1 _ (by omega)) (bs_drop l _) (by omega) (R _) (by omega)
      · rw [if_neg x]
        exact len_00 (bs l) _ n0 w hs (by omega) (b1 _ n0l) (bs_drop l n0) c1 cD (says_eq (OD n0) (by omega)) (says_eq (OE _) (by omega))

end Go.Proofs.YtaikkmehmiiffaaGreatDoor.Lx
