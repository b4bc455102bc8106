/- NumtextBlanks: the walk. -/
import Derived.Test.YtpejebohekcfoaaGreatDoorQ1
namespace Go.Proofs.YtpejebohekcfoaaGreatDoor
open Go.RowKit
set_option linter.unusedVariables false

def BlankAt (zs : List Int) (len : Nat) (sv iv : Value) : Prop := ∃ k : Nat, k ≤ len ∧ sv = .string (bs (spL zs k)) ∧ iv = .int .i64 (k : Int)

theorem blanks_big (s : ByteArray) (a1 : Option Addr) (len cap : Nat) (w : World) (h : 4096 < s.size ∨ 4096 < len) (hs : s.size ≤ maxLen) (hl : len ≤ maxLen)
    (al : ∀ w : World, Calls Tryz.prog 9 #[] w fun e w' => e = .returned (.bool true) ∧ Below w.heap.size w w') :
    Calls Tryz.prog 7 #[.string s, .slice a1 len cap] w fun e w' => e = .returned (.bool true) ∧ Below w.heap.size w w' := by
  unfold maxLen at hs hl
  by_cases c : 4096 < s.size
  · go_enter Tryz.func7, Tryz.ntmps7
    go_wp2_with fail
    refine (al _).mono ?_
    rintro e w1 ⟨rfl, hb1⟩
    go_wp2
    go_ret
    exact ⟨rfl, hb1⟩
  · have c2 : 4096 < len := by omega
    clear h
    go_enter Tryz.func7, Tryz.ntmps7
    go_wp2_with fail
    refine (al _).mono ?_
    rintro e w1 ⟨rfl, hb1⟩
    go_wp2
    go_ret
    exact ⟨rfl, hb1⟩

theorem ba_list (X Y : ByteArray) : (X ++ Y).data.toList = X.data.toList ++ Y.data.toList := by simp [ByteArray.data_append]

theorem blanks_reads (s : ByteArray) (sp : List UInt8) (hs : s.size ≤ 4096) (hl : sp.length ≤ 4096) (hb : ∀ b ∈ sp, blankS.contains b = true) :
    (∀ w : World, Calls Tryz.prog 14 #[.string s] w fun e w' => e = .returned (.int .u64 (readI s.data.toList)) ∧ Below w.heap.size w w') ∧
    (∀ w : World, Calls Tryz.prog 14 #[.string (bs sp ++ s ++ bs sp)] w fun e w' => e = .returned (.int .u64 (readI s.data.toList)) ∧ Below w.heap.size w w') := by
  refine ⟨fun w => read_ba s w (by omega), fun w => ?_⟩
  have := read_ba (bs sp ++ s ++ bs sp) w (by rw [ByteArray.size_append, ByteArray.size_append, bs_size]; omega)
  rw [ba_list, ba_list, show (bs sp).data.toList = sp from by simp [bs], readI_pad sp _ hb] at this
  exact this

theorem xor_top (A : Int) (h0 : 0 ≤ A) (h1 : A < 9223372036854775808) : bits .xor .u64 A 9223372036854775808 = A + 9223372036854775808 := by
  rw [flip_sign A h0 (by omega)]
  omega

theorem first_cons (s : ByteArray) (t0 : 0 < s.size) : ∃ r, s.data.toList = s[0]'t0 :: r := by
  have h : 0 < s.data.toList.length := by simpa using t0
  cases hs : s.data.toList with
  | nil => rw [hs] at h; simp at h
  | cons c r =>
    refine ⟨r, ?_⟩
    have : s.data.toList[0]'h = s[0]'t0 := by simp [ByteArray.getElem_eq_getElem_data]
    rw [← this]
    simp [hs]

theorem blanks_more (s : ByteArray) (sp : List UInt8) (hs : s.size ≤ 4096) (hl : sp.length ≤ 4096) (hb : ∀ b ∈ sp, blankS.contains b = true) (t0 : 0 < s.size) (h0 : 49 ≤ (s[0]'t0).toNat) (h1 : (s[0]'t0).toNat ≤ 57) (hn : readI s.data.toList ≠ 9221120237041090560) :
    (∀ w : World, Calls Tryz.prog 14 #[.string (ByteArray.mk #[45] ++ s)] w fun e w' => e = .returned (.int .u64 (readI s.data.toList + 9223372036854775808)) ∧ Below w.heap.size w w') ∧
    (∀ w : World, Calls Tryz.prog 14 #[.string (bs sp ++ ByteArray.mk #[43] ++ s)] w fun e w' => e = .returned (.int .u64 (readI s.data.toList)) ∧ Below w.heap.size w w') ∧
    (sp ≠ [] → ∀ w : World, Calls Tryz.prog 14 #[.string (ByteArray.mk #[45] ++ bs sp ++ s)] w fun e w' => e = .returned (.int .u64 9221120237041090560) ∧ Below w.heap.size w w') ∧
    bits .xor .u64 (readI s.data.toList) 9223372036854775808 = readI s.data.toList + 9223372036854775808 := by
  obtain ⟨r, e⟩ := first_cons s t0
  have bl : (bs sp).data.toList = sp := by simp [bs]
  have l45 : (ByteArray.mk #[45]).data.toList = [45] := rfl
  have l43 : (ByteArray.mk #[43]).data.toList = [43] := rfl
  have z45 : (ByteArray.mk #[45]).size = 1 := rfl
  have z43 : (ByteArray.mk #[43]).size = 1 := rfl
  rw [e] at hn ⊢
  obtain ⟨p1, p2, p3, p4, p5⟩ := blanks_plain _ r sp h0 h1 hb hn
  refine ⟨fun w => ?_, fun w => ?_, fun h w => ?_, xor_top _ p4 p5⟩
  · have := read_ba (ByteArray.mk #[45] ++ s) w (by rw [ByteArray.size_append, z45]; omega)
    rw [ba_list, l45, e, List.singleton_append, p1] at this
    exact this
  · have := read_ba (bs sp ++ ByteArray.mk #[43] ++ s) w (by rw [ByteArray.size_append, ByteArray.size_append, z43, bs_size]; omega)
    rw [ba_list, ba_list, bl, l43, e, List.append_assoc, List.singleton_append, p2] at this
    exact this
  · have := read_ba (ByteArray.mk #[45] ++ bs sp ++ s) w (by rw [ByteArray.size_append, ByteArray.size_append, z45, bs_size]; omega)
    rw [ba_list, ba_list, bl, l45, e, List.append_assoc, List.singleton_append, p3 h] at this
    exact this

set_option maxHeartbeats 2000000 in
theorem blanks_walk (s : ByteArray) (a1 : Option Addr) (len cap : Nat) (zs : List Int) (w : World) (hs : s.size ≤ 4096) (hl : len ≤ 4096) (hz : len ≤ zs.length)
    (hat : 0 < len → ∃ b off, a1 = some ⟨b, off, none⟩ ∧ ∀ j, j < len → w.cell? ⟨b, off + j, none⟩ = some (.int .u8 (zs.getD j 0))) (hr : ∀ j, 0 ≤ zs.getD j 0 ∧ zs.getD j 0 ≤ 255)
    (al : ∀ w : World, Calls Tryz.prog 9 #[] w fun e w' => e = .returned (.bool true) ∧ Below w.heap.size w w') :
    Calls Tryz.prog 7 #[.string s, .slice a1 len cap] w fun e w' => e = .returned (.bool true) ∧ Below w.heap.size w w' := by
  go_enter Tryz.func7, Tryz.ntmps7
  go_wp2_with fail
  go_loop [5, 6] (fun sv iv => BlankAt zs len sv iv) (fun sv iv => ((len : Int) - intOf iv).toNat)
  case atStart => exact ⟨0, by omega, rfl, rfl⟩
  case round =>
    obtain ⟨k, hk, rfl, rfl⟩ := hrel
    rcases Nat.lt_or_ge k len with c | c
    · obtain ⟨b, off, rfl, hc⟩ := hat (by omega)
      have hck := hc k c
      obtain ⟨r0, r1⟩ := hr k
      have nx : ∀ m : UInt8, blankOf (zs.getD k 0) = m → BlankAt zs len (.string (bs (spL zs k) ++ bs [m])) (.int .i64 ((k : Int) + 1)) := by
        intro m hm
        refine ⟨k + 1, by omega, ?_, by congr 1⟩
        rw [bs_app, spL_next zs k (by omega), hm]
      have hm : (zs.getD k 0).tmod 3 = 0 ∨ (zs.getD k 0).tmod 3 = 1 ∨ (zs.getD k 0).tmod 3 = 2 := by
        rw [Int.tmod_eq_emod_of_nonneg r0]; omega
      have hb : ∀ m, (zs.getD k 0).tmod 3 = m → blankOf (zs.getD k 0) = if m = 0 then 9 else if m = 1 then 10 else 32 := by
        intro m e; unfold blankOf; rw [e]
      clear hat hc hr
      generalize zs.getD k 0 = z at *
      have zk : (bs (spL zs k)).size = k := by rw [bs_size, spL_len zs k (by omega)]
      generalize bs (spL zs k) = X at *
      rcases hm with hm | hm | hm
      · have NX := nx 9 (hb 0 hm)
        have he : (ByteArray.mk #[9, 10, 32]).extract 0 1 = bs [9] := by decide
        have hf : (bs [9]).size = 1 := rfl
        clear nx hb
        generalize bs [9] = Y at *
        go_wp2_with fail
        refine ⟨NX, ?_⟩
        simp [intOf]
        omega
      · have NX := nx 10 (hb 1 hm)
        have he : (ByteArray.mk #[9, 10, 32]).extract 1 2 = bs [10] := by decide
        have hf : (bs [10]).size = 1 := rfl
        clear nx hb
        generalize bs [10] = Y at *
        go_wp2_with fail
        refine ⟨NX, ?_⟩
        simp [intOf]
        omega
      · have NX := nx 32 (hb 2 hm)
        have he : (ByteArray.mk #[9, 10, 32]).extract 2 3 = bs [32] := by decide
        have hf : (bs [32]).size = 1 := rfl
        clear nx hb
        generalize bs [32] = Y at *
        go_wp2_with fail
        refine ⟨NX, ?_⟩
        simp [intOf]
        omega
    · have e : k = len := by omega
      subst e
      have zk : (bs (spL zs k)).size = k := by rw [bs_size, spL_len zs k hz]
      obtain ⟨c1, c2⟩ := blanks_reads s (spL zs k) hs (by rw [spL_len zs k hz]; omega) (spL_blank zs k)
      clear hat hr
      generalize hA : readI s.data.toList = A at *
      by_cases t0 : 0 < s.size
      · by_cases g0 : 49 ≤ ((s[0]'t0).toNat : Int)
        · by_cases g1 : ((s[0]'t0).toNat : Int) ≤ 57
          · by_cases gn : A = 9221120237041090560
            · have gn' : (A != 9221120237041090560) = false := by rw [gn]; rfl
              clear gn
              generalize bs (spL zs k) = X at *
              go_wp2_with fail
              refine (c1 _).mono ?_
              rintro e w1 ⟨rfl, hb1⟩
              go_wp2_with fail
              refine (c2 _).mono ?_
              rintro e w2 ⟨rfl, hb2⟩
              go_wp2_with fail
              refine (al _).mono ?_
              rintro e w3 ⟨rfl, hb3⟩
              go_wp2
              go_ret
              exact ⟨rfl, hb1.trans ((hb2.trans (hb3.mono hb2.size)).mono hb1.size)⟩
            · have gn' : (A != 9221120237041090560) = true := by rw [bne_iff_ne]; exact gn
              obtain ⟨c3, c4, c5, hx⟩ := blanks_more s (spL zs k) hs (by rw [spL_len zs k hz]; omega) (spL_blank zs k) t0 (by omega) (by omega) (by rw [hA]; exact gn)
              rw [hA] at c3 c4 hx
              clear gn
              generalize hM : A + 9223372036854775808 = M at *
              by_cases k0 : k = 0
              · have hE : (bs (spL zs k)).toList.isEmpty = true := by rw [bs_toList, k0]; rfl
                clear c5
                generalize bs (spL zs k) = X at *
                go_wp2_with fail
                refine (c1 _).mono ?_
                rintro e w1 ⟨rfl, hb1⟩
                go_wp2_with fail
                refine (c2 _).mono ?_
                rintro e w2 ⟨rfl, hb2⟩
                go_wp2_with fail
                refine (c3 _).mono ?_
                rintro e w3 ⟨rfl, hb3⟩
                go_wp2_with fail
                refine (c4 _).mono ?_
                rintro e w4 ⟨rfl, hb4⟩
                go_wp2_with fail
                refine (al _).mono ?_
                rintro e w5 ⟨rfl, hb5⟩
                go_wp2
                go_ret
                exact ⟨rfl, hb1.trans ((hb2.trans ((hb3.trans ((hb4.trans (hb5.mono hb4.size)).mono hb3.size)).mono hb2.size)).mono hb1.size)⟩
              · have ne : spL zs k ≠ [] := by intro e; have := spL_len zs k hz; rw [e] at this; simp at this; omega
                have c5 := c5 ne
                have hE : (bs (spL zs k)).toList.isEmpty = false := by rw [bs_toList]; exact empty_of _ ne
                clear ne
                generalize bs (spL zs k) = X at *
                go_wp2_with fail
                refine (c1 _).mono ?_
                rintro e w1 ⟨rfl, hb1⟩
                go_wp2_with fail
                refine (c2 _).mono ?_
                rintro e w2 ⟨rfl, hb2⟩
                go_wp2_with fail
                refine (c3 _).mono ?_
                rintro e w3 ⟨rfl, hb3⟩
                go_wp2_with fail
                refine (c4 _).mono ?_
                rintro e w4 ⟨rfl, hb4⟩
                go_wp2_with fail
                refine (al _).mono ?_
                rintro e w5 ⟨rfl, hb5⟩
                go_wp2_with fail
                refine (c5 _).mono ?_
                rintro e w6 ⟨rfl, hb6⟩
                go_wp2
                go_ret
                exact ⟨rfl, hb1.trans ((hb2.trans ((hb3.trans ((hb4.trans ((hb5.trans (hb6.mono hb5.size)).mono hb4.size)).mono hb3.size)).mono hb2.size)).mono hb1.size)⟩
          · generalize bs (spL zs k) = X at *
            go_wp2_with fail
            refine (c1 _).mono ?_
            rintro e w1 ⟨rfl, hb1⟩
            go_wp2_with fail
            refine (c2 _).mono ?_
            rintro e w2 ⟨rfl, hb2⟩
            go_wp2_with fail
            refine (al _).mono ?_
            rintro e w3 ⟨rfl, hb3⟩
            go_wp2
            go_ret
            exact ⟨rfl, hb1.trans ((hb2.trans (hb3.mono hb2.size)).mono hb1.size)⟩
        · generalize bs (spL zs k) = X at *
          go_wp2_with fail
          refine (c1 _).mono ?_
          rintro e w1 ⟨rfl, hb1⟩
          go_wp2_with fail
          refine (c2 _).mono ?_
          rintro e w2 ⟨rfl, hb2⟩
          go_wp2_with fail
          refine (al _).mono ?_
          rintro e w3 ⟨rfl, hb3⟩
          go_wp2
          go_ret
          exact ⟨rfl, hb1.trans ((hb2.trans (hb3.mono hb2.size)).mono hb1.size)⟩
      · generalize bs (spL zs k) = X at *
        go_wp2_with fail
        refine (c1 _).mono ?_
        rintro e w1 ⟨rfl, hb1⟩
        go_wp2_with fail
        refine (c2 _).mono ?_
        rintro e w2 ⟨rfl, hb2⟩
        go_wp2_with fail
        refine (al _).mono ?_
        rintro e w3 ⟨rfl, hb3⟩
        go_wp2
        go_ret
        exact ⟨rfl, hb1.trans ((hb2.trans (hb3.mono hb2.size)).mono hb1.size)⟩

end Go.Proofs.YtpejebohekcfoaaGreatDoor
