/- Package lex: said. -/
import Derived.Test.YtaikkmehmiiffaaGreatDoorZ13
import Derived.Test.YtaikkmehmiiffaaGreatDoorD2
namespace Go.Proofs.YtaikkmehmiiffaaGreatDoor.Lx
open Go.RowKit
set_option linter.unusedVariables false

theorem grown_of_below {w w' : World} (h : Below w.heap.size w w') : w.grownBy w' none := ⟨h.os, h.tape, h.output, h.size, fun k hk _ => h.block k hk⟩

theorem isB_below {w w' : World} {B b : Nat} {xs : List Value} (h : Lib.IsBuilder 88 5 B b xs w) (hb : Below w.heap.size w w') : Lib.IsBuilder 88 5 B b xs w' := by
  have key : ∀ p, Lib.BuilderAt 88 5 B b p xs w → Lib.BuilderAt 88 5 B b p xs w' := by
    rintro p ⟨hB, v, hk, hown, hne⟩
    have g := grown_of_below hb
    exact ⟨hB, v, (g.block b (Array.getElem?_eq_some_iff.1 hk).1 (by simp)).trans hk, hown.kept g (by cases hv : v.ownBlock <;> simp), hne⟩
  rcases h with h | h
  · exact Or.inl (key _ h)
  · exact Or.inr (key _ h)

/-- the length of a string -/
def strL : Value → Nat
  | .string s => s.size
  | _ => 0

/-- said, with so much gathered and so much to come -/
structure SdAt (l : List UInt8) (w0 wr : World) (pre r : List UInt8) : Prop where
  val : saidI l = if (saidI r).2 = true then (pre ++ (saidI r).1, true) else ([], false)
  bd : Lib.IsBuilder 88 5 w0.heap.size w0.heap.size (Lib.byteCells pre) wr
  bel : Below w0.heap.size w0 wr
  len : pre.length + r.length ≤ l.length
  asc : asc r

theorem said_any (l : List UInt8) (w : World) (hl : l.length ≤ 900000) (ha : asc l) (hE : ErrAt w) :
    Calls Tryz.prog 52 #[.string (bs l)] w fun e w' => e = .returned (.tuple #[.string (bs (saidI l).1), .bool (saidI l).2]) ∧ Below w.heap.size w w' := by
  have hmf : ∀ (fn : Fn) (first cap : Array Value) (w : World), (Instr.makeFunc fn first cap).run Tryz.prog w = .ok (.func fn first cap) w := fun _ _ _ _ => rfl
  have B0 := (Below.refl w.heap.size w).alloc (Nat.le_refl _) (.cells #[.pointer none, .slice none 0 0] 88)
  have HS : Hid (SdAt l w (w.alloc (.cells #[.pointer none, .slice none 0 0] 88)) [] l) := by
    refine ⟨?_, Lib.fresh_isBuilder 88 5 w, B0, by simp, ha⟩
    by_cases h : (saidI l).2 = true
    · rw [if_pos h]
      refine Prod.ext ?_ h
      simp
    · rw [if_neg h]
      have : (saidI l).2 = false := by simpa using h
      refine Prod.ext ?_ this
      rw [saidI_eq] at this ⊢
      revert this
      split
      · intro k; simp at k
      · split
        · intro _; rfl
        · split
          · intro k; simp at k
          · intro _; rfl
  have HE : Hid (ErrAt w) := hE
  clear ha hE B0
  go_enter Tryz.func52, Tryz.ntmps52
  go_wp2_with fail
  generalize w.alloc (.cells #[.pointer none, .slice none 0 0] 88) = w1 at *
  go_loopw [0] (fun i wr => ∃ pre r, SdAt l w wr pre r ∧ i = .string (bs r)) (fun i wr => strL i)
  case atStart => exact ⟨[], l, HS.out, rfl⟩
  case round =>
    obtain ⟨pre, r, hr, rfl⟩ := hrel
    have ln := hr.len
    have as0 := hr.asc
    have c1 := run_pure pRaw 76 pure_raw r wr (by omega) (Or.inl as0)
    have n1 := cntP_le pRaw r
    have E := saidI_eq r
    have V := hr.val
    have hsz : (bs r).size ≤ 1000000 := by rw [bs_size]; omega
    have hn : ((cntP pRaw r : Nat) : Int) ≤ (bs r).size := by rw [bs_size]; omega
    have t1 : (bs r).extract 0 (cntP pRaw r) = bs (r.take (cntP pRaw r)) := bs_take r _
    have t2 : (bs r).extract (cntP pRaw r) (bs r).size = bs (r.drop (cntP pRaw r)) := bs_drop r _
    have HB : Hid (Lib.IsBuilder 88 5 w.heap.size w.heap.size (Lib.byteCells pre) wr ∧ Below w.heap.size w wr) := ⟨hr.bd, hr.bel⟩
    have cW : ∀ w2, Below wr.heap.size wr w2 → Calls Tryz.prog 77 #[.pointer (some ⟨w.heap.size, 0, none⟩), .string (bs (r.take (cntP pRaw r)))] w2 fun e w' => e = .returned (.tuple #[.int .i64 ((bs (r.take (cntP pRaw r))).size : Int), .nilIface]) ∧ Hid (Lib.IsBuilder 88 5 w.heap.size w.heap.size (Lib.byteCells (pre ++ r.take (cntP pRaw r))) w' ∧ Below w.heap.size w w') := by
      intro w2 h2
      have b2 := isB_below HB.out.1 h2
      have bw := HB.out.2.trans (h2.mono HB.out.2.size)
      refine (writeString_any w.heap.size w.heap.size _ (bs (r.take (cntP pRaw r))) w2 b2 (by rw [Lib.byteCells_length, bs_size, List.length_take]; omega) bw.size).mono ?_
      rintro e w' ⟨rfl, h3, h4, _⟩
      refine ⟨rfl, ?_, bw.trans h4⟩
      rw [Lib.byteCells_append]
      exact Or.inr h3
    have hD : (r.drop (cntP pRaw r)).length = r.length - cntP pRaw r := List.length_drop
    by_cases dz : r.drop (cntP pRaw r) = []
    · -- the end
      rw [if_pos dz] at E
      have HV : Hid (bs (saidI l).1 = bs (pre ++ r.take (cntP pRaw r)) ∧ (saidI l).2 = true) := by
        show _ ∧ _
        rw [V, E]
        simp
      have hz : (bs (r.drop (cntP pRaw r))).toList = [] := by rw [dz, bs_toList]
      have cS : ∀ w3, Hid (Lib.IsBuilder 88 5 w.heap.size w.heap.size (Lib.byteCells (pre ++ r.take (cntP pRaw r))) w3 ∧ Below w.heap.size w w3) → Calls Tryz.prog 78 #[.pointer (some ⟨w.heap.size, 0, none⟩)] w3 fun e w' => e = .returned (.string (bs (pre ++ r.take (cntP pRaw r)))) ∧ Below w.heap.size w w' := by
        intro w3 h3
        refine (Tryz.Builder_String_any w.heap.size w.heap.size _ w3 h3.out.1 h3.out.2.size).mono ?_
        rintro e w' ⟨rfl, h4⟩
        exact ⟨rfl, h3.out.2.trans h4⟩
      clear E V hr dz hD as0 HB n1 ln
      generalize bs (pre ++ r.take (cntP pRaw r)) = T3 at *
      generalize bs (r.take (cntP pRaw r)) = T1 at *
      generalize bs (r.drop (cntP pRaw r)) = T2 at *
      generalize cntP pRaw r = N at *
      generalize bs r = s at *
      go_wp2_with fail
      refine c1.mono ?_
      rintro e w2 ⟨rfl, h2⟩
      go_wp2_with fail
      refine (cW _ h2).mono ?_
      rintro e w3 ⟨rfl, h3⟩
      go_wp2_with fail
      refine (cS _ h3).mono ?_
      rintro e w4 ⟨rfl, h4⟩
      go_wp2_with fail
      go_ret2
      rw [HV.out.1, HV.out.2]
      exact ⟨rfl, h4⟩
    · rw [if_neg dz] at E
      have hz : (bs (r.drop (cntP pRaw r))).toList.isEmpty = false := by
        rw [bs_toList]
        simpa using dz
      have cE : ∀ w3, Hid (Lib.IsBuilder 88 5 w.heap.size w.heap.size (Lib.byteCells (pre ++ r.take (cntP pRaw r))) w3 ∧ Below w.heap.size w w3) → Calls Tryz.prog 79 #[.string (bs (r.drop (cntP pRaw r)))] w3 fun e w' => e = .returned (.tuple #[.int .u8 ((escI (r.drop (cntP pRaw r))).1.toNat : Int), .int .i64 (((escI (r.drop (cntP pRaw r))).2 : Nat) : Int)]) ∧ Hid (Lib.IsBuilder 88 5 w.heap.size w.heap.size (Lib.byteCells (pre ++ r.take (cntP pRaw r))) w' ∧ Below w.heap.size w w') := by
        intro w3 h3
        refine (esc_any (r.drop (cntP pRaw r)) w3 (by rw [hD]; omega) (HE.out.below h3.out.2)).mono ?_
        rintro e w' ⟨rfl, h4⟩
        exact ⟨rfl, isB_below h3.out.1 h4, h3.out.2.trans (h4.mono h3.out.2.size)⟩
      have el := escI_le (r.drop (cntP pRaw r))
      by_cases ez : (escI (r.drop (cntP pRaw r))).2 = 0
      · rw [if_pos ez] at E
        have HV : Hid (bs (saidI l).1 = ⟨#[]⟩ ∧ (saidI l).2 = false) := by
          show _ ∧ _
          rw [V, E]
          exact ⟨rfl, rfl⟩
        rw [ez] at cE
        clear E V hr dz hD as0 HB n1 ln el ez
        generalize (escI (r.drop (cntP pRaw r))).1.toNat = C at *
        generalize bs (r.take (cntP pRaw r)) = T1 at *
        generalize bs (r.drop (cntP pRaw r)) = T2 at *
        generalize cntP pRaw r = N at *
        generalize bs r = s at *
        go_wp2_with fail
        refine c1.mono ?_
        rintro e w2 ⟨rfl, h2⟩
        go_wp2_with fail
        refine (cW _ h2).mono ?_
        rintro e w3 ⟨rfl, h3⟩
        go_wp2_with fail
        refine (cE _ h3).mono ?_
        rintro e w4 ⟨rfl, h4⟩
        go_wp2_with fail
        go_ret2
        rw [HV.out.1, HV.out.2]
        exact ⟨rfl, h4.out.2⟩
      · rw [if_neg ez] at E
        have cB : ∀ w4, Hid (Lib.IsBuilder 88 5 w.heap.size w.heap.size (Lib.byteCells (pre ++ r.take (cntP pRaw r))) w4 ∧ Below w.heap.size w w4) → Calls Tryz.prog 80 #[.pointer (some ⟨w.heap.size, 0, none⟩), .int .u8 ((escI (r.drop (cntP pRaw r))).1.toNat : Int)] w4 fun e w' => e = .returned .nilIface ∧ Hid (SdAt l w w' (pre ++ r.take (cntP pRaw r) ++ [(escI (r.drop (cntP pRaw r))).1]) (r.drop (cntP pRaw r + (escI (r.drop (cntP pRaw r))).2))) := by
          intro w4 h4
          refine (writeByte_any w.heap.size w.heap.size _ _ w4 h4.out.1 (by rw [Lib.byteCells_length, List.length_append, List.length_take]; omega) h4.out.2.size).mono ?_
          rintro e w' ⟨rfl, h5, h6, _⟩
          refine ⟨rfl, ?_, ?_, h4.out.2.trans h6, ?_, asc_drop as0 _⟩
          · rw [V, E]
            by_cases q : (saidI (r.drop (cntP pRaw r + (escI (r.drop (cntP pRaw r))).2))).2 = true
            · rw [if_pos q, if_pos q]
              simp
            · rw [if_neg q, if_neg q]
              simp
          · rw [Lib.byteCells_append (pre ++ r.take (cntP pRaw r))]
            exact Or.inr h5
          · rw [List.length_append, List.length_append, List.length_take, List.length_drop]
            simp only [List.length_cons, List.length_nil]
            rw [hD] at el
            omega
        have nz : (((escI (r.drop (cntP pRaw r))).2 : Int) == 0) = false := by simp; exact ez
        have t3 : (bs (r.drop (cntP pRaw r))).extract (escI (r.drop (cntP pRaw r))).2 (bs (r.drop (cntP pRaw r))).size = bs (r.drop (cntP pRaw r + (escI (r.drop (cntP pRaw r))).2)) := by rw [bs_drop, List.drop_drop]
        have hn2 : (((escI (r.drop (cntP pRaw r))).2 : Nat) : Int) ≤ (bs (r.drop (cntP pRaw r))).size := by rw [bs_size]; omega
        have hs2 : (bs (r.drop (cntP pRaw r))).size ≤ 1000000 := by rw [bs_size, hD]; omega
        have HM : Hid ((bs (r.drop (cntP pRaw r + (escI (r.drop (cntP pRaw r))).2))).size < (bs r).size) := by
          show _ < _
          rw [bs_size, bs_size, List.length_drop]
          rw [hD] at el
          omega
        clear E V hr dz hD as0 HB n1 ln el ez
        generalize hR : r.drop (cntP pRaw r + (escI (r.drop (cntP pRaw r))).2) = R at *
        generalize (escI (r.drop (cntP pRaw r))).1 = C at *
        generalize (escI (r.drop (cntP pRaw r))).2 = n at *
        generalize bs (r.take (cntP pRaw r)) = T1 at *
        generalize bs (r.drop (cntP pRaw r)) = T2 at *
        generalize r.take (cntP pRaw r) = tk at *
        clear hR
        generalize cntP pRaw r = N at *
        generalize bs r = s at *
        go_wp2_with fail
        refine c1.mono ?_
        rintro e w2 ⟨rfl, h2⟩
        go_wp2_with fail
        refine (cW _ h2).mono ?_
        rintro e w3 ⟨rfl, h3⟩
        go_wp2_with fail
        refine (cE _ h3).mono ?_
        rintro e w4 ⟨rfl, h4⟩
        go_wp2_with fail
        refine (cB _ h4).mono ?_
        rintro e w5 ⟨rfl, h5⟩
        go_wp2_with fail
        exact ⟨⟨_, R, h5.out, rfl⟩, HM.out⟩

end Go.Proofs.YtaikkmehmiiffaaGreatDoor.Lx
