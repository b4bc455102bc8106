/- The document's tree: every term. -/
import Derived.Test.YtihmdcdifakepaaWN
namespace Go.Proofs.Ytihmdcdifakepaa.Sc
open Go.RowKit
set_option linter.unusedVariables false

set_option maxRecDepth 100000 in
theorem term_at_once {B pb : Nat} {W0 : World} (kind pl num : Int) (name op : ByteArray) (ad : Option Addr) (len cap : Nat) (gen : Bool) (w : World) (vU vV : Value) (m m' : Nat) (hb : Below B W0 w) (hp : PlAt B pb w none m vU vV) (hm : m ≤ m') (F : Nat) (hF : F = 34) :
    Calls Try.prog F #[.pointer (some ⟨pb, 0, none⟩), .agg #[.int .i64 kind, .int .i64 pl, .string name, .int .u64 num, .string op, .slice ad len cap], .bool gen] w fun e w' => e = .returned (.tuple #[]) ∧ ∃ vU' vV', PlAt B pb w' none m' vU' vV' ∧ Stp pb w vU vV w' vU' vV' ∧ Below B W0 w' := by
  subst hF
  obtain ⟨wb, hwb⟩ : ∃ wb, wb = w.alloc (.cells #[.int .i64 kind, .int .i64 pl, .string name, .int .u64 num, .string op, .slice ad len cap] 25) := ⟨_, rfl⟩
  have FR : Hid (Fr B pb W0 w vU vV w.heap.size #[.int .i64 kind, .int .i64 pl, .string name, .int .u64 num, .string op, .slice ad len cap] wb vU vV none m) := by rw [hwb]; exact Fr.start hb hp _ _
  obtain ⟨c2, f2⟩ := FR.out.pl.bad
  simp only [Option.isNone_none] at c2
  clear hb hp
  go_enter Try.func34, Try.ntmps34
  go_upto_region 1 with fail
  rw [← hwb]
  clear hwb
  go_wp2_with fail
  refine bodyPost_ret (results_none rfl _ _ _) rfl ?_
  exact ⟨rfl, FR.out.done rfl (by omega)⟩

theorem term_rc {B pb : Nat} {W0 : World} {n : Nat} (H : KidsRC B pb W0 n) (hB : B = W0.heap.size) (x : Nd) (s : Sli (Tr n)) (gen : Bool) (hok : okT (n + 1) W0 ((x, s) : Nd × Sli (Tr n)))
    (hf : RC B pb W0 33 #[.pointer (some ⟨pb, 0, none⟩), valT (n + 1) ((x, s) : Nd × Sli (Tr n))] (functR (kidT n) (semR n) x s.xs) (szL s.xs)) :
    RC B pb W0 34 #[.pointer (some ⟨pb, 0, none⟩), valT (n + 1) ((x, s) : Nd × Sli (Tr n)), .bool gen] (termR (kidT n) (semR n) x s.xs gen) (szT (n + 1) ((x, s) : Nd × Sli (Tr n))) := by
  intro w vU vV st m hb hp hm
  have hl : s.xs.length ≤ 2 ^ 63 - 1 := Nat.le_trans hok.2.1.len hok.2.1.cap
  have hsl := hok.2.1
  have hkd := hok.2.2
  obtain ⟨kind, pl, name, num, op⟩ := x
  obtain ⟨ad, cap, xs⟩ := s
  rw [val_succ] at hf ⊢
  have hz : szT (n + 1) ((⟨kind, pl, name, num, op⟩, ⟨ad, cap, xs⟩) : Nd × Sli (Tr n)) = 1 + szL xs := rfl
  rw [hz] at hm ⊢
  simp only at hf hl hsl hkd ⊢
  cases st with
  | none => exact term_at_once kind pl num name op ad xs.length cap gen w vU vV m _ hb hp (by omega) 34 rfl
  | some a =>
    show Calls _ _ _ _ fun e w' => _ ∧ ∃ vU' vV', PlAt B pb w' (if kind = 12 then functR (kidT n) (semR n) ⟨kind, pl, name, num, op⟩ xs (if isS name [] = false then decR pl (some a) else some a)
      else if (shapeR ⟨kind, pl, name, num, op⟩).2.2 = false ∨ (xs.length : Int) < (shapeR ⟨kind, pl, name, num, op⟩).1 ∨ (0 ≤ (shapeR ⟨kind, pl, name, num, op⟩).2.1 ∧ (shapeR ⟨kind, pl, name, num, op⟩).2.1 < (xs.length : Int)) then none
      else foldR (termKidR (semR n) ⟨kind, pl, name, num, op⟩ gen) xs (startR (kidT n) ⟨kind, pl, name, num, op⟩ xs gen a)) _ vU' vV' ∧ _
    by_cases h12 : kind = 12
    · subst h12
      rw [if_pos rfl]
      cases hn : isS name [] with
      | true =>
        rw [if_neg (by simp)]
        exact term_fn_plain H hB pl num name op ad cap xs gen hsl hkd hn hf w vU vV a m hb hp hm hl
      | false =>
        rw [if_pos rfl]
        exact term_fn_named H hB pl num name op ad cap xs gen hsl hkd hn hf w vU vV a m hb hp hm hl
    · rw [if_neg h12]
      by_cases hcond : (shapeR ⟨kind, pl, name, num, op⟩).2.2 = false ∨ (xs.length : Int) < (shapeR ⟨kind, pl, name, num, op⟩).1 ∨ (0 ≤ (shapeR ⟨kind, pl, name, num, op⟩).2.1 ∧ (shapeR ⟨kind, pl, name, num, op⟩).2.1 < (xs.length : Int))
      · rw [if_pos hcond]
        exact term_bad H hB kind pl num name op ad cap xs gen hsl hkd h12 hcond w vU vV a m hb hp hm hl
      · rw [if_neg hcond]
        have hc : (shapeR ⟨kind, pl, name, num, op⟩).2.2 = true ∧ ¬ (xs.length : Int) < (shapeR ⟨kind, pl, name, num, op⟩).1 ∧ ¬ (0 ≤ (shapeR ⟨kind, pl, name, num, op⟩).2.1 ∧ (shapeR ⟨kind, pl, name, num, op⟩).2.1 < (xs.length : Int)) := by
          refine ⟨?_, fun q => hcond (Or.inr (Or.inl q)), fun q => hcond (Or.inr (Or.inr q))⟩
          cases z : (shapeR ⟨kind, pl, name, num, op⟩).2.2 with
          | true => rfl
          | false => exact absurd (Or.inl z) hcond
        clear hcond
        by_cases h3 : kind = 3
        · subst h3
          have e : startR (kidT n) ⟨3, pl, name, num, op⟩ xs gen a = useR pl (some a) := by unfold startR; rw [if_neg (by simp), if_neg (by simp), if_pos rfl]
          rw [e]
          exact term_name H hB pl num name op ad cap xs gen hsl hkd hc w vU vV a m hb hp hm hl
        by_cases h10 : kind = 10
        · subst h10
          rw [start_some _ _ _ _ (by simp) (by simp) (by simp) (by simp)]
          exact term_obj H hB pl num name op ad cap xs gen hsl hkd hc w vU vV a m hb hp hm hl
        by_cases h22 : kind = 22
        · subst h22
          cases gen with
          | true =>
            have e : startR (kidT n) ⟨22, pl, name, num, op⟩ xs true a = some a := by unfold startR; rw [if_neg (by simp), if_neg (by simp), if_neg (by simp)]
            rw [e]
            exact term_yieldyes H hB pl num name op ad cap xs true hsl hkd hc rfl w vU vV a m hb hp hm hl
          | false =>
            have e : startR (kidT n) ⟨22, pl, name, num, op⟩ xs false a = none := by unfold startR; rw [if_pos (Or.inr ⟨rfl, rfl⟩)]
            rw [e]
            exact term_yieldno H hB pl num name op ad cap xs false hsl hkd hc rfl w vU vV a m hb hp hm hl
        by_cases h21 : kind = 21
        · subst h21
          have hs2 : shapeR ⟨21, pl, name, num, op⟩ = (2, 2, oneB op assignL) := by unfold shapeR; simp
          have hlen : 0 < xs.length := by have := hc.2.1; rw [hs2] at this; simp at this; omega
          obtain ⟨k0, hk0, _⟩ := kid_get hlen
          have e : startR (kidT n) ⟨21, pl, name, num, op⟩ xs gen a = if (ndT n k0).kind ≠ 3 ∧ (ndT n k0).kind ≠ 13 then none else some a := by
            have ek : kd0 (kidT n) xs 0 = (ndT n k0).kind := by unfold kd0; rw [hk0]; exact kd_nd n k0
            unfold startR
            simp only [ek]
            simp
          rw [e]
          by_cases q3 : (ndT n k0).kind = 3
          · rw [if_neg (by omega)]
            exact term_given0 H hB pl num name op ad cap xs gen hsl hkd hc k0 hk0 _ rfl q3 w vU vV a m hb hp hm hl
          by_cases q13 : (ndT n k0).kind = 13
          · rw [if_neg (by omega)]
            exact term_given1 H hB pl num name op ad cap xs gen hsl hkd hc k0 hk0 _ rfl q13 w vU vV a m hb hp hm hl
          rw [if_pos ⟨q3, q13⟩]
          exact term_given2 H hB pl num name op ad cap xs gen hsl hkd hc k0 hk0 _ rfl q3 q13 w vU vV a m hb hp hm hl
        by_cases h17 : kind = 17
        · subst h17
          have hs2 : shapeR ⟨17, pl, name, num, op⟩ = (1, 1, oneB op updateL) := by unfold shapeR; simp
          have hlen : 0 < xs.length := by have := hc.2.1; rw [hs2] at this; simp at this; omega
          obtain ⟨k0, hk0, _⟩ := kid_get hlen
          have e : startR (kidT n) ⟨17, pl, name, num, op⟩ xs gen a = if isS name preS = false ∧ isS name postS = false then none else if (ndT n k0).kind ≠ 3 ∧ (ndT n k0).kind ≠ 13 then none else some a := by
            have ek : kd0 (kidT n) xs 0 = (ndT n k0).kind := by unfold kd0; rw [hk0]; exact kd_nd n k0
            unfold startR
            simp only [ek]
            simp
          rw [e]
          by_cases n1 : isS name preS = true
          · rw [if_neg (by rw [n1]; simp)]
            by_cases q3 : (ndT n k0).kind = 3
            · rw [if_neg (by omega)]
              exact term_step00 H hB pl num name op ad cap xs gen hsl hkd hc k0 hk0 _ rfl q3 n1 w vU vV a m hb hp hm hl
            by_cases q13 : (ndT n k0).kind = 13
            · rw [if_neg (by omega)]
              exact term_step10 H hB pl num name op ad cap xs gen hsl hkd hc k0 hk0 _ rfl q13 n1 w vU vV a m hb hp hm hl
            rw [if_pos ⟨q3, q13⟩]
            exact term_step20 H hB pl num name op ad cap xs gen hsl hkd hc k0 hk0 _ rfl q3 q13 n1 w vU vV a m hb hp hm hl
          · have n1' : isS name preS = false := by simpa using n1
            by_cases n2 : isS name postS = true
            · rw [if_neg (by rw [n2]; simp)]
              by_cases q3 : (ndT n k0).kind = 3
              · rw [if_neg (by omega)]
                exact term_step01 H hB pl num name op ad cap xs gen hsl hkd hc k0 hk0 _ rfl q3 n1' n2 w vU vV a m hb hp hm hl
              by_cases q13 : (ndT n k0).kind = 13
              · rw [if_neg (by omega)]
                exact term_step11 H hB pl num name op ad cap xs gen hsl hkd hc k0 hk0 _ rfl q13 n1' n2 w vU vV a m hb hp hm hl
              rw [if_pos ⟨q3, q13⟩]
              exact term_step21 H hB pl num name op ad cap xs gen hsl hkd hc k0 hk0 _ rfl q3 q13 n1' n2 w vU vV a m hb hp hm hl
            · have n2' : isS name postS = false := by simpa using n2
              rw [if_pos ⟨n1', n2'⟩]
              by_cases q3 : (ndT n k0).kind = 3
              · exact term_step02 H hB pl num name op ad cap xs gen hsl hkd hc k0 hk0 _ rfl q3 n1' n2' w vU vV a m hb hp hm hl
              by_cases q13 : (ndT n k0).kind = 13
              · exact term_step12 H hB pl num name op ad cap xs gen hsl hkd hc k0 hk0 _ rfl q13 n1' n2' w vU vV a m hb hp hm hl
              exact term_step22 H hB pl num name op ad cap xs gen hsl hkd hc k0 hk0 _ rfl q3 q13 n1' n2' w vU vV a m hb hp hm hl
        rw [start_some _ _ _ _ h3 h17 h21 h22]
        exact term_other H hB kind pl num name op ad cap xs gen hsl hkd hc h12 h3 h17 h21 h22 h10 w vU vV a m hb hp hm hl
end Go.Proofs.Ytihmdcdifakepaa.Sc
