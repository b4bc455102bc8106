/- KP, KE, KF, KH, MH, LH, KI, MI, MJ, VN, KJ, MK, ML -/
import Derived.Test.YtkpdpdllbnihgaaGreatB8
import Derived.Test.YtkpdpdllbnihgaaGreatB1
import Derived.Test.YtkpdpdllbnihgaaGreatB3
import Derived.Test.YtkpdpdllbnihgaaGreatB14
import Derived.Test.YtkpdpdllbnihgaaGreatB18
import Derived.Test.YtkpdpdllbnihgaaGreatB17
import Derived.Test.YtkpdpdllbnihgaaGreatB12
import Derived.Test.YtkpdpdllbnihgaaGreatB15
set_option linter.unusedVariables false
set_option linter.unusedSimpArgs false
set_option maxRecDepth 100000
set_option maxHeartbeats 40000000
/- Keys that are places of elements: plain. -/
namespace Go.Proofs.YtkpdpdllbnihgaaGreat.Hp
open Go.RowKit
/-- the program's way: it stops as soon as it is too great -/
def ixF : List UInt8 → Nat → Option Nat
  | [], n => some n
  | c :: l, n => if 48 ≤ c.toNat ∧ c.toNat ≤ 57 then (if 4096 ≤ n * 10 + (c.toNat - 48) then none else ixF l (n * 10 + (c.toNat - 48))) else none
/-- the document's way -/
def rxF : List UInt8 → Nat → Option Nat
  | [], n => some n
  | c :: l, n => if 48 ≤ c.toNat ∧ c.toNat ≤ 57 then rxF l (n * 10 + (c.toNat - 48)) else none
def noughtB (k : ByteArray) : Bool := match k.data.toList with
  | c :: _ :: _ => decide (c = 48)
  | _ => false
def ixI (k : ByteArray) : Option Nat := if k.size = 0 ∨ noughtB k = true then none else ixF k.data.toList 0
def rxI (k : ByteArray) : Option Nat := if k.size = 0 ∨ 4 < k.size ∨ noughtB k = true then none else (rxF k.data.toList 0).filter (fun n => decide (n < 4096))
theorem rx_ge : ∀ (l : List UInt8) (n r : Nat), rxF l n = some r → n * 10 ^ l.length ≤ r
  | [], n, r, h => by
    simp only [rxF, Option.some.injEq] at h
    simp [h]
  | c :: l, n, r, h => by
    unfold rxF at h
    split at h
    · have := rx_ge l _ r h
      refine Nat.le_trans ?_ this
      rw [List.length_cons, Nat.pow_succ, ← Nat.mul_assoc, Nat.mul_right_comm]
      exact Nat.mul_le_mul_right _ (Nat.le_add_right _ _)
    · cases h
theorem rx_ge1 (l : List UInt8) (n r : Nat) (h : rxF l n = some r) : n ≤ r := by
  have h1 := rx_ge l n r h
  have h2 : 1 ≤ 10 ^ l.length := Nat.pow_pos (by omega)
  have h3 := Nat.mul_le_mul_left n h2
  omega
theorem ix_rx : ∀ (l : List UInt8) (n : Nat), n < 4096 → ixF l n = (rxF l n).filter (fun n => decide (n < 4096))
  | [], n, h => by simp [ixF, rxF, Option.filter, h]
  | c :: l, n, h => by
    unfold ixF rxF
    split
    · split
      · rename_i q
        cases hr : rxF l (n * 10 + (c.toNat - 48)) with
        | none => rfl
        | some r =>
          have := rx_ge1 _ _ _ hr
          simp only [Option.filter]
          rw [if_neg]
          simp
          omega
      · rename_i q
        exact ix_rx l _ (by omega)
    · rfl
theorem ix_same (k : ByteArray) : ixI k = rxI k := by
  unfold ixI rxI
  by_cases h0 : k.size = 0 ∨ noughtB k = true
  · rw [if_pos h0, if_pos (by rcases h0 with q | q; exact Or.inl q; exact Or.inr (Or.inr q))]
  · rw [if_neg h0]
    have e0 : k.size ≠ 0 := fun q => h0 (Or.inl q)
    have e1 : noughtB k ≠ true := fun q => h0 (Or.inr q)
    by_cases h4 : 4 < k.size
    · rw [if_pos (Or.inr (Or.inl h4)), ix_rx _ _ (by omega)]
      have hl : k.data.toList.length = k.size := Array.length_toList
      unfold noughtB at e1
      cases hd : k.data.toList with
      | nil => rw [hd] at hl; simp at hl; omega
      | cons c l =>
        rw [hd] at hl e1
        cases l with
        | nil => simp at hl; omega
        | cons c2 l2 =>
          simp only at e1
          cases hr : rxF (c :: c2 :: l2) 0 with
          | none => rfl
          | some r =>
            simp only [Option.filter]
            rw [if_neg]
            unfold rxF at hr
            split at hr
            · rename_i q
              have hc : c.toNat ≠ 48 := fun q2 => e1 (decide_eq_true (by apply UInt8.toNat_inj.1; rw [q2]; rfl))
              have h5 := rx_ge _ _ _ hr
              simp only [List.length_cons] at hl h5
              have h6 : 10 ^ 4 ≤ 10 ^ (l2.length + 1) := Nat.pow_le_pow_right (by omega) (by omega)
              have h7 : 1 * 10 ^ (l2.length + 1) ≤ (0 * 10 + (c.toNat - 48)) * 10 ^ (l2.length + 1) := Nat.mul_le_mul_right _ (by omega)
              simp
              omega
            · cases hr
    · rw [if_neg (by intro q; rcases q with q | q | q; exact e0 q; exact h4 q; exact e1 q), ix_rx _ _ (by omega)]
/-- a number, written -/
def dgF : Nat → Nat → List UInt8
  | 0, n => [UInt8.ofNat (48 + n % 10)]
  | f + 1, n => if n < 10 then [UInt8.ofNat (48 + n)] else dgF f (n / 10) ++ [UInt8.ofNat (48 + n % 10)]
def dgI (n : Nat) : ByteArray := ⟨(dgF 4 n).toArray⟩
theorem rx_app : ∀ (l m : List UInt8) (n : Nat), rxF (l ++ m) n = (rxF l n).bind (rxF m)
  | [], m, n => by simp [rxF]
  | c :: l, m, n => by
    rw [List.cons_append]
    unfold rxF
    split
    · exact rx_app l m _
    · rfl
theorem ofn (d : Nat) (h : d < 10) : (UInt8.ofNat (48 + d)).toNat = 48 + d := by
  rw [UInt8.toNat_ofNat']
  omega
theorem rx_one (d n : Nat) (h : d < 10) : rxF [UInt8.ofNat (48 + d)] n = some (n * 10 + d) := by
  unfold rxF rxF
  rw [ofn d h, if_pos (by omega)]
  congr 1
  omega
theorem dg_rx : ∀ (f n : Nat), n < 10 ^ (f + 1) → rxF (dgF f n) 0 = some n
  | 0, n, h => by
    have h : n < 10 := by simpa using h
    unfold dgF
    rw [Nat.mod_eq_of_lt h, rx_one n 0 h]
    simp
  | f + 1, n, h => by
    unfold dgF
    split
    · rename_i q
      rw [rx_one n 0 q]
      simp
    · have h1 : n / 10 < 10 ^ (f + 1) := by
        rw [Nat.pow_succ] at h
        exact Nat.div_lt_of_lt_mul (by omega)
      rw [rx_app, dg_rx f _ h1]
      show rxF _ (n / 10) = _
      rw [rx_one _ _ (Nat.mod_lt _ (by omega))]
      congr 1
      omega
theorem dg_head : ∀ (f n : Nat), 1 ≤ n → n < 10 ^ (f + 1) → ∃ c l, dgF f n = c :: l ∧ c.toNat ≠ 48
  | 0, n, h1, h => by
    have h : n < 10 := by simpa using h
    refine ⟨_, _, rfl, ?_⟩
    rw [Nat.mod_eq_of_lt h, ofn n h]
    omega
  | f + 1, n, h1, h => by
    unfold dgF
    split
    · rename_i q
      refine ⟨_, _, rfl, ?_⟩
      rw [ofn n q]
      omega
    · have h2 : n / 10 < 10 ^ (f + 1) := by
        rw [Nat.pow_succ] at h
        exact Nat.div_lt_of_lt_mul (by omega)
      obtain ⟨c, l, e, hc⟩ := dg_head f (n / 10) (by omega) h2
      exact ⟨c, l ++ [UInt8.ofNat (48 + n % 10)], by rw [e]; rfl, hc⟩
theorem dg_ix (n : Nat) (h : n < 4096) : ixI (dgI n) = some n := by
  have hr := dg_rx 4 n (by omega)
  have hs : (dgI n).data.toList = dgF 4 n := by simp [dgI]
  unfold ixI
  rw [if_neg]
  · rw [hs, ix_rx _ _ (by omega), hr]
    simp [Option.filter, h]
  · rintro (q | q)
    · have : (dgF 4 n).length = 0 := by rw [← hs, Array.length_toList]; exact q
      rw [List.eq_nil_of_length_eq_zero this] at hr
      by_cases c : n = 0
      · subst c
        simp [dgF] at this
      · simp [rxF] at hr
        omega
    · unfold noughtB at q
      rw [hs] at q
      by_cases c : n = 0
      · subst c
        simp [dgF] at q
      · obtain ⟨c, l, e, hc⟩ := dg_head 4 n (by omega) (by omega)
        rw [e] at q
        cases l with
        | nil => simp at q
        | cons c2 l2 =>
          simp only [decide_eq_true_eq] at q
          exact hc (by rw [q]; rfl)
end Go.Proofs.YtkpdpdllbnihgaaGreat.Hp
/- Index. -/
namespace Go.Proofs.YtkpdpdllbnihgaaGreat.Hp
open Go.RowKit
theorem at_ix (s : ByteArray) (k : Nat) (h : k < s.size) : s.data.toList[k]? = some s[k] := by
  rw [Array.getElem?_toList]
  exact Array.getElem?_eq_getElem h
theorem drop_ix (s : ByteArray) (k : Nat) (h : k < s.size) : s.data.toList.drop k = s[k] :: s.data.toList.drop (k + 1) := by
  have hl : k < s.data.toList.length := by rw [Array.length_toList]; exact h
  rw [List.drop_eq_getElem_cons hl]
  rfl
theorem nought_ix (s : ByteArray) (h : 1 < s.size) : noughtB s = decide (s[0]'(by omega) = 48) := by
  unfold noughtB
  have h0 := drop_ix s 0 (by omega)
  have h1 := drop_ix s 1 h
  rw [List.drop_zero] at h0
  rw [h0, h1]
theorem nought_one (s : ByteArray) (h : ¬ 1 < s.size) : noughtB s = false := by
  unfold noughtB
  have hl : s.data.toList.length = s.size := Array.length_toList
  cases hd : s.data.toList with
  | nil => rfl
  | cons c l =>
    cases l with
    | nil => rfl
    | cons c2 l2 =>
      rw [hd] at hl
      simp at hl
      omega
section
variable {s : ByteArray} {k n : Nat} (h : k < s.size) (e : ixI s = ixF (s.data.toList.drop k) n)
theorem ix_no (h : k < s.size) (e : ixI s = ixF (s.data.toList.drop k) n) (d : ¬ (48 ≤ (s[k]).toNat ∧ (s[k]).toNat ≤ 57)) : ixI s = none := by
  rw [e, drop_ix s k h]
  unfold ixF
  rw [if_neg d]
theorem ix_big (h : k < s.size) (e : ixI s = ixF (s.data.toList.drop k) n) (d : 48 ≤ (s[k]).toNat ∧ (s[k]).toNat ≤ 57) (g : 4096 ≤ n * 10 + ((s[k]).toNat - 48)) : ixI s = none := by
  rw [e, drop_ix s k h]
  unfold ixF
  rw [if_pos d, if_pos g]
theorem ix_next (h : k < s.size) (e : ixI s = ixF (s.data.toList.drop k) n) (d : 48 ≤ (s[k]).toNat ∧ (s[k]).toNat ≤ 57) (g : ¬ 4096 ≤ n * 10 + ((s[k]).toNat - 48)) : ixI s = ixF (s.data.toList.drop (k + 1)) (n * 10 + ((s[k]).toNat - 48)) := by
  rw [e, drop_ix s k h]
  conv => lhs; unfold ixF
  rw [if_pos d, if_neg g]
end
end Go.Proofs.YtkpdpdllbnihgaaGreat.Hp
/- The document's Index and Digits. -/
namespace Go.Proofs.YtkpdpdllbnihgaaGreat.Hp
open Go.RowKit
theorem rx_no {s : ByteArray} {k n : Nat} (h : k < s.size) (e : rxI s = (rxF (s.data.toList.drop k) n).filter (fun n => decide (n < 4096))) (d : ¬ (48 ≤ (s[k]).toNat ∧ (s[k]).toNat ≤ 57)) : rxI s = none := by
  rw [e, drop_ix s k h]
  unfold rxF
  rw [if_neg d]
  rfl
theorem rx_next {s : ByteArray} {k n : Nat} (h : k < s.size) (e : rxI s = (rxF (s.data.toList.drop k) n).filter (fun n => decide (n < 4096))) (d : 48 ≤ (s[k]).toNat ∧ (s[k]).toNat ≤ 57) : rxI s = (rxF (s.data.toList.drop (k + 1)) (n * 10 + ((s[k]).toNat - 48))).filter (fun n => decide (n < 4096)) := by
  rw [e, drop_ix s k h]
  conv => lhs; unfold rxF
  rw [if_pos d]
theorem rx_end {s : ByteArray} {k n : Nat} (h : s.size ≤ k) (e : rxI s = (rxF (s.data.toList.drop k) n).filter (fun n => decide (n < 4096))) : rxI s = if n < 4096 then some n else none := by
  rw [e, List.drop_of_length_le (by rw [Array.length_toList]; exact h)]
  simp only [rxF, Option.filter]
  by_cases q : n < 4096
  · simp [q]
  · simp [q]
end Go.Proofs.YtkpdpdllbnihgaaGreat.Hp
/- Own. -/
namespace Go.Proofs.YtkpdpdllbnihgaaGreat.Hp
open Go.RowKit
def lenS : ByteArray := ⟨#[108, 101, 110, 103, 116, 104]⟩
/-- what an object has of its own -/
def ownO (ob : Ob) (k : ByteArray) : Option De :=
  if ob.kind = 1 then
    if k = lenS then some ⟨intW (ob.el.length : Int), undW, 1⟩
    else match (ixI k).bind (fun n => elemI ob.el (n : Int)) with
      | some v => some ⟨v, undW, 7⟩
      | none => getO ob k
  else getO ob k
def ownH (H : He) (o : Int) (k : ByteArray) : Option De := (obO H o).bind (fun ob => ownO ob k)
section
variable {w w' w1 : World} {B hb : Nat} {O S : Nat → Prop} {H H' : He} {M M' : HV} {tg : Nat → Nat}
def arrB (H : He) (o : Int) : Bool := ((obO H o).map Ob.kind).getD 0 == 1
end
end Go.Proofs.YtkpdpdllbnihgaaGreat.Hp
/- The document's Elem of any word, and Own of an array. -/
namespace Go.Proofs.YtkpdpdllbnihgaaGreat.Hp
open Go.RowKit
section
variable {w W W' w' w1 : World} {B b n : Nat} {tg : Nat → Nat} {S : List So} {vo vt : SV} {qs : List QV}
theorem relem_o (h : StAt w B tg S vo qs) (vt : SV) (o : Int) (o0 : 0 ≤ o) (o1 : o < 18446744073709551616) (n : Int) :
    Calls Tryz.prog 53 #[stV vo vt, .int .u64 o, .int .i64 n] w fun e w' => e = .returned (.tuple #[.int .u64 (((soO S o).bind (fun x => elS x.el n)).getD 18445336698825998336), .bool ((soO S o).bind (fun x => elS x.el n)).isSome]) ∧ Below w.heap.size w w' := by
  by_cases c : n < 0 ∨ (lenO S o : Int) ≤ n
  · have e : (soO S o).bind (fun x => elS x.el n) = none := by
      cases hq : soO S o with
      | none => rfl
      | some x =>
        show elS x.el n = none
        unfold elS
        by_cases d : n < 0
        · rw [if_pos d]
        · rw [if_neg d]
          have hl : lenO S o = x.el.length := by unfold lenO; rw [hq]; rfl
          rw [hl] at c
          rw [List.getElem?_eq_none (by omega)]
          rfl
    rw [e]
    exact relem_low h vt o o0 o1 n c
  · cases hq : soO S o with
    | none =>
      have hl : lenO S o = 0 := by unfold lenO; rw [hq]; rfl
      rw [hl] at c
      omega
    | some x =>
      have hl : lenO S o = x.el.length := by unfold lenO; rw [hq]; rfl
      rw [hl] at c
      obtain ⟨i, h1, rfl, _⟩ := soO_some hq o0 o1
      have hn : n.toNat < x.el.length := by omega
      have hv : x.el[n.toNat]? = some x.el[n.toNat] := List.getElem?_eq_getElem hn
      have k := relem_in h vt h1 n.toNat _ hv
      rw [show ((n.toNat : Nat) : Int) = n from by omega] at k
      have e : elS x.el n = if x.el[n.toNat] = 18445336698825998340 then none else some x.el[n.toNat] := by
        unfold elS
        rw [if_neg (by omega), hv]
        rfl
      show Calls Tryz.prog 53 _ w fun e w' => e = .returned (.tuple #[.int .u64 ((elS x.el n).getD 18445336698825998336), .bool (elS x.el n).isSome]) ∧ Below w.heap.size w w'
      rw [e]
      by_cases d : x.el[n.toNat] = 18445336698825998340
      · rw [if_pos d, if_pos d] at k
        rw [if_pos d]
        exact k
      · rw [if_neg d, if_neg d] at k
        rw [if_neg d]
        exact k
/-- what the document says of an object's own property -/
def ownS (x : So) (k : ByteArray) : Option De :=
  if x.kind = 1 then
    if k = lenS then some ⟨intW (x.el.length : Int), undW, 1⟩
    else match rxI k with
      | some n => (elS x.el (n : Int)).map (fun v => ⟨v, undW, 7⟩)
      | none => getS x k
  else getS x k
end
end Go.Proofs.YtkpdpdllbnihgaaGreat.Hp
/- The document's Own of what is no array. -/
namespace Go.Proofs.YtkpdpdllbnihgaaGreat.Hp
open Go.RowKit
section
variable {w W W' w' w1 : World} {B b n : Nat} {tg : Nat → Nat} {S : List So} {vo vt : SV} {qs : List QV}
end
end Go.Proofs.YtkpdpdllbnihgaaGreat.Hp
/- Own, whole. -/
namespace Go.Proofs.YtkpdpdllbnihgaaGreat.Hp
open Go.RowKit
section
variable {w w' w1 : World} {B hb : Nat} {O S : Nat → Prop} {H H' : He} {M M' : HV} {tg : Nat → Nat}
theorem own_plain {o : Int} (ha : arrB H o = false) (k : ByteArray) : ownH H o k = getH H o k := by
  unfold ownH getH
  cases hq : obO H o with
  | none => rfl
  | some ob =>
    show ownO ob k = getO ob k
    unfold ownO
    rw [if_neg]
    intro q
    unfold arrB at ha
    rw [hq] at ha
    simp only [Option.map_some, Option.getD_some, q] at ha
    exact absurd ha (by decide)
theorem arr_ob {o : Int} (ha : arrB H o = true) : ∃ ob, obO H o = some ob ∧ ob.kind = 1 := by
  unfold arrB at ha
  cases hq : obO H o with
  | none => rw [hq] at ha; exact absurd ha (by decide)
  | some ob =>
    rw [hq] at ha
    simp only [Option.map_some, Option.getD_some] at ha
    exact ⟨ob, rfl, by simpa using ha⟩
theorem lenS_l : lenS.toList = [108, 101, 110, 103, 116, 104] := by first | decide +kernel | simp [lenS, ByteArray.toList, ByteArray.toList.loop]
/-- a call's end: the property, and whether there is one, are stored in the result -/
theorem fin3 {wb w6 : World} (hB : Below w.heap.size w wb) (hbx : Bx3 wb w.heap.size zDe) (q : Below wb.heap.size wb w6) (d : De) : Bx3 w6 w.heap.size zDe ∧ Bx3 (st3 w6 w.heap.size d) w.heap.size d ∧ Below w.heap.size w (st3 w6 w.heap.size d) :=
  ⟨hbx.below q, (hbx.below q).put _, st3_below (hB.trans (q.mono (Nat.le_of_lt hbx.lt))) (Nat.le_refl _) _⟩
end
end Go.Proofs.YtkpdpdllbnihgaaGreat.Hp
/- The document's Own of an array. -/
namespace Go.Proofs.YtkpdpdllbnihgaaGreat.Hp
open Go.RowKit
theorem intW_wrap (n : Int) : intW (wrap32 n) = intW n := by
  have e : wrap32 n % 4294967296 = n % 4294967296 := by unfold wrap32; omega
  unfold intW
  rw [e]
section
variable {w W W' w' w1 : World} {B b n : Nat} {tg : Nat → Nat} {S : List So} {vo vt : SV} {qs : List QV}
end
end Go.Proofs.YtkpdpdllbnihgaaGreat.Hp
/- The document's Own of any word. -/
namespace Go.Proofs.YtkpdpdllbnihgaaGreat.Hp
open Go.RowKit
section
variable {w W W' w' w1 : World} {B b n : Nat} {tg : Nat → Nat} {S : List So} {vo vt : SV} {qs : List QV}
end
end Go.Proofs.YtkpdpdllbnihgaaGreat.Hp
/- The prototypes above: plain; at, hit and miss in one. -/
namespace Go.Proofs.YtkpdpdllbnihgaaGreat.Hp
open Go.RowKit
/-- an object is another one -/
def He.setO (H : He) (i : Nat) (ob : Ob) : He := { H with obs := H.obs.set i ob }
/-- from a word on prototypes come to an end within n -/
def EndsH (H : He) : Nat → Int → Prop
  | 0, o => obO H o = none
  | n + 1, o => obO H o = none ∨ ∃ ob, obO H o = some ob ∧ EndsH H n ob.proto
theorem ends_step {H : He} {g : Nat} {o : Int} {ob : Ob} (he : EndsH H g o) (hq : obO H o = some ob) : ∃ g', g = g' + 1 ∧ EndsH H g' ob.proto := by
  cases g with
  | zero =>
    have he : obO H o = none := he
    rw [hq] at he
    cases he
  | succ g' =>
    have he : obO H o = none ∨ ∃ ob, obO H o = some ob ∧ EndsH H g' ob.proto := he
    rcases he with q | ⟨ob', q1, q2⟩
    · rw [hq] at q; cases q
    · rw [hq] at q1; cases q1; exact ⟨g', rfl, q2⟩
/-- is o among the prototypes above p? -/
def abvF (H : He) (o : Int) : Nat → Int → Bool
  | 0, _ => false
  | n + 1, p => match obO H p with
    | none => false
    | some ob => if ob.proto = o then true else abvF H o n ob.proto
theorem abv_none {H : He} {o p : Int} (h : obO H p = none) : ∀ n, abvF H o n p = false
  | 0 => rfl
  | n + 1 => by unfold abvF; rw [h]
theorem abv_step {H : He} {o p : Int} {n : Nat} {ob : Ob} (h : obO H p = some ob) : abvF H o (n + 1) p = if ob.proto = o then true else abvF H o n ob.proto := by
  rw [abvF, h]
/-- the word of an object's address; none where there is no object -/
def atV (H : He) (M : HV) (o : Int) : Value := match obI H o with
  | none => .pointer none
  | some i => .pointer (M.vo.ad.map (fun a => ⟨a.block, i * 12, none⟩))
section
variable {w w' w1 : World} {B hb : Nat} {O S : Nat → Prop} {H H' : He} {M M' : HV} {tg : Nat → Nat}
theorem at_any (h : HeapAt w B hb tg H M) (o : Int) (o0 : 0 ≤ o) (o1 : o < 18446744073709551616) :
    Calls Tryz.prog 55 #[.pointer (some ⟨hb, 0, none⟩), .int .u64 o] w fun e w' => e = .returned (atV H M o) ∧ w' = w := by
  unfold atV
  cases hq : obI H o with
  | none => exact at_miss h o o0 o1 hq
  | some i =>
    obtain ⟨ob, hi⟩ := obI_at hq
    obtain ⟨g, cap, ov, hvo, _⟩ := h.obj hi
    have := at_hit h o o0 o1 i g cap hq hvo
    simp only [hvo, Option.map_some]
    exact this
end
end Go.Proofs.YtkpdpdllbnihgaaGreat.Hp
/- Lookup. -/
namespace Go.Proofs.YtkpdpdllbnihgaaGreat.Hp
open Go.RowKit
def lookF (H : He) (k : ByteArray) : Nat → Int → Option (Int × De)
  | 0, _ => none
  | n + 1, o => match obO H o with
    | none => none
    | some ob => match ownO ob k with
      | some d => some (o, d)
      | none => lookF H k n ob.proto
theorem look_none {H : He} {k : ByteArray} {o : Int} (h : obO H o = none) : ∀ n, lookF H k n o = none
  | 0 => rfl
  | n + 1 => by unfold lookF; rw [h]
theorem look_step {H : He} {k : ByteArray} {n : Nat} {o : Int} {ob : Ob} (hq : obO H o = some ob) : lookF H k (n + 1) o = match ownO ob k with
    | some d => some (o, d)
    | none => lookF H k n ob.proto := by
  rw [lookF, hq]
section
variable {w w' w1 : World} {B hb : Nat} {O S : Nat → Prop} {H H' : He} {M M' : HV} {tg : Nat → Nat}
/-- on the way up -/
structure LkAt (w W : World) (H : He) (k : ByteArray) (R : Option (Int × De)) (o : Int) (g : Nat) : Prop where
  o0 : 0 ≤ o
  o1 : o < 18446744073709551616
  bel : Below w.heap.size w W
  bx : Bx3 W w.heap.size zDe
  en : EndsH H g o
  lk : R = lookF H k g o
end
end Go.Proofs.YtkpdpdllbnihgaaGreat.Hp
/- The document's Lookup. -/
namespace Go.Proofs.YtkpdpdllbnihgaaGreat.Hp
open Go.RowKit
def atI (S : List So) (o : Int) : Int := match obS S o with
  | some i => (i : Int)
  | none => -1
def lookS (S : List So) (k : ByteArray) : Nat → Int → Option (Int × De)
  | 0, _ => none
  | n + 1, o => match soO S o with
    | none => none
    | some x => match ownS x k with
      | some d => some (o, d)
      | none => lookS S k n x.proto
theorem lookS_none {S : List So} {k : ByteArray} {o : Int} (h : soO S o = none) : ∀ n, lookS S k n o = none
  | 0 => rfl
  | n + 1 => by unfold lookS; rw [h]
theorem lookS_step {S : List So} {k : ByteArray} {n : Nat} {o : Int} {x : So} (hq : soO S o = some x) : lookS S k (n + 1) o = match ownS x k with
    | some d => some (o, d)
    | none => lookS S k n x.proto := by
  rw [lookS, hq]
section
variable {w W W' w' w1 : World} {B b n : Nat} {tg : Nat → Nat} {S : List So} {vo vt : SV} {qs : List QV}
theorem rat_o (h : StAt w B tg S vo qs) (vt : SV) (o : Int) (o0 : 0 ≤ o) (o1 : o < 18446744073709551616) :
    Calls Tryz.prog 13 #[stV vo vt, .int .u64 o] w fun e w' => e = .returned (.int .i64 (atI S o)) ∧ Below w.heap.size w w' := by
  unfold atI
  cases hq : obS S o with
  | none => exact rat_miss h vt o o0 o1 hq
  | some i =>
    obtain ⟨h1, rfl⟩ := obS_some o0 o1 hq
    exact rat_any h vt h1
/-- on the way up -/
structure LkS (w W : World) (S : List So) (vo vt : SV) (k : ByteArray) (R : Option (Int × De)) (o : Int) (j : Nat) : Prop where
  o0 : 0 ≤ o
  o1 : o < 18446744073709551616
  bel : Below w.heap.size w W
  bs : BxS W w.heap.size vo vt
  bx : Bx3 W (w.heap.size + 1) zDe
  lk : R = lookS S k (S.length + 1 - j) o
end
end Go.Proofs.YtkpdpdllbnihgaaGreat.Hp
/- An object in the document's store is otherwise, its rows as they were. -/
namespace Go.Proofs.YtkpdpdllbnihgaaGreat.Hp
open Go.RowKit
section
variable {w W W' w' w1 : World} {B b n : Nat} {tg : Nat → Nat} {S : List So} {vo vt : SV} {qs : List QV} {i : Nat} {x x' : So} {q : QV}
theorem with_same (h : StAt w B tg S vo qs) (vt : SV) (hi : S[i]? = some x) (hq : qs[i]? = some q) (hrows : ∀ W O c, SoP W B O x q c → SoP W B O x' q c) (hl : x'.ds.length = x'.nm.length) :
    Calls Tryz.prog 73 #[stV vo vt, .int .i64 (i : Int), soV (x', q)] w fun e w' => e = .returned (stV vo vt) ∧ SWent w B tg (S.set i x') vo w' := by
  have hil : i < S.length := (List.getElem?_eq_some_iff.1 hi).1
  obtain ⟨g, cap, q', hv, hq', t1, hgl, hcell, hfz, hl1, hl2, hrow⟩ := h.obj hi
  obtain rfl : q' = q := by rw [hq] at hq'; exact (Option.some.inj hq').symm
  have hcel : CelO w g (i * 7) := ⟨fun j hj => by
    have hlen : (soC (x, q')).length = 7 := rfl
    exact ⟨_, hcell j _ (List.getElem?_eq_getElem (by omega))⟩, hfz⟩
  have k := with_any (cap := cap) vt i hcel hil h.big (x', q')
  rw [← hv] at k
  refine k.mono ?_
  rintro e w' ⟨rfl, w5, hB5, hC⟩
  obtain ⟨k1, k2⟩ := h.set' hi hq hv (Chg.of_below hB5) x' q' (fun _ => 0) (fun b r => absurd rfl r) (fun c hc => (hrows _ _ c (((h.below hB5).ob i x q' c hi hq hc).mono c (fun b _ r => by
    have r : tg b = 2 + 4 * i + c := r
    have hb := (h.lt b (by omega)).2
    show ntg tg (fun _ => 0) w.heap.size b = 2 + 4 * i + c
    unfold ntg
    rw [if_pos hb]
    exact r)))) hl
  have hz : ntg tg (fun _ => 0) w.heap.size (w.heap.size + 2) = 0 := by
    unfold ntg
    rw [if_neg (by omega)]
  have k3 := k1.kept hC (fun b r e => r (by rw [e]; exact hz))
  refine ⟨rfl, SWent.ntg k3 (k2.trans hC (fun b hb e => ?_))⟩
  omega
end
end Go.Proofs.YtkpdpdllbnihgaaGreat.Hp
