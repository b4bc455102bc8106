/- The tied card of LexParts: two texts, parted by a new line, have the tokens of both, if each has tokens by itself; what is wrong with the first one is wrong with both. Joined: Z24 Z25 LexParts -/
import Derived.Test.YtaikkmehmiiffaaGreatDoorZ23
import Derived.Test.YtaikkmehmiiffaaGreatDoorZ22
import Derived.Test.YtaikkmehmiiffaaGreatDoorZG
import Derived.Test.YtaikkmehmiiffaaGreatDoorCards
import Derived.Test.YtaikkmehmiiffaaGreatDoorTie
import Derived.WalkKit
import Derived.ProofKit
import Derived.OpenShut
import Derived.ShutString
import Derived.ChangeOld
import Derived.Below
import Derived.Carry
import Derived.LaidMore
import Derived.Lay
import Derived.SevenTiedAt
import Derived.Stop.Joined
/- LexParts: the law's walk, but where both texts have tokens. -/
namespace Go.Proofs.YtaikkmehmiiffaaGreatDoor.Lx
open Go.RowKit
set_option linter.unusedVariables false

abbrev AliveC (w : World) : Prop := ∀ w1, Below w.heap.size w w1 → Calls Tryz.prog 9 #[] w1 fun e w' => e = .returned (.bool true) ∧ Below w1.heap.size w1 w'

theorem parts_long (a b : ByteArray) (w : World) (al : AliveC w) (hz : a.size ≤ maxLen) (hz2 : b.size ≤ maxLen) (h : 65536 < a.size ∨ (a.size ≤ 65536 ∧ 65536 ≤ b.size + a.size)) :
    Calls Tryz.prog 6 #[.string a, .string b] w fun e w' => e = .returned (.bool true) ∧ Below w.heap.size w w' := by
  unfold maxLen at *
  rcases h with h | ⟨h, h2⟩
  · go_enter Tryz.func6, Tryz.ntmps6
    go_wp2_with (go_at_call 9; refine (al _ (Below.refl _ _)).mono ?_; rintro e w1 ⟨rfl, hb⟩)
    go_ret
    exact ⟨rfl, hb⟩
  · go_enter Tryz.func6, Tryz.ntmps6
    go_wp2_with (go_at_call 9; refine (al _ (Below.refl _ _)).mono ?_; rintro e w1 ⟨rfl, hb⟩)
    go_ret
    exact ⟨rfl, hb⟩

set_option maxHeartbeats 4000000 in
set_option maxRecDepth 100000 in
theorem parts_err (a b c : ByteArray) (X Y Z : List Tok × Nat × Nat) (b1 b2 b3 b4 b5 b6 b7 b8 b9 : Bool) (w : World) (al : AliveC w) (hs : a.size + b.size + 1 ≤ 65536) (hcat : (a ++ ⟨#[10]⟩) ++ b = c)
    (cX : ∀ w1, Below w.heap.size w w1 → Calls Tryz.prog 10 #[.string a] w1 (ScanPost w1 X)) (cY : ∀ w1, Below w.heap.size w w1 → Calls Tryz.prog 10 #[.string b] w1 (ScanPost w1 Y)) (cZ : ∀ w1, Below w.heap.size w w1 → Calls Tryz.prog 10 #[.string c] w1 (ScanPost w1 Z))
    (h1 : ((X.2.2 : Int) != 0) = b1) (h2 : ((Y.2.2 : Int) != 0) = b2) (h3 : ((Z.2.2 : Int) != 0) = b3) (h4 : ((X.2.2 : Int) == 52) = b4) (h5 : ((X.2.2 : Int) == 0) = b5) (h6 : ((Y.2.2 : Int) == 51) = b6) (h7 : ((X.2.2 : Int) != 51) = b7) (h8 : ((Z.2.2 : Int) == (X.2.2 : Int)) = b8) (h9 : ((Z.2.1 : Int) == (X.2.1 : Int)) = b9)
    (hb : (b1 || b2) = true) (hf1 : (b3 || b4) = true) (hf2 : (b5 || b4 || (b6 && b7) || (b8 && b9)) = true) :
    Calls Tryz.prog 6 #[.string a, .string b] w fun e w' => e = .returned (.bool true) ∧ Below w.heap.size w w' := by
  have HF : Hid ((b1 || b2) = true ∧ (b3 || b4) = true ∧ (b5 || b4 || (b6 && b7) || (b8 && b9)) = true) := ⟨hb, hf1, hf2⟩
  have as1 : (a ++ (⟨#[10]⟩ : ByteArray)).size = a.size + 1 := by rw [ByteArray.size_append]; rfl
  clear hb hf1 hf2
  go_enter Tryz.func6, Tryz.ntmps6
  go_wp2_with fail
  refine (al _ (Below.refl _ _)).mono ?_
  rintro e w1 ⟨rfl, b1'⟩
  go_wp2_with fail
  refine (cX _ b1').mono ?_
  rintro e w2 ⟨v1, rfl, o1, k2⟩
  have B2 := b1'.trans (k2.mono b1'.size)
  clear o1 k2
  go_wp2_with fail
  refine (cY _ B2).mono ?_
  rintro e w3 ⟨v2, rfl, o2, k3⟩
  have B3 := B2.trans (k3.mono B2.size)
  clear o2 k3
  go_wp2_with fail
  refine (cZ _ B3).mono ?_
  rintro e w4 ⟨v3, rfl, o3, k4⟩
  have B4 := B3.trans (k4.mono B3.size)
  clear o3 k4 B3 B2 b1' cX cY cZ
  generalize (X.2.2 : Int) = xe at *
  generalize (X.2.1 : Int) = xp at *
  generalize (Y.2.2 : Int) = ye at *
  generalize (Y.2.1 : Int) = yp at *
  generalize (Z.2.2 : Int) = ze at *
  generalize (Z.2.1 : Int) = zp at *
  have al4 := al _ B4
  clear al
  cases b1
  · have b2t : b2 = true := by simpa using HF.out.1
    subst b2t
    go_wp2_with fail
    refine al4.mono ?_
    rintro e w5 ⟨rfl, k5⟩
    have B5 := B4.trans (k5.mono B4.size)
    clear k5
    go_wp2_with fail
    all_goals (go_ret; refine ⟨?_, B5⟩; have hf := HF.out; simp_all)
  · go_wp2_with fail
    refine al4.mono ?_
    rintro e w5 ⟨rfl, k5⟩
    have B5 := B4.trans (k5.mono B4.size)
    clear k5
    go_wp2_with fail
    all_goals (go_ret; refine ⟨?_, B5⟩; have hf := HF.out; simp_all)

end Go.Proofs.YtaikkmehmiiffaaGreatDoor.Lx

/- LexParts: the law's walk where both texts have tokens. -/
namespace Go.Proofs.YtaikkmehmiiffaaGreatDoor.Lx
open Go.RowKit
set_option linter.unusedVariables false

theorem flat_len (ts : List Tok) : (ts.flatMap tokC).length = ts.length * 4 := by
  induction ts with
  | nil => rfl
  | cons a r ih =>
    rw [List.flatMap_cons, List.length_append, ih]
    show 4 + _ = _
    simp only [List.length_cons]
    omega

theorem flat_one (ts : List Tok) : ∀ u ∈ ts.flatMap tokC, u.oneCell' = true := by
  intro u hu
  rw [List.mem_flatMap] at hu
  obtain ⟨t, _, h⟩ := hu
  unfold tokC at h
  exact row_one u h

/-- the cells of the first tokens -/
theorem flat_news {w : World} {g : Nat} (ts : List Tok) (n : Nat) (h : ∀ i t, ts[i]? = some t → ∀ j u, (tokC t)[j]? = some u → w.cell? ⟨g, i * 4 + j, none⟩ = some u) :
    ∀ j u, ((ts.take n).flatMap tokC)[j]? = some u → w.cell? ((⟨g, 0, none⟩ : Addr).add j) = some u := by
  intro j u hj
  have hadd : (⟨g, 0, none⟩ : Addr).add j = ⟨g, j, none⟩ := by unfold Addr.add; split <;> simp_all
  have jl : j < (ts.take n).length * 4 := by
    rcases Nat.lt_or_ge j ((ts.take n).length * 4) with k | k
    · exact k
    · rw [List.getElem?_eq_none (by rw [flat_len]; exact k)] at hj
      exact absurd hj (by simp)
  have il : j / 4 < (ts.take n).length := by omega
  obtain ⟨t, ht⟩ : ∃ t, (ts.take n)[j / 4]? = some t := ⟨_, List.getElem?_eq_getElem il⟩
  have e := flat_at (ts.take n) (j / 4) (j % 4) (by omega) t ht
  rw [show j / 4 * 4 + j % 4 = j from by omega, hj] at e
  have tt : ts[j / 4]? = some t := by
    rw [List.getElem?_take] at ht
    split at ht
    · exact ht
    · exact absurd ht (by simp)
  have := h (j / 4) t tt (j % 4) u e.symm
  rw [hadd]
  rw [show j / 4 * 4 + j % 4 = j from by omega] at this
  exact this

structure PtAt (tx ty : List Tok) (n d : Nat) (w4 wr : World) (v : Value) (k : Nat) : Prop where
  le : k ≤ ty.length
  own : TokSl w4.heap.size wr v (tx.take n ++ (ty.take k).map (shiftT d))
  bel : Below w4.heap.size w4 wr

set_option maxHeartbeats 4000000 in
set_option maxRecDepth 100000 in
theorem parts_ok (a b c : ByteArray) (tx ty tz : List Tok) (n : Nat) (w : World) (al : AliveC w) (hs : a.size + b.size + 1 ≤ 65536) (hcat : (a ++ ⟨#[10]⟩) ++ b = c) (hn : tx.length = n + 1) (nb : n ≤ 70000) (mb : ty.length ≤ 70000) (hpl : ∀ t ∈ ty, t.pl ≤ 65536)
    (hz : tz = tx.take n ++ ty.map (shiftT (a.size + 1)))
    (cX : ∀ w1, Below w.heap.size w w1 → Calls Tryz.prog 10 #[.string a] w1 (ScanPost w1 (tx, 0, 0))) (cY : ∀ w1, Below w.heap.size w w1 → Calls Tryz.prog 10 #[.string b] w1 (ScanPost w1 (ty, 0, 0))) (cZ : ∀ w1, Below w.heap.size w w1 → Calls Tryz.prog 10 #[.string c] w1 (ScanPost w1 (tz, 0, 0))) (hy : ty ≠ []) :
    Calls Tryz.prog 6 #[.string a, .string b] w fun e w' => e = .returned (.bool true) ∧ Below w.heap.size w w' := by
  have as1 : (a ++ (⟨#[10]⟩ : ByteArray)).size = a.size + 1 := by rw [ByteArray.size_append]; rfl
  obtain ⟨i0, hi, hz0, hz1, hz2⟩ := info_parts info31
  have HZ : Hid (tz = tx.take n ++ ty.map (shiftT (a.size + 1))) := hz
  have HN : Hid (tx.length = n + 1) := hn
  have HP : Hid (∀ t ∈ ty, t.pl ≤ 65536) := hpl
  clear hz hpl
  go_enter Tryz.func6, Tryz.ntmps6
  go_wp2_with fail
  refine (al _ (Below.refl _ _)).mono ?_
  rintro e w1 ⟨rfl, b1'⟩
  go_wp2_with fail
  refine (cX _ b1').mono ?_
  rintro e w2 ⟨v1, rfl, o1, k2⟩
  have B2 := b1'.trans (k2.mono b1'.size)
  go_wp2_with fail
  refine (cY _ B2).mono ?_
  rintro e w3 ⟨v2, rfl, o2, k3⟩
  have B3 := B2.trans (k3.mono B2.size)
  go_wp2_with fail
  refine (cZ _ B3).mono ?_
  rintro e w4 ⟨v3, rfl, o3, k4⟩
  have B4 := B3.trans (k4.mono B3.size)
  have o1' : TokSl w1.heap.size w4 v1 tx := TokSl.kept (TokSl.kept o1 k3) k4
  have o2' : TokSl w2.heap.size w4 v2 ty := TokSl.kept o2 k4
  obtain ⟨g1, p1, rfl, l1, m1, _, gw1, k1⟩ := TokSl.cells o1' (by intro z; rw [z] at hn; simp at hn)
  obtain ⟨g2, p2, rfl, l2, m2, _, gw2, c2⟩ := TokSl.cells o2' hy
  have H2 : Hid (∀ i t, ty[i]? = some t → ∀ j u, (tokC t)[j]? = some u → w4.cell? ⟨g2, i * 4 + j, none⟩ = some u) := c2
  have H3 : Hid (TokSl w3.heap.size w4 v3 tz) := o3
  have H4 : Hid (Below w.heap.size w w4) := B4
  have own0 : (w4.alloc (.cells #[] 31)).ownsRow w4.heap.size 31 4 (.slice (some ⟨w4.heap.size, 0, none⟩) 0 0) 0 [] := ⟨rfl, Or.inr ⟨w4.heap.size, 0, #[], rfl, Nat.le_refl _, heap_alloc_new w4 _, Nat.le_refl _, by decide, rfl, rfl⟩⟩
  have Ba := (Below.refl w4.heap.size w4).alloc (Nat.le_refl _) (.cells #[] 31)
  have news := flat_news (w := w4.alloc (.cells #[] 31)) (g := g1) tx n (fun i t hi j u hj => by rw [Ba.cell (p := ⟨g1, i * 4 + j, none⟩) gw1]; exact k1 i t hi j u hj)
  have nl : ((tx.take n).flatMap tokC).length = n * 4 := by rw [flat_len, List.length_take, hn]; omega
  have on1 := flat_one (tx.take n)
  have bw : w4.heap.size ≤ (w4.alloc (.cells #[] 31)).heap.size := Ba.size
  have lx : (tx, 0, 0).1.length = n + 1 := hn
  clear o1 o2 o3 k2 k3 k4 o1' o2' c2 k1 cX cY cZ B2 B3 B4 b1'
  rw [lx]
  go_wp2_with (at_builtin; refine wpList_append_own _ rfl _ _ 23 rfl w4.heap.size 31 i0 (.agg #[.int .i64 0, .int .i64 0, .string ⟨#[]⟩, .int .u64 0]) 4 40 Tryz.underlying23 hi hz0 hz1 hz2 rfl (by decide) (.slice (some ⟨w4.heap.size, 0, none⟩) 0 0) 0 [] rfl own0 ⟨g1, 0, none⟩ n p1 ((tx.take n).flatMap tokC) rfl nl news on1 (by unfold maxLen; omega) (by omega) bw ?_)
  intro v' w5 ho hg _
  have HI : Hid (PtAt tx ty n (a.size + 1) w4 w5 v' 0) := by
    refine ⟨Nat.zero_le _, ?_, ?_⟩
    · unfold TokSl
      rw [List.take_zero, List.map_nil, List.append_nil, List.length_take, hn, show min n (n + 1) = n from by omega]
      exact ho
    · exact Ba.grown hg bw (by intro k hk; simp [Value.ownBlock] at hk; omega)
  clear ho hg own0 news nl on1 bw Ba lx l1 m1 gw1
  go_wp2_with fail
  go_loopw [14, 15] (fun wv i wr => ∃ k : Nat, PtAt tx ty n (a.size + 1) w4 wr wv k ∧ i = .int .i64 k) (fun wv i wr => ty.length - (intOf i).toNat)
  case atStart => exact ⟨0, HI.out, rfl⟩
  case round =>
    obtain ⟨k, hr, rfl⟩ := hrel
    have kle := hr.le
    have HO := hr.own
    have HB := hr.bel
    clear hr
    rcases Nat.lt_or_ge k ty.length with kn | kn
    · obtain ⟨t, ht⟩ : ∃ t, ty[k]? = some t := ⟨_, List.getElem?_eq_getElem kn⟩
      have tp := HP.out t (List.mem_of_getElem? ht)
      have kc : ∀ j, wr.cell? ⟨g2, j, none⟩ = w4.cell? ⟨g2, j, none⟩ := fun j => HB.cell (p := ⟨g2, j, none⟩) gw2
      have a0 : wr.cell? ⟨g2, k * 4, none⟩ = some (.int .i64 (t.kind : Int)) := (kc _).trans (H2.out k _ ht 0 _ rfl)
      have a1 : wr.cell? ⟨g2, k * 4 + 1, none⟩ = some (.int .i64 (t.pl : Int)) := (kc _).trans (H2.out k _ ht 1 _ rfl)
      have a2 : wr.cell? ⟨g2, k * 4 + 2, none⟩ = some (.string (bs t.text)) := (kc _).trans (H2.out k _ ht 2 _ rfl)
      have a3 : wr.cell? ⟨g2, k * 4 + 3, none⟩ = some (.int .u64 (t.num : Int)) := (kc _).trans (H2.out k _ ht 3 _ rfl)
      have tk : (ty.take (k + 1)).map (shiftT (a.size + 1)) = (ty.take k).map (shiftT (a.size + 1)) ++ [shiftT (a.size + 1) t] := by
        rw [List.take_add_one, ht, List.map_append]
        rfl
      have hlen : (tx.take n ++ (ty.take k).map (shiftT (a.size + 1))).length = n + k := by
        rw [List.length_append, List.length_take, List.length_map, List.length_take, hn]
        omega
      obtain ⟨q, hq⟩ : ∃ q, q = t.pl + (a.size + 1) := ⟨_, rfl⟩
      have HNx : Hid (∀ v2 w2, w2.ownsRow w4.heap.size 31 4 v2 (n + k + 1) ((tx.take n ++ (ty.take k).map (shiftT (a.size + 1))).flatMap tokC ++ [.int .i64 (t.kind : Int), .int .i64 (q : Int), .string (bs t.text), .int .u64 (t.num : Int)]) → Below w4.heap.size w4 w2 → PtAt tx ty n (a.size + 1) w4 w2 v2 (k + 1)) := by
        intro v2 w2 ho hb
        refine ⟨kn, ?_, hb⟩
        unfold TokSl
        rw [tk, ← List.append_assoc, List.flatMap_append, List.length_append, hlen]
        have e : [shiftT (a.size + 1) t].flatMap tokC = [.int .i64 (t.kind : Int), .int .i64 (q : Int), .string (bs t.text), .int .u64 (t.num : Int)] := by
          rw [hq]
          rfl
        rw [e]
        exact ho
      have HO' : wr.ownsRow w4.heap.size 31 4 u14 (n + k) ((tx.take n ++ (ty.take k).map (shiftT (a.size + 1))).flatMap tokC) := by
        have := HO
        unfold TokSl at this
        rw [hlen] at this
        exact this
      have e1 : (t.pl : Int) + (a.size : Int) + 1 = (q : Int) := by omega
      have qb : q ≤ 200000 := by omega
      have pi : (t.pl : Int) ≤ 65536 := by omega
      have ai : (a.size : Int) ≤ 65536 := by omega
      have gne : g2 < wr.heap.size := by have := HB.size; omega
      clear kc tk hlen HO ht hq tp
      generalize (tx.take n ++ (ty.take k).map (shiftT (a.size + 1))).flatMap tokC = OLD at *
      generalize t.kind = kd at *
      generalize t.pl = pl at *
      generalize bs t.text = TX at *
      generalize t.num = nu at *
      have HO4 := own_alloc HO' (.cells #[.int .i64 (kd : Int), .int .i64 (q : Int), .string TX, .int .u64 (nu : Int)] 31)
      have HB4 := HB.alloc HB.size (.cells #[.int .i64 (kd : Int), .int .i64 (q : Int), .string TX, .int .u64 (nu : Int)] 31)
      have HO5 := own_alloc HO4 (.cells #[.int .i64 (kd : Int), .int .i64 (q : Int), .string TX, .int .u64 (nu : Int)] 31)
      have HB5 := HB4.alloc HB4.size (.cells #[.int .i64 (kd : Int), .int .i64 (q : Int), .string TX, .int .u64 (nu : Int)] 31)
      have NW := (row4_new (wr.alloc (.cells #[.int .i64 (kd : Int), .int .i64 (q : Int), .string TX, .int .u64 (nu : Int)] 31)) 31 (.int .i64 (kd : Int)) (.int .i64 (q : Int)) (.string TX) (.int .u64 (nu : Int))).news
      have sz4 : (wr.alloc (.cells #[.int .i64 (kd : Int), .int .i64 (q : Int), .string TX, .int .u64 (nu : Int)] 31)).heap.size = wr.heap.size + 1 := by show (wr.heap.push _).size = _; simp
      rw [sz4] at NW
      clear HO4 HB4 sz4
      go_wp2_with (at_builtin; refine wpList_append_own _ rfl _ _ 23 rfl w4.heap.size 31 i0 (.agg #[.int .i64 0, .int .i64 0, .string ⟨#[]⟩, .int .u64 0]) 4 40 Tryz.underlying23 hi hz0 hz1 hz2 rfl (by decide) u14 (n + k) OLD rfl HO5 ⟨wr.heap.size + 1, 0, none⟩ 1 1 [.int .i64 (kd : Int), .int .i64 (q : Int), .string TX, .int .u64 (nu : Int)] rfl rfl NW row_one (by unfold maxLen; omega) (by omega) HB5.size ?_)
      intro v2 w6 ho hg _
      have HR : Hid (PtAt tx ty n (a.size + 1) w4 w6 v2 (k + 1)) := HNx.out v2 w6 ho (HB5.grown hg HB5.size (own_base HO5))
      clear ho hg HO5 HB5 NW HNx HO' HB
      go_wp2_with fail
      refine ⟨⟨k + 1, HR.out, by go_num⟩, ?_⟩
      simp [intOf]
      omega
    · have ke : k = ty.length := by omega
      have hw : TokSl w4.heap.size wr u14 tz := by
        rw [HZ.out]
        rw [ke, List.take_length] at HO
        exact HO
      have B6 := H4.out.trans (HB.mono H4.out.size)
      have zl : tz.length ≤ 200000 := by
        rw [HZ.out, List.length_append, List.length_take, List.length_map]
        omega
      have al6 := al _ B6
      have cs : ∀ w7, Below wr.heap.size wr w7 → Calls Tryz.prog 12 #[v3, u14] w7 fun e w' => e = .returned (.bool true) ∧ Below w7.heap.size w7 w' := by
        intro w7 h7
        exact same_any tz _ _ v3 u14 w7 zl ((H3.out.kept HB).kept h7) (hw.kept h7)
      subst ke
      clear hw HO HB kle kn
      go_wp2_with fail
      refine al6.mono ?_
      rintro e w7 ⟨rfl, b7⟩
      go_wp2_with fail
      refine (cs _ b7).mono ?_
      rintro e w8 ⟨rfl, b8⟩
      have B7 := B6.trans (b7.mono B6.size)
      have B8 := B7.trans (b8.mono B7.size)
      go_wp2_with fail
      go_ret
      exact ⟨rfl, B8⟩

theorem chain_pl {lit : List UInt8 → Nat × Bool} {s : List UInt8} {ts : List Tok} (h : Chain lit s ts) : ∀ t ∈ ts, t.pl ≤ s.length := by
  induction ts with
  | nil => intro t ht; simp at ht
  | cons a r ih =>
    cases r with
    | nil =>
      intro t ht
      simp at ht
      subst ht
      rw [show t = ⟨0, s.length, [], 0⟩ from h]
      exact Nat.le_refl _
    | cons b r =>
      intro t ht
      rcases List.mem_cons.1 ht with rfl | ht
      · have := h.1.rise
        have := h.1.fit
        omega
      · exact ih h.2 t ht

theorem parts_walk (a b : List UInt8) (w : World) (hG : Glob w) (ha : a.length ≤ maxLen) (hb : b.length ≤ maxLen) : Calls Tryz.prog 6 #[.string (bs a), .string (bs b)] w fun e w' => e = .returned (.bool true) ∧ Below w.heap.size w w' := by
  have al : AliveC w := fun w1 (h : Below w.heap.size w w1) => alive_any w1 (hG.below h)
  by_cases hl : a.length + 1 + b.length ≤ 65536
  · have hcat : (bs a ++ ⟨#[10]⟩) ++ bs b = bs (a ++ 10 :: b) := by
      apply ByteArray.ext
      unfold bs
      simp
    have cX := fun w1 (h : Below w.heap.size w w1) => scan_any a w1 (hG.below h)
    have cY := fun w1 (h : Below w.heap.size w w1) => scan_any b w1 (hG.below h)
    have cZ := fun w1 (h : Below w.heap.size w w1) => scan_any (a ++ 10 :: b) w1 (hG.below h)
    have P : Parts (scI a) (scI b) (scI (a ++ 10 :: b)) (a.length + 1) := parts_plain litN a b hl
    by_cases ok : (scI a).2.2 = 0 ∧ (scI b).2.2 = 0
    · obtain ⟨ch1, z1, l1, _⟩ := scan_chain litN a ok.1
      obtain ⟨ch2, z2, l2, _⟩ := scan_chain litN b ok.2
      have r1 : scI a = ((scI a).1, 0, 0) := Prod.ext rfl (Prod.ext z1 ok.1)
      have r2 : scI b = ((scI b).1, 0, 0) := Prod.ext rfl (Prod.ext z2 ok.2)
      have r3 := P.both ok.1 ok.2
      obtain ⟨n, hn, _⟩ := chain_last ch1
      obtain ⟨m, hm, _⟩ := chain_last ch2
      have c1 : (scI a).1.length ≤ a.length + 1 := by
        cases hts : (scI a).1 with
        | nil => simp
        | cons t r => have h : t.pl + (scI a).1.length ≤ a.length + 1 := chain_len ch1 t r hts; rw [← hts]; omega
      have c2 : (scI b).1.length ≤ b.length + 1 := by
        cases hts : (scI b).1 with
        | nil => simp
        | cons t r => have h : t.pl + (scI b).1.length ≤ b.length + 1 := chain_len ch2 t r hts; rw [← hts]; omega
      have hn' : (scI a).1.length = n + 1 := hn
      have pl2 := chain_pl ch2
      rw [r1] at cX
      rw [r2] at cY
      rw [r3] at cZ
      refine parts_ok (bs a) (bs b) _ (scI a).1 (scI b).1 _ n w al (by rw [bs_size, bs_size]; omega) hcat hn' (by omega) (by omega) (fun t ht => by have := pl2 t ht; omega) ?_ cX cY cZ ?_
      · rw [bs_size, List.dropLast_eq_take, hn']
        rfl
      · intro z
        have hm' : (scI b).1.length = m + 1 := hm
        rw [z] at hm'
        simp at hm'
    · have hb1 : (scI a).2.2 ≠ 0 ∨ (scI b).2.2 ≠ 0 := by
        by_cases q : (scI a).2.2 = 0
        · exact Or.inr (fun k => ok ⟨q, k⟩)
        · exact Or.inl q
      refine parts_err (bs a) (bs b) _ (scI a) (scI b) (scI (a ++ 10 :: b)) _ _ _ _ _ _ _ _ _ w al (by rw [bs_size, bs_size]; omega) hcat cX cY cZ rfl rfl rfl rfl rfl rfl rfl rfl rfl ?_ ?_ ?_
      · simp
        omega
      · have := P.one hb1
        simp
        omega
      · have := P.two
        simp
        omega
  · refine parts_long (bs a) (bs b) w al ha hb ?_
    rw [bs_size, bs_size]
    omega

end Go.Proofs.YtaikkmehmiiffaaGreatDoor.Lx

/- The tied card of LexParts: two texts, parted by a new line, have the tokens of both, if each has tokens by itself; what is wrong with the first one is wrong with both. -/
namespace Go.Proofs.YtaikkmehmiiffaaGreatDoor.lexParts
open Go.ChangeShapes Go.WideShapes Go.ChangeAt Go.RowKit
open Go.ChangeMaps (open_string shut_string)
set_option linter.unusedVariables false

theorem own : ownKnob Tryz.prog.godebug = none := by kernel_rfl

set_option maxRecDepth 100000 in
theorem lifted (os : Os) (started : os.Started) (H : Type) (enc : TypeId × Value → H) :
    ReturnsInHanded {} Tryz.checked os 6 .any (fun w args => (Rows.lexPartsSpec.pre enc Tryz.prog Tryz.f6 Rows.lexPartsRow.domain false w args ∧ laidMetH Tryz.prog Rows.lexPartsRow.laid w) ∧ sizedMet enc Tryz.prog Tryz.f6 (OpenSpec.ofChange Rows.lexPartsSpec) false w args)
      (Rows.lexPartsSpec.post enc Tryz.prog Tryz.f6 false true false false) := by
  refine returnsInHanded_of_change_and (C := Tryz.checked) (X := fun w _ => laidMetH Tryz.prog Rows.lexPartsRow.laid w) (fun _ _ _ hh h => h.of_heap hh) own started (by kernel_rfl) Tryz.func6
    (ChangeSpec.witness_shaped (enc := enc) (C := Tryz.checked) (os := os) (X := fun w _ => laidMetH Tryz.prog Rows.lexPartsRow.laid w) false (World.laidAll Tryz.prog os Rows.lexPartsRow.laid) #[.string ByteArray.empty, .string ByteArray.empty] 8 (World.laidAll_os _ _ _)
      (World.shaped_of_ZipB (by kernel_rfl) (by kernel_rfl)) (by kernel_rfl) (by kernel_rfl) (by kernel_rfl)
      (by rw [MakeChecks.laidMetH_plain _ _ _ (by kernel_rfl)]; exact laidMet_laidAll _ (by kernel_rfl) (by kernel_rfl))) ?_
  intro W base args ds gs before hval0 hW hc _ hL _
  have hval : ∀ (j : Nat) t v, Tryz.f6.params[j]? = some t → args[j]? = some v → Value.okWide Tryz.prog W .any base t v := hval0
  have hW' := hW
  obtain ⟨p, q, hA0, hV, rfl, hfz, hnd⟩ := hW
  have hA : DataW.TrodAll enc Tryz.prog W 0 (fun _ => true) true Tryz.f6.params.toList args.toList ds p := hA0
  rw [Tryz.params6] at hA hval
  obtain ⟨v0, vs0, d0, ds0, p0, q0, hargs, rfl, rfl, h0, r0⟩ := trodAll_cons hA
  obtain ⟨v1, vs1, d1, ds1, p1, q1, rfl, rfl, rfl, h1, r1⟩ := trodAll_cons r0
  obtain ⟨rfl, rfl, rfl⟩ := trodAll_nil r1
  obtain rfl : args = #[v0, v1] := by cases args; simp_all
  obtain ⟨rfl, rfl⟩ := trodVars_none hV
  obtain ⟨a0, rfl, rfl, rfl, w0⟩ := open_string Tryz.underlying9 (hval 0 9 v0 rfl rfl) h0
  obtain ⟨a1, rfl, rfl, rfl, w1⟩ := open_string Tryz.underlying9 (hval 1 9 v1 rfl rfl) h1
  clear hA0 hval0
  simp only [List.append_nil] at hW'
  have W1 := Lx.parts_walk a0.data.toList a1.data.toList W (Lx.glob_of hL) (by rw [← Lx.size_len]; exact w0) (by rw [← Lx.size_len]; exact w1)
  rw [← Lx.bs_of a0, ← Lx.bs_of a1] at W1
  refine W1.mono fun e W' ⟨he, bel⟩ => ?_
  subst he
  exact ⟨_, rfl, _, _, _, [], [], [], hW', trodAll_mk1 (shut_bool Tryz.underlying4 _), (trodAll_cons_mk (shut_string Tryz.underlying9 w0) (trodAll_cons_mk (shut_string Tryz.underlying9 w1) trodAll_mk0)), rfl, bel.frame _, fun h => by cases h⟩

theorem holds : Rows.LexPartsSaid :=
  OpenClaim.holds_of_wide 6 Tryz.f6 rfl rfl rfl rfl rfl rfl rfl ⟨rfl, rfl, rfl, rfl, rfl⟩ rfl rfl rfl rfl rfl (by kernel_rfl) Tryz.func6 (by kernel_rfl)
    (of_decide_eq_true (by kernel_rfl)) (by unfold Func.isWrapper; first | (rw [if_pos (by decide +kernel)]; kernel_rfl) | (rw [if_neg (by decide +kernel)]; exact ⟨rfl, rfl⟩))
    (fun os started H enc _ => lifted os started H enc)

end Go.Proofs.YtaikkmehmiiffaaGreatDoor.lexParts
namespace Go.Proofs.YtaikkmehmiiffaaGreatDoor
set_option linter.unusedVariables false

/-- THE TIED CARD: two texts, parted by a new line, have the tokens of both, if each has tokens by itself; what is wrong with the first one is wrong with both. -/
theorem lexParts_holds : Rows.LexPartsCardSaid :=
  Claim7.holds_tied_plain_at .later [] [.data, .data, .data, .data, .sentinel, .sentinel, .data, .pinned] true (true, "162bc1f2d0fbb2a9ee65f8d35b9c2240d51e7f24cf5a5b01e6eaf978b090ad0e") true lexParts.holds (fun _ h => by cases h) (by kernel_rfl) (fun _ h => by cases h) lexParts_row_tie rfl ⟨rfl, rfl⟩ (by kernel_rfl) rfl
    (fun f fn hf hfn => by
      obtain rfl : f = 6 := Option.some.inj ((show Tryz.prog.funcNamed "brazier/brazierlaw05.LexParts" = some 6 by kernel_rfl).symm.trans hf) |>.symm
      obtain rfl : fn = Tryz.f6 := (Option.some.inj (Tryz.func6.symm.trans hfn)).symm
      exact ⟨by kernel_rfl, fun j t ht => by
        rw [Tryz.params6] at ht
        have hm : t ∈ [9, 9] := by simpa using Array.mem_of_getElem? ht
        have hall : ([9, 9].all fun u => !Tryz.prog.wantsStandIn u) = true := by kernel_rfl
        exact (show Tryz.prog.wantsStandIn t = false by simpa using List.all_eq_true.1 hall t hm)⟩)
    (by kernel_rfl)
end Go.Proofs.YtaikkmehmiiffaaGreatDoor
