/- ScopeRenamed, plain: names with more behind them. -/
import Derived.Test.YtihmdcdifakepaaB23
import Derived.Test.YtihmdcdifakepaaB24
import Derived.Laws.Concat
namespace Go.Proofs.Ytihmdcdifakepaa.Rv
open Go.RowKit Go.Proofs.Ytihmdcdifakepaa.Sc Go.Proofs.Ytihmdcdifakepaa.Rz
set_option linter.unusedVariables false
set_option linter.unusedSimpArgs false

/-- does a name with more behind it become a builtin's? -/
def becB (more : ByteArray) : (n : Nat) → Tr n → Bool
  | 0, t => nomatch (t : Empty)
  | n + 1, (x, s) => bi (x.name ++ more) || s.xs.any (becB more n)

def rhoN (more a : ByteArray) : ByteArray := if isS a [] || bi a then a else a ++ more
def PN (more a : ByteArray) : Prop := bi (a ++ more) = false

theorem app_list (a b : ByteArray) : (a ++ b).toList = a.toList ++ b.toList := by
  rw [ByteArray.toList_eq, ByteArray.toList_eq, ByteArray.toList_eq]
  simp
theorem bytes_ext {a b : ByteArray} (h : a.toList = b.toList) : a = b := by
  have : a.data.toList = b.data.toList := by rw [ByteArray.toList_eq, ByteArray.toList_eq] at h; exact h
  cases a; cases b
  congr 1
  exact Array.toList_inj.1 this

theorem bi_nil : bi ⟨#[]⟩ = false := by decide +kernel
theorem nil_of_isS {a : ByteArray} (h : isS a [] = true) : a = ⟨#[]⟩ := by
  unfold isS at h
  exact bytes_ext (by simpa using h)

theorem naming (more : ByteArray) : Naming bi (rhoN more) (PN more) := by
  refine ⟨fun a b ha hb e => ?_, fun a ha => ?_, fun a => ?_⟩
  · unfold rhoN at e
    unfold PN at ha hb
    by_cases c1 : (isS a [] || bi a) = true
    · rw [if_pos c1] at e
      by_cases c2 : (isS b [] || bi b) = true
      · rw [if_pos c2] at e; exact e
      · rw [if_neg c2] at e
        simp only [Bool.or_eq_true, not_or, Bool.not_eq_true] at c2
        rcases Bool.or_eq_true_iff.1 c1 with d | d
        · have := congrArg ByteArray.toList e
          rw [app_list, nil_of_isS d] at this
          have h0 : b.toList ++ more.toList = [] := by rw [← this]; decide +kernel
          have hb0 : b.toList = [] := (List.append_eq_nil_iff.1 h0).1
          have : isS b [] = true := by unfold isS; rw [hb0]; rfl
          rw [c2.1] at this
          cases this
        · rw [← e, d] at hb
          cases hb
    · rw [if_neg c1] at e
      simp only [Bool.or_eq_true, not_or, Bool.not_eq_true] at c1
      by_cases c2 : (isS b [] || bi b) = true
      · rw [if_pos c2] at e
        rcases Bool.or_eq_true_iff.1 c2 with d | d
        · have := congrArg ByteArray.toList e
          rw [app_list, nil_of_isS d] at this
          have h0 : a.toList ++ more.toList = [] := by rw [this]; decide +kernel
          have ha0 : a.toList = [] := (List.append_eq_nil_iff.1 h0).1
          have : isS a [] = true := by unfold isS; rw [ha0]; rfl
          rw [c1.1] at this
          cases this
        · rw [e, d] at ha
          cases ha
      · rw [if_neg c2] at e
        have := congrArg ByteArray.toList e
        rw [app_list, app_list] at this
        exact bytes_ext (List.append_cancel_right this)
  · unfold rhoN
    by_cases c1 : (isS a [] || bi a) = true
    · rw [if_pos c1]
    · rw [if_neg c1]
      simp only [Bool.or_eq_true, not_or, Bool.not_eq_true] at c1
      rw [ha, c1.2]
  · unfold rhoN
    by_cases c1 : (isS a [] || bi a) = true
    · rw [if_pos c1]
    · rw [if_neg c1]
      simp only [Bool.or_eq_true, not_or, Bool.not_eq_true] at c1
      rw [c1.1]
      unfold isS at c1 ⊢
      rw [app_list]
      have : a.toList ≠ [] := by
        intro h
        rw [h] at c1
        exact absurd c1.1 (by decide)
      cases h : a.toList with
      | nil => exact absurd h this
      | cons x l => rfl

/-- the blocks of a tree's lists -/
def fpT : (n : Nat) → Tr n → Nat → Prop
  | 0, t, _ => nomatch (t : Empty)
  | n + 1, (x, s), b => (∃ a, s.at' = some a ∧ a.block = b) ∨ ∃ k ∈ s.xs, fpT n k b

theorem okT_chg {S : Nat → Prop} {w w' : World} (hc : Chg S w w') : ∀ (n : Nat) (t : Tr n), okT n w t → (∀ b, fpT n t b → ¬ S b) → okT n w' t
  | 0, t, h, hs => nomatch (t : Empty)
  | n + 1, (x, s), ⟨h1, h2, h3⟩, hs => by
    refine ⟨h1, ⟨h2.len, h2.cap, fun h0 => ?_⟩, fun y hy => okT_chg hc n y (h3 y hy) (fun b q => hs b (Or.inr ⟨y, hy, q⟩))⟩
    obtain ⟨b, off, e1, hcl⟩ := h2.cells h0
    exact ⟨b, off, e1, fun i y hi j u hj => hc.cell (hcl i y hi j u hj) (hs b (Or.inl ⟨_, e1, rfl⟩))⟩

/-- all names are short -/
def shT (N : Nat) : (n : Nat) → Tr n → Prop
  | 0, t => nomatch (t : Empty)
  | n + 1, (x, s) => x.name.size ≤ N ∧ ∀ k ∈ s.xs, shT N n k

/-! rightness does not hang on names -/
theorem sel_ren {more : ByteArray} {x y : Nd} (h : NdR (rhoN more) (PN more) x y) : selfB y = selfB x := by
  unfold selfB
  rw [h.kind, h.name]
  by_cases c : x.kind = 12
  · rw [c]
    show (_ && !isS (rhoN more x.name) []) = _
    rw [(naming more).nil]
  · have : (x.kind == (12 : Int)) = false := by simpa using c
    rw [this]
    rfl

theorem kd_ren {more : ByteArray} : ∀ {n : Nat} {l k : List (Tr n)}, Rz.All2 (RenT (rhoN more) (PN more) n) l k → ∀ i, kd0 (kidT n) k i = kd0 (kidT n) l i
  | n, [], [], _, i => by unfold kd0; simp
  | n, a :: l, b :: k, h, 0 => by
    unfold kd0 kidT
    simp only [List.getElem?_cons_zero, Option.map_some, Option.getD_some]
    have := (nd_kind n a b h.1).kind
    rw [nd_same, nd_same] at this
    rw [kd_nd, kd_nd, this]
  | n, a :: l, b :: k, h, i + 1 => by
    have := kd_ren h.2 i
    unfold kd0 at *
    simpa using this
  | n, [], b :: k, h, i => h.elim
  | n, a :: l, [], h, i => h.elim

theorem op_ren {more : ByteArray} {x y : Nd} (h : NdR (rhoN more) (PN more) x y) : rightOpB y = rightOpB x := by
  unfold rightOpB
  rw [h.kind, h.op]

theorem here_ren {more : ByteArray} {n : Nat} {x y : Nd} {l k : List (Tr n)} (h : NdR (rhoN more) (PN more) x y) (ha : Rz.All2 (RenT (rhoN more) (PN more) n) l k) (star : Bool) (st : St) : hereP (kidT n) y k star st = hereP (kidT n) x l star st := by
  unfold hereP declB
  rw [kd_ren ha 1, kd_ren ha 2, sel_ren h, h.kind, h.pl]
  by_cases c : x.kind = 17
  · have : y.name = x.name := by rw [h.name, c]; rfl
    rw [this]
  · rw [if_neg c, if_neg c]

theorem right_ren {more : ByteArray} : ∀ (n : Nat), (∀ (t u : Tr n), RenT (rhoN more) (PN more) n t u → ∀ p star st, partP n p u star st = partP n p t star st)
  | 0, t, u, h, p, star, st => nomatch (t : Empty)
  | n + 1, (x, s), (y, v), ⟨h1, h2⟩, p, star, st => by
    have hk : ∀ star, ∀ {l k : List (Tr n)}, Rz.All2 (RenT (rhoN more) (PN more) n) l k → ∀ ps st, kidsP (partP n) star ps k st = kidsP (partP n) star ps l st := by
      intro star l
      induction l with
      | nil =>
        intro k ha ps st
        cases k with
        | nil => rfl
        | cons b k => exact ha.elim
      | cons a l ih =>
        intro k ha ps st
        cases k with
        | nil => exact ha.elim
        | cons b k =>
          cases ps with
          | nil => rfl
          | cons p ps =>
            unfold kidsP
            rw [right_ren n a b ha.1]
            congr 1
            funext st2
            exact ih ha.2 ps st2
    have hr : rightP (kidT n) (partP n) y v.xs star st = rightP (kidT n) (partP n) x s.xs star st := by
      unfold rightP
      rw [← all2_len h2, op_ren h1, h1.kind, here_ren h1 h2]
      have hf : isFnB y = isFnB x := by unfold isFnB; rw [h1.kind]
      rw [hf, h1.op]
      split
      · rfl
      · split
        · rfl
        · congr 1
          funext st2
          exact hk _ h2 _ _
    refine (partP_s n p y v star st).trans (Eq.trans ?_ (partP_s n p x s star st).symm)
    rw [hr, h1.kind, h1.pl, ← all2_len h2]

theorem holds_ren {more : ByteArray} : ∀ (n : Nat) (t u : Tr n), RenT (rhoN more) (PN more) n t u → ∀ lv r, holdsT n lv u r = holdsT n lv t r
  | 0, t, u, h, lv, r => nomatch (t : Empty)
  | n + 1, (x, s), (y, v), ⟨h1, h2⟩, lv, r => by
    have hk : ∀ lv, ∀ {l k : List (Tr n)}, Rz.All2 (RenT (rhoN more) (PN more) n) l k → ∀ r, loopH (holdsT n lv) k r = loopH (holdsT n lv) l r := by
      intro lv l
      induction l with
      | nil =>
        intro k ha r
        cases k with
        | nil => rfl
        | cons b k => exact ha.elim
      | cons a l ih =>
        intro k ha r
        cases k with
        | nil => exact ha.elim
        | cons b k =>
          unfold loopH
          rw [holds_ren n a b ha.1]
          split
          · exact ih ha.2 _
          · rfl
    refine (holdsT_s n lv y v r).trans (Eq.trans ?_ (holdsT_s n lv x s r).symm)
    rw [hk (lv - 1) h2]

theorem root_ren {more : ByteArray} {n : Nat} {x y : Nd} {s v : Sli (Tr n)} (h : RenT (rhoN more) (PN more) (n + 1) ((x, s) : Nd × Sli (Tr n)) ((y, v) : Nd × Sli (Tr n))) (hr : rootP (n + 1) ((x, s) : Nd × Sli (Tr n)) = true) : rootP (n + 1) ((y, v) : Nd × Sli (Tr n)) = true := by
  have h' : (x.kind == 47 && (holdsT (n + 1) 300 ((x, s) : Nd × Sli (Tr n)) 131072).1 && (rightP (kidT n) (partP n) x s.xs false ([], [])).isSome) = true := hr
  simp only [Bool.and_eq_true] at h'
  obtain ⟨⟨h1, h2⟩, h3⟩ := h'
  have hk : x.kind = 47 := by simpa using h1
  have hp := right_ren (n + 1) _ _ h 101 false ([], [])
  show (y.kind == 47 && (holdsT (n + 1) 300 ((y, v) : Nd × Sli (Tr n)) 131072).1 && (rightP (kidT n) (partP n) y v.xs false ([], [])).isSome) = true
  simp only [Bool.and_eq_true]
  refine ⟨⟨?_, ?_⟩, ?_⟩
  · rw [h.1.kind]; exact h1
  · rw [holds_ren (n + 1) _ _ h]; exact h2
  · have hh : rightP (kidT n) (partP n) y v.xs false ([], []) = rightP (kidT n) (partP n) x s.xs false ([], []) := by
      have hkids : ∀ star, ∀ {l k : List (Tr n)}, Rz.All2 (RenT (rhoN more) (PN more) n) l k → ∀ ps st, kidsP (partP n) star ps k st = kidsP (partP n) star ps l st := by
        intro star l
        induction l with
        | nil =>
          intro k ha ps st
          cases k with
          | nil => rfl
          | cons b k => exact ha.elim
        | cons a l ih =>
          intro k ha ps st
          cases k with
          | nil => exact ha.elim
          | cons b k =>
            cases ps with
            | nil => rfl
            | cons p ps =>
              unfold kidsP
              rw [right_ren n a b ha.1]
              congr 1
              funext st2
              exact ih ha.2 ps st2
      have h1' := h.1
      have h2' : Rz.All2 (RenT (rhoN more) (PN more) n) s.xs v.xs := h.2
      unfold rightP
      rw [← all2_len h2', op_ren h1', here_ren h1' h2']
      have hf : isFnB y = isFnB x := by unfold isFnB; rw [show y.kind = x.kind from h1'.kind]
      rw [hf, show y.kind = x.kind from h1'.kind, show y.op = x.op from h1'.op]
      split
      · rfl
      · split
        · rfl
        · congr 1
          funext st2
          exact hkids _ h2' _ _
    rw [hh]; exact h3
end Go.Proofs.Ytihmdcdifakepaa.Rv

/- ScopeRenamed: does a name become a builtin's? -/
namespace Go.Proofs.Ytihmdcdifakepaa.Rv
open Go.RowKit Go.Proofs.Ytihmdcdifakepaa.Sc Go.Proofs.Ytihmdcdifakepaa.Rz
set_option linter.unusedVariables false
set_option linter.unusedSimpArgs false

/-- builtins, of trees of n levels -/
def BC (W0 : World) (more : ByteArray) (n : Nat) : Prop := ∀ (t : Tr n), okT n W0 t → shT 140737488351232 n t → szT n t ≤ 131072 → ∀ w, Below W0.heap.size W0 w → Calls Try.prog 16 #[valT n t, .string more] w fun e w' => e = .returned (.bool (becB more n t)) ∧ Below w.heap.size w w'

set_option maxRecDepth 100000 in
set_option maxHeartbeats 4000000 in
theorem bec_step (W0 : World) (more : ByteArray) (hm : more.size ≤ 140737488351232) (n : Nat) (ih : BC W0 more n) : BC W0 more (n + 1) := by
  intro t hok hsh hsz w hbw
  obtain ⟨x, sl⟩ := t
  obtain ⟨ka, kc, kx⟩ := sl
  have hok1 : Sli.ok (encT n) 6 W0 ⟨ka, kc, kx⟩ := hok.2.1
  have hks : ∀ y ∈ kx, okT n W0 y := hok.2.2
  have hnm : x.name.size ≤ 140737488351232 := hsh.1
  have hkn : ∀ y ∈ kx, shT 140737488351232 n y := hsh.2
  have hadd : ∀ w : World, (Op.stringOp .add x.name more).run Try.prog w = .ok (.string (x.name ++ more)) w := fun w => run_string_add_sum w x.name more (by omega)
  show Calls Try.prog 16 #[.agg #[.int .i64 x.kind, .int .i64 x.pl, .string x.name, .int .u64 x.num, .string x.op, .slice ka kx.length kc], .string more] w fun e w' => e = .returned (.bool (bi (x.name ++ more) || kx.any (becB more n))) ∧ Below w.heap.size w w'
  have hsz2 : 1 + (kx.map (szT n)).sum ≤ 131072 := hsz
  have hln : kx.length ≤ 131072 := by have := sum_len (szT n) (sz_pos n) kx; omega
  have hkz : ∀ y ∈ kx, szT n y ≤ 131072 := fun y hy => by have := le_sum (List.mem_map.2 ⟨y, hy, rfl⟩ : szT n y ∈ kx.map (szT n)); omega
  obtain ⟨wb, hwb⟩ : ∃ wb, wb = w.alloc (.cells #[.int .i64 x.kind, .int .i64 x.pl, .string x.name, .int .u64 x.num, .string x.op, .slice ka kx.length kc] 25) := ⟨_, rfl⟩
  have hbl : Below w.heap.size w wb := by rw [hwb]; exact (Below.refl _ _).alloc (Nat.le_refl _) _
  have hX : NdB w.heap.size x (.slice ka kx.length kc) wb := by rw [hwb]; exact at_new _ _
  have HX : Hid (∀ W, Below wb.heap.size wb W → NdB w.heap.size x (.slice ka kx.length kc) W) := fun W hW => hX.chg (O := fun _ => False) (Chg.of_below hW) id
  have HB : Hid (Below w.heap.size w wb) := hbl
  have HW0 : Hid (∀ W, Below wb.heap.size wb W → Below W0.heap.size W0 W) := fun W hW => hbw.trans ((hbl.trans (hW.mono hbl.size)).mono hbw.size)
  have k14 := refBuiltin_any (x.name ++ more) wb
  have HK : Hid (∀ W, Below W0.heap.size W0 W → Sli.ok (encT n) 6 W ⟨ka, kc, kx⟩) := fun W hW => hok1.kept (Sc.cells_below hW)
  have HI : Hid (∀ y ∈ kx, ∀ W, Below W0.heap.size W0 W → Calls Try.prog 16 #[valT n y, .string more] W fun e w' => e = .returned (.bool (becB more n y)) ∧ Below W.heap.size W w') := fun y hy W hW => ih y (hks y hy) (hkn y hy) (hkz y hy) W hW
  obtain ⟨_, _, a2, _, _, _⟩ := hX.cs
  have hbi : bi (x.name ++ more) = decide (0 ≤ idxI (x.name ++ more)) := rfl
  rw [← hbi] at k14
  generalize bi (x.name ++ more) = b0 at *
  have HLN : Hid (kx.length ≤ 131072) := hln
  clear hok hsh ih hok1 hks hkn hX hbl hbw hnm hm hbi hsz hsz2 hln hkz
  go_enter Try.func16, Try.ntmps16
  go_upto_region 1 with fail
  rw [← hwb]
  clear hwb
  go_wp2_with fail
  refine k14.mono ?_
  rintro e w1 ⟨rfl, hb1⟩
  have HB1 : Hid (Below wb.heap.size wb w1) := hb1
  obtain ⟨_, _, _, _, _, a5⟩ := (HX.out w1 hb1).cs
  clear k14 hb1 a2
  go_wp2_with fail
  go_loopw [6, 20] (fun is i wr => ∃ k : Nat, Hid (k ≤ kx.length ∧ Below wb.heap.size wb wr) ∧ is = .bool (b0 || (kx.take k).any (becB more n)) ∧ i = .int .i64 (k : Int)) (fun is i wr => kx.length - (intOf i).toNat)
  case atStart => exact ⟨0, ⟨Nat.zero_le _, HB1.out⟩, by simp, rfl⟩
  case round =>
    clear a5
    obtain ⟨k, HE, rfl, rfl⟩ := hrel
    rcases Nat.lt_or_ge k kx.length with c | c
    · obtain ⟨y, b, off, k1, k2, x0, x1, x2, x3, x4, x5⟩ := kid_at (HK.out wr (HW0.out wr HE.out.2)) (k := k) c
      simp only at k1 k2
      subst k1
      have hil : (k : Int) < kx.length := by omega
      have hw2 : IntKind.i64.wrap ((k : Int) + 1) = ((k + 1 : Nat) : Int) := by have := HLN.out; rw [IntKind.wrap_i64]; omega
      obtain ⟨wp, hwp⟩ : ∃ wp, wp = wr.alloc (.cells #[.int .i64 (ndT n y).kind, .int .i64 (ndT n y).pl, .string (ndT n y).name, .int .u64 (ndT n y).num, .string (ndT n y).op, .slice (atT n y) (nkT n y) (capT n y)] 25) := ⟨_, rfl⟩
      have hbp : Below wr.heap.size wr wp := by rw [hwp]; exact below_new (Below.refl _ _) (Nat.le_refl _) _
      have hY : NdB wr.heap.size (ndT n y) (.slice (atT n y) (nkT n y) (capT n y)) wp := by rw [hwp]; exact at_new _ _
      have HBP : Hid (Below wb.heap.size wb wp) := HE.out.2.trans (hbp.mono HE.out.2.size)
      have hu := HI.out y (List.mem_of_getElem? k2) wp (HW0.out wp HBP.out)
      unfold valT at hu
      obtain ⟨b0', b1, b2, b3, b4, b5⟩ := hY.cs
      have HTK : Hid ((b0 || (kx.take (k + 1)).any (becB more n)) = (b0 || (kx.take k).any (becB more n) || becB more n y)) := by
        show _ = _
        rw [List.take_add_one, k2, List.any_append, Bool.or_assoc]
        simp
      obtain ⟨acc, hacc⟩ : ∃ acc, acc = (b0 || (kx.take k).any (becB more n)) := ⟨_, rfl⟩
      rw [← hacc] at HTK ⊢
      have HQ : Hid (k < kx.length) := c
      generalize becB more n y = by' at *
      clear hbp hY HE c k2 hacc HI HK
      generalize (ndT n y).kind = q0 at *
      generalize (ndT n y).pl = q1 at *
      generalize (ndT n y).name = q2 at *
      generalize (ndT n y).num = q3 at *
      generalize (ndT n y).op = q4 at *
      generalize atT n y = q5 at *
      generalize nkT n y = q6 at *
      generalize capT n y = q7 at *
      go_upto_region 5 with fail
      rw [← hwp]
      clear hwp x0 x1 x2 x3 x4 x5
      cases acc with
      | true =>
        clear hu
        go_wp2_with fail
        refine ⟨⟨k + 1, ⟨HQ.out, HBP.out⟩, by rw [HTK.out]; rfl, by go_num⟩, ?_⟩
        simp [intOf]
        have := HQ.out
        omega
      | false =>
        go_wp2_with fail
        refine hu.mono ?_
        rintro e w3 ⟨rfl, hb3⟩
        have HB3 : Hid (Below wb.heap.size wb w3) := HBP.out.trans (hb3.mono HBP.out.size)
        clear hu hb3
        go_wp2_with fail
        refine ⟨⟨k + 1, ⟨HQ.out, HB3.out⟩, by rw [HTK.out]; simp, by go_num⟩, ?_⟩
        simp [intOf]
        have := HQ.out
        omega
    · have hil : ¬ (k : Int) < kx.length := by omega
      have HT : Hid (kx.take k = kx) := List.take_of_length_le c
      have HZ : Hid (Below w.heap.size w wr) := HB.out.trans (HE.out.2.mono HB.out.size)
      clear HE HK HI
      go_wp2_with fail
      go_ret
      rw [HT.out]
      exact ⟨rfl, HZ.out⟩

theorem bec_any (W0 : World) (more : ByteArray) (hm : more.size ≤ 140737488351232) : ∀ n, BC W0 more n
  | 0 => fun t => nomatch (t : Empty)
  | n + 1 => bec_step W0 more hm n (bec_any W0 more hm n)
end Go.Proofs.Ytihmdcdifakepaa.Rv
