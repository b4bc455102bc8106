/- The resolver's walk: labels. -/
import Derived.Test.YtihmdcdifakepabMD
import Derived.Test.YtihmdcdifakepabB6
import Derived.Test.YtihmdcdifakepabB3
import Derived.Test.YtihmdcdifakepabB4
namespace Go.Proofs.Ytihmdcdifakepab.Rv
open Go.RowKit Go.Proofs.Ytihmdcdifakepab.Sc Go.Proofs.Ytihmdcdifakepab.Rz
set_option linter.unusedVariables false
set_option linter.unusedSimpArgs false

/-- who says which labels: function f with what it has along, where X holds -/
structure AskL (X : World → Prop) (f : Nat) (cap : Array Value) (g : ByteArray × Bool → Bool) : Prop where
  ent : ∀ (args : Array Value) (w : World), (callFunc f args).run Try.prog w = .ok (.enter f args) w
  kept : ∀ {w w' : World}, X w → Below w.heap.size w w' → X w'
  call : ∀ (e : ByteArray × Bool) (w : World), X w → Calls Try.prog f (#[.agg #[.string e.1, .bool e.2]] ++ cap) w fun r w' => r = .returned (.bool (g e)) ∧ Below w.heap.size w w'

def fnV (f : Nat) (cap : Array Value) : Value := .func (.func f) #[] cap

theorem any_hit {g : ByteArray × Bool → Bool} {xs : List (ByteArray × Bool)} {i : Nat} {e : ByteArray × Bool} (hi : xs[i]? = some e) (h : g e = true) : xs.any g = true := List.any_eq_true.2 ⟨e, List.mem_of_getElem? hi, h⟩
theorem any_miss {g : ByteArray × Bool → Bool} {xs : List (ByteArray × Bool)} {i : Nat} {e : ByteArray × Bool} (hi : xs[i]? = some e) (h0 : (xs.take i).any g = false) (h : g e = false) : (xs.take (i + 1)).any g = false := by
  rw [List.take_add_one, hi, List.any_append, h0]
  simp [h]

set_option maxRecDepth 100000 in
set_option maxHeartbeats 2000000 in
theorem index_any {X : World → Prop} {f : Nat} {cap : Array Value} {g : ByteArray × Bool → Bool} (A : AskL X f cap g) (w : World) (hX : X w) (sl : Sli (ByteArray × Bool)) (hok : sl.ok lbC 2 w) :
    Calls Try.prog 68 #[.slice sl.at' sl.xs.length sl.cap, fnV f cap] w fun r w' => ∃ k : Int, r = .returned (.int .i64 k) ∧ (decide (0 ≤ k) = sl.xs.any g) ∧ Below w.heap.size w w' := by
  have HA : Hid (AskL X f cap g) := A
  have HX : Hid (X w) := hX
  have HM : Hid (sl.ok lbC 2 w) := hok
  obtain ⟨ad, cp, l⟩ := sl
  have hlim : (l.length : Int) ≤ 9223372036854775807 := by have := hok.len; have := hok.cap; unfold maxLen at this; simp only at *; omega
  simp only at *
  unfold fnV
  clear A hX hok
  go_enter Try.func68, Try.ntmps68
  go_wp2_with fail
  go_loopw [8] (fun p wr => ∃ i : Nat, i ≤ l.length ∧ Hid ((l.take i).any g = false) ∧ Hid (Below w.heap.size w wr) ∧ p = .int .i64 (i : Int)) (fun p wr => ((l.length : Int) - intOf p).toNat)
  case atStart => exact ⟨0, Nat.zero_le _, rfl, Below.refl _ _, rfl⟩
  case round =>
    obtain ⟨i, hi, hno, hbw, rfl⟩ := hrel
    by_cases c : i < l.length
    · have hex : ∃ x, l[i]? = some x := ⟨_, List.getElem?_eq_getElem c⟩
      obtain ⟨x, hx⟩ := hex
      obtain ⟨b, off, hb1, hcc⟩ := HM.out.cells (by intro q; simp only at q; rw [q] at hx; simp at hx)
      simp only at hb1
      subst hb1
      have c0 := Sc.cells_below hbw.out _ _ (hcc i x hx 0 _ rfl)
      have c1 := Sc.cells_below hbw.out _ _ (hcc i x hx 1 _ rfl)
      simp only [Nat.add_zero] at c0
      have hii : (i : Int) < (l.length : Int) := by omega
      have hii2 : decide ((i : Int) < (l.length : Int)) = true := decide_eq_true hii
      have hw1 : IntKind.i64.wrap ((i : Int) + 1) = ((i + 1 : Nat) : Int) := by rw [IntKind.wrap_i64]; omega
      have kc := HA.out.call x wr (HA.out.kept HX.out hbw.out)
      have hen := HA.out.ent (#[.agg #[.string x.1, .bool x.2]] ++ cap)
      have H1 : Hid (g x = true → l.any g = true) := fun q => any_hit hx q
      have H2 : Hid (g x = false → (l.take (i + 1)).any g = false) := fun q => any_miss hx hno.out q
      have HI : Hid (i < l.length) := c
      obtain ⟨x0, x1⟩ := x
      simp only at *
      generalize g (x0, x1) = r at *
      clear hcc hx hi hno
      go_wp2_with fail
      refine kc.mono ?_
      rintro ee w3 ⟨rfl, hb3⟩
      have HB3 : Hid (Below w.heap.size w w3) := hbw.out.trans (hb3.mono hbw.out.size)
      clear kc hb3 hbw hen
      cases r with
      | true =>
        have HT := (show Hid _ from H1.out rfl)
        clear H1 H2
        go_wp2_with fail
        go_ret
        refine ⟨_, rfl, ?_, HB3.out⟩
        rw [HT.out]
        simp
      | false =>
        have HT := (show Hid _ from H2.out rfl)
        clear H1 H2
        go_wp2_with fail
        refine ⟨⟨i + 1, HI.out, HT, HB3, rfl⟩, ?_⟩
        have := HI.out
        simp [intOf]
        omega
    · have hii2 : ¬ ((i : Int) < (l.length : Int)) := by omega
      have hil : i = l.length := by omega
      subst hil
      rw [List.take_length] at hno
      clear HM
      go_wp2_with fail
      go_ret
      refine ⟨_, rfl, ?_, hbw.out⟩
      rw [hno.out]
      rfl

set_option maxRecDepth 100000 in
theorem contains_any {X : World → Prop} {f : Nat} {cap : Array Value} {g : ByteArray × Bool → Bool} (A : AskL X f cap g) (w : World) (hX : X w) (sl : Sli (ByteArray × Bool)) (hok : sl.ok lbC 2 w) :
    Calls Try.prog 62 #[.slice sl.at' sl.xs.length sl.cap, fnV f cap] w fun r w' => r = .returned (.bool (sl.xs.any g)) ∧ Below w.heap.size w w' := by
  have ki := index_any A w hX sl hok
  generalize sl.xs.any g = R at *
  generalize fnV f cap = F at *
  clear A hX hok
  go_enter Try.func62, Try.ntmps62
  go_wp2_with fail
  refine ki.mono ?_
  rintro e w1 ⟨k, rfl, hk, hb⟩
  have HB : Hid (Below w.heap.size w w1) := hb
  subst hk
  clear ki hb
  go_wp2_with fail
  go_ret
  exact ⟨rfl, HB.out⟩

theorem str_eq (a b : ByteArray) : (a.toList == b.toList) = decide (a = b) := by
  by_cases c : a = b
  · subst c; simp
  · rw [decide_eq_false c]
    have : a.toList ≠ b.toList := fun q => c (ByteArray.ext (Array.toList_inj.mp (by rw [← ByteArray.toList_eq, ← ByteArray.toList_eq]; exact q)))
    simpa using this

/-- a node's variable -/
def NdB (nb : Nat) (x : Nd) (kv : Value) (w : World) : Prop := w.heap[nb]? = some (.cells #[.int .i64 x.kind, .int .i64 x.pl, .string x.name, .int .u64 x.num, .string x.op, kv] 25 (0, 0))
theorem NdB.below {nb : Nat} {x : Nd} {kv : Value} {w w' : World} (h : NdB nb x kv w) (hb : Below w.heap.size w w') : NdB nb x kv w' := by
  unfold NdB
  rw [hb.block nb (Array.getElem?_eq_some_iff.1 h).1]
  exact h

set_option maxRecDepth 100000 in
theorem ask_label (nb : Nat) (x : Nd) (kv : Value) : AskL (NdB nb x kv) 63 #[.pointer (some ⟨nb, 0, none⟩)] (fun e => decide (e.1 = x.name)) := by
  refine ⟨fun _ _ => by kernel_rfl, fun h hb => h.below hb, fun e w hX => ?_⟩
  have c2 : w.cell? ⟨nb, 2, none⟩ = some (.string x.name) := cell_of_row w nb 2 _ _ (0, 0) hX
  have hlt : nb < w.heap.size := (Array.getElem?_eq_some_iff.1 hX).1
  obtain ⟨wb, hwb⟩ : ∃ wb, wb = w.alloc (.cells #[.string e.1, .bool e.2] 116) := ⟨_, rfl⟩
  have hb : Below w.heap.size w wb := by rw [hwb]; exact (Below.refl _ _).alloc (Nat.le_refl _) _
  have d2 := Sc.cells_below hb _ _ c2
  have e0 : wb.cell? ⟨w.heap.size, 0, none⟩ = some (.string e.1) := by rw [hwb]; exact box_new w _ _ 0 _ rfl
  have HB : Hid (Below w.heap.size w wb) := hb
  obtain ⟨x0, x1⟩ := e
  simp only at *
  generalize x.name = nm at *
  show Calls Try.prog 63 #[.agg #[.string x0, .bool x1], .pointer (some ⟨nb, 0, none⟩)] w _
  clear hX c2 hb hlt
  go_enter Try.func63, Try.ntmps63
  go_upto_region 1 with fail
  rw [← hwb]
  clear hwb
  go_wp2_with fail
  go_ret
  refine ⟨?_, HB.out⟩
  rw [← str_eq]
  rfl

set_option maxRecDepth 100000 in
theorem ask_jump (nb : Nat) (x : Nd) (kv : Value) : AskL (NdB nb x kv) 70 #[.pointer (some ⟨nb, 0, none⟩)] (fun e => decide (e.1 = x.name) && (e.2 || x.kind == 39)) := by
  refine ⟨fun _ _ => by kernel_rfl, fun h hb => h.below hb, fun e w hX => ?_⟩
  have c0 : w.cell? ⟨nb, 0, none⟩ = some (.int .i64 x.kind) := cell_of_row w nb 0 _ _ (0, 0) hX
  have c2 : w.cell? ⟨nb, 2, none⟩ = some (.string x.name) := cell_of_row w nb 2 _ _ (0, 0) hX
  obtain ⟨wb, hwb⟩ : ∃ wb, wb = w.alloc (.cells #[.string e.1, .bool e.2] 116) := ⟨_, rfl⟩
  have hb : Below w.heap.size w wb := by rw [hwb]; exact (Below.refl _ _).alloc (Nat.le_refl _) _
  have d0 := Sc.cells_below hb _ _ c0
  have d2 := Sc.cells_below hb _ _ c2
  have e0 : wb.cell? ⟨w.heap.size, 0, none⟩ = some (.string e.1) := by rw [hwb]; exact box_new w _ _ 0 _ rfl
  have e1 : wb.cell? ⟨w.heap.size, 1, none⟩ = some (.bool e.2) := by rw [hwb]; exact box_new w _ _ 1 _ rfl
  have HB : Hid (Below w.heap.size w wb) := hb
  obtain ⟨x0, x1⟩ := e
  simp only at *
  rw [← str_eq]
  generalize hq : (x0.toList == x.name.toList) = q at *
  generalize x.name = nm at *
  generalize x.kind = kd at *
  show Calls Try.prog 70 #[.agg #[.string x0, .bool x1], .pointer (some ⟨nb, 0, none⟩)] w _
  clear hX c0 c2 hb
  cases q with
  | false =>
    go_enter Try.func70, Try.ntmps70
    go_upto_region 1 with fail
    rw [← hwb]
    clear hwb
    go_wp2_with fail
    go_ret
    exact ⟨rfl, HB.out⟩
  | true =>
    cases x1 with
    | true =>
      go_enter Try.func70, Try.ntmps70
      go_upto_region 1 with fail
      rw [← hwb]
      clear hwb
      go_wp2_with fail
      go_ret
      exact ⟨rfl, HB.out⟩
    | false =>
      generalize hk : (kd == 39) = k at *
      go_enter Try.func70, Try.ntmps70
      go_upto_region 1 with fail
      rw [← hwb]
      clear hwb
      go_wp2_with fail
      go_ret
      exact ⟨rfl, HB.out⟩
end Go.Proofs.Ytihmdcdifakepab.Rv

/- The resolver's walk: jump. -/
namespace Go.Proofs.Ytihmdcdifakepab.Rv
open Go.RowKit Go.Proofs.Ytihmdcdifakepab.Sc Go.Proofs.Ytihmdcdifakepab.Rz
set_option linter.unusedVariables false
set_option linter.unusedSimpArgs false

def jmB (x : Nd) (s : Rz.RS) : Bool := if isS x.name [] then decide (0 < s.loops) else s.labels.any fun e => decide (e.1 = x.name) && (e.2 || x.kind == 39)

theorem lab_sl {w : World} {B rb : Nat} {O : Nat → Prop} {s : Rz.RS} {v6 : Value} (h : Mem w B rb O s v6) : ∃ sl : Sli (ByteArray × Bool), v6 = .slice sl.at' s.labels.length sl.cap ∧ sl.xs = s.labels ∧ sl.ok lbC 2 w := by
  obtain ⟨tg, v0, v1, v2, v3, ms, h1, h2⟩ := h
  obtain ⟨sl, e1, e2, e3, _⟩ := h1.r6.sl (fun y => (rfl : (lbC y).length = 2))
  exact ⟨sl, by rw [e1, ← e2]; rfl, e2, e3⟩

theorem Mem.six {w : World} {B rb : Nat} {O : Nat → Prop} {s : Rz.RS} {v6 : Value} (h : Mem w B rb O s v6) : w.cell? ⟨rb, 4, none⟩ = some (.int .i64 (s.fn : Int)) ∧ w.cell? ⟨rb, 5, none⟩ = some (.int .i64 (s.loops : Int)) ∧ w.cell? ⟨rb, 6, none⟩ = some v6 := by
  obtain ⟨tg, v0, v1, v2, v3, ms, h, hO⟩ := h
  exact ⟨h.c.2.2.2.2.1, h.c.2.2.2.2.2.1, h.c.2.2.2.2.2.2⟩

set_option maxRecDepth 100000 in
set_option maxHeartbeats 2000000 in
theorem canJump_any (w : World) (B rb : Nat) (O : Nat → Prop) (s : Rz.RS) (v6 : Value) (h : Mem w B rb O s v6) (x : Nd) (kv : Value) :
    Calls Try.prog 65 #[.pointer (some ⟨rb, 0, none⟩), .agg #[.int .i64 x.kind, .int .i64 x.pl, .string x.name, .int .u64 x.num, .string x.op, kv]] w fun r w' => r = .returned (.bool (jmB x s)) ∧ Below w.heap.size w w' := by
  have hmf : ∀ (fn : Fn) (first cap : Array Value) (w : World), (Instr.makeFunc fn first cap).run Try.prog w = .ok (.func fn first cap) w := fun _ _ _ _ => rfl
  obtain ⟨wb, hwb⟩ : ∃ wb, wb = w.alloc (.cells #[.int .i64 x.kind, .int .i64 x.pl, .string x.name, .int .u64 x.num, .string x.op, kv] 25) := ⟨_, rfl⟩
  have hb : Below w.heap.size w wb := by rw [hwb]; exact (Below.refl _ _).alloc (Nat.le_refl _) _
  have hX : NdB w.heap.size x kv wb := by rw [hwb]; exact at_new _ _
  have b2 : wb.cell? ⟨w.heap.size, 2, none⟩ = some (.string x.name) := cell_of_row wb _ 2 _ _ (0, 0) hX
  have hm := h.below hb
  obtain ⟨_, c5, c6⟩ := hm.six
  obtain ⟨sl, hv, hxs, hok⟩ := lab_sl hm
  have kc := contains_any (ask_jump w.heap.size x kv) wb hX sl hok
  rw [hxs] at kc
  rw [hv] at c6
  unfold fnV at kc
  have HB : Hid (Below w.heap.size w wb) := hb
  obtain ⟨R, hR⟩ : ∃ R, R = jmB x s := ⟨_, rfl⟩
  rw [← hR]
  unfold jmB at hR
  have HR : Hid (R = if isS x.name [] then decide (0 < s.loops) else s.labels.any fun e => decide (e.1 = x.name) && (e.2 || x.kind == 39)) := hR
  generalize (s.labels.any fun e => decide (e.1 = x.name) && (e.2 || x.kind == 39)) = q at *
  unfold isS at HR
  clear hR h hm hok hxs hX hb hv
  generalize s.labels.length = nl at *
  generalize sl.at' = la at *
  generalize sl.cap = lc at *
  generalize s.loops = lo at *
  generalize x.name = nm at *
  by_cases cn : nm.toList = []
  · have hne : (nm.toList == []) = true := by rw [cn]; rfl
    rw [if_pos hne] at HR
    clear kc
    go_enter Try.func65, Try.ntmps65
    go_upto_region 1 with fail
    rw [← hwb]
    clear hwb
    go_wp2_with fail
    go_ret
    rw [HR.out]
    refine ⟨?_, HB.out⟩
    simp
  · have hne : (nm.toList == []) = false := by simpa using cn
    rw [if_neg (by rw [hne]; decide)] at HR
    go_enter Try.func65, Try.ntmps65
    go_upto_region 1 with fail
    rw [← hwb]
    clear hwb
    go_wp2_with fail
    refine kc.mono ?_
    rintro e w1 ⟨rfl, hb1⟩
    have HB1 : Hid (Below w.heap.size w w1) := HB.out.trans (hb1.mono HB.out.size)
    clear kc hb1
    go_wp2_with fail
    go_ret
    rw [HR.out]
    exact ⟨rfl, HB1.out⟩
end Go.Proofs.Ytihmdcdifakepab.Rv

/- The resolver's walk, plain: how much there is of what is told. -/
namespace Go.Proofs.Ytihmdcdifakepab.Rv
open Go.Proofs.Ytihmdcdifakepab.Sc Go.Proofs.Ytihmdcdifakepab.Rz
set_option linter.unusedVariables false

/-- scopes, variables, uses, and all slots -/
def cr (s : Rz.RS) : Nat := s.scopes.length + s.vars.length + s.uses.length + (s.scopes.map Rz.Scp.vars).sum
/-- what stands around -/
def dp (s : Rz.RS) : Nat := s.blocks.length + s.labels.length + s.loops

def Cr (k : Nat) (f : RM) : Prop := ∀ s s', f s = .ok s' → cr s' ≤ cr s + k

theorem sum_bump : ∀ (l : List Rz.Scp) (i : Nat), ((l.modify i (fun x => { x with vars := x.vars + 1 })).map Rz.Scp.vars).sum ≤ (l.map Rz.Scp.vars).sum + 1
  | [], i => by cases i <;> simp
  | x :: l, 0 => by simp; omega
  | x :: l, i + 1 => by
    have := sum_bump l i
    simp
    omega

theorem cr_bump (s : Rz.RS) : cr (bumpP s) ≤ cr s + 1 := by
  unfold cr bumpP
  have := sum_bump s.scopes s.fn
  simp only [List.length_modify]
  omega

theorem cr_put (nm : ByteArray) (pl kd : Int) (slot : Nat) (s : Rz.RS) : cr (putVarP nm pl kd slot s) = cr s + 1 := by
  unfold cr putVarP
  simp only [List.length_append, List.length_singleton]
  omega

theorem cr_open (s : Rz.RS) : cr (openP s) = cr s := rfl
theorem cr_shut (s : Rz.RS) : cr (shutP s) = cr s := rfl

theorem cr_decl (nm : ByteArray) (pl kd : Int) : Cr 2 (declP nm pl kd) := fun s s' e => by
  unfold declP at e
  split at e
  · cases e
  · split at e
    · cases e
    · obtain rfl := Except.ok.inj e
      rw [cr_put]
      have := cr_bump s
      omega

/-- a node's bound: eight for each node in it, less two -/
def Nb (k : Nat) (f : RM) : Prop := ∀ s s', f s = .ok s' → cr s' + 2 ≤ cr s + 8 * k

theorem cr_each {α : Type} {f : α → RM} (sz : α → Nat) (hf : ∀ k, Nb (sz k) (f k)) : ∀ (l : List α) (s s' : Rz.RS), eachP f l s = .ok s' → cr s' + 2 * l.length ≤ cr s + 8 * (l.map sz).sum
  | [], s, s', e => by
    unfold eachP at e
    obtain rfl := Except.ok.inj e
    simp
  | k :: l, s, s', e => by
    unfold eachP at e
    obtain ⟨s1, e1, e2⟩ := bind_ok e
    have h1 := hf k s s1 e1
    have h2 := cr_each sz hf l s1 s' e2
    rw [List.map_cons, List.sum_cons, List.length_cons]
    omega

theorem cr_heads {α : Type} (nd : α → Nd) : ∀ l : List α, Cr (2 * l.length) (headsP nd l)
  | [], s, s', e => by
    unfold headsP at e
    obtain rfl := Except.ok.inj e
    simp
  | k :: l, s, s', e => by
    unfold headsP at e
    obtain ⟨s1, e1, e2⟩ := bind_ok e
    have h2 := cr_heads nd l s1 s' e2
    have h1 : cr s1 ≤ cr s + 2 := by
      split at e1
      · exact cr_decl _ _ _ s s1 e1
      · split at e1
        · exact cr_decl _ _ _ s s1 e1
        · split at e1
          · exact cr_decl _ _ _ s s1 e1
          · obtain rfl := Except.ok.inj e1
            omega
    rw [List.length_cons]
    omega

theorem cr_pars {α : Type} (nd : α → Nd) : ∀ l : List α, Cr (2 * l.length) (parsP nd l)
  | [], s, s', e => by
    unfold parsP at e
    obtain rfl := Except.ok.inj e
    simp
  | k :: l, s, s', e => by
    unfold parsP at e
    obtain ⟨s1, e1, e2⟩ := bind_ok e
    have h1 := cr_decl _ _ _ s s1 e1
    have h2 := cr_pars nd l s1 s' e2
    rw [List.length_cons]
    omega

theorem sum_len {α : Type} (sz : α → Nat) (h : ∀ k, 1 ≤ sz k) : ∀ l : List α, l.length ≤ (l.map sz).sum
  | [] => Nat.le_refl _
  | k :: l => by
    have h1 := h k
    have h2 := sum_len sz h l
    rw [List.length_cons, List.map_cons, List.sum_cons]
    omega

theorem cr_items {α : Type} (nd : α → Nd) {f : α → RM} (sz : α → Nat) (hf : ∀ k, Nb (sz k) (f k)) (l : List α) (s s' : Rz.RS) (e : itemsP nd f l s = .ok s') : cr s' ≤ cr s + 8 * (l.map sz).sum := by
  unfold itemsP at e
  obtain ⟨s1, e1, e2⟩ := bind_ok e
  have h1 := cr_heads nd l s s1 e1
  have h2 := cr_each sz hf l s1 s' e2
  omega

theorem cr_block {α : Type} (nd : α → Nd) {f : α → RM} (sz : α → Nat) (hf : ∀ k, Nb (sz k) (f k)) (l : List α) (s s' : Rz.RS) (e : blockP nd f l s = .ok s') : cr s' ≤ cr s + 8 * (l.map sz).sum := by
  unfold blockP at e
  obtain ⟨s1, e1, e2⟩ := bind_ok e
  have h1 := cr_items nd sz hf l (openP s) s1 e1
  obtain rfl := Except.ok.inj e2
  rw [cr_shut]
  exact h1

theorem cr_loop {α : Type} {f : α → RM} (sz : α → Nat) (hf : ∀ k, Nb (sz k) (f k)) (l : List α) (s s' : Rz.RS) (e : loopP f l s = .ok s') : cr s' ≤ cr s + 8 * (l.map sz).sum := by
  unfold loopP at e
  obtain ⟨s1, e1, e2⟩ := bind_ok e
  have h1 := cr_each sz hf l _ s1 e1
  obtain rfl := Except.ok.inj e2
  have h2 : cr { s with loops := s.loops + 1 } = cr s := rfl
  have h3 : cr { s1 with loops := s1.loops - 1 } = cr s1 := rfl
  omega

theorem sum_take_drop {α : Type} (sz : α → Nat) (l : List α) (k : Nat) : (l.map sz).sum = ((l.take k).map sz).sum + ((l.drop k).map sz).sum := by
  rw [← List.sum_append, ← List.map_append, List.take_append_drop]

theorem cr_loopOf {α : Type} {f : α → RM} (sz : α → Nat) (hf : ∀ k, Nb (sz k) (f k)) (x : Nd) (l : List α) (s s' : Rz.RS) (e : loopOfP f x l s = .ok s') : cr s' ≤ cr s + 8 * (l.map sz).sum + 2 := by
  unfold loopOfP at e
  obtain ⟨s1, e1, e2⟩ := bind_ok e
  obtain ⟨s2, e3, e4⟩ := bind_ok e2
  obtain ⟨s3, e5, e6⟩ := bind_ok e4
  obtain rfl := Except.ok.inj e6
  have h1 := cr_each sz hf _ s s1 e1
  have h2 := cr_decl _ _ _ _ s2 e3
  rw [cr_open] at h2
  have h3 := cr_loop sz hf _ s2 s3 e5
  have h4 := sum_take_drop sz l 1
  rw [cr_shut]
  omega

theorem cr_catch {α : Type} (nd : α → Nd) (sz : α → Nat) {body : α → RM} (hb : ∀ k s s', body k s = .ok s' → cr s' + 8 ≤ cr s + 8 * sz k) (x : Nd) (c : Option α) (s s' : Rz.RS) (e : catchP nd body x c s = .ok s') : cr s' ≤ cr s + 2 + 8 * ((c.map sz).getD 0) := by
  unfold catchP at e
  split at e
  · obtain rfl := Except.ok.inj e
    omega
  · split at e
    · obtain rfl := Except.ok.inj e
      omega
    · obtain ⟨s2, e1, e2⟩ := bind_ok e
      obtain ⟨s3, e3, e4⟩ := bind_ok e2
      obtain rfl := Except.ok.inj e4
      have h1 := cr_decl _ _ _ _ s2 e1
      rw [cr_open] at h1
      have h2 := hb _ s2 s3 e3
      rw [cr_shut]
      simp only [Option.map_some, Option.getD_some]
      omega

theorem cr_try {α : Type} (nd : α → Nd) {f : α → RM} (sz : α → Nat) (hf : ∀ k, Nb (sz k) (f k)) {body : α → RM} (hb : ∀ k s s', body k s = .ok s' → cr s' + 8 ≤ cr s + 8 * sz k) (x : Nd) (l : List α) (s s' : Rz.RS) (e : tryP nd f body x l s = .ok s') : cr s' ≤ cr s + 2 + 8 * (l.map sz).sum := by
  unfold tryP at e
  obtain ⟨s1, e1, e2⟩ := bind_ok e
  obtain ⟨s2, e3, e4⟩ := bind_ok e2
  have h1 := cr_each sz hf _ s s1 e1
  have h2 := cr_catch nd sz hb x _ s1 s2 e3
  have h3 := cr_each sz hf _ s2 s' e4
  have h4 := sum_take_drop sz l 1
  have h5 := sum_take_drop sz (l.drop 1) 1
  rw [List.drop_drop] at h5
  simp only [Nat.reduceAdd] at h5
  have h6 : (l[1]?.map sz).getD 0 = (((l.drop 1).take 1).map sz).sum := by
    cases hl : l.drop 1 with
    | nil =>
      have : l[1]? = none := by rw [← List.getElem?_drop (i := 1) (j := 0)] <;> simp [hl]
      rw [this]; rfl
    | cons y r =>
      have : l[1]? = some y := by
        have := congrArg (·[0]?) hl
        simpa using this
      rw [this]
      simp
  rw [h6] at h2
  omega

theorem cr_label {α : Type} {f : α → RM} (sz : α → Nat) (hf : ∀ k, Nb (sz k) (f k)) (x : Nd) (lead : Bool) (l : List α) (s s' : Rz.RS) (e : labelP f x lead l s = .ok s') : cr s' ≤ cr s + 8 * (l.map sz).sum := by
  unfold labelP at e
  split at e
  · cases e
  · obtain ⟨s1, e1, e2⟩ := bind_ok e
    obtain rfl := Except.ok.inj e2
    have h1 := cr_each sz hf _ _ s1 e1
    have h2 : cr { s with labels := s.labels ++ [(x.name, lead)] } = cr s := rfl
    have h3 : cr { s1 with labels := s.labels } = cr s1 := rfl
    omega

theorem cr_leave {α : Type} {f : α → RM} (sz : α → Nat) (hf : ∀ k, Nb (sz k) (f k)) (x : Nd) (l : List α) (s s' : Rz.RS) (e : leaveP f x l s = .ok s') : cr s' ≤ cr s + 8 * (l.map sz).sum := by
  unfold leaveP at e
  split at e
  · cases e
  · have h1 := cr_each sz hf _ s s' e
    omega

theorem cr_use (bi : ByteArray → Bool) (nm : ByteArray) (pl : Int) (s s' : Rz.RS) (v : Option Nat) (e : useP bi nm pl s = .ok (v, s')) : cr s' = cr s + 1 := by
  unfold useP at e
  split at e
  · have e := Except.ok.inj e
    have e2 := (Prod.mk.inj e).2
    rw [← e2]
    split <;> (unfold cr; simp [capP]; try omega)
  · split at e
    · have e := Except.ok.inj e
      have e2 := (Prod.mk.inj e).2
      rw [← e2]
      unfold cr
      simp
      omega
    · cases e

theorem cr_give {α : Type} (nd : α → Nd) {f : α → RM} (sz : α → Nat) (hf : ∀ k, Nb (sz k) (f k)) (bi : ByteArray → Bool) (l : List α) (s s' : Rz.RS) (e : giveP bi nd f l s = .ok s') : cr s' ≤ cr s + 1 + 8 * (l.map sz).sum := by
  unfold giveP at e
  split at e
  · obtain rfl := Except.ok.inj e
    omega
  · rename_i t r
    split at e
    · split at e
      · cases e
      · rename_i v s1 hu
        split at e
        · cases e
        · have h1 := cr_use bi _ _ s s1 v hu
          have h2 := cr_each sz hf _ s1 s' e
          rw [List.map_cons, List.sum_cons]
          omega
    · have h2 := cr_each sz hf _ s s' e
      omega

theorem cr_enter (x : Nd) (many : Nat) (s : Rz.RS) : cr (enterP x many s) ≤ cr s + 2 := by
  unfold enterP
  simp only
  rw [cr_open]
  split
  · rw [cr_put, cr_open]
    unfold cr
    simp
    omega
  · rw [cr_open]
    unfold cr
    simp
    omega

theorem cr_function {α : Type} (nd : α → Nd) (sz : α → Nat) (h1 : ∀ k, 1 ≤ sz k) {body : α → RM} (hb : ∀ k s s', body k s = .ok s' → cr s' + 8 ≤ cr s + 8 * sz k) (x : Nd) (l : List α) (s s' : Rz.RS) (e : functionP nd body x l s = .ok s') : cr s' + 2 ≤ cr s + 8 * (1 + (l.map sz).sum) := by
  unfold functionP at e
  split at e
  · cases e
  · split at e
    · obtain rfl := Except.ok.inj e
      omega
    · rename_i b hl
      obtain ⟨s1, e1, e2⟩ := bind_ok e
      obtain ⟨s2, e3, e4⟩ := bind_ok e2
      obtain rfl := Except.ok.inj e4
      have g1 := cr_enter x (l.length - 1) s
      have g2 := cr_pars nd _ _ s1 e1
      have g3 := hb b _ s2 e3
      have g4 : cr (if selfB x = true then bumpP s1 else s1) ≤ cr s1 + 1 := by
        split
        · exact cr_bump s1
        · omega
      have g5 : cr { shutP (shutP s2) with fn := s.fn, loops := s.loops, labels := s.labels } = cr s2 := rfl
      have g6 := sum_len sz h1 l.dropLast
      have g7 : (l.map sz).sum = (l.dropLast.map sz).sum + sz b := by
        rcases List.eq_nil_or_concat l with q | ⟨l', y, q⟩
        · rw [q] at hl; cases hl
        · rw [List.concat_eq_append] at q
          subst q
          rw [List.getLast?_append] at hl
          simp at hl
          subst hl
          simp
      omega

/-- a node; what stands in it as a block's statements -/
theorem cr_res (bi : ByteArray → Bool) : ∀ n, (∀ t, Nb (szT n t) ((resP bi n).1 t)) ∧ (∀ (t : Tr n) (s s' : Rz.RS), (resP bi n).2 t s = .ok s' → cr s' + 8 ≤ cr s + 8 * szT n t)
  | 0 => ⟨(fun t => nomatch (t : Empty)), (fun t => nomatch (t : Empty))⟩
  | n + 1 => by
    obtain ⟨i1, i2⟩ := cr_res bi n
    refine ⟨fun t s s' e => ?_, fun t s s' e => ?_⟩
    · obtain ⟨x, k⟩ := t
      have hsz : szT (n + 1) ((x, k) : Nd × Sli (Tr n)) = 1 + (k.xs.map (szT n)).sum := rfl
      rw [hsz]
      simp only [resP] at e
      split at e
      · split at e
        · cases e
        · rename_i v s1 hu
          obtain rfl := Except.ok.inj e
          have := cr_use bi _ _ s s1 v hu
          omega
      · split at e
        · have := cr_give (ndR n) (szT n) i1 bi _ s s' e; omega
        · split at e
          · exact cr_function (ndR n) (szT n) (sz_pos n) i2 x _ s s' e
          · split at e
            · have := cr_block (ndR n) (szT n) i1 _ s s' e; omega
            · split at e
              · have := cr_try (ndR n) (szT n) i1 i2 x _ s s' e; omega
              · split at e
                · have := cr_loop (szT n) i1 _ s s' e; omega
                · split at e
                  · have := cr_loopOf (szT n) i1 x _ s s' e; omega
                  · split at e
                    · have := cr_label (szT n) i1 x _ _ s s' e; omega
                    · split at e
                      · have h5 : s = s' := by
                          unfold jumpP at e
                          by_cases c : (if isS x.name [] then decide (0 < s.loops) else s.labels.any fun e => decide (e.1 = x.name) && (e.2 || x.kind == 39)) = true
                          · rw [if_pos c] at e
                            exact Except.ok.inj e
                          · rw [if_neg c] at e
                            cases e
                        rw [h5]
                        omega
                      · split at e
                        · have := cr_leave (szT n) i1 x _ s s' e; omega
                        · have := cr_each (szT n) i1 _ s s' e; omega
    · obtain ⟨x, k⟩ := t
      have hsz : szT (n + 1) ((x, k) : Nd × Sli (Tr n)) = 1 + (k.xs.map (szT n)).sum := rfl
      rw [hsz]
      simp only [resP] at e
      have := cr_items (ndR n) (szT n) i1 _ s s' e
      omega

end Go.Proofs.Ytihmdcdifakepab.Rv
