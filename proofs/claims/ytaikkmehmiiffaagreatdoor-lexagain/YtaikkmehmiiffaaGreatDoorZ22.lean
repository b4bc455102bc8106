/- LexTiles: the law's walk. -/
import Derived.Test.YtaikkmehmiiffaaGreatDoorZ19
import Derived.Deep.RegionHeld3
namespace Go.Proofs.YtaikkmehmiiffaaGreatDoor.Lx
open Go.RowKit
set_option linter.unusedVariables false

theorem chain_link {lit : List UInt8 → Nat × Bool} {s : List UInt8} {ts : List Tok} (h : Chain lit s ts) (i : Nat) (t t' : Tok) (hi : ts[i]? = some t) (hj : ts[i + 1]? = some t') : Link lit s t t' := by
  induction ts generalizing i with
  | nil => simp at hi
  | cons a r ih =>
    cases r with
    | nil => simp at hj
    | cons b r =>
      cases i with
      | zero =>
        simp at hi hj
        subst hi hj
        exact h.1
      | succ i => exact ih h.2 i (by simpa using hi) (by simpa using hj)

theorem chain_last {lit : List UInt8 → Nat × Bool} {s : List UInt8} {ts : List Tok} (h : Chain lit s ts) : ∃ n, ts.length = n + 1 ∧ ts[n]? = some ⟨0, s.length, [], 0⟩ := by
  induction ts with
  | nil => exact absurd h (by simp [Chain])
  | cons a r ih =>
    cases r with
    | nil => exact ⟨0, rfl, by rw [show a = ⟨0, s.length, [], 0⟩ from h]; rfl⟩
    | cons b r =>
      obtain ⟨n, h1, h2⟩ := ih h.2
      exact ⟨n + 1, by simpa using h1, by simpa using h2⟩

theorem chain_len {lit : List UInt8 → Nat × Bool} {s : List UInt8} {ts : List Tok} (h : Chain lit s ts) : ∀ t r, ts = t :: r → t.pl + ts.length ≤ s.length + 1 := by
  induction ts with
  | nil => intro t r e; simp at e
  | cons a r ih =>
    intro t r' e
    simp only [List.cons.injEq] at e
    obtain ⟨rfl, rfl⟩ := e
    cases r with
    | nil =>
      rw [show a = ⟨0, s.length, [], 0⟩ from h]
      simp
    | cons b r =>
      have := ih h.2 b r rfl
      have := h.1.rise
      simp only [List.length_cons] at *
      omega

theorem tiles_long (s : ByteArray) (w : World) (h : 131072 < s.size) (al : Calls Tryz.prog 9 #[] w fun e w' => e = .returned (.bool true) ∧ Below w.heap.size w w') :
    Calls Tryz.prog 4 #[.string s] w fun e w' => e = .returned (.bool true) ∧ Below w.heap.size w w' := by
  go_enter Tryz.func4, Tryz.ntmps4
  go_wp2_with (go_at_call 9; refine al.mono ?_; rintro e w1 ⟨rfl, hb⟩)
  go_ret
  exact ⟨rfl, hb⟩

set_option maxRecDepth 100000 in
theorem tiles_err (s : ByteArray) (p er : Nat) (w : World) (h : s.size ≤ 131072) (hp : p ≤ s.size) (he : er ≠ 0)
    (c1 : Calls Tryz.prog 10 #[.string s] w (ScanPost w ([], p, er)))
    (al : ∀ w1, Below w.heap.size w w1 → Calls Tryz.prog 9 #[] w1 fun e w' => e = .returned (.bool true) ∧ Below w1.heap.size w1 w') :
    Calls Tryz.prog 4 #[.string s] w fun e w' => e = .returned (.bool true) ∧ Below w.heap.size w w' := by
  have en : ((er : Int) != 0) = true := by simp; exact he
  have hpi : (p : Int) ≤ s.size := by omega
  clear he
  go_enter Tryz.func4, Tryz.ntmps4
  go_wp2_with fail
  refine c1.mono ?_
  rintro e w1 ⟨v, rfl, ho, b1⟩
  rcases ho.2 with ⟨rfl, _⟩ | ⟨g, cap, cur, rfl, _⟩
  · go_wp2_with fail
    refine (al _ b1).mono ?_
    rintro e w2 ⟨rfl, b2⟩
    have B2 := b1.trans (b2.mono b1.size)
    go_wp2_with fail
    go_ret
    exact ⟨rfl, B2⟩
  · go_wp2_with fail
    refine (al _ b1).mono ?_
    rintro e w2 ⟨rfl, b2⟩
    have B2 := b1.trans (b2.mono b1.size)
    go_wp2_with fail
    go_ret
    exact ⟨rfl, B2⟩

/-- LexTiles, at a token -/
structure TlAt (ts : List Tok) (v : Value) (w0 wr : World) (k : Nat) : Prop where
  le : k + 1 ≤ ts.length
  own : TokSl w0.heap.size wr v ts
  bel : Below w0.heap.size w0 wr

set_option maxHeartbeats 4000000 in
set_option maxRecDepth 100000 in
theorem tiles_ok (l : List UInt8) (ts : List Tok) (w : World) (hl : l.length ≤ 65536) (hch : Chain litN l ts)
    (c1 : Calls Tryz.prog 10 #[.string (bs l)] w (ScanPost w (ts, 0, 0)))
    (c2 : ∀ w1 x, Below w.heap.size w w1 → Calls Tryz.prog 10 #[.string (bs x)] w1 (ScanPost w1 (scI x)))
    (al : ∀ w1, Below w.heap.size w w1 → Calls Tryz.prog 9 #[] w1 fun e w' => e = .returned (.bool true) ∧ Below w1.heap.size w1 w') :
    Calls Tryz.prog 4 #[.string (bs l)] w fun e w' => e = .returned (.bool true) ∧ Below w.heap.size w w' := by
  obtain ⟨n, hn, hlast⟩ := chain_last hch
  have H1 : Hid (Chain litN l ts) := hch
  have H2 : Hid (∀ w1 x, Below w.heap.size w w1 → Calls Tryz.prog 10 #[.string (bs x)] w1 (ScanPost w1 (scI x))) := c2
  have HX : Hid (∀ a b, (bs l).extract a b = bs ((l.take b).drop a)) := bs_extract l
  have hsz : (bs l).size = l.length := rfl
  have HZ : Hid ((bs l).size = l.length) := rfl
  have sb : (bs l).size ≤ 65536 := by omega
  clear c2 hch
  go_enter Tryz.func4, Tryz.ntmps4
  go_wp2_with fail
  refine c1.mono ?_
  rintro e w1 ⟨v, rfl, ho, b1⟩
  obtain ⟨g, cap, rfl, hcap, hmax, hBg, hgw, hcell⟩ := TokSl.cells ho (by intro z; have hn' : ts.length = n + 1 := hn; rw [show ts = [] from z] at hn'; simp at hn')
  have HI : Hid (TlAt ts (.slice (some ⟨g, 0, none⟩) ts.length cap) w w1 0) := ⟨by omega, ho, b1⟩
  have a0 : w1.cell? ⟨g, n * 4, none⟩ = some (.int .i64 0) := hcell n _ hlast 0 _ rfl
  have a1 : w1.cell? ⟨g, n * 4 + 1, none⟩ = some (.int .i64 (l.length : Int)) := hcell n _ hlast 1 _ rfl
  have a2 : w1.cell? ⟨g, n * 4 + 2, none⟩ = some (.string ⟨#[]⟩) := hcell n _ hlast 2 _ rfl
  have a3 : w1.cell? ⟨g, n * 4 + 3, none⟩ = some (.int .u64 0) := hcell n _ hlast 3 _ rfl
  have nb : (n : Int) ≤ 70000 := by
    have hc := H1.out
    cases hts : ts with
    | nil => rw [hts] at hn; simp at hn
    | cons t r =>
      have := chain_len hc t r hts
      omega
  have hcap' : ts.length ≤ cap := hcap
  have ncap : (n : Int) < cap := by omega
  have ncap2 : (n : Int) < ts.length := by omega
  have n0 : (0 : Int) ≤ (n : Int) := by omega
  clear ho b1 hcell c1 hmax hBg hcap hcap'
  rw [show (ts, 0, 0).1.length = n + 1 from hn]
  go_wp2_with fail
  clear a0 a1 a2 a3 hgw
  have HG : Hid (TokSl w.heap.size w1 (.slice (some ⟨g, 0, none⟩) ts.length cap) ts) := HI.out.own
  rw [hn] at HI
  go_loopw [7] (fun i wr => ∃ k : Nat, TlAt ts (.slice (some ⟨g, 0, none⟩) (n + 1) cap) w wr k ∧ i = .int .i64 k) (fun i wr => n - (intOf i).toNat)
  case atStart => exact ⟨0, HI.out, rfl⟩
  case round =>
    obtain ⟨k, hr, rfl⟩ := hrel
    have kle := hr.le
    rw [hn] at kle
    have HB : Hid (Below w.heap.size w wr) := hr.bel
    rcases Nat.lt_or_ge k n with kn | kn
    · obtain ⟨t, ht⟩ : ∃ t, ts[k]? = some t := ⟨_, List.getElem?_eq_getElem (by omega)⟩
      obtain ⟨t', ht'⟩ : ∃ t', ts[k + 1]? = some t' := ⟨_, List.getElem?_eq_getElem (by omega)⟩
      have L := chain_link H1.out k t t' ht ht'
      obtain ⟨g2, cap2, hv2, hcap2, hmax2, hBg2, hgw2, hcell⟩ := TokSl.cells hr.own (by intro z; rw [z] at hn; simp at hn)
      simp only [Value.slice.injEq, Option.some.injEq, Addr.mk.injEq, and_true] at hv2
      obtain ⟨rfl, hnn, rfl⟩ := hv2
      have a0 : wr.cell? ⟨g, k * 4, none⟩ = some (.int .i64 (t.kind : Int)) := hcell k _ ht 0 _ rfl
      have a1 : wr.cell? ⟨g, k * 4 + 1, none⟩ = some (.int .i64 (t.pl : Int)) := hcell k _ ht 1 _ rfl
      have a2 : wr.cell? ⟨g, k * 4 + 2, none⟩ = some (.string (bs t.text)) := hcell k _ ht 2 _ rfl
      have a3 : wr.cell? ⟨g, k * 4 + 3, none⟩ = some (.int .u64 (t.num : Int)) := hcell k _ ht 3 _ rfl
      have b1 : wr.cell? ⟨g, (k + 1) * 4 + 1, none⟩ = some (.int .i64 (t'.pl : Int)) := hcell (k + 1) _ ht' 1 _ rfl
      have HN : Hid (∀ w2, Below wr.heap.size wr w2 → TlAt ts (.slice (some ⟨g, 0, none⟩) (n + 1) cap) w w2 (k + 1)) := by
        intro w2 h2
        exact ⟨by omega, hr.own.kept h2, HB.out.trans (h2.mono HB.out.size)⟩
      have low := L.low
      have high := L.high
      have rise := L.rise
      have fit := L.fit
      have HL : Hid (Link litN l t t') := L
      clear hr hcell L ht ht' hnn hcap2 hmax2 hBg2 HG
      by_cases pk : plainK t.kind
      · obtain ⟨a, ha⟩ : ∃ a, a = t.pl + t.text.length := ⟨_, rfl⟩
        have bh := HL.out.behind pk
        have tx := HL.out.text pk
        have gp := HL.out.gap pk
        rw [← ha] at bh gp
        have eA : (t.pl : Int) + ((bs t.text).size : Int) = (a : Int) := by rw [bs_size]; omega
        have x1 : (bs l).extract t.pl a = bs t.text := by
          rw [HX.out, List.drop_take, ha, Nat.add_sub_cancel_left, tx]
        have x2 : (bs l).extract a t'.pl = bs ((l.take t'.pl).drop a) := HX.out a t'.pl
        have cS : ∀ w2, Below w.heap.size w w2 → Calls Tryz.prog 10 #[.string (bs ((l.take t'.pl).drop a))] w2 (ScanPost w2 ([⟨0, t'.pl - a, [], 0⟩], 0, 0)) := by
          intro w2 h2
          have := H2.out w2 ((l.take t'.pl).drop a) h2
          unfold scI at this
          rw [gp] at this
          exact this
        have tb : (bs t.text).size ≤ 65536 := by rw [bs_size]; omega
        have al1 : (a : Int) ≤ (bs l).size := by rw [hsz]; omega
        have al2 : (t'.pl : Int) ≤ (bs l).size := by rw [hsz]; omega
        have al3 : (t.pl : Int) ≤ (a : Int) := by omega
        have al4 : (a : Int) ≤ (t'.pl : Int) := by omega
        have kI : (k : Int) + 1 < (n : Int) + 1 := by omega
        have k0 : (0 : Int) ≤ (k : Int) + 1 := by omega
        have w1' : IntKind.i64.wrap ((k : Int) + 1) = (k : Int) + 1 := by rw [IntKind.wrap_i64]; omega
        have w2' : IntKind.i64.wrap (a : Int) = (a : Int) := by rw [IntKind.wrap_i64]; omega
        have g1 : decide ((t'.pl : Int) < (a : Int)) = false := by simp; omega
        clear tx gp HL ha
        unfold plainK at pk
        have HBr : ∀ o, Below wr.heap.size wr (wr.alloc o) := fun o => (Below.refl _ _).alloc (Nat.le_refl _) o
        have HBa : ∀ o, Below w.heap.size w (wr.alloc o) := fun o => HB.out.alloc HB.out.size o
        generalize t.kind = kd at *
        generalize t.pl = pl at *
        generalize t'.pl = pl' at *
        generalize bs ((l.take pl').drop a) = GP at *
        generalize bs t.text = TX at *
        generalize t.num = nu at *
        clear hsz
        generalize bs l = s at *
        clear H1 H2 HX HI hlast
        rcases pk with rfl | rfl | rfl
        · go_upto_region 13 with fail
          go_quiet (fail)
          go_upto_region 16 with fail
          go_quiet (fail)
          go_wp2_with fail
          go_region_held3 (fun w' => w'.cell? ⟨wr.heap.size, 1, none⟩ = some (.int .i64 (pl : Int)) ∧ w'.cell? ⟨wr.heap.size, 2, none⟩ = some (.string TX) ∧ w'.cell? ⟨g, (k + 1) * 4 + 1, none⟩ = some (.int .i64 (pl' : Int))) (first | go_keep | (go_split_ands; refine ⟨?_, ?_, ?_⟩ <;> (rw [b3.cell (by simp <;> omega)]; assumption))) ((go_at_call 10; refine (cS _ (by repeat' (first | with_reducible exact HBa _ | with_reducible refine below_drewN ?_ _ | with_reducible refine Below.drew ?_))).mono ?_; rintro e w3 ⟨v3, rfl, ho3, b3⟩))
          obtain ⟨g3, cap3, rfl, _, _, _, _, _⟩ := TokSl.cells ho3 (by simp)
          have B3 : Hid (Below wr.heap.size wr w3) := by
            refine Below.trans ?_ (b3.mono ?_)
            · repeat' (first | with_reducible exact HBr _ | with_reducible refine below_drewN ?_ _ | with_reducible refine Below.drew ?_)
            · simp
          clear b3 ho3 cS
          go_wp2_with fail
          refine ⟨⟨k + 1, HN.out _ B3.out, by go_num⟩, ?_⟩
          simp [intOf]
          omega
        · go_upto_region 13 with fail
          go_quiet (fail)
          go_upto_region 16 with fail
          go_quiet (fail)
          go_wp2_with fail
          go_region_held3 (fun w' => w'.cell? ⟨wr.heap.size, 1, none⟩ = some (.int .i64 (pl : Int)) ∧ w'.cell? ⟨wr.heap.size, 2, none⟩ = some (.string TX) ∧ w'.cell? ⟨g, (k + 1) * 4 + 1, none⟩ = some (.int .i64 (pl' : Int))) (first | go_keep | (go_split_ands; refine ⟨?_, ?_, ?_⟩ <;> (rw [b3.cell (by simp <;> omega)]; assumption))) ((go_at_call 10; refine (cS _ (by repeat' (first | with_reducible exact HBa _ | with_reducible refine below_drewN ?_ _ | with_reducible refine Below.drew ?_))).mono ?_; rintro e w3 ⟨v3, rfl, ho3, b3⟩))
          obtain ⟨g3, cap3, rfl, _, _, _, _, _⟩ := TokSl.cells ho3 (by simp)
          have B3 : Hid (Below wr.heap.size wr w3) := by
            refine Below.trans ?_ (b3.mono ?_)
            · repeat' (first | with_reducible exact HBr _ | with_reducible refine below_drewN ?_ _ | with_reducible refine Below.drew ?_)
            · simp
          clear b3 ho3 cS
          go_wp2_with fail
          refine ⟨⟨k + 1, HN.out _ B3.out, by go_num⟩, ?_⟩
          simp [intOf]
          omega
        · go_upto_region 13 with fail
          go_quiet (fail)
          go_upto_region 16 with fail
          go_quiet (fail)
          go_wp2_with fail
          go_region_held3 (fun w' => w'.cell? ⟨wr.heap.size, 1, none⟩ = some (.int .i64 (pl : Int)) ∧ w'.cell? ⟨wr.heap.size, 2, none⟩ = some (.string TX) ∧ w'.cell? ⟨g, (k + 1) * 4 + 1, none⟩ = some (.int .i64 (pl' : Int))) (first | go_keep | (go_split_ands; refine ⟨?_, ?_, ?_⟩ <;> (rw [b3.cell (by simp <;> omega)]; assumption))) ((go_at_call 10; refine (cS _ (by repeat' (first | with_reducible exact HBa _ | with_reducible refine below_drewN ?_ _ | with_reducible refine Below.drew ?_))).mono ?_; rintro e w3 ⟨v3, rfl, ho3, b3⟩))
          obtain ⟨g3, cap3, rfl, _, _, _, _, _⟩ := TokSl.cells ho3 (by simp)
          have B3 : Hid (Below wr.heap.size wr w3) := by
            refine Below.trans ?_ (b3.mono ?_)
            · repeat' (first | with_reducible exact HBr _ | with_reducible refine below_drewN ?_ _ | with_reducible refine Below.drew ?_)
            · simp
          clear b3 ho3 cS
          go_wp2_with fail
          refine ⟨⟨k + 1, HN.out _ B3.out, by go_num⟩, ?_⟩
          simp [intOf]
          omega
      · have k34 : t.kind = 3 ∨ t.kind = 4 := by
          unfold plainK at pk
          omega
        have kI : (k : Int) + 1 < (n : Int) + 1 := by omega
        have k0 : (0 : Int) ≤ (k : Int) + 1 := by omega
        have w1' : IntKind.i64.wrap ((k : Int) + 1) = (k : Int) + 1 := by rw [IntKind.wrap_i64]; omega
        have HBr : ∀ o, Below wr.heap.size wr (wr.alloc o) := fun o => (Below.refl _ _).alloc (Nat.le_refl _) o
        clear HL pk
        generalize t.kind = kd at *
        generalize t.pl = pl at *
        generalize t'.pl = pl' at *
        generalize bs t.text = TX at *
        generalize t.num = nu at *
        clear hsz
        generalize bs l = s at *
        clear H1 H2 HX HI hlast
        rcases k34 with rfl | rfl
        all_goals
          go_upto_region 13 with fail
          go_quiet (fail)
          go_upto_region 16 with fail
          go_quiet (fail)
          go_wp2_with fail
          refine ⟨⟨k + 1, HN.out _ ?_, by go_num⟩, ?_⟩
          · repeat' (first | with_reducible exact HBr _ | with_reducible refine below_drewN ?_ _ | with_reducible refine Below.drew ?_)
          · simp [intOf]
            omega
    · have ke : k = n := by omega
      subst ke
      have ale := al _ HB.out
      clear hr H1 H2 HX HI hlast HG
      go_wp2_with fail
      refine ale.mono ?_
      rintro e w2 ⟨rfl, b2⟩
      go_wp2_with fail
      go_ret
      exact ⟨rfl, HB.out.trans (b2.mono HB.out.size)⟩

theorem tiles_walk (l : List UInt8) (w : World) (hG : Glob w) : Calls Tryz.prog 4 #[.string (bs l)] w fun e w' => e = .returned (.bool true) ∧ Below w.heap.size w w' := by
  have al := fun w1 (h : Below w.heap.size w w1) => alive_any w1 (hG.below h)
  by_cases h : 131072 < l.length
  · exact tiles_long (bs l) w h (al w (Below.refl _ _))
  · have c1 := scan_any l w hG
    by_cases e : (scI l).2.2 = 0
    · obtain ⟨ch, z, hl, _⟩ := scan_chain litN l e
      have r : scI l = ((scI l).1, 0, 0) := Prod.ext rfl (Prod.ext z e)
      rw [r] at c1
      exact tiles_ok l (scI l).1 w hl ch c1 (fun w1 x h1 => scan_any x w1 (hG.below h1)) al
    · obtain ⟨z, hp⟩ := scan_err litN l e
      have r : scI l = ([], (scI l).2.1, (scI l).2.2) := Prod.ext z rfl
      rw [r] at c1
      exact tiles_err (bs l) (scI l).2.1 (scI l).2.2 w (by rw [bs_size]; omega) hp e c1 al

end Go.Proofs.YtaikkmehmiiffaaGreatDoor.Lx
