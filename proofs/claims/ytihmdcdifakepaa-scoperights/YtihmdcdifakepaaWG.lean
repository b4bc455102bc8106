/- The document's tree: what a call on places does; empty. -/
import Derived.Test.YtihmdcdifakepaaWF
namespace Go.Proofs.Ytihmdcdifakepaa.Sc
open Go.RowKit
set_option linter.unusedVariables false

def szT : (n : Nat) → Tr n → Nat
  | 0, t => nomatch (t : Empty)
  | n + 1, (_, s) => 1 + (s.xs.map (szT n)).sum
def szL {n : Nat} (xs : List (Tr n)) : Nat := (xs.map (szT n)).sum

theorem sz_pos (n : Nat) (t : Tr n) : 1 ≤ szT n t := by
  cases n with
  | zero => exact nomatch (t : Empty)
  | succ n => obtain ⟨x, s⟩ := t; rw [szT]; omega
theorem szL_cons {n : Nat} (k : Tr n) (ks : List (Tr n)) : szL (k :: ks) = szT n k + szL ks := by unfold szL; simp
theorem szL_nil {n : Nat} : szL ([] : List (Tr n)) = 0 := rfl

/-- what a call on the places at pb does: f; so many places more at most -/
def RC (B pb : Nat) (W0 : World) (F : Nat) (args : Array Value) (f : RS → RS) (sz : Nat) : Prop :=
  ∀ (w : World) (vU vV : Value) (st : RS) (m : Nat), Below B W0 w → PlAt B pb w st m vU vV → m + sz ≤ 1000000 →
    Calls Try.prog F args w fun e w' => e = .returned (.tuple #[]) ∧ ∃ vU' vV', PlAt B pb w' (f st) (m + sz) vU' vV' ∧ Stp pb w vU vV w' vU' vV' ∧ Below B W0 w'

theorem declared_rc (B pb : Nat) (W0 : World) (x : Int) : RC B pb W0 32 #[.pointer (some ⟨pb, 0, none⟩), .int .i64 x] (decR x) 1 := by
  intro w vU vV st m hb hp hm
  refine (declared_any B pb x w vU vV st m hp hm).mono ?_
  rintro e w' ⟨he, vU', vV', h1, h2⟩
  exact ⟨he, vU', vV', h1, h2, hp.below h2 hb⟩
theorem used_rc (B pb : Nat) (W0 : World) (x : Int) : RC B pb W0 49 #[.pointer (some ⟨pb, 0, none⟩), .int .i64 x] (useR x) 1 := by
  intro w vU vV st m hb hp hm
  refine (used_any B pb x w vU vV st m hp hm).mono ?_
  rintro e w' ⟨he, vU', vV', h1, h2⟩
  exact ⟨he, vU', vV', h1, h2, hp.below h2 hb⟩

/-- where a function stands: the world at its beginning, its box -/
structure Fr (B pb : Nat) (W0 w0 : World) (vU0 vV0 : Value) (bk : Nat) (box : Array Value) (w : World) (vU vV : Value) (st : RS) (m : Nat) : Prop where
  bel : Below B W0 w
  pl : PlAt B pb w st m vU vV
  stp : Stp pb w0 vU0 vV0 w vU vV
  box : ∀ i v, box[i]? = some v → w.cell? ⟨bk, i, none⟩ = some v
  lt : bk < w.heap.size
  sep : ¬ Own pb vU vV bk

theorem Fr.start {B pb : Nat} {W0 w : World} {vU vV : Value} {st : RS} {m : Nat} (hb : Below B W0 w) (hp : PlAt B pb w st m vU vV) (box : Array Value) (ty : TypeId) : Fr B pb W0 w vU vV w.heap.size box (w.alloc (.cells box ty)) vU vV st m :=
  have h : Below w.heap.size w (w.alloc (.cells box ty)) := (Below.refl _ _).alloc (Nat.le_refl _) _
  ⟨hb.alloc hp.size _, hp.new h, Stp.new _ _ h, box_new w box ty, by simp, fun q => by have := hp.lt _ q; omega⟩

theorem Fr.call {B pb : Nat} {W0 w0 : World} {vU0 vV0 : Value} {bk : Nat} {box : Array Value} {w : World} {vU vV : Value} {st : RS} {m : Nat} (h : Fr B pb W0 w0 vU0 vV0 bk box w vU vV st m)
    {w' : World} {vU' vV' : Value} {st' : RS} {m' : Nat} (hp : PlAt B pb w' st' m' vU' vV') (hs : Stp pb w vU vV w' vU' vV') (hb : Below B W0 w') : Fr B pb W0 w0 vU0 vV0 bk box w' vU' vV' st' m' :=
  ⟨hb, hp, h.stp.trans hs, fun i v q => hs.chg.cell (h.box i v q) h.sep, Nat.lt_of_lt_of_le h.lt hs.chg.size, fun q => h.sep (hs.own _ q h.lt)⟩

theorem Fr.new {B pb : Nat} {W0 w0 : World} {vU0 vV0 : Value} {bk : Nat} {box : Array Value} {w w' : World} {vU vV : Value} {st : RS} {m : Nat} (h : Fr B pb W0 w0 vU0 vV0 bk box w vU vV st m) (hb : Below w.heap.size w w') : Fr B pb W0 w0 vU0 vV0 bk box w' vU vV st m :=
  h.call (h.pl.new hb) (Stp.new _ _ hb) (h.bel.trans (hb.mono h.pl.size))

theorem Fr.spoil {B pb : Nat} {W0 w0 : World} {vU0 vV0 : Value} {bk : Nat} {box : Array Value} {w : World} {vU vV : Value} {st : RS} {m : Nat} (h : Fr B pb W0 w0 vU0 vV0 bk box w vU vV st m) : Fr B pb W0 w0 vU0 vV0 bk box (w.setCell ⟨pb, 2, none⟩ (.bool true)) vU vV none m := by
  obtain ⟨h1, h2⟩ := h.pl.spoil
  exact h.call h1 h2 (h.pl.below h2 h.bel)

/-- the mark set right behind the box -/
theorem Fr.atOnce {B pb : Nat} {W0 w : World} {vU vV : Value} {st : RS} {m : Nat} (hb : Below B W0 w) (hp : PlAt B pb w st m vU vV) (box : Array Value) (ty : TypeId) (m' : Nat) (hm : m ≤ m') :
    ∃ vU' vV', PlAt B pb ((w.setCell ⟨pb, 2, none⟩ (.bool true)).alloc (.cells box ty)) none m' vU' vV' ∧ Stp pb w vU vV ((w.setCell ⟨pb, 2, none⟩ (.bool true)).alloc (.cells box ty)) vU' vV' ∧ Below B W0 ((w.setCell ⟨pb, 2, none⟩ (.bool true)).alloc (.cells box ty)) := by
  obtain ⟨h1, h2⟩ := hp.spoil
  have hb1 := hp.below h2 hb
  have h : Below (w.setCell ⟨pb, 2, none⟩ (.bool true)).heap.size (w.setCell ⟨pb, 2, none⟩ (.bool true)) ((w.setCell ⟨pb, 2, none⟩ (.bool true)).alloc (.cells box ty)) := (Below.refl _ _).alloc (Nat.le_refl _) _
  exact ⟨vU, vV, (h1.new h).more hm, h2.trans (Stp.new _ _ h), hb1.alloc h1.size _⟩
/-- .. and where it stays -/
theorem Fr.stays {B pb : Nat} {W0 w : World} {vU vV : Value} {st : RS} {m : Nat} (hb : Below B W0 w) (hp : PlAt B pb w st m vU vV) (box : Array Value) (ty : TypeId) (m' : Nat) (hm : m ≤ m') (u : Value) (hu : u = .bool st.isNone) :
    ∃ vU' vV', PlAt B pb ((w.setCell ⟨pb, 2, none⟩ u).alloc (.cells box ty)) st m' vU' vV' ∧ Stp pb w vU vV ((w.setCell ⟨pb, 2, none⟩ u).alloc (.cells box ty)) vU' vV' ∧ Below B W0 ((w.setCell ⟨pb, 2, none⟩ u).alloc (.cells box ty)) := by
  subst hu
  obtain ⟨U, V, h1, h2, h3, h4⟩ := hp.mem
  have hc : Chg (fun k => k = pb) w (w.setCell ⟨pb, 2, none⟩ (.bool st.isNone)) := Chg.set w _ _ rfl
  have hq : PlAt B pb (w.setCell ⟨pb, 2, none⟩ (.bool st.isNone)) st m vU vV := by
    refine ⟨U, V, ⟨?_, ?_, ?_, ?_, ?_, ?_, h1.oU.kept hc (fun k e q => h1.sU (q ▸ e)), h1.oV.kept hc (fun k e q => h1.sV (q ▸ e)), h1.sU, h1.sV, h1.sUV, h1.pB⟩, h2, h3, h4⟩
    · rw [World.cell?_setCell_other _ _ _ _ (by simp)]; exact h1.c0
    · rw [World.cell?_setCell_other _ _ _ _ (by simp)]; exact h1.c1
    · exact World.cell?_setCell_same _ _ _ h1.c2
    · rw [World.frozen?_setCell]; exact h1.f0
    · rw [World.frozen?_setCell]; exact h1.f1
    · rw [World.frozen?_setCell]; exact h1.f2
  have hs : Stp pb w vU vV (w.setCell ⟨pb, 2, none⟩ (.bool st.isNone)) vU vV := ⟨Chg.set w _ _ (Or.inl rfl), fun _ q _ => q⟩
  have h : Below (w.setCell ⟨pb, 2, none⟩ (.bool st.isNone)).heap.size (w.setCell ⟨pb, 2, none⟩ (.bool st.isNone)) ((w.setCell ⟨pb, 2, none⟩ (.bool st.isNone)).alloc (.cells box ty)) := (Below.refl _ _).alloc (Nat.le_refl _) _
  exact ⟨vU, vV, (hq.new h).more hm, hs.trans (Stp.new _ _ h), (hp.below hs hb).alloc hq.size _⟩

/-- the end -/
theorem Fr.done {B pb : Nat} {W0 w0 : World} {vU0 vV0 : Value} {bk : Nat} {box : Array Value} {w : World} {vU vV : Value} {st st' : RS} {m m' : Nat} (h : Fr B pb W0 w0 vU0 vV0 bk box w vU vV st m) (hs : st' = st) (hm : m ≤ m') :
    ∃ vU' vV', PlAt B pb w st' m' vU' vV' ∧ Stp pb w0 vU0 vV0 w vU' vV' ∧ Below B W0 w := ⟨vU, vV, hs ▸ h.pl.more hm, h.stp, h.bel⟩

/-- a kid's six cells -/
def Six (w : World) (b off : Nat) (x : Nd) (v : Value) : Prop :=
  w.cell? ⟨b, off, none⟩ = some (.int .i64 x.kind) ∧ w.cell? ⟨b, off + 1, none⟩ = some (.int .i64 x.pl) ∧ w.cell? ⟨b, off + 2, none⟩ = some (.string x.name) ∧
    w.cell? ⟨b, off + 3, none⟩ = some (.int .u64 x.num) ∧ w.cell? ⟨b, off + 4, none⟩ = some (.string x.op) ∧ w.cell? ⟨b, off + 5, none⟩ = some v

/-- the kids of a node in whatever world above W0 -/
theorem kid_six {n : Nat} {W0 : World} {s : Sli (Tr n)} (h : s.ok (encT n) 6 W0) {k : Nat} {y : Tr n} (hk : s.xs[k]? = some y) :
    ∃ (b off : Nat), s.at' = some ⟨b, off, none⟩ ∧ ∀ (B : Nat) (w : World), B = W0.heap.size → Below B W0 w → Six w b (off + k * 6) (ndT n y) (.slice (atT n y) (nkT n y) (capT n y)) := by
  obtain ⟨b, off, h1, h2⟩ := h.cells (by intro e; rw [e] at hk; simp at hk)
  refine ⟨b, off, h1, fun B w hB hb => ?_⟩
  subst hB
  have g := h2 k _ hk
  have c := cells_below hb
  exact ⟨c _ _ (g 0 _ rfl), c _ _ (g 1 _ rfl), c _ _ (g 2 _ rfl), c _ _ (g 3 _ rfl), c _ _ (g 4 _ rfl), c _ _ (g 5 _ rfl)⟩

set_option maxRecDepth 100000 in
theorem empty_rc (B pb : Nat) (W0 : World) (x : Nd) (ad : Option Addr) (len cap : Nat) (hl : len ≤ maxLen) :
    RC B pb W0 44 #[.pointer (some ⟨pb, 0, none⟩), .agg #[.int .i64 x.kind, .int .i64 x.pl, .string x.name, .int .u64 x.num, .string x.op, .slice ad len cap]] (fun st => if 0 < len then none else st) 0 := by
  intro w vU vV st m hb hp hm
  obtain ⟨kind, pl, name, num, op⟩ := x
  simp only
  unfold maxLen at hl
  have HB : Hid (Below B W0 w ∧ PlAt B pb w st m vU vV) := ⟨hb, hp⟩
  obtain ⟨c2, f2⟩ := hp.bad
  have pbl : pb < w.heap.size := hp.lt pb (Or.inl rfl)
  clear hb hp
  obtain ⟨R, hR⟩ : ∃ R : RS, R = if 0 < len then none else st := ⟨_, rfl⟩
  rw [← hR]
  have HR : Hid (R = if 0 < len then none else st) := hR
  clear hR
  cases st with
  | none =>
    simp only [Option.isNone_none] at c2
    go_enter Try.func44, Try.ntmps44
    go_wp2_with fail
    go_end0
    refine ⟨rfl, ?_⟩
    have e : R = none := by rw [HR.out]; split <;> rfl
    rw [e]
    exact Fr.atOnce HB.out.1 HB.out.2 _ _ _ (by omega)
  | some s =>
    simp only [Option.isNone_some] at c2
    rcases Nat.eq_zero_or_pos len with c | c
    · subst c
      have e : R = some s := by rw [HR.out]; rfl
      rw [e]
      clear HR e
      go_enter Try.func44, Try.ntmps44
      go_wp2_with fail
      go_end0
      exact ⟨rfl, Fr.stays HB.out.1 HB.out.2 _ _ _ (by omega) _ rfl⟩
    · have e : R = none := by rw [HR.out, if_pos c]
      rw [e]
      clear HR e
      go_enter Try.func44, Try.ntmps44
      go_wp2_with fail
      go_end0
      exact ⟨rfl, Fr.atOnce HB.out.1 HB.out.2 _ _ _ (by omega)⟩
end Go.Proofs.Ytihmdcdifakepaa.Sc
