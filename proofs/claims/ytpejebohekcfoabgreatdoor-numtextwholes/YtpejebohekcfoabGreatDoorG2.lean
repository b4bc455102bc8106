/- The state of shortest's loop: each call by it. -/
import Derived.Test.YtpejebohekcfoabGreatDoorG1
import Derived.Test.YtpejebohekcfoabGreatDoorBB
namespace Go.Proofs.YtpejebohekcfoabGreatDoor
open Go.RowKit
set_option linter.unusedVariables false

structure St (w0 wr : World) (B bv bt : Nat) (pre : List Nat) (V L U T : Nat) (cl : Bool) : Prop where
  iv : Iv wr B bv V L U T cl
  bd : Lib.IsBuilder 65 5 B bt (Lib.byteCells (txt pre)) wr
  below : Below B w0 wr

theorem St.lt {w0 wr : World} {B bv bt : Nat} {pre : List Nat} {V L U T : Nat} {cl : Bool} (h : St w0 wr B bv bt pre V L U T cl) : B ≤ wr.heap.size := iv_lt h.iv

theorem IsB_tame {w w' : World} {B bt bv : Nat} {bs : List Value} (h : Lib.IsBuilder 65 5 B bt bs w) (t : Tame w w' bv) (hv : ∃ cs, w.heap[bv]? = some (.cells cs 76 (0, 0))) : Lib.IsBuilder 65 5 B bt bs w' := by
  rcases h with h | h
  · exact Or.inl (BuilderAt_tame h t hv)
  · exact Or.inr (BuilderAt_tame h t hv)

theorem IsB_grown {w w' : World} {B bt : Nat} {bs : List Value} (h : Lib.IsBuilder 65 5 B bt bs w) (g : w.grownBy w' none) : Lib.IsBuilder 65 5 B bt bs w' := by
  rcases h with h | h
  · exact Or.inl (BuilderAt_others h g)
  · exact Or.inr (BuilderAt_others h g)

theorem st_times {w0 wr : World} {B bv bt : Nat} {pre : List Nat} {V L U T K : Nat} {cl : Bool} (h : St w0 wr B bv bt pre V L U T cl) (hV : V < 2 ^ K) (hL : L < 2 ^ K) (hU : U < 2 ^ K) (hK : K ≤ 1000000) :
    Calls Tryz.prog 50 #[.pointer (some ⟨bv, 0, none⟩), .int .i64 1] wr fun e w' => e = .returned (.tuple #[]) ∧ Hid (St w0 w' B bv bt pre (V * 10) (L * 10) (U * 10) T cl) := by
  refine (times_any wr B bv V L U T 1 K cl h.iv hV hL hU (by omega)).mono ?_
  rintro e w' ⟨rfl, i, t, b⟩
  rw [Nat.pow_one] at i
  exact ⟨rfl, i, IsB_tame h.bd t h.iv.row80, h.below.trans b⟩

theorem st_next {w0 wr : World} {B bv bt : Nat} {pre : List Nat} {V L U T K : Nat} {cl : Bool} (h : St w0 wr B bv bt pre V L U T cl) (hV : V < 2 ^ K) (hT : T < 2 ^ K) (hK : K ≤ 1000000) (hVT : V < 10 * T) :
    Calls Tryz.prog 51 #[.pointer (some ⟨bv, 0, none⟩)] wr fun e w' => ∃ k : Nat, e = .returned (.int .u8 (48 + (k : Int))) ∧ k ≤ 9 ∧ Hid (k * T ≤ V ∧ V - k * T < T ∧ St w0 w' B bv bt pre (V - k * T) L U T cl) := by
  refine (next_any wr B bv V L U T K cl h.iv hV hT (by omega) hVT).mono ?_
  rintro e w' ⟨k, rfl, h1, h2, h3, i, t, b⟩
  exact ⟨k, rfl, h3, h1, h2, i, IsB_tame h.bd t h.iv.row80, h.below.trans b⟩

theorem st_end {w0 wr : World} {B bv bt : Nat} {pre : List Nat} {V L U T K : Nat} {cl : Bool} (h : St w0 wr B bv bt pre V L U T cl) (hV : V < 2 ^ K) (hL : L < 2 ^ K) (hU : U < 2 ^ K) (hT : T < 2 ^ K) (hK : K ≤ 1000000) :
    Calls Tryz.prog 52 #[.pointer (some ⟨bv, 0, none⟩)] wr fun e w' => e = .returned (.tuple #[.bool (inN V L cl), .bool (inN T (V + U) cl)]) ∧ Hid (St w0 w' B bv bt pre V L U T cl) := by
  have := canEnd_any wr B bv V L U T cl K h.iv hV hL hU hT (by omega)
  rw [inI_cmp, inI_cmp] at this
  refine this.mono ?_
  rintro e w' ⟨rfl, g⟩
  exact ⟨rfl, h.iv.kept0 g, IsB_grown h.bd g, h.below.trans (below_none g h.lt)⟩

theorem st_up {w0 wr : World} {B bv bt : Nat} {pre : List Nat} {V L U T K k : Nat} {cl : Bool} (h : St w0 wr B bv bt pre V L U T cl) (hV : V < 2 ^ K) (hT : T < 2 ^ K) (hK : K ≤ 1000000) (hk : k ≤ 9) :
    Calls Tryz.prog 53 #[.pointer (some ⟨bv, 0, none⟩), .int .u8 (48 + (k : Int))] wr fun e w' => e = .returned (.bool (upN V T k)) ∧ Hid (St w0 w' B bv bt pre V L U T cl) := by
  have := roundsUp_any wr B bv V L U T cl (48 + (k : Int)) K (by omega) (by omega) h.iv hV hT (by omega)
  rw [upI_cmp] at this
  refine this.mono ?_
  rintro e w' ⟨rfl, g⟩
  exact ⟨rfl, h.iv.kept0 g, IsB_grown h.bd g, h.below.trans (below_none g h.lt)⟩

theorem txt_len (ds : List Nat) : (Lib.byteCells (txt ds)).length = ds.length := by
  rw [Lib.byteCells_length]; simp [txt]

theorem Iv_others' {w w' : World} {B b bt V L U T : Nat} {cl : Bool} {bs : List Value} (h : Iv w B b V L U T cl) (hb : Lib.IsBuilder 65 5 B bt bs w) (ok : Lib.OthersKept 5 (some bt) w w') : Iv w' B b V L U T cl := by
  rcases hb with hb | hb
  · exact Iv_others h hb ok
  · exact Iv_others h hb ok

theorem st_put {w0 wr : World} {B bv bt : Nat} {pre : List Nat} {V L U T k : Nat} {cl : Bool} (c : Int) (hc : c = 48 + (k : Int)) (h : St w0 wr B bv bt pre V L U T cl) (hl : pre.length ≤ 10000000) (hk : k ≤ 10) :
    Calls Tryz.prog 48 #[.int .u8 c, .pointer (some ⟨bt, 0, none⟩)] wr fun e w' => e = .returned (.tuple #[]) ∧ Hid (St w0 w' B bv bt (pre ++ [k]) V L U T cl) := by
  subst hc
  refine (put66_any B bt _ _ wr h.bd (by rw [txt_len]; omega) h.lt).mono ?_
  rintro e w' ⟨rfl, b, bl, ok⟩
  rw [cells_snoc pre k (by omega)] at b
  exact ⟨rfl, Iv_others' h.iv h.bd ok, Or.inr b, h.below.trans bl⟩

theorem st_str {w0 wr : World} {B bv bt : Nat} {pre : List Nat} {V L U T : Nat} {cl : Bool} (h : St w0 wr B bv bt pre V L U T cl) :
    Calls Tryz.prog 43 #[.pointer (some ⟨bt, 0, none⟩)] wr fun e w' => e = .returned (.string (bs (txt pre))) ∧ Below B w0 w' := by
  refine (Tryz.Builder_String_any B bt (txt pre) wr h.bd h.lt).mono ?_
  rintro e w' ⟨rfl, b⟩
  exact ⟨rfl, h.below.trans b⟩

/-- how long the builder's text is -/
def lenB (bt : Nat) (w : World) : Nat := match w.cell? ⟨bt, 1, none⟩ with | some (.slice _ n _) => n | _ => 0

theorem lenB_is {w : World} {B bt : Nat} {bs : List Value} (h : Lib.IsBuilder 65 5 B bt bs w) : lenB bt w = bs.length := by
  have key : ∀ p, Lib.BuilderAt 65 5 B bt p bs w → lenB bt w = bs.length := by
    rintro p ⟨hB, v, hb, hown, hne⟩
    have c1 : w.cell? ⟨bt, 1, none⟩ = some v := by rw [Lib.cell_of_heap hb]; rfl
    unfold lenB
    rw [c1]
    rcases hown.2 with ⟨rfl, hn⟩ | ⟨g, cap, cur, rfl, _⟩
    · exact hn.symm
    · rfl
  rcases h with h | h
  · exact key _ h
  · exact key _ h

/-- where the loop stands -/
def ShortAt (w0 wr : World) (B bv bt : Nat) (V0 L0 U0 T : Nat) (cl : Bool) : Prop :=
  ∃ (pre : List Nat) (V L U f : Nat), DigAt (T + 1) V0 L0 U0 T cl pre V L U f ∧ U = U0 * 10 ^ pre.length ∧ L = L0 * 10 ^ pre.length ∧ St w0 wr B bv bt pre V L U T cl

end Go.Proofs.YtpejebohekcfoabGreatDoor
