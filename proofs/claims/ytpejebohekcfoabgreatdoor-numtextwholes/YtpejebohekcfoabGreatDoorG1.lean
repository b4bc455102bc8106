/- The interval and the builder side by side: what each leaves of the other. -/
import Derived.Test.YtpejebohekcfoabGreatDoorF3
import Derived.Test.YtpejebohekcfoabGreatDoorE3
import Derived.Test.YtpejebohekcfoabGreatDoorD2
namespace Go.Proofs.YtpejebohekcfoabGreatDoor
open Go.RowKit
set_option linter.unusedVariables false

theorem Num.blk {w w' : World} {v : Value} {g N : Nat} (h : Num w v g N) (e : w'.heap[g]? = w.heap[g]?) : Num w' v g N := by
  obtain ⟨cap, rfl, hl, ho⟩ := h
  refine ⟨cap, rfl, hl, ?_⟩
  rcases ho with ⟨h', _⟩ | ⟨g', cap', cur, h', hb, hg, r⟩
  · simp at h'
  · simp only [Value.slice.injEq, Option.some.injEq, Addr.mk.injEq, and_true, true_and] at h'
    obtain ⟨rfl, rfl⟩ := h'
    exact Or.inr ⟨g, cap, cur, rfl, hb, e.trans hg, r⟩

theorem Iv.row80 {w : World} {B b V L U T : Nat} {cl : Bool} (h : Iv w B b V L U T cl) : ∃ cs, w.heap[b]? = some (.cells cs 76 (0, 0)) := by
  obtain ⟨v1, v2, v3, v4, g1, g2, g3, g4, hb, _⟩ := h
  exact ⟨_, hb⟩

theorem BuilderAt_tame {w w' : World} {B bt bv : Nat} {p : Value} {bs : List Value} (h : Lib.BuilderAt 65 5 B bt p bs w) (t : Tame w w' bv) (hv : ∃ cs, w.heap[bv]? = some (.cells cs 76 (0, 0))) : Lib.BuilderAt 65 5 B bt p bs w' := by
  obtain ⟨hB, v, hb, hown, hne⟩ := h
  obtain ⟨cs, hv⟩ := hv
  have k : ∀ (g : Nat) (cur : Array Value) (ty : TypeId), w.heap[g]? = some (.cells cur ty (0, 0)) → ty ≠ 22 → ty ≠ 76 → w'.heap[g]? = some (.cells cur ty (0, 0)) := by
    intro g cur ty hg h1 h2
    refine (t.block g (Array.getElem?_eq_some_iff.1 hg).1 ?_ ?_).trans hg
    · intro e; subst e; rw [hv] at hg; simp at hg; exact h2 hg.2.symm
    · rintro ⟨c, hc⟩; rw [hc] at hg; simp at hg; exact h1 hg.2.symm
  refine ⟨hB, v, k bt _ 65 hb (by decide) (by decide), ⟨hown.1, ?_⟩, hne⟩
  rcases hown.2 with hn | ⟨g, cap, cur, hv', hb', hg, r⟩
  · exact Or.inl hn
  · exact Or.inr ⟨g, cap, cur, hv', hb', k g cur 5 hg (by decide) (by decide), r⟩

theorem Iv_others {w w' : World} {B b bt V L U T : Nat} {cl : Bool} {p : Value} {bs : List Value} (h : Iv w B b V L U T cl) (hb : Lib.BuilderAt 65 5 B bt p bs w) (ok : Lib.OthersKept 5 (some bt) w w') : Iv w' B b V L U T cl := by
  obtain ⟨v1, v2, v3, v4, g1, g2, g3, g4, hbk, n1, n2, n3, n4, s⟩ := h
  obtain ⟨_, v, hbt, _⟩ := hb
  have k : ∀ (g : Nat) (cur : Array Value) (ty : TypeId), w.heap[g]? = some (.cells cur ty (0, 0)) → ty ≠ 65 → ty ≠ 5 → w'.heap[g]? = w.heap[g]? := by
    intro g cur ty hg h1 h2
    rw [hg]
    refine ok g _ hg ?_ ?_
    · intro e; simp at e; subst e; rw [hbt] at hg; simp at hg; exact h1 hg.2.symm
    · intro c fz e; simp at e; exact h2 e.2.1
  have kn : ∀ {v : Value} {g N : Nat}, Num w v g N → Num w' v g N := by
    intro v g N n
    obtain ⟨cur, hc⟩ := n.row
    exact n.blk (k g cur 22 hc (by decide) (by decide))
  exact ⟨v1, v2, v3, v4, g1, g2, g3, g4, (k b _ 76 hbk (by decide) (by decide)).trans hbk, kn n1, kn n2, kn n3, kn n4, s⟩

theorem BuilderAt_others {w w' : World} {B bt : Nat} {p : Value} {bs : List Value} (h : Lib.BuilderAt 65 5 B bt p bs w) (g : w.grownBy w' none) : Lib.BuilderAt 65 5 B bt p bs w' := by
  obtain ⟨hB, v, hb, hown, hne⟩ := h
  exact ⟨hB, v, (g.block bt (Array.getElem?_eq_some_iff.1 hb).1 (by simp)).trans hb, hown.kept g (by cases hv : v.ownBlock <;> simp), hne⟩

/-- a digit's byte -/
def dB (d : Nat) : UInt8 := UInt8.ofNat (48 + d)
def txt (ds : List Nat) : List UInt8 := ds.map dB

theorem dB_nat (d : Nat) (h : d ≤ 200) : (dB d).toNat = 48 + d := by
  unfold dB
  rw [UInt8.toNat_ofNat']
  omega

theorem cells_snoc (ds : List Nat) (d : Nat) (h : d ≤ 200) : Lib.byteCells (txt ds) ++ [.int .u8 (48 + (d : Int))] = Lib.byteCells (txt (ds ++ [d])) := by
  unfold txt
  rw [List.map_append, Lib.byteCells, Lib.byteCells, List.map_append]
  simp [dB_nat d h]

end Go.Proofs.YtpejebohekcfoabGreatDoor
