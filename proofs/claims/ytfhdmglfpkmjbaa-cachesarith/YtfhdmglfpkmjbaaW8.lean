/- Mul64; the walks of Mul and Div where one part is no finite number, or a zero. -/
import Derived.Test.YtfhdmglfpkmjbaaB2
import Derived.Test.YtfhdmglfpkmjbaaM8
import Derived.Deep.RegionWith
import Derived.Deep.DeepCutAuto
namespace Go.Proofs.Ytfhdmglfpkmjbaa
open Go.RowKit

namespace Mul
theorem maskN (a : Nat) (ha : a < 18446744073709551616) : bits .and .u64 (a : Int) 4294967295 = ((a % 4294967296 : Nat) : Int) := by
  have h := bits_and_u64_nat a 4294967295 ha (by omega)
  have e : a &&& 4294967295 = a % 4294967296 := Nat.and_two_pow_sub_one_eq_mod a 32
  rw [e] at h
  exact h
theorem divN (a : Nat) : (a : Int) / 4294967296 = ((a / 4294967296 : Nat) : Int) := by omega
theorem mulN (a b : Nat) : (a : Int) * (b : Int) = ((a * b : Nat) : Int) := (Int.natCast_mul a b).symm
theorem addN (a b : Nat) : (a : Int) + (b : Int) = ((a + b : Nat) : Int) := (Int.natCast_add a b).symm
theorem wrapN (a : Nat) (ha : a < 18446744073709551616) : IntKind.u64.wrap (a : Int) = (a : Int) := by rw [IntKind.wrap_u64]; omega
theorem wrapM (a : Nat) : IntKind.u64.wrap (a : Int) = ((a % 18446744073709551616 : Nat) : Int) := by rw [IntKind.wrap_u64]; omega
end Mul

/-- two boxes of four cells each, in two blocks that follow each other -/
def Boxes (w : World) (n : Nat) (p0 p1 p2 p3 q0 q1 q2 q3 : Value) : Prop :=
  (w.cell? ⟨n, 0, none⟩ = some p0 ∧ w.cell? ⟨n, 1, none⟩ = some p1 ∧ w.cell? ⟨n, 2, none⟩ = some p2 ∧ w.cell? ⟨n, 3, none⟩ = some p3) ∧
  (w.cell? ⟨n + 1, 0, none⟩ = some q0 ∧ w.cell? ⟨n + 1, 1, none⟩ = some q1 ∧ w.cell? ⟨n + 1, 2, none⟩ = some q2 ∧ w.cell? ⟨n + 1, 3, none⟩ = some q3) ∧
  (w.frozen? ⟨n, 0, none⟩ = false ∧ w.frozen? ⟨n, 1, none⟩ = false ∧ w.frozen? ⟨n, 2, none⟩ = false ∧ w.frozen? ⟨n, 3, none⟩ = false) ∧
  (w.frozen? ⟨n + 1, 0, none⟩ = false ∧ w.frozen? ⟨n + 1, 1, none⟩ = false ∧ w.frozen? ⟨n + 1, 2, none⟩ = false ∧ w.frozen? ⟨n + 1, 3, none⟩ = false) ∧
  n + 1 < w.heap.size

theorem boxes_new (w : World) (p0 p1 p2 p3 q0 q1 q2 q3 : Value) (t : TypeId) : Boxes ((w.alloc (.cells #[p0, p1, p2, p3] t)).alloc (.cells #[q0, q1, q2, q3] t)) w.heap.size p0 p1 p2 p3 q0 q1 q2 q3 := by
  unfold Boxes
  simp [go_sem]

theorem Boxes.keep {W w' : World} {n : Nat} {p0 p1 p2 p3 q0 q1 q2 q3 : Value} (h : Boxes W n p0 p1 p2 p3 q0 q1 q2 q3) (hb : Below W.heap.size W w') : Boxes w' n p0 p1 p2 p3 q0 q1 q2 q3 := by
  obtain ⟨⟨a0, a1, a2, a3⟩, ⟨b0, b1, b2, b3⟩, ⟨c0, c1, c2, c3⟩, ⟨d0, d1, d2, d3⟩, hz⟩ := h
  have k : ∀ b o, b ≤ n + 1 → w'.cell? ⟨b, o, none⟩ = W.cell? ⟨b, o, none⟩ := fun b o hb' => hb.cell (p := ⟨b, o, none⟩) (Nat.lt_of_le_of_lt hb' hz)
  have f : ∀ b o, b ≤ n + 1 → w'.frozen? ⟨b, o, none⟩ = W.frozen? ⟨b, o, none⟩ := fun b o hb' => hb.frozen (p := ⟨b, o, none⟩) (Nat.lt_of_le_of_lt hb' hz)
  refine ⟨⟨?_, ?_, ?_, ?_⟩, ⟨?_, ?_, ?_, ?_⟩, ⟨?_, ?_, ?_, ?_⟩, ⟨?_, ?_, ?_, ?_⟩, Nat.lt_of_lt_of_le hz hb.size⟩ <;>
    first | (rw [k _ _ (by omega)]; assumption) | (rw [f _ _ (by omega)]; assumption)

/-- both boxes are written anew -/
theorem Boxes.stored {w0 w : World} {n : Nat} {p0 p1 p2 p3 q0 q1 q2 q3 : Value} (h : Boxes w n p0 p1 p2 p3 q0 q1 q2 q3) (hb : Below w0.heap.size w0 w) (hn : w0.heap.size ≤ n) (r0 r1 r2 r3 s0 s1 s2 s3 : Value) :
    Boxes ((((((((w.setCell ⟨n, 0, none⟩ r0).setCell ⟨n, 1, none⟩ r1).setCell ⟨n, 2, none⟩ r2).setCell ⟨n, 3, none⟩ r3).setCell ⟨n + 1, 0, none⟩ s0).setCell ⟨n + 1, 1, none⟩ s1).setCell ⟨n + 1, 2, none⟩ s2).setCell ⟨n + 1, 3, none⟩ s3) n r0 r1 r2 r3 s0 s1 s2 s3 ∧ Below w0.heap.size w0 ((((((((w.setCell ⟨n, 0, none⟩ r0).setCell ⟨n, 1, none⟩ r1).setCell ⟨n, 2, none⟩ r2).setCell ⟨n, 3, none⟩ r3).setCell ⟨n + 1, 0, none⟩ s0).setCell ⟨n + 1, 1, none⟩ s1).setCell ⟨n + 1, 2, none⟩ s2).setCell ⟨n + 1, 3, none⟩ s3) := by
  obtain ⟨⟨a0, a1, a2, a3⟩, ⟨b0, b1, b2, b3⟩, ⟨c0, c1, c2, c3⟩, ⟨d0, d1, d2, d3⟩, hz⟩ := h
  have hn' : w0.heap.size ≤ n + 1 := Nat.le_succ_of_le hn
  refine ⟨?_, ?_⟩
  · unfold Boxes
    simp [go_sem, a0, a1, a2, a3, b0, b1, b2, b3, c0, c1, c2, c3, d0, d1, d2, d3, hz]
  · exact (((((((hb.setCell hn _).setCell hn _).setCell hn _).setCell hn _).setCell hn' _).setCell hn' _).setCell hn' _).setCell hn' _

theorem lt_below {W w1 : World} {n : Nat} (hb : Below W.heap.size W w1) (h : n < W.heap.size) : n < w1.heap.size := Nat.lt_of_lt_of_le h hb.size

/-- both halves of a product -/
def hiI (x y : Int) : Int := ((x.toNat * y.toNat / 18446744073709551616 : Nat) : Int)
def loI (x y : Int) : Int := ((x.toNat * y.toNat % 18446744073709551616 : Nat) : Int)

end Go.Proofs.Ytfhdmglfpkmjbaa
