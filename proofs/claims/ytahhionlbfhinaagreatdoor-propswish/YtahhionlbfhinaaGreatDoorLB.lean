/- Wished: its regions that draw. -/
import Derived.Test.YtahhionlbfhinaaGreatDoorB20
import Derived.Test.YtahhionlbfhinaaGreatDoorB21
namespace Go.Proofs.YtahhionlbfhinaaGreatDoor.Hp
open Go.RowKit
set_option linter.unusedVariables false

theorem bel_dr0 {a b c : World} (h : Below a.heap.size a b) (q : Below b.drew.heap.size b.drew c) : Below a.heap.size a c := h.trans ⟨q.os, q.tape, q.output, q.size, fun k hk => q.block k (Nat.lt_of_lt_of_le hk h.size)⟩
theorem bel_sm0 {a b c : World} (h : Below a.heap.size a b) (q : Below b.heap.size b c) : Below a.heap.size a c := h.trans ⟨q.os, q.tape, q.output, q.size, fun k hk => q.block k (Nat.lt_of_lt_of_le hk h.size)⟩

theorem op_step {P : Program} {ops : Array Oper} {Q : Exit → Act → World → Prop} {i : Nat} {o : Oper} {K : Act → World → Prop} {a : Act} {w : World} (ho : ops[i]? = some o)
    (h : ∀ K' : Act → World → Prop, Hid (∀ a w, K a w → K' a w) → if Region.wanted o (yielded ops a.tmps) = true then Oper.wp P o a w K' Q else K' (a.put o.dst undef) w) : wpOp P ops Q i K a w := by
  have h1 := h K (show ∀ a w, K a w → K a w from fun _ _ q => q)
  unfold wpOp
  simp only [ho]
  split
  · rename_i c
    rw [if_pos c] at h1
    exact Or.inl h1
  · rename_i c
    rw [if_neg c] at h1
    exact h1

def P16 (w3 : World) (b2 b3 b7 : Nat) (kp : Int) (v : Int) (c0 c1 c4 c5 c6 c9 c10 c11 c12 c13 c14 c15 c16 c17 c18 c19 c20 c21 c22 c23 c24 c25 c26 c27 c28 c29 c30 c31 c32 c33 c34 c35 c36 c37 c38 c39 c40 c41 c42 c43 c44 c45 c46 c47 c48 c49 c50 c51 c52 c53 c54 c55 c56 c57 c58 c59 c60 c61 c62 c63 c64 c65 c66 c67 c68 c69 c70 c71 c72 c73 c74 c75 c76 c77 c78 c79 c80 c81 c82 c83 c84 c85 c86 c87 c88 c89 : Value) : Exit → Act → World → Prop := fun e a w' => match e with
  | .normal => ∃ w5 u61 u62 u63 u64 u65 u66 u67 u68 u69 u70 u71 u72 u73 u74 u75 u76 u77, a = ⟨#[c0, c1, .pointer (some ⟨b2, 0, none⟩), .pointer (some ⟨b3, 0, none⟩), c4, c5, c6, .pointer (some ⟨b7, 0, none⟩), .int .i64 kp, c9, c10, c11, c12, c13, c14, c15, c16, c17, c18, c19, c20, c21, c22, c23, c24, c25, c26, c27, c28, c29, c30, c31, c32, c33, c34, c35, c36, c37, c38, c39, c40, c41, c42, c43, c44, c45, c46, c47, c48, c49, c50, c51, c52, c53, c54, c55, c56, c57, c58, c59, c60, u61, u62, u63, u64, u65, u66, u67, u68, u69, u70, u71, u72, u73, u74, u75, u76, u77, c78, c79, c80, c81, c82, c83, c84, c85, c86, c87, c88, c89], []⟩ ∧ w' = w5.setCell ⟨b7, 2, none⟩ (.int .i64 v) ∧ Below w3.heap.size w3 w5
  | _ => False

theorem P16_out {w3 : World} {b2 b3 b7 : Nat} {kp : Int} {v : Int} {c0 c1 c4 c5 c6 c9 c10 c11 c12 c13 c14 c15 c16 c17 c18 c19 c20 c21 c22 c23 c24 c25 c26 c27 c28 c29 c30 c31 c32 c33 c34 c35 c36 c37 c38 c39 c40 c41 c42 c43 c44 c45 c46 c47 c48 c49 c50 c51 c52 c53 c54 c55 c56 c57 c58 c59 c60 c61 c62 c63 c64 c65 c66 c67 c68 c69 c70 c71 c72 c73 c74 c75 c76 c77 c78 c79 c80 c81 c82 c83 c84 c85 c86 c87 c88 c89 : Value} {e : Exit} {a : Act} {w' : World} (h : P16 w3 b2 b3 b7 kp v c0 c1 c4 c5 c6 c9 c10 c11 c12 c13 c14 c15 c16 c17 c18 c19 c20 c21 c22 c23 c24 c25 c26 c27 c28 c29 c30 c31 c32 c33 c34 c35 c36 c37 c38 c39 c40 c41 c42 c43 c44 c45 c46 c47 c48 c49 c50 c51 c52 c53 c54 c55 c56 c57 c58 c59 c60 c61 c62 c63 c64 c65 c66 c67 c68 c69 c70 c71 c72 c73 c74 c75 c76 c77 c78 c79 c80 c81 c82 c83 c84 c85 c86 c87 c88 c89 e a w') :
    e = .normal ∧ ∃ w5 u61 u62 u63 u64 u65 u66 u67 u68 u69 u70 u71 u72 u73 u74 u75 u76 u77, a = ⟨#[c0, c1, .pointer (some ⟨b2, 0, none⟩), .pointer (some ⟨b3, 0, none⟩), c4, c5, c6, .pointer (some ⟨b7, 0, none⟩), .int .i64 kp, c9, c10, c11, c12, c13, c14, c15, c16, c17, c18, c19, c20, c21, c22, c23, c24, c25, c26, c27, c28, c29, c30, c31, c32, c33, c34, c35, c36, c37, c38, c39, c40, c41, c42, c43, c44, c45, c46, c47, c48, c49, c50, c51, c52, c53, c54, c55, c56, c57, c58, c59, c60, u61, u62, u63, u64, u65, u66, u67, u68, u69, u70, u71, u72, u73, u74, u75, u76, u77, c78, c79, c80, c81, c82, c83, c84, c85, c86, c87, c88, c89], []⟩ ∧ w' = w5.setCell ⟨b7, 2, none⟩ (.int .i64 v) ∧ Below w3.heap.size w3 w5 := by
  cases e <;> first | exact ⟨rfl, h⟩ | exact False.elim h

set_option maxRecDepth 100000 in
set_option maxHeartbeats 8000000 in
theorem wreg16 (w3 : World) (b2 b3 b7 : Nat) (kp : Int) (of df : Int) (u : Ws) (OV OS DV DS : Int) (hx : Bx3 w3 b2 ⟨OV, OS, of⟩) (hy : Bx5 w3 b3 u) (hz : Bx3 w3 b7 ⟨DV, DS, df⟩)
    (c0 c1 c4 c5 c6 c9 c10 c11 c12 c13 c14 c15 c16 c17 c18 c19 c20 c21 c22 c23 c24 c25 c26 c27 c28 c29 c30 c31 c32 c33 c34 c35 c36 c37 c38 c39 c40 c41 c42 c43 c44 c45 c46 c47 c48 c49 c50 c51 c52 c53 c54 c55 c56 c57 c58 c59 c60 c61 c62 c63 c64 c65 c66 c67 c68 c69 c70 c71 c72 c73 c74 c75 c76 c77 c78 c79 c80 c81 c82 c83 c84 c85 c86 c87 c88 c89 : Value) :
    Code.wp Tryz.prog ((Tryz.f64.body.bind (regN 16)).getD .skip) (P16 w3 b2 b3 b7 kp (bits .or .i64 (bits .or .i64 (bits .or .i64 kp (flagU df u 2 1)) (flagU of u 4 2)) (flagU of u 8 4)) c0 c1 c4 c5 c6 c9 c10 c11 c12 c13 c14 c15 c16 c17 c18 c19 c20 c21 c22 c23 c24 c25 c26 c27 c28 c29 c30 c31 c32 c33 c34 c35 c36 c37 c38 c39 c40 c41 c42 c43 c44 c45 c46 c47 c48 c49 c50 c51 c52 c53 c54 c55 c56 c57 c58 c59 c60 c61 c62 c63 c64 c65 c66 c67 c68 c69 c70 c71 c72 c73 c74 c75 c76 c77 c78 c79 c80 c81 c82 c83 c84 c85 c86 c87 c88 c89) ⟨#[c0, c1, .pointer (some ⟨b2, 0, none⟩), .pointer (some ⟨b3, 0, none⟩), c4, c5, c6, .pointer (some ⟨b7, 0, none⟩), .int .i64 kp, c9, c10, c11, c12, c13, c14, c15, c16, c17, c18, c19, c20, c21, c22, c23, c24, c25, c26, c27, c28, c29, c30, c31, c32, c33, c34, c35, c36, c37, c38, c39, c40, c41, c42, c43, c44, c45, c46, c47, c48, c49, c50, c51, c52, c53, c54, c55, c56, c57, c58, c59, c60, c61, c62, c63, c64, c65, c66, c67, c68, c69, c70, c71, c72, c73, c74, c75, c76, c77, c78, c79, c80, c81, c82, c83, c84, c85, c86, c87, c88, c89], []⟩ w3 := by
  have HN : Hid (∀ W, Below w3.heap.size w3 W → (W.cell? ⟨b2, 2, none⟩ = some (.int .i64 of) ∧ W.cell? ⟨b3, 0, none⟩ = some (.int .i64 u.has) ∧ W.cell? ⟨b3, 1, none⟩ = some (.int .u64 u.va) ∧ W.cell? ⟨b3, 2, none⟩ = some (.int .u64 u.ge) ∧ W.cell? ⟨b3, 3, none⟩ = some (.int .u64 u.se) ∧ W.cell? ⟨b3, 4, none⟩ = some (.int .i64 u.fl) ∧ W.cell? ⟨b7, 2, none⟩ = some (.int .i64 df)) ∧ W.frozen? ⟨b7, 2, none⟩ = false) := fun W q => ⟨⟨(hx.below q).ce.2.2, (hy.below q).ce.1, (hy.below q).ce.2.1, (hy.below q).ce.2.2.1, (hy.below q).ce.2.2.2.1, (hy.below q).ce.2.2.2.2, (hz.below q).ce.2.2⟩, (hz.below q).fz.2.2⟩
  have k1 := fun W => flag_any W df u 2 1
  have k2 := fun W => flag_any W of u 4 2
  have k3 := fun W => flag_any W of u 8 4
  generalize flagU df u 2 1 = r1 at *
  generalize flagU of u 4 2 = r2 at *
  generalize flagU of u 8 4 = r3 at *
  unfold wsV at k1 k2 k3
  clear hx hy hz
  conv => arg 2; whnf
  have hS : (fun W : World => W.cell? ⟨b2, 2, none⟩ = some (.int .i64 of) ∧ W.cell? ⟨b3, 0, none⟩ = some (.int .i64 u.has) ∧ W.cell? ⟨b3, 1, none⟩ = some (.int .u64 u.va) ∧ W.cell? ⟨b3, 2, none⟩ = some (.int .u64 u.ge) ∧ W.cell? ⟨b3, 3, none⟩ = some (.int .u64 u.se) ∧ W.cell? ⟨b3, 4, none⟩ = some (.int .i64 u.fl) ∧ W.cell? ⟨b7, 2, none⟩ = some (.int .i64 df)) w3.drew := (HN.out w3.drew (Below.refl _ _).drew).1
  refine region_E (S := fun W : World => W.cell? ⟨b2, 2, none⟩ = some (.int .i64 of) ∧ W.cell? ⟨b3, 0, none⟩ = some (.int .i64 u.has) ∧ W.cell? ⟨b3, 1, none⟩ = some (.int .u64 u.va) ∧ W.cell? ⟨b3, 2, none⟩ = some (.int .u64 u.ge) ∧ W.cell? ⟨b3, 3, none⟩ = some (.int .u64 u.se) ∧ W.cell? ⟨b3, 4, none⟩ = some (.int .i64 u.fl) ∧ W.cell? ⟨b7, 2, none⟩ = some (.int .i64 df)) (s := 17) (by kernel_rfl) ?_
  refine anyE_take (i := 0) (v := ?_) rfl (by kernel_rfl) (by kernel_rfl) (by kernel_rfl) (by kernel_rfl) (fun _ _ _ h => h) (Or.inl ⟨by rfl, ?_⟩) hS ?_
  rotate_left
  · intro W hSW
    obtain ⟨q0, q1, q2, q3, q4, q5, q6⟩ := hSW
    go_simp
    all_goals (with_reducible rfl)
  simp only [Act.put]
  refine anyE_take (i := 1) (v := ?_) rfl (by kernel_rfl) (by kernel_rfl) (by kernel_rfl) (by kernel_rfl) (fun _ _ _ h => h) (Or.inl ⟨by rfl, ?_⟩) hS ?_
  rotate_left
  · intro W hSW
    obtain ⟨q0, q1, q2, q3, q4, q5, q6⟩ := hSW
    go_simp
    all_goals (with_reducible rfl)
  simp only [Act.put]
  refine anyE_take (i := 6) (v := ?_) rfl (by kernel_rfl) (by kernel_rfl) (by kernel_rfl) (by kernel_rfl) (fun _ _ _ h => h) (Or.inl ⟨by rfl, ?_⟩) hS ?_
  rotate_left
  · intro W hSW
    obtain ⟨q0, q1, q2, q3, q4, q5, q6⟩ := hSW
    go_simp
    all_goals (with_reducible rfl)
  simp only [Act.put]
  refine anyE_take (i := 11) (v := ?_) rfl (by kernel_rfl) (by kernel_rfl) (by kernel_rfl) (by kernel_rfl) (fun _ _ _ h => h) (Or.inl ⟨by rfl, ?_⟩) hS ?_
  rotate_left
  · intro W hSW
    obtain ⟨q0, q1, q2, q3, q4, q5, q6⟩ := hSW
    go_simp
    all_goals (with_reducible rfl)
  simp only [Act.put]
  refine anyE_take (i := 2) (v := ?_) rfl (by kernel_rfl) (by kernel_rfl) (by kernel_rfl) (by kernel_rfl) (fun _ _ _ h => h) (Or.inl ⟨by rfl, ?_⟩) hS ?_
  rotate_left
  · intro W hSW
    obtain ⟨q0, q1, q2, q3, q4, q5, q6⟩ := hSW
    go_simp
    all_goals (with_reducible rfl)
  simp only [Act.put]
  refine anyE_take (i := 3) (v := ?_) rfl (by kernel_rfl) (by kernel_rfl) (by kernel_rfl) (by kernel_rfl) (fun _ _ _ h => h) (Or.inl ⟨by rfl, ?_⟩) hS ?_
  rotate_left
  · intro W hSW
    obtain ⟨q0, q1, q2, q3, q4, q5, q6⟩ := hSW
    go_simp
    all_goals (with_reducible rfl)
  simp only [Act.put]
  refine anyE_take (i := 7) (v := ?_) rfl (by kernel_rfl) (by kernel_rfl) (by kernel_rfl) (by kernel_rfl) (fun _ _ _ h => h) (Or.inl ⟨by rfl, ?_⟩) hS ?_
  rotate_left
  · intro W hSW
    obtain ⟨q0, q1, q2, q3, q4, q5, q6⟩ := hSW
    go_simp
    all_goals (with_reducible rfl)
  simp only [Act.put]
  refine anyE_take (i := 8) (v := ?_) rfl (by kernel_rfl) (by kernel_rfl) (by kernel_rfl) (by kernel_rfl) (fun _ _ _ h => h) (Or.inl ⟨by rfl, ?_⟩) hS ?_
  rotate_left
  · intro W hSW
    obtain ⟨q0, q1, q2, q3, q4, q5, q6⟩ := hSW
    go_simp
    all_goals (with_reducible rfl)
  simp only [Act.put]
  refine anyE_take (i := 12) (v := ?_) rfl (by kernel_rfl) (by kernel_rfl) (by kernel_rfl) (by kernel_rfl) (fun _ _ _ h => h) (Or.inl ⟨by rfl, ?_⟩) hS ?_
  rotate_left
  · intro W hSW
    obtain ⟨q0, q1, q2, q3, q4, q5, q6⟩ := hSW
    go_simp
    all_goals (with_reducible rfl)
  simp only [Act.put]
  refine anyE_take (i := 13) (v := ?_) rfl (by kernel_rfl) (by kernel_rfl) (by kernel_rfl) (by kernel_rfl) (fun _ _ _ h => h) (Or.inl ⟨by rfl, ?_⟩) hS ?_
  rotate_left
  · intro W hSW
    obtain ⟨q0, q1, q2, q3, q4, q5, q6⟩ := hSW
    go_simp
    all_goals (with_reducible rfl)
  simp only [Act.put]
  refine anyE_only (i := 4) (by kernel_rfl) (op_step rfl (fun K hK => ?_))
  go_simp
  refine (k1 _).mono ?_
  rintro e w5 ⟨rfl, hB5⟩
  have HBw5 : Hid (Below w3.heap.size w3 w5) := bel_dr0 (Below.refl _ _) hB5
  clear hB5 hS
  refine hK.out _ _ ⟨fun _ => (HN.out w5 HBw5.out).1, ?_⟩
  have hS := (HN.out w5 HBw5.out).1
  clear hK K
  refine anyE_take (i := 5) (v := ?_) rfl (by kernel_rfl) (by kernel_rfl) (by kernel_rfl) (by kernel_rfl) (fun _ _ _ h => h) (Or.inl ⟨by rfl, ?_⟩) hS ?_
  rotate_left
  · intro W hSW
    obtain ⟨q0, q1, q2, q3, q4, q5, q6⟩ := hSW
    go_simp
    all_goals (with_reducible rfl)
  simp only [Act.put]
  refine anyE_only (i := 9) (by kernel_rfl) (op_step rfl (fun K hK => ?_))
  go_simp
  refine (k2 _).mono ?_
  rintro e w6 ⟨rfl, hB5⟩
  have HBw6 : Hid (Below w3.heap.size w3 w6) := bel_sm0 HBw5.out hB5
  clear hB5 hS
  refine hK.out _ _ ⟨fun _ => (HN.out w6 HBw6.out).1, ?_⟩
  have hS := (HN.out w6 HBw6.out).1
  clear hK K
  refine anyE_take (i := 10) (v := ?_) rfl (by kernel_rfl) (by kernel_rfl) (by kernel_rfl) (by kernel_rfl) (fun _ _ _ h => h) (Or.inl ⟨by rfl, ?_⟩) hS ?_
  rotate_left
  · intro W hSW
    obtain ⟨q0, q1, q2, q3, q4, q5, q6⟩ := hSW
    go_simp
    all_goals (with_reducible rfl)
  simp only [Act.put]
  refine anyE_only (i := 14) (by kernel_rfl) (op_step rfl (fun K hK => ?_))
  go_simp
  refine (k3 _).mono ?_
  rintro e w7 ⟨rfl, hB5⟩
  have HBw7 : Hid (Below w3.heap.size w3 w7) := bel_sm0 HBw6.out hB5
  clear hB5 hS
  refine hK.out _ _ ⟨fun _ => (HN.out w7 HBw7.out).1, ?_⟩
  have hS := (HN.out w7 HBw7.out).1
  clear hK K
  refine anyE_take (i := 15) (v := ?_) rfl (by kernel_rfl) (by kernel_rfl) (by kernel_rfl) (by kernel_rfl) (fun _ _ _ h => h) (Or.inl ⟨by rfl, ?_⟩) hS ?_
  rotate_left
  · intro W hSW
    obtain ⟨q0, q1, q2, q3, q4, q5, q6⟩ := hSW
    go_simp
    all_goals (with_reducible rfl)
  simp only [Act.put]
  refine anyE_take (i := 16) (v := ?_) rfl (by kernel_rfl) (by kernel_rfl) (by kernel_rfl) (by kernel_rfl) (fun _ _ _ h => h) (Or.inl ⟨by rfl, ?_⟩) hS ?_
  rotate_left
  · intro W hSW
    obtain ⟨q0, q1, q2, q3, q4, q5, q6⟩ := hSW
    go_simp
    all_goals (with_reducible rfl)
  simp only [Act.put]
  refine anyE_only (i := 17) (by kernel_rfl) (op_step rfl (fun K hK => ?_))
  have zf := (HN.out w7 HBw7.out).2
  obtain ⟨q0, q1, q2, q3, q4, q5, q6⟩ := hS
  go_simp
  refine hK.out _ _ ⟨fun e => absurd rfl e, ?_⟩
  refine anyE_done (by kernel_rfl) ?_ _
  exact ⟨w7, _, _, _, _, _, _, _, _, _, _, _, _, _, _, _, _, _, rfl, rfl, HBw7.out⟩

def P6 (w3 : World) (b2 b3 b6 : Nat) (v : Int) (c0 c1 c4 c5 c7 c8 c9 c10 c11 c12 c13 c14 c15 c16 c17 c18 c19 c20 c21 c22 c23 c24 c25 c26 c27 c28 c29 c30 c31 c32 c33 c34 c35 c36 c37 c38 c39 c40 c41 c42 c43 c44 c45 c46 c47 c48 c49 c50 c51 c52 c53 c54 c55 c56 c57 c58 c59 c60 c61 c62 c63 c64 c65 c66 c67 c68 c69 c70 c71 c72 c73 c74 c75 c76 c77 c78 c79 c80 c81 c82 c83 c84 c85 c86 c87 c88 c89 : Value) : Exit → Act → World → Prop := fun e a w' => match e with
  | .normal => ∃ w5 u22 u23 u24 u25 u26 u27 u28 u29 u30 u31 u32, a = ⟨#[c0, c1, .pointer (some ⟨b2, 0, none⟩), .pointer (some ⟨b3, 0, none⟩), c4, c5, .pointer (some ⟨b6, 0, none⟩), c7, c8, c9, c10, c11, c12, c13, c14, c15, c16, c17, c18, c19, c20, c21, u22, u23, u24, u25, u26, u27, u28, u29, u30, u31, u32, c33, c34, c35, c36, c37, c38, c39, c40, c41, c42, c43, c44, c45, c46, c47, c48, c49, c50, c51, c52, c53, c54, c55, c56, c57, c58, c59, c60, c61, c62, c63, c64, c65, c66, c67, c68, c69, c70, c71, c72, c73, c74, c75, c76, c77, c78, c79, c80, c81, c82, c83, c84, c85, c86, c87, c88, c89], []⟩ ∧ w' = w5.setCell ⟨b6, 2, none⟩ (.int .i64 v) ∧ Below w3.heap.size w3 w5
  | _ => False

theorem P6_out {w3 : World} {b2 b3 b6 : Nat} {v : Int} {c0 c1 c4 c5 c7 c8 c9 c10 c11 c12 c13 c14 c15 c16 c17 c18 c19 c20 c21 c22 c23 c24 c25 c26 c27 c28 c29 c30 c31 c32 c33 c34 c35 c36 c37 c38 c39 c40 c41 c42 c43 c44 c45 c46 c47 c48 c49 c50 c51 c52 c53 c54 c55 c56 c57 c58 c59 c60 c61 c62 c63 c64 c65 c66 c67 c68 c69 c70 c71 c72 c73 c74 c75 c76 c77 c78 c79 c80 c81 c82 c83 c84 c85 c86 c87 c88 c89 : Value} {e : Exit} {a : Act} {w' : World} (h : P6 w3 b2 b3 b6 v c0 c1 c4 c5 c7 c8 c9 c10 c11 c12 c13 c14 c15 c16 c17 c18 c19 c20 c21 c22 c23 c24 c25 c26 c27 c28 c29 c30 c31 c32 c33 c34 c35 c36 c37 c38 c39 c40 c41 c42 c43 c44 c45 c46 c47 c48 c49 c50 c51 c52 c53 c54 c55 c56 c57 c58 c59 c60 c61 c62 c63 c64 c65 c66 c67 c68 c69 c70 c71 c72 c73 c74 c75 c76 c77 c78 c79 c80 c81 c82 c83 c84 c85 c86 c87 c88 c89 e a w') :
    e = .normal ∧ ∃ w5 u22 u23 u24 u25 u26 u27 u28 u29 u30 u31 u32, a = ⟨#[c0, c1, .pointer (some ⟨b2, 0, none⟩), .pointer (some ⟨b3, 0, none⟩), c4, c5, .pointer (some ⟨b6, 0, none⟩), c7, c8, c9, c10, c11, c12, c13, c14, c15, c16, c17, c18, c19, c20, c21, u22, u23, u24, u25, u26, u27, u28, u29, u30, u31, u32, c33, c34, c35, c36, c37, c38, c39, c40, c41, c42, c43, c44, c45, c46, c47, c48, c49, c50, c51, c52, c53, c54, c55, c56, c57, c58, c59, c60, c61, c62, c63, c64, c65, c66, c67, c68, c69, c70, c71, c72, c73, c74, c75, c76, c77, c78, c79, c80, c81, c82, c83, c84, c85, c86, c87, c88, c89], []⟩ ∧ w' = w5.setCell ⟨b6, 2, none⟩ (.int .i64 v) ∧ Below w3.heap.size w3 w5 := by
  cases e <;> first | exact ⟨rfl, h⟩ | exact False.elim h

set_option maxRecDepth 100000 in
set_option maxHeartbeats 8000000 in
theorem wreg6 (w3 : World) (b2 b3 b6 : Nat) (of df : Int) (u : Ws) (OV OS DV DS : Int) (hx : Bx3 w3 b2 ⟨OV, OS, of⟩) (hy : Bx5 w3 b3 u) (hz : Bx3 w3 b6 ⟨DV, DS, df⟩)
    (c0 c1 c4 c5 c7 c8 c9 c10 c11 c12 c13 c14 c15 c16 c17 c18 c19 c20 c21 c22 c23 c24 c25 c26 c27 c28 c29 c30 c31 c32 c33 c34 c35 c36 c37 c38 c39 c40 c41 c42 c43 c44 c45 c46 c47 c48 c49 c50 c51 c52 c53 c54 c55 c56 c57 c58 c59 c60 c61 c62 c63 c64 c65 c66 c67 c68 c69 c70 c71 c72 c73 c74 c75 c76 c77 c78 c79 c80 c81 c82 c83 c84 c85 c86 c87 c88 c89 : Value) :
    Code.wp Tryz.prog ((Tryz.f64.body.bind (regN 6)).getD .skip) (P6 w3 b2 b3 b6 (bits .or .i64 (bits .or .i64 8 (flagU of u 4 2)) (flagU of u 8 4)) c0 c1 c4 c5 c7 c8 c9 c10 c11 c12 c13 c14 c15 c16 c17 c18 c19 c20 c21 c22 c23 c24 c25 c26 c27 c28 c29 c30 c31 c32 c33 c34 c35 c36 c37 c38 c39 c40 c41 c42 c43 c44 c45 c46 c47 c48 c49 c50 c51 c52 c53 c54 c55 c56 c57 c58 c59 c60 c61 c62 c63 c64 c65 c66 c67 c68 c69 c70 c71 c72 c73 c74 c75 c76 c77 c78 c79 c80 c81 c82 c83 c84 c85 c86 c87 c88 c89) ⟨#[c0, c1, .pointer (some ⟨b2, 0, none⟩), .pointer (some ⟨b3, 0, none⟩), c4, c5, .pointer (some ⟨b6, 0, none⟩), c7, c8, c9, c10, c11, c12, c13, c14, c15, c16, c17, c18, c19, c20, c21, c22, c23, c24, c25, c26, c27, c28, c29, c30, c31, c32, c33, c34, c35, c36, c37, c38, c39, c40, c41, c42, c43, c44, c45, c46, c47, c48, c49, c50, c51, c52, c53, c54, c55, c56, c57, c58, c59, c60, c61, c62, c63, c64, c65, c66, c67, c68, c69, c70, c71, c72, c73, c74, c75, c76, c77, c78, c79, c80, c81, c82, c83, c84, c85, c86, c87, c88, c89], []⟩ w3 := by
  have HN : Hid (∀ W, Below w3.heap.size w3 W → (W.cell? ⟨b2, 2, none⟩ = some (.int .i64 of) ∧ W.cell? ⟨b3, 0, none⟩ = some (.int .i64 u.has) ∧ W.cell? ⟨b3, 1, none⟩ = some (.int .u64 u.va) ∧ W.cell? ⟨b3, 2, none⟩ = some (.int .u64 u.ge) ∧ W.cell? ⟨b3, 3, none⟩ = some (.int .u64 u.se) ∧ W.cell? ⟨b3, 4, none⟩ = some (.int .i64 u.fl) ∧ W.cell? ⟨b6, 2, none⟩ = some (.int .i64 df)) ∧ W.frozen? ⟨b6, 2, none⟩ = false) := fun W q => ⟨⟨(hx.below q).ce.2.2, (hy.below q).ce.1, (hy.below q).ce.2.1, (hy.below q).ce.2.2.1, (hy.below q).ce.2.2.2.1, (hy.below q).ce.2.2.2.2, (hz.below q).ce.2.2⟩, (hz.below q).fz.2.2⟩
  have k2 := fun W => flag_any W of u 4 2
  have k3 := fun W => flag_any W of u 8 4
  generalize flagU of u 4 2 = r2 at *
  generalize flagU of u 8 4 = r3 at *
  unfold wsV at k2 k3
  clear hx hy hz
  conv => arg 2; whnf
  have hS : (fun W : World => W.cell? ⟨b2, 2, none⟩ = some (.int .i64 of) ∧ W.cell? ⟨b3, 0, none⟩ = some (.int .i64 u.has) ∧ W.cell? ⟨b3, 1, none⟩ = some (.int .u64 u.va) ∧ W.cell? ⟨b3, 2, none⟩ = some (.int .u64 u.ge) ∧ W.cell? ⟨b3, 3, none⟩ = some (.int .u64 u.se) ∧ W.cell? ⟨b3, 4, none⟩ = some (.int .i64 u.fl) ∧ W.cell? ⟨b6, 2, none⟩ = some (.int .i64 df)) w3.drew := (HN.out w3.drew (Below.refl _ _).drew).1
  refine region_E (S := fun W : World => W.cell? ⟨b2, 2, none⟩ = some (.int .i64 of) ∧ W.cell? ⟨b3, 0, none⟩ = some (.int .i64 u.has) ∧ W.cell? ⟨b3, 1, none⟩ = some (.int .u64 u.va) ∧ W.cell? ⟨b3, 2, none⟩ = some (.int .u64 u.ge) ∧ W.cell? ⟨b3, 3, none⟩ = some (.int .u64 u.se) ∧ W.cell? ⟨b3, 4, none⟩ = some (.int .i64 u.fl) ∧ W.cell? ⟨b6, 2, none⟩ = some (.int .i64 df)) (s := 11) (by kernel_rfl) ?_
  refine anyE_take (i := 0) (v := ?_) rfl (by kernel_rfl) (by kernel_rfl) (by kernel_rfl) (by kernel_rfl) (fun _ _ _ h => h) (Or.inl ⟨by rfl, ?_⟩) hS ?_
  rotate_left
  · intro W hSW
    obtain ⟨q0, q1, q2, q3, q4, q5, q6⟩ := hSW
    go_simp
    all_goals (with_reducible rfl)
  simp only [Act.put]
  refine anyE_take (i := 5) (v := ?_) rfl (by kernel_rfl) (by kernel_rfl) (by kernel_rfl) (by kernel_rfl) (fun _ _ _ h => h) (Or.inl ⟨by rfl, ?_⟩) hS ?_
  rotate_left
  · intro W hSW
    obtain ⟨q0, q1, q2, q3, q4, q5, q6⟩ := hSW
    go_simp
    all_goals (with_reducible rfl)
  simp only [Act.put]
  refine anyE_take (i := 1) (v := ?_) rfl (by kernel_rfl) (by kernel_rfl) (by kernel_rfl) (by kernel_rfl) (fun _ _ _ h => h) (Or.inl ⟨by rfl, ?_⟩) hS ?_
  rotate_left
  · intro W hSW
    obtain ⟨q0, q1, q2, q3, q4, q5, q6⟩ := hSW
    go_simp
    all_goals (with_reducible rfl)
  simp only [Act.put]
  refine anyE_take (i := 2) (v := ?_) rfl (by kernel_rfl) (by kernel_rfl) (by kernel_rfl) (by kernel_rfl) (fun _ _ _ h => h) (Or.inl ⟨by rfl, ?_⟩) hS ?_
  rotate_left
  · intro W hSW
    obtain ⟨q0, q1, q2, q3, q4, q5, q6⟩ := hSW
    go_simp
    all_goals (with_reducible rfl)
  simp only [Act.put]
  refine anyE_take (i := 6) (v := ?_) rfl (by kernel_rfl) (by kernel_rfl) (by kernel_rfl) (by kernel_rfl) (fun _ _ _ h => h) (Or.inl ⟨by rfl, ?_⟩) hS ?_
  rotate_left
  · intro W hSW
    obtain ⟨q0, q1, q2, q3, q4, q5, q6⟩ := hSW
    go_simp
    all_goals (with_reducible rfl)
  simp only [Act.put]
  refine anyE_take (i := 7) (v := ?_) rfl (by kernel_rfl) (by kernel_rfl) (by kernel_rfl) (by kernel_rfl) (fun _ _ _ h => h) (Or.inl ⟨by rfl, ?_⟩) hS ?_
  rotate_left
  · intro W hSW
    obtain ⟨q0, q1, q2, q3, q4, q5, q6⟩ := hSW
    go_simp
    all_goals (with_reducible rfl)
  simp only [Act.put]
  refine anyE_only (i := 3) (by kernel_rfl) (op_step rfl (fun K hK => ?_))
  go_simp
  refine (k2 _).mono ?_
  rintro e w6 ⟨rfl, hB5⟩
  have HBw6 : Hid (Below w3.heap.size w3 w6) := bel_dr0 (Below.refl _ _) hB5
  clear hB5 hS
  refine hK.out _ _ ⟨fun _ => (HN.out w6 HBw6.out).1, ?_⟩
  have hS := (HN.out w6 HBw6.out).1
  clear hK K
  refine anyE_take (i := 4) (v := ?_) rfl (by kernel_rfl) (by kernel_rfl) (by kernel_rfl) (by kernel_rfl) (fun _ _ _ h => h) (Or.inl ⟨by rfl, ?_⟩) hS ?_
  rotate_left
  · intro W hSW
    obtain ⟨q0, q1, q2, q3, q4, q5, q6⟩ := hSW
    go_simp
    all_goals (with_reducible rfl)
  simp only [Act.put]
  refine anyE_only (i := 8) (by kernel_rfl) (op_step rfl (fun K hK => ?_))
  go_simp
  refine (k3 _).mono ?_
  rintro e w7 ⟨rfl, hB5⟩
  have HBw7 : Hid (Below w3.heap.size w3 w7) := bel_sm0 HBw6.out hB5
  clear hB5 hS
  refine hK.out _ _ ⟨fun _ => (HN.out w7 HBw7.out).1, ?_⟩
  have hS := (HN.out w7 HBw7.out).1
  clear hK K
  refine anyE_take (i := 9) (v := ?_) rfl (by kernel_rfl) (by kernel_rfl) (by kernel_rfl) (by kernel_rfl) (fun _ _ _ h => h) (Or.inl ⟨by rfl, ?_⟩) hS ?_
  rotate_left
  · intro W hSW
    obtain ⟨q0, q1, q2, q3, q4, q5, q6⟩ := hSW
    go_simp
    all_goals (with_reducible rfl)
  simp only [Act.put]
  refine anyE_take (i := 10) (v := ?_) rfl (by kernel_rfl) (by kernel_rfl) (by kernel_rfl) (by kernel_rfl) (fun _ _ _ h => h) (Or.inl ⟨by rfl, ?_⟩) hS ?_
  rotate_left
  · intro W hSW
    obtain ⟨q0, q1, q2, q3, q4, q5, q6⟩ := hSW
    go_simp
    all_goals (with_reducible rfl)
  simp only [Act.put]
  refine anyE_only (i := 11) (by kernel_rfl) (op_step rfl (fun K hK => ?_))
  have zf := (HN.out w7 HBw7.out).2
  obtain ⟨q0, q1, q2, q3, q4, q5, q6⟩ := hS
  go_simp
  refine hK.out _ _ ⟨fun e => absurd rfl e, ?_⟩
  refine anyE_done (by kernel_rfl) ?_ _
  exact ⟨w7, _, _, _, _, _, _, _, _, _, _, _, rfl, rfl, HBw7.out⟩

end Go.Proofs.YtahhionlbfhinaaGreatDoor.Hp
