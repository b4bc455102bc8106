/- The document's tree: every single statement; all of it. -/
import Derived.Test.YtihmdcdifakepaaWQ
namespace Go.Proofs.Ytihmdcdifakepaa.Sc
open Go.RowKit
set_option linter.unusedVariables false

set_option maxRecDepth 100000 in
theorem single_at_once {B pb : Nat} {W0 : World} (kind pl num : Int) (name op : ByteArray) (ad : Option Addr) (len cap : Nat) (gen : Bool) (w : World) (vU vV : Value) (m m' : Nat) (hb : Below B W0 w) (hp : PlAt B pb w none m vU vV) (hm : m ≤ m') :
    Calls Try.prog 31 #[.pointer (some ⟨pb, 0, none⟩), .agg #[.int .i64 kind, .int .i64 pl, .string name, .int .u64 num, .string op, .slice ad len cap], .bool gen] w fun e w' => e = .returned (.tuple #[]) ∧ ∃ vU' vV', PlAt B pb w' none m' vU' vV' ∧ Stp pb w vU vV w' vU' vV' ∧ Below B W0 w' := by
  obtain ⟨wb, hwb⟩ : ∃ wb, wb = w.alloc (.cells #[.int .i64 kind, .int .i64 pl, .string name, .int .u64 num, .string op, .slice ad len cap] 25) := ⟨_, rfl⟩
  have FR : Hid (Fr B pb W0 w vU vV w.heap.size #[.int .i64 kind, .int .i64 pl, .string name, .int .u64 num, .string op, .slice ad len cap] wb vU vV none m) := by rw [hwb]; exact Fr.start hb hp _ _
  obtain ⟨c2, f2⟩ := FR.out.pl.bad
  simp only [Option.isNone_none] at c2
  clear hb hp
  go_enter Try.func31, Try.ntmps31
  go_upto_region 1 with fail
  rw [← hwb]
  clear hwb
  go_wp2_with fail
  refine bodyPost_ret (results_none rfl _ _ _) rfl ?_
  exact ⟨rfl, FR.out.done rfl (by omega)⟩

set_option maxRecDepth 100000 in
theorem single_block {B pb : Nat} {W0 : World} (pl num : Int) (name op : ByteArray) (ad : Option Addr) (len cap : Nat) (gen : Bool) (f : RS → RS) (z : Nat) (hf : RC B pb W0 22 #[.pointer (some ⟨pb, 0, none⟩), .slice ad len cap, .bool gen] f z)
    (w : World) (vU vV : Value) (s : St) (m m' : Nat) (hb : Below B W0 w) (hp : PlAt B pb w (some s) m vU vV) (hm : m + z ≤ m') (hm2 : m' ≤ 1000000) :
    Calls Try.prog 31 #[.pointer (some ⟨pb, 0, none⟩), .agg #[.int .i64 44, .int .i64 pl, .string name, .int .u64 num, .string op, .slice ad len cap], .bool gen] w fun e w' => e = .returned (.tuple #[]) ∧ ∃ vU' vV', PlAt B pb w' (f (some s)) m' vU' vV' ∧ Stp pb w vU vV w' vU' vV' ∧ Below B W0 w' := by
  obtain ⟨wb, hwb⟩ : ∃ wb, wb = w.alloc (.cells #[.int .i64 44, .int .i64 pl, .string name, .int .u64 num, .string op, .slice ad len cap] 25) := ⟨_, rfl⟩
  have FR : Hid (Fr B pb W0 w vU vV w.heap.size #[.int .i64 44, .int .i64 pl, .string name, .int .u64 num, .string op, .slice ad len cap] wb vU vV (some s) m) := by rw [hwb]; exact Fr.start hb hp _ _
  have b0 : wb.cell? ⟨w.heap.size, 0, none⟩ = some (.int .i64 44) := FR.out.box 0 _ rfl
  have b5 : wb.cell? ⟨w.heap.size, 5, none⟩ = some (.slice ad len cap) := FR.out.box 5 _ rfl
  obtain ⟨c2, f2⟩ := FR.out.pl.bad
  simp only [Option.isNone_some] at c2
  have hc := hf wb vU vV (some s) m FR.out.bel FR.out.pl (by omega)
  clear hb hp hf
  go_enter Try.func31, Try.ntmps31
  go_upto_region 1 with fail
  rw [← hwb]
  clear hwb
  go_wp2_with fail
  refine hc.mono ?_
  rintro e w2 ⟨rfl, vU2, vV2, p2, s2, q2⟩
  have FR2 : Hid (Fr B pb W0 w vU vV w.heap.size #[.int .i64 44, .int .i64 pl, .string name, .int .u64 num, .string op, .slice ad len cap] w2 vU2 vV2 (f (some s)) (m + z)) := FR.out.call p2 s2 q2
  clear p2 s2 q2 hc
  go_wp2_with fail
  refine bodyPost_ret (results_none rfl _ _ _) rfl ?_
  exact ⟨rfl, FR2.out.done rfl (by omega)⟩

set_option maxRecDepth 100000 in
theorem single_bad {B pb : Nat} {W0 : World} (kind pl num : Int) (name op : ByteArray) (ad : Option Addr) (len cap : Nat) (gen : Bool) (h44 : kind ≠ 44) (hbad : kidsR kind < 0 ∨ kidsR kind ≠ (len : Int)) (hl : len ≤ 2 ^ 63 - 1)
    (w : World) (vU vV : Value) (s : St) (m m' : Nat) (hb : Below B W0 w) (hp : PlAt B pb w (some s) m vU vV) (hm : m ≤ m') :
    Calls Try.prog 31 #[.pointer (some ⟨pb, 0, none⟩), .agg #[.int .i64 kind, .int .i64 pl, .string name, .int .u64 num, .string op, .slice ad len cap], .bool gen] w fun e w' => e = .returned (.tuple #[]) ∧ ∃ vU' vV', PlAt B pb w' none m' vU' vV' ∧ Stp pb w vU vV w' vU' vV' ∧ Below B W0 w' := by
  obtain ⟨wb, hwb⟩ : ∃ wb, wb = w.alloc (.cells #[.int .i64 kind, .int .i64 pl, .string name, .int .u64 num, .string op, .slice ad len cap] 25) := ⟨_, rfl⟩
  have FR : Hid (Fr B pb W0 w vU vV w.heap.size #[.int .i64 kind, .int .i64 pl, .string name, .int .u64 num, .string op, .slice ad len cap] wb vU vV (some s) m) := by rw [hwb]; exact Fr.start hb hp _ _
  have b0 : wb.cell? ⟨w.heap.size, 0, none⟩ = some (.int .i64 kind) := FR.out.box 0 _ rfl
  have b5 : wb.cell? ⟨w.heap.size, 5, none⟩ = some (.slice ad len cap) := FR.out.box 5 _ rfl
  obtain ⟨c2, f2⟩ := FR.out.pl.bad
  simp only [Option.isNone_some] at c2
  have hkids := kids_any kind wb
  have h44' : (kind == 44) = false := by simpa using h44
  obtain ⟨q, hq⟩ : ∃ q, q = kidsR kind := ⟨_, rfl⟩
  rw [← hq] at hkids hbad
  clear hq hb hp
  have hw : q < 0 ∨ (¬ q < 0 ∧ (q != (len : Int)) = true) := by
    by_cases z : q < 0
    · exact Or.inl z
    · refine Or.inr ⟨z, ?_⟩
      rcases hbad with y | y
      · exact absurd y z
      · simpa using y
  clear hbad
  rcases hw with z | ⟨z, z2⟩
  all_goals
    go_enter Try.func31, Try.ntmps31
    go_upto_region 1 with fail
    rw [← hwb]
    clear hwb
    go_wp2_with fail
    refine hkids.mono ?_
    rintro e w1 ⟨rfl, rfl⟩
    clear hkids
    go_wp2_with fail
    refine bodyPost_ret (results_none rfl _ _ _) rfl ?_
    exact ⟨rfl, FR.out.spoil.done rfl (by omega)⟩

set_option maxRecDepth 100000 in
theorem single_nil {B pb : Nat} {W0 : World} (kind pl num : Int) (name op : ByteArray) (ad : Option Addr) (cap : Nat) (gen : Bool) (hk : kind = 39 ∨ kind = 40 ∨ kind = 45)
    (w : World) (vU vV : Value) (s : St) (m m' : Nat) (hb : Below B W0 w) (hp : PlAt B pb w (some s) m vU vV) (hm : m ≤ m') :
    Calls Try.prog 31 #[.pointer (some ⟨pb, 0, none⟩), .agg #[.int .i64 kind, .int .i64 pl, .string name, .int .u64 num, .string op, .slice ad 0 cap], .bool gen] w fun e w' => e = .returned (.tuple #[]) ∧ ∃ vU' vV', PlAt B pb w' (some s) m' vU' vV' ∧ Stp pb w vU vV w' vU' vV' ∧ Below B W0 w' := by
  obtain ⟨wb, hwb⟩ : ∃ wb, wb = w.alloc (.cells #[.int .i64 kind, .int .i64 pl, .string name, .int .u64 num, .string op, .slice ad 0 cap] 25) := ⟨_, rfl⟩
  have FR : Hid (Fr B pb W0 w vU vV w.heap.size #[.int .i64 kind, .int .i64 pl, .string name, .int .u64 num, .string op, .slice ad 0 cap] wb vU vV (some s) m) := by rw [hwb]; exact Fr.start hb hp _ _
  have b0 : wb.cell? ⟨w.heap.size, 0, none⟩ = some (.int .i64 kind) := FR.out.box 0 _ rfl
  have b5 : wb.cell? ⟨w.heap.size, 5, none⟩ = some (.slice ad 0 cap) := FR.out.box 5 _ rfl
  obtain ⟨c2, f2⟩ := FR.out.pl.bad
  simp only [Option.isNone_some] at c2
  have hkids := kids_any kind wb
  have hq : kidsR kind = 0 := by unfold kidsR; rcases hk with c | c | c <;> simp [c]
  rw [hq] at hkids
  clear hq hb hp
  rcases hk with rfl | rfl | rfl
  all_goals
    go_enter Try.func31, Try.ntmps31
    go_upto_region 1 with fail
    rw [← hwb]
    clear hwb
    go_wp2_with fail
    refine hkids.mono ?_
    rintro e w1 ⟨rfl, rfl⟩
    clear hkids
    go_wp2_with fail
    go_end0
    exact ⟨rfl, FR.out.done rfl (by omega)⟩

theorem kd0_at {n : Nat} (xs : List (Tr n)) (i : Nat) (k : Tr n) (h : xs[i]? = some k) : kd0 (kidT n) xs i = (ndT n k).kind := by
  unfold kd0; rw [h]; exact kd_nd n k
theorem emptyK_at {n : Nat} (xs : List (Tr n)) (i : Nat) (k : Tr n) (h : xs[i]? = some k) (st : RS) : emptyK (kidT n) xs i st = emptyN k st := by
  unfold emptyK; rw [h]; rfl

theorem single_rc {B pb : Nat} {W0 : World} {n : Nat} (H : KidsRC B pb W0 n) (hB : B = W0.heap.size) (x : Nd) (s : Sli (Tr n)) (gen : Bool) (hok : okT (n + 1) W0 ((x, s) : Nd × Sli (Tr n)))
    (hf : RC B pb W0 22 #[.pointer (some ⟨pb, 0, none⟩), .slice s.at' s.xs.length s.cap, .bool gen] (bodyR (semR n) s.xs gen) (szL s.xs)) :
    RC B pb W0 31 #[.pointer (some ⟨pb, 0, none⟩), valT (n + 1) ((x, s) : Nd × Sli (Tr n)), .bool gen] (singleR (kidT n) (semR n) x s.xs gen) (szT (n + 1) ((x, s) : Nd × Sli (Tr n))) := by
  intro w vU vV st m hb hp hm
  have hl : s.xs.length ≤ 2 ^ 63 - 1 := Nat.le_trans hok.2.1.len hok.2.1.cap
  have hsl := hok.2.1
  have hkd := hok.2.2
  obtain ⟨kind, pl, name, num, op⟩ := x
  obtain ⟨ad, cap, xs⟩ := s
  rw [val_succ]
  have hz : szT (n + 1) ((⟨kind, pl, name, num, op⟩, ⟨ad, cap, xs⟩) : Nd × Sli (Tr n)) = 1 + szL xs := rfl
  rw [hz] at hm ⊢
  simp only at hf hl hsl hkd ⊢
  clear hok hz
  cases st with
  | none => exact single_at_once kind pl num name op ad xs.length cap gen w vU vV m _ hb hp (by omega)
  | some a =>
    obtain ⟨R, hR⟩ : ∃ R, R = singleR (kidT n) (semR n) ⟨kind, pl, name, num, op⟩ xs gen (some a) := ⟨_, rfl⟩
    rw [← hR]
    unfold singleR at hR
    simp only [Option.bind_some] at hR
    by_cases h44 : kind = 44
    · subst h44
      rw [if_pos rfl] at hR
      rw [hR]
      exact single_block pl num name op ad xs.length cap gen _ _ hf w vU vV a m _ hb hp (by omega) hm
    rw [if_neg h44] at hR
    by_cases hbad : kidsR kind < 0 ∨ kidsR kind ≠ (xs.length : Int)
    · rw [if_pos hbad] at hR
      rw [hR]
      exact single_bad kind pl num name op ad xs.length cap gen h44 hbad hl w vU vV a m _ hb hp (by omega)
    rw [if_neg hbad] at hR
    have hlen : kidsR kind = (xs.length : Int) := by
      by_cases q : kidsR kind = (xs.length : Int)
      · exact q
      · exact absurd (Or.inr q) hbad
    have hpos : ¬ kidsR kind < 0 := fun q => hbad (Or.inl q)
    clear hbad
    have hks : kind = 34 ∨ (kind = 42 ∨ kind = 46) ∨ kind = 41 ∨ kind = 36 ∨ kind = 35 ∨ kind = 37 ∨ kind = 38 ∨ kind = 43 ∨ (kind = 39 ∨ kind = 40 ∨ kind = 45) := by
      unfold kidsR at hpos
      by_cases z1 : kind = 34 ∨ kind = 41 ∨ kind = 42 ∨ kind = 46
      · omega
      rw [if_neg z1] at hpos
      by_cases z2 : kind = 36 ∨ kind = 38
      · omega
      rw [if_neg z2] at hpos
      by_cases z3 : kind = 35 ∨ kind = 43
      · omega
      rw [if_neg z3] at hpos
      by_cases z4 : kind = 37
      · omega
      rw [if_neg z4] at hpos
      by_cases z5 : kind = 39 ∨ kind = 40 ∨ kind = 45
      · omega
      rw [if_neg z5] at hpos
      exact absurd (by decide) hpos
    clear hpos
    rcases hks with c | c | c | c | c | c | c | c | c
    · subst c
      have hl1 : xs.length = 1 := by have : kidsR 34 = 1 := by unfold kidsR; simp
                                     omega
      match xs, hl1 with
      | [k0], _ =>
        rw [hR]
        exact single_34 H hB pl num name op ad cap k0 gen hsl hkd w vU vV a m hb hp hm
    · have hl1 : xs.length = 1 := by have : kidsR kind = 1 := by unfold kidsR; rcases c with c | c <;> simp [c]
                                     omega
      match xs, hl1 with
      | [k0], _ =>
        rcases c with c | c
        · subst c
          rw [hR]
          exact single_42 H hB pl num name op ad cap k0 gen hsl hkd w vU vV a m hb hp hm
        · subst c
          rw [hR]
          exact single_46 H hB pl num name op ad cap k0 gen hsl hkd w vU vV a m hb hp hm
    · subst c
      have hl1 : xs.length = 1 := by have : kidsR 41 = 1 := by unfold kidsR; simp
                                     omega
      match xs, hl1 with
      | [k0], _ =>
        rw [hR]
        exact single_41 H hB pl num name op ad cap k0 gen hsl hkd w vU vV a m hb hp hm
    · subst c
      have hl1 : xs.length = 2 := by have : kidsR 36 = 2 := by unfold kidsR; simp
                                     omega
      match xs, hl1 with
      | [k0, k1], _ =>
        rw [hR]
        exact single_36 H hB pl num name op ad cap k0 k1 gen hsl hkd w vU vV a m hb hp hm
    · subst c
      have hl1 : xs.length = 3 := by have : kidsR 35 = 3 := by unfold kidsR; simp
                                     omega
      match xs, hl1 with
      | [k0, k1, k2], _ =>
        have hR' : R = orR (kidT n) (semR n) 5 [k0, k1, k2] 2 gen (semR n 5 k1 gen (semR n 0 k0 gen (some a))) := hR
        unfold orR at hR'
        rw [kd0_at _ 2 k2 rfl] at hR'
        by_cases z : (ndT n k2).kind = 0
        · rw [if_neg (by omega), emptyK_at _ 2 k2 rfl] at hR'
          rw [hR']
          exact single_35b H hB pl num name op ad cap k0 k1 k2 gen hsl hkd z w vU vV a m hb hp hm
        · rw [if_pos z] at hR'
          rw [hR']
          exact single_35a H hB pl num name op ad cap k0 k1 k2 gen hsl hkd z w vU vV a m hb hp hm
    · subst c
      have hl1 : xs.length = 4 := by have : kidsR 37 = 4 := by unfold kidsR; simp
                                     omega
      match xs, hl1 with
      | [k0, k1, k2, k3], _ =>
        rw [hR]
        exact single_37 H hB pl num name op ad cap k0 k1 k2 k3 gen hsl hkd w vU vV a m hb hp hm
    · subst c
      have hl1 : xs.length = 2 := by have : kidsR 38 = 2 := by unfold kidsR; simp
                                     omega
      match xs, hl1 with
      | [k0, k1], _ =>
        have hR' : R = semR n 5 k1 gen (semR n 0 k0 gen (if isS op [108, 101, 116] = false ∧ isS op [99, 111, 110, 115, 116] = false then none else decR pl (some a))) := hR
        cases o1 : isS op [108, 101, 116] with
        | true =>
          rw [if_neg (by rw [o1]; simp)] at hR'
          rw [hR']
          exact single_38a H hB pl num name op ad cap k0 k1 gen hsl hkd o1 w vU vV a m hb hp hm
        | false =>
          cases o2 : isS op [99, 111, 110, 115, 116] with
          | true =>
            rw [if_neg (by rw [o2]; simp)] at hR'
            rw [hR']
            exact single_38b H hB pl num name op ad cap k0 k1 gen hsl hkd o1 o2 w vU vV a m hb hp hm
          | false =>
            rw [if_pos ⟨o1, o2⟩] at hR'
            rw [hR']
            exact single_38c H hB pl num name op ad cap k0 k1 gen hsl hkd o1 o2 w vU vV a m hb hp hm
    · subst c
      have hl1 : xs.length = 3 := by have : kidsR 43 = 3 := by unfold kidsR; simp
                                     omega
      match xs, hl1 with
      | [k0, k1, k2], _ =>
        have hR' : R = if kd0 (kidT n) [k0, k1, k2] 1 = 0 ∧ kd0 (kidT n) [k0, k1, k2] 2 = 0 then none else orR (kidT n) (semR n) 6 [k0, k1, k2] 2 gen (if kd0 (kidT n) [k0, k1, k2] 1 ≠ 0 then semR n 6 k1 gen (decR pl (semR n 6 k0 gen (some a))) else emptyK (kidT n) [k0, k1, k2] 1 (semR n 6 k0 gen (some a))) := hR
        unfold orR at hR'
        rw [kd0_at _ 1 k1 rfl, kd0_at _ 2 k2 rfl, emptyK_at _ 1 k1 rfl] at hR'
        by_cases z1 : (ndT n k1).kind = 0
        · by_cases z2 : (ndT n k2).kind = 0
          · rw [if_pos ⟨z1, z2⟩] at hR'
            rw [hR']
            exact single_4311 H hB pl num name op ad cap k0 k1 k2 gen hsl hkd z1 z2 w vU vV a m hb hp hm
          · rw [if_neg (fun q => z2 q.2), if_pos z2, if_neg (by omega)] at hR'
            rw [hR']
            exact single_4310 H hB pl num name op ad cap k0 k1 k2 gen hsl hkd z1 z2 w vU vV a m hb hp hm
        · by_cases z2 : (ndT n k2).kind = 0
          · rw [if_neg (fun q => z1 q.1), if_neg (show ¬ (ndT n k2).kind ≠ 0 by omega), emptyK_at _ 2 k2 rfl, if_pos z1] at hR'
            rw [hR']
            exact single_4301 H hB pl num name op ad cap k0 k1 k2 gen hsl hkd z1 z2 w vU vV a m hb hp hm
          · rw [if_neg (fun q => z1 q.1), if_pos z2, if_pos z1] at hR'
            rw [hR']
            exact single_4300 H hB pl num name op ad cap k0 k1 k2 gen hsl hkd z1 z2 w vU vV a m hb hp hm
    · have hl1 : xs.length = 0 := by have : kidsR kind = 0 := by unfold kidsR; rcases c with c | c | c <;> simp [c]
                                     omega
      have e : R = some a := by
        rw [hR, if_neg (by omega), if_neg (by omega), if_neg (by omega), if_neg (by omega), if_neg (by omega), if_neg (by omega), if_neg (by omega), if_neg (by omega)]
      rw [e, hl1]
      exact single_nil kind pl num name op ad cap gen c w vU vV a m _ hb hp (by omega)

/-- all of the document's functions on a tree -/
theorem kids_all {B pb : Nat} {W0 : World} (hB : B = W0.heap.size) (n : Nat) : ∀ k, k ≤ n → KidsRC B pb W0 k := by
  induction n with
  | zero =>
    intro k hk
    obtain rfl : k = 0 := by omega
    constructor <;> (intro t; exact nomatch (t : Empty))
  | succ n ih =>
    intro k hk
    rcases Nat.lt_or_ge n k with c | c
    · obtain rfl : k = n + 1 := by omega
      have H := ih n (Nat.le_refl _)
      have H1 : ∀ j, n = j + 1 → KidsRC B pb W0 j := fun j hj => ih j (by omega)
      have body : ∀ (x : Nd) (s : Sli (Tr n)) (gen : Bool), okT (n + 1) W0 ((x, s) : Nd × Sli (Tr n)) → RC B pb W0 22 #[.pointer (some ⟨pb, 0, none⟩), .slice s.at' s.xs.length s.cap, .bool gen] (bodyR (semR n) s.xs gen) (szL s.xs) :=
        fun x s gen hok => list_rc H H1 hB s gen hok.2.1 hok.2.2
      have funct : ∀ (x : Nd) (s : Sli (Tr n)), okT (n + 1) W0 ((x, s) : Nd × Sli (Tr n)) → RC B pb W0 33 #[.pointer (some ⟨pb, 0, none⟩), valT (n + 1) ((x, s) : Nd × Sli (Tr n))] (functR (kidT n) (semR n) x s.xs) (szL s.xs) :=
        fun x s hok => funct_rc H hB x s hok
      have more : ∀ {F : Nat} {args : Array Value} {f : RS → RS} {z z' : Nat}, z ≤ z' → RC B pb W0 F args f z → RC B pb W0 F args f z' := by
        intro F args f z z' hz h w vU vV st m hb hp hm
        refine (h w vU vV st m hb hp (by omega)).mono ?_
        rintro e w' ⟨he, a, b, h1, h2⟩
        exact ⟨he, a, b, h1.more (by omega), h2⟩
      have hz : ∀ (x : Nd) (s : Sli (Tr n)), szL s.xs ≤ szT (n + 1) ((x, s) : Nd × Sli (Tr n)) := fun x s => by show _ ≤ 1 + _; exact Nat.le_add_left _ _
      have term : ∀ (x : Nd) (s : Sli (Tr n)) (gen : Bool), okT (n + 1) W0 ((x, s) : Nd × Sli (Tr n)) → RC B pb W0 34 #[.pointer (some ⟨pb, 0, none⟩), valT (n + 1) ((x, s) : Nd × Sli (Tr n)), .bool gen] (termR (kidT n) (semR n) x s.xs gen) (szT (n + 1) ((x, s) : Nd × Sli (Tr n))) :=
        fun x s gen hok => term_rc H hB x s gen hok (funct x s hok)
      constructor
      · rintro ⟨x, s⟩ gen hok
        exact term x s gen hok
      · rintro ⟨x, s⟩ gen hok
        exact perh_rc x s gen hok (term x s gen hok)
      · rintro ⟨x, s⟩ gen hok
        exact prop_rc H hB x s gen hok
      · rintro ⟨x, s⟩ gen hok
        exact more (hz x s) (body x s gen hok)
      · rintro ⟨x, s⟩ gen hok
        exact single_rc H hB x s gen hok (body x s gen hok)
      · rintro ⟨x, s⟩ gen hok
        exact brac_rc x s gen hok (more (hz x s) (body x s gen hok))
      · rintro ⟨x, s⟩ hok
        have e : szT (n + 1) ((x, s) : Nd × Sli (Tr n)) - 1 = szL s.xs := by show 1 + _ - 1 = _; exact Nat.add_sub_cancel_left _ _
        rw [e]
        exact funct x s hok
    · exact ih k c
end Go.Proofs.Ytihmdcdifakepaa.Sc
