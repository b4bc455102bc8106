/- One object: what is told at the end. -/
import Derived.Test.YtkpdpdllbnihgaaB15
import Derived.Test.YtkpdpdllbnihgaaIN
namespace Go.Proofs.Ytkpdpdllbnihgaa.Hp
open Go.RowKit
set_option linter.unusedVariables false

section
variable {w0 w : World} {hb : Nat} {ks : List ByteArray} {k : ByteArray} {d : De}

theorem EndS.below {w' : World} (h : EndS w0 w hb ks k d) (hB : Below w.heap.size w w') : EndS w0 w' hb ks k d := by
  obtain ⟨tg, M, H, ob, n, p, h1, h2, h3, h4, h5, h6, h7, h8, h9⟩ := h
  exact ⟨tg, M, H, ob, n, p, h1.below hB, h2, h3, h4, h5, h6, h7, h8, h9.trans (hB.mono h9.size)⟩

theorem ends_shape (h : EndS w0 w hb ks k d) :
    Calls Try.prog 17 #[.pointer (some ⟨hb, 0, none⟩), .int .u64 (objW 0)] w fun e w' => ∃ n, e = .returned (.tuple #[.int .i64 n, .bool false]) ∧ Below w.heap.size w w' := by
  obtain ⟨tg, M, H, ob, n, p, h1, h2, h3, h4, h5, h6, h7, h8, h9⟩ := h
  have hi : H.obs[0]? = some ob := by rw [h2]; rfl
  have ho : obI H (objW 0) = some 0 := obI_of (i := 0) (by rw [h2]; exact Nat.one_pos) (by rw [h2]; show (1 : Nat) ≤ 65536; omega)
  refine (shape_at h1 (objW 0) (by decide) (by decide) ho hi).mono ?_
  rintro e w' ⟨rfl, hB⟩
  exact ⟨ob.shape, by rw [h3], hB⟩

theorem ends_keys (h : EndS w0 w hb ks k d) :
    Calls Try.prog 19 #[.pointer (some ⟨hb, 0, none⟩), .int .u64 (objW 0)] w fun e w' => ∃ s2 : SV, e = .returned s2.val ∧ OwnR strC 1 9 w.heap.size w' s2.val (ks ++ [k]) ∧ Below w.heap.size w w' := by
  obtain ⟨tg, M, H, ob, n, p, h1, h2, h3, h4, h5, h6, h7, h8, h9⟩ := h
  have hi : H.obs[0]? = some ob := by rw [h2]; rfl
  have ho : obI H (objW 0) = some 0 := obI_of (i := 0) (by rw [h2]; exact Nat.one_pos) (by rw [h2]; show (1 : Nat) ≤ 65536; omega)
  refine (keys_at h1 (objW 0) (by decide) (by decide) ho hi).mono ?_
  rintro e w' ⟨s2, rfl, q1, q2⟩
  rw [h5] at q1
  exact ⟨s2, rfl, q1, q2⟩

theorem ends_get (h : EndS w0 w hb ks k d) (hk : k.size ≤ maxLen) :
    Calls Try.prog 20 #[.pointer (some ⟨hb, 0, none⟩), .int .u64 (objW 0), .string k] w fun e w' => e = .returned (.tuple #[deV d, .bool true]) ∧ Below w.heap.size w w' := by
  obtain ⟨tg, M, H, ob, n, p, h1, h2, h3, h4, h5, h6, h7, h8, h9⟩ := h
  have hi : H.obs[0]? = some ob := by rw [h2]; rfl
  have ho : obI H (objW 0) = some 0 := obI_of (i := 0) (by rw [h2]; exact Nat.one_pos) (by rw [h2]; show (1 : Nat) ≤ 65536; omega)
  rw [← h8]
  exact get_any h1 (objW 0) (by decide) (by decide) ho hi h6 h7 h4 hk

end

end Go.Proofs.Ytkpdpdllbnihgaa.Hp

/- One object: the start. -/
namespace Go.Proofs.Ytkpdpdllbnihgaa.Hp
open Go.RowKit
set_option linter.unusedVariables false

theorem one_start (kind proto : Int) : ∃ ob, OneI (makeH (He.new 256) kind proto) ob [] 0 := by
  have hr : raiseH (He.new 256) proto = He.new 256 := by
    unfold raiseH
    cases ho : obI (He.new 256) proto with
    | none => rfl
    | some j =>
      have := (obI_some ho).2.2.1
      simp [He.new] at this
  have hm : (He.new 256).most = 256 := rfl
  have hL : (He.new 256).L = [] := rfl
  have e : Sp.rootD (He.new 256).most (He.new 256).L (rootN kind proto) = ([⟨rootN kind proto, [], [], []⟩], 0, true) := by
    rw [hm, hL]
    unfold Sp.rootD Sp.layD Sp.hit
    simp
  refine ⟨⟨kind, proto, false, false, [], 0, [], [], 0, true, -1, false, []⟩, ?_⟩
  unfold makeH
  rw [hr, e]
  refine ⟨rfl, rfl, ⟨by simp, by simp, by simp, by simp, fun q => by cases q⟩, by simp, rfl, rfl, fun _ => ⟨⟨rootN kind proto, [], [], []⟩, rfl, rfl, rfl⟩, fun x hx => ?_, by simp, by simp⟩
  have hx : x = ⟨rootN kind proto, [], [], []⟩ := by simpa using hx
  rw [hx]
  exact ⟨rfl, rfl⟩

theorem ones_start {w0 w w1 : World} {hb : Nat} {tg : Nat → Nat} {M M' : HV} {kind proto : Int} (h : HeapAt w w0.heap.size hb tg (He.new 256) M) (hB : Below w0.heap.size w0 w) (h1 : WentM w w0.heap.size hb tg (makeH (He.new 256) kind proto) M' w1) : OneS w0 w1 hb [] 0 := by
  obtain ⟨tg', k1, k2, k3⟩ := h1
  obtain ⟨ob, ho⟩ := one_start kind proto
  have hm : (makeH (He.new 256) kind proto).most = 256 := by
    show (raiseH (He.new 256) proto).most = 256
    unfold raiseH
    cases obI (He.new 256) proto with
    | none => rfl
    | some j => rfl
  exact ⟨tg', M', _, ob, k1, ho, by rw [hm]; omega, k2.below hB hB.size (fun b q => (h.lt b q).1)⟩

end Go.Proofs.Ytkpdpdllbnihgaa.Hp

/- One object, and a row of names apart from it. -/
namespace Go.Proofs.Ytkpdpdllbnihgaa.Hp
open Go.RowKit
set_option linter.unusedVariables false

/-- a heap with one object behind m calls of Put, and a row of names apart from it -/
def FaS (w0 w : World) (hb : Nat) (un : List ByteArray) (m : Nat) (v : Value) (vs : List ByteArray) : Prop := ∃ tg M H ob, HeapAt w w0.heap.size hb tg H M ∧ OneI H ob un m ∧ 256 ≤ H.most ∧ Below w0.heap.size w0 w ∧ OwnR strC 1 9 w0.heap.size w v vs ∧ (∀ b, v.ownBlock = some b → tg b = 0)

def DroF (w0 w : World) (hb : Nat) (ks : List ByteArray) (v : Value) (vs : List ByteArray) : Prop := ∃ tg M H ob, HeapAt w w0.heap.size hb tg H M ∧ H.obs = [ob] ∧ ob.shaped = false ∧ ob.neat ∧ ob.ps.map Pr.key = ks ∧ ob.next ≤ 300 ∧ Below w0.heap.size w0 w ∧ OwnR strC 1 9 w0.heap.size w v vs ∧ (∀ b, v.ownBlock = some b → tg b = 0)

theorem row_went {w w' : World} {tg tg' : Nat → Nat} {B : Nat} {v : Value} {vs : List ByteArray} (k2 : Chg (fun b => tg b ≠ 0) w w') (k3 : ∀ b, tg' b ≠ 0 → tg b ≠ 0 ∨ w.heap.size ≤ b) (h : OwnR strC 1 9 B w v vs) (ha : ∀ b, v.ownBlock = some b → tg b = 0) : OwnR strC 1 9 B w' v vs ∧ ∀ b, v.ownBlock = some b → tg' b = 0 :=
  ⟨h.kept k2 (fun b q n => n (ha b q)), fun b q => by
    rcases Nat.eq_zero_or_pos (tg' b) with e | e
    · exact e
    · rcases k3 b (by omega) with e2 | e2
      · exact absurd (ha b q) e2
      · have := (h.lt b q).2
        omega⟩

section
variable {w0 w : World} {hb : Nat} {un : List ByteArray} {m : Nat}

theorem FaS.start (h : OneS w0 w hb un m) : FaS w0 w hb un m (.slice none 0 0) [] := by
  obtain ⟨tg, M, H, ob, h1, h2, h3, h4⟩ := h
  exact ⟨tg, M, H, ob, h1, h2, h3, h4, OwnR.nil _ _, fun b q => by simp [Value.ownBlock] at q⟩

theorem FaS.grow {v v' : Value} {vs vs' : List ByteArray} {w' : World} (h : FaS w0 w hb un m v vs) (ho : OwnR strC 1 9 w0.heap.size w' v' vs') (hg : Chg (fun b => v.ownBlock = some b) w w') (hv : v'.ownBlock = v.ownBlock ∨ ∃ b, w.heap.size ≤ b ∧ v'.ownBlock = some b) : FaS w0 w' hb un m v' vs' := by
  obtain ⟨tg, M, H, ob, h1, h2, h3, h4, h5, h6⟩ := h
  refine ⟨tg, M, H, ob, h1.kept hg (fun b q n => q (h6 b n)), h2, h3, hg.below h4 h4.size (fun b q => (h5.lt b q).1), ho, fun b q => ?_⟩
  rcases hv with e | ⟨b', e1, e2⟩
  · exact h6 b (by rw [← e]; exact q)
  · have hbb : b' = b := by rw [e2] at q; exact Option.some.inj q
    rcases Nat.eq_zero_or_pos (tg b) with e | e
    · exact e
    · have := (h1.lt b (by omega)).2
      omega

theorem FaS.row {v : Value} {vs : List ByteArray} (h : FaS w0 w hb un m v vs) : OwnR strC 1 9 w0.heap.size w v vs ∧ Below w0.heap.size w0 w := by
  obtain ⟨tg, M, H, ob, h1, h2, h3, h4, h5, h6⟩ := h
  exact ⟨h5, h4⟩

theorem fas_put {v : Value} {vs : List ByteArray} (h : FaS w0 w hb un m v vs) (hm : m ≤ 200) (k : ByteArray) (hk : k.size ≤ maxLen) (d : De) (hd : (keptD d).fl = 7) :
    Calls Try.prog 15 #[.pointer (some ⟨hb, 0, none⟩), .int .u64 (objW 0), .string k, deV d] w fun e w' => e = .returned (.tuple #[]) ∧ FaS w0 w' hb (addU un k) (m + 1) v vs := by
  obtain ⟨tg, M, H, ob, h1, h2, h3, h4, h5, h6⟩ := h
  have hi : H.obs[0]? = some ob := by rw [h2.obs]; rfl
  have ho : obI H (objW 0) = some 0 := obI_of (i := 0) (by rw [h2.obs]; exact Nat.one_pos) (by rw [h2.obs]; show (1 : Nat) ≤ 65536; omega)
  have hnx := h2.nx
  refine (put_any h1 (objW 0) (by decide) (by decide) ho hi h2.neat (fun q => by
    have e1 := h2.sh
    rw [q] at e1
    have := of_decide_eq_true e1.symm
    rw [h2.hm]
    exact decide_eq_false (by omega)) k hk d (by omega)).mono ?_
  rintro e w' ⟨rfl, M', _, tg', k1, k2, k3⟩
  obtain ⟨ob', h7⟩ := h2.put (by omega) k d hd
  exact ⟨rfl, tg', M', _, ob', k1, h7, by rw [putH_most]; exact h3, k2.below h4 h4.size (fun b q => (h1.lt b q).1), row_went k2 k3 h5 h6⟩

theorem fas_shape {v : Value} {vs : List ByteArray} (h : FaS w0 w hb un m v vs) :
    Calls Try.prog 17 #[.pointer (some ⟨hb, 0, none⟩), .int .u64 (objW 0)] w fun e w' => ∃ n, e = .returned (.tuple #[.int .i64 n, .bool (decide (un.length ≤ 16))]) ∧ FaS w0 w' hb un m v vs := by
  obtain ⟨tg, M, H, ob, h1, h2, h3, h4, h5, h6⟩ := h
  have hi : H.obs[0]? = some ob := by rw [h2.obs]; rfl
  have ho : obI H (objW 0) = some 0 := obI_of (i := 0) (by rw [h2.obs]; exact Nat.one_pos) (by rw [h2.obs]; show (1 : Nat) ≤ 65536; omega)
  refine (shape_at h1 (objW 0) (by decide) (by decide) ho hi).mono ?_
  rintro e w' ⟨rfl, hB⟩
  exact ⟨ob.shape, by rw [h2.sh], tg, M, H, ob, h1.below hB, h2, h3, h4.trans (hB.mono h4.size), h5.below hB, h6⟩

theorem fas_drop {v : Value} {vs : List ByteArray} (h : FaS w0 w hb un m v vs) (hm : m ≤ 200) {k : ByteArray} (hk : k.size ≤ maxLen) (hin : k ∈ un) :
    Calls Try.prog 18 #[.pointer (some ⟨hb, 0, none⟩), .int .u64 (objW 0), .string k] w fun e w' => e = .returned (.bool true) ∧ ∃ ks, ks.length + 1 = un.length ∧ k ∉ ks ∧ DroF w0 w' hb ks v vs := by
  obtain ⟨tg, M, H, ob, h1, h2, h3, h4, h5, h6⟩ := h
  have hi : H.obs[0]? = some ob := by rw [h2.obs]; rfl
  have ho : obI H (objW 0) = some 0 := obI_of (i := 0) (by rw [h2.obs]; exact Nat.one_pos) (by rw [h2.obs]; show (1 : Nat) ≤ 65536; omega)
  have hnx := h2.nx
  cases hp : plc ob.ps k with
  | none =>
    rw [← h2.keys] at hin
    obtain ⟨p, q1, q2⟩ := List.mem_map.1 hin
    exact absurd q2 (plc_none hp p q1)
  | some n =>
    obtain ⟨⟨p, hn, hpk⟩, _⟩ := plc_some hp
    have hnl : n < ob.ps.length := (List.getElem?_eq_some_iff.1 hn).1
    refine (drop_hit h1 (objW 0) (by decide) (by decide) ho hi h2.neat k hk hp).mono ?_
    rintro e w' ⟨rfl, M', _, tg', k1, k2, k3⟩
    refine ⟨rfl, (ob.ps.eraseIdx n).map Pr.key, ?_, ?_, tg', M', _, (ob.less n).lost, k1, ?_, rfl, (h2.neat.less n).lost, rfl, ?_, k2.below h4 h4.size (fun b q => (h1.lt b q).1), row_went k2 k3 h5 h6⟩
    · rw [List.length_map, List.length_eraseIdx_of_lt hnl, ← h2.keys, List.length_map]
      omega
    · intro hx
      rw [era_map] at hx
      have hnd := h2.neat.kn
      have hg : (ob.ps.map Pr.key)[n]? = some k := by rw [List.getElem?_map, hn, ← hpk]; rfl
      rw [List.eraseIdx_eq_take_drop_succ] at hx
      obtain ⟨hgl, hge⟩ := List.getElem?_eq_some_iff.1 hg
      rcases List.mem_append.1 hx with q | q
      · obtain ⟨j, hj, e⟩ := List.mem_take_iff_getElem.1 q
        have := (List.getElem_inj hnd).1 (e.trans hge.symm)
        omega
      · obtain ⟨j, hj, e⟩ := List.mem_drop_iff_getElem.1 q
        have := (List.getElem_inj hnd).1 (e.trans hge.symm)
        omega
    · show H.obs.set 0 _ = _
      rw [h2.obs]
      rfl
    · show ob.next ≤ 300
      omega

theorem drof_put {v : Value} {vs ks : List ByteArray} (h : DroF w0 w hb ks v vs) {k : ByteArray} (hk : k.size ≤ maxLen) (hno : k ∉ ks) (d : De) :
    Calls Try.prog 15 #[.pointer (some ⟨hb, 0, none⟩), .int .u64 (objW 0), .string k, deV d] w fun e w' => e = .returned (.tuple #[]) ∧ EndS w0 w' hb ks k (keptD d) ∧ OwnR strC 1 9 w0.heap.size w' v vs := by
  obtain ⟨tg, M, H, ob, h1, h2, h3, h5, h6, h7, h4, h8, h9⟩ := h
  have hi : H.obs[0]? = some ob := by rw [h2]; rfl
  have ho : obI H (objW 0) = some 0 := obI_of (i := 0) (by rw [h2]; exact Nat.one_pos) (by rw [h2]; show (1 : Nat) ≤ 65536; omega)
  have hpn : plc ob.ps k = none := by
    cases hp : plc ob.ps k with
    | none => rfl
    | some n =>
      obtain ⟨⟨p, hn, hpk⟩, _⟩ := plc_some hp
      exact absurd (by rw [← h6, ← hpk]; exact List.mem_map.2 ⟨p, List.mem_of_getElem? hn, rfl⟩) hno
  refine (put_any h1 (objW 0) (by decide) (by decide) ho hi h5 (fun q => by rw [h3] at q; cases q) k hk d (by omega)).mono ?_
  rintro e w' ⟨rfl, M', _, tg', k1, k2, k3⟩
  have e1 : putH H 0 ob k d = { touchH H ob.cell with obs := H.obs.set 0 (ob.bare k (keptD d)) } := by
    unfold putH
    rw [hpn]
    simp only
    rw [if_neg (by rw [h3]; simp)]
  rw [e1] at k1
  have hps : (ob.bare k (keptD d)).ps = ob.ps ++ [⟨k, ob.next, keptD d⟩] := by
    unfold Ob.bare
    split
    · exact (plus_len ob k (keptD d)).1
    · exact (plus_len ob k (keptD d)).1
  have hsh : (ob.bare k (keptD d)).shaped = false := by
    unfold Ob.bare
    split
    · rfl
    · rw [(plus_len ob k (keptD d)).2.2]; exact h3
  refine ⟨rfl, ⟨tg', M', _, ob.bare k (keptD d), ob.ps.length, ⟨k, ob.next, keptD d⟩, k1, ?_, hsh, h5.bare hpn _, ?_, ?_, ?_, rfl, k2.below h4 h4.size (fun b q => (h1.lt b q).1)⟩, (row_went k2 k3 h8 h9).1⟩
  · show H.obs.set 0 _ = _
    rw [h2]
    rfl
  · rw [hps, List.map_append, h6]
    rfl
  · rw [hps]
    unfold plc at hpn ⊢
    rw [List.findIdx?_append, hpn]
    simp
  · rw [hps]
    simp

end

end Go.Proofs.Ytkpdpdllbnihgaa.Hp
